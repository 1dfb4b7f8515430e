/- TokenNumbers' walk. -/
import Derived.Test.YtbegdnagegonjaaDoorKV
import Derived.Test.YtbegdnagegonjaaDoorK2
namespace Go.Proofs.YtbegdnagegonjaaDoor
open Go.RowKit Go.Lib

theorem ten_at {r : Nat} (h : r < 10) : (⟨#[48, 49, 50, 51, 52, 53, 54, 55, 56, 57]⟩ : ByteArray).extract r (r + 1) = ⟨[UInt8.ofNat (48 + r)].toArray⟩ := by
  have : r = 0 ∨ r = 1 ∨ r = 2 ∨ r = 3 ∨ r = 4 ∨ r = 5 ∨ r = 6 ∨ r = 7 ∨ r = 8 ∨ r = 9 := by omega
  rcases this with rfl | rfl | rfl | rfl | rfl | rfl | rfl | rfl | rfl | rfl <;> rfl
/-- What is left of a number, and what has been written of it. -/
def DigAt (n k : Nat) (d : List UInt8) : Prop := ((d = [] ∨ 1 ≤ k) → decDigits k ++ d = decDigits n) ∧ ((¬ d = [] ∧ k = 0) → d = decDigits n)
theorem dig_step {n k : Nat} {d : List UInt8} (h : DigAt n k d) (hc : d = [] ∨ 1 ≤ k) : DigAt n (k / 10) (UInt8.ofNat (48 + k % 10) :: d) := by
  have h1 := h.1 hc
  by_cases hk : k < 10
  · rw [decDigits_one hk] at h1
    have e : k % 10 = k := by omega
    rw [e]
    refine ⟨fun h2 => ?_, fun _ => h1⟩
    rcases h2 with h2 | h2
    · cases h2
    · omega
  · rw [decDigits, dif_neg hk, List.append_assoc] at h1
    exact ⟨fun _ => h1, fun h2 => by omega⟩
theorem dig_end {n k : Nat} {d : List UInt8} (h : DigAt n k d) (h1 : ¬ d = []) (h2 : k = 0) : d = decDigits n := h.2 ⟨h1, h2⟩
theorem dig_len {n k : Nat} {d : List UInt8} (h : DigAt n k d) (hn : n < 4294967296) : d.length ≤ 10 := by
  have hd : (decDigits n).length ≤ 10 := dec_le 9 n (by omega)
  by_cases hc : d = [] ∨ 1 ≤ k
  · have := congrArg List.length (h.1 hc)
    rw [List.length_append] at this
    omega
  · have e := h.2 ⟨fun h1 => hc (.inl h1), by omega⟩
    rw [e]
    exact hd
theorem str_app (x y : List UInt8) : (⟨x.toArray⟩ : ByteArray) ++ ⟨y.toArray⟩ = ⟨(x ++ y).toArray⟩ := by
  apply ByteArray.ext
  simp
set_option maxHeartbeats 4000000 in
set_option maxRecDepth 20000 in
theorem tokenNumbers_walk (n a : Nat) (hn : n < 4294967296) (_ha : a < 256) (w : World) (hg : Laid w) :
    Calls Tryd.prog 6 #[.int .u32 n, .int .u8 a] w fun e w' => e = .returned (.bool true) ∧ Below w.heap.size w w' := by
  have h1 := awake6_any w
  go_enter Tryd.func6, Tryd.ntmps6
  go_wp2_with fail
  refine h1.mono ?_
  rintro e W0 ⟨rfl, q0⟩
  have hgW := laid_bel hg q0
  clear h1
  go_wp2_with fail
  go_loopg [5, 6] (n + 1) (fun g dv kv wr => ∃ (k : Nat) (d : List UInt8), dv = .string ⟨d.toArray⟩ ∧ kv = .int .i64 k ∧ k ≤ n ∧ g = (if d = [] then k + 1 else k) ∧ DigAt n k d ∧ wr = W0)
  case atStart => exact ⟨n, [], rfl, rfl, Nat.le_refl _, rfl, ⟨fun _ => by simp, fun h => absurd rfl h.1⟩, rfl⟩
  case round =>
    obtain ⟨k, d, rfl, rfl, hk, hgk, HD, rfl⟩ := hrel
    have HDD : Hid (DigAt n k d) := HD
    clear HD
    by_cases hc : d = [] ∨ 1 ≤ k
    · obtain ⟨r, hr⟩ : ∃ r : Nat, r = k % 10 := ⟨_, rfl⟩
      obtain ⟨q, hq⟩ : ∃ q : Nat, q = k / 10 := ⟨_, rfl⟩
      have e1 : (k : Int).tmod 10 = r := by rw [hr]; rfl
      have e2 : (k : Int).tdiv 10 = q := by rw [hq]; rfl
      have r10 : r < 10 := by omega
      have hst := dig_step HDD.out hc
      rw [← hr, ← hq] at hst
      have hlen := dig_len HDD.out hn
      have HST : Hid (DigAt n q (UInt8.ofNat (48 + r) :: d)) := hst
      have hx := ten_at r10
      have HX : Hid ((⟨[UInt8.ofNat (48 + r)].toArray⟩ : ByteArray) ++ ⟨d.toArray⟩ = ⟨(UInt8.ofNat (48 + r) :: d).toArray⟩) := str_app _ _
      obtain ⟨X, hX⟩ : ∃ X : ByteArray, X = ⟨[UInt8.ofNat (48 + r)].toArray⟩ := ⟨_, rfl⟩
      rw [← hX] at hx HX
      have hXs : X.size = 1 := by rw [hX, str_size]; rfl
      have hqk : q ≤ n := by omega
      have HM : Hid (q < gk) := by
        show q < gk
        rw [hgk]
        split
        · omega
        · rename_i h; rcases hc with h2 | h2
          · exact absurd h2 h
          · omega
      have b1 : (0 : Int) ≤ r := by omega
      have b2 : (r : Int) + 1 ≤ 10 := by omega
      have b3 : (r : Int) ≤ r + 1 := by omega
      clear hst hr hq hX hgk
      by_cases hk0 : 1 ≤ k
      · have d1 : decide ((0 : Int) < k) = true := decide_eq_true (by omega)
        have d2 : decide (0 < k) = true := decide_eq_true (by omega)
        clear hc
        obtain ⟨D, hD⟩ : ∃ D : ByteArray, D = ⟨d.toArray⟩ := ⟨_, rfl⟩
        have hDs : D.size = d.length := by rw [hD, str_size]
        have hD10 : D.size ≤ 10 := by omega
        rw [← hD] at HX ⊢
        clear hD hDs hlen
        go_wp2_with fail
        go_roundg q
        case measure => exact HM.out
        case rel => exact ⟨q, _, by rw [HX.out], by go_num, hqk, rfl, HST.out, rfl⟩
      · have hd0 : d = [] := by
          rcases hc with h | h
          · exact h
          · omega
        subst hd0
        have d1 : decide ((0 : Int) < k) = false := decide_eq_false (by omega)
        have d2 : decide (0 < k) = false := decide_eq_false (by omega)
        clear hc
        go_wp2_with fail
        go_roundg q
        case measure => exact HM.out
        case rel => exact ⟨q, _, by rw [HX.out], by go_num, hqk, rfl, HST.out, rfl⟩
    · obtain rfl : k = 0 := by omega
      have hd0 : ¬ d = [] := fun h => hc (.inl h)
      have hdn := dig_end HDD.out hd0 rfl
      have hlen := dig_len HDD.out hn
      obtain ⟨D, hD⟩ : ∃ D : ByteArray, D = ⟨d.toArray⟩ := ⟨_, rfl⟩
      rw [← hD]
      have hDs : D.size ≤ 10 := by rw [hD, str_size]; exact hlen
      have hDl : D.data.toList = decDigits n := by rw [hD, hdn]
      have hDp : 1 ≤ (decDigits n).length := dec_pos n
      have hne : D.toList.isEmpty = false := by
        rw [ByteArray.toList_eq, hDl]
        cases hq : decDigits n with
        | nil => rw [hq] at hDp; simp at hDp
        | cons c r => rfl
      have HDL : Hid (D.data.toList = decDigits n) := hDl
      obtain ⟨b, hb⟩ : ∃ b : Nat, b = a % 4 := ⟨_, rfl⟩
      have e3 : (a : Int).tmod 4 = b := by rw [hb]; rfl
      clear hc hgk hD hdn hlen hDl hDp hb HDD hd0
      by_cases hb3 : b = 3
      · subst hb3
        obtain ⟨Z, hZ⟩ : ∃ Z : ByteArray, Z = (⟨#[48]⟩ : ByteArray) ++ D := ⟨_, rfl⟩
        have hZl : Z.data.toList = 48 :: decDigits n := by rw [hZ, ← HDL.out]; simp
        have hZs : Z.size ≤ 11 := by rw [hZ, ByteArray.size_append]; show 1 + D.size ≤ 11; omega
        have hZ' : (⟨#[48]⟩ : ByteArray) ++ D = Z := hZ.symm
        have h2 := cut_any Z (by omega)
        rw [hZl, toks_digs (by simp) (fun c hc => by
          rcases List.mem_cons.1 hc with rfl | hc
          · rfl
          · exact dec_dig n c hc), tn_nought] at h2
        replace h2 : ∀ w, Calls Tryd.prog 8 #[.string Z] w (fun e w' => e = .returned (.tuple #[.slice none 0 0, .iface 52 (.agg #[.int .i64 1, .int .i64 0])]) ∧ Below w.heap.size w w') := h2
        clear hZ hZl hZs
        by_cases hbig : 999999 < n
        · have d1 : decide ((999999 : Int) < n) = true := decide_eq_true (by omega)
          have d2 : decide (999999 < n) = true := decide_eq_true (by omega)
          go_wp2_with fail
          refine (h2 _).mono ?_
          rintro e W1 ⟨rfl, q1⟩
          have q2 := bel_up q0 q1 q0.size
          have hg1 := laid_bel hgW q1
          have hnu := number_fault 1 0 _ hg1
          go_wp2_with fail
          refine hnu.mono ?_
          rintro e W2 ⟨rfl, q3⟩
          have hg2 := laid_bel hg1 q3
          have q4 := bel_up q2 q3 q2.size
          go_wp2_with fail
          refine (place_fault 1 0 _ hg2).mono ?_
          rintro e W3 ⟨rfl, q5⟩
          have q6 := bel_up q4 q5 q4.size
          go_wp2_with fail
          go_ret
          exact ⟨rfl, q6⟩
        · have d1 : decide ((999999 : Int) < n) = false := decide_eq_false (by omega)
          have d2 : decide (999999 < n) = false := decide_eq_false (by omega)
          go_wp2_with fail
          refine (h2 _).mono ?_
          rintro e W1 ⟨rfl, q1⟩
          have q2 := bel_up q0 q1 q0.size
          have hg1 := laid_bel hgW q1
          have hnu := number_fault 1 0 _ hg1
          go_wp2_with fail
          refine hnu.mono ?_
          rintro e W2 ⟨rfl, q3⟩
          have hg2 := laid_bel hg1 q3
          have q4 := bel_up q2 q3 q2.size
          go_wp2_with fail
          refine (place_fault 1 0 _ hg2).mono ?_
          rintro e W3 ⟨rfl, q5⟩
          have q6 := bel_up q4 q5 q4.size
          go_wp2_with fail
          go_ret
          exact ⟨rfl, q6⟩
      · have d3 : ((b : Int) == 3) = false := by rw [beq_eq_false_iff_ne]; omega
        have h2 := cut_any D (by omega)
        rw [HDL.out, toks_digs (dec_pos n) (dec_dig n)] at h2
        by_cases hbig : 999999 < n
        · rw [tn_big (by omega)] at h2
          replace h2 : ∀ w, Calls Tryd.prog 8 #[.string D] w (fun e w' => e = .returned (.tuple #[.slice none 0 0, .iface 52 (.agg #[.int .i64 1, .int .i64 0])]) ∧ Below w.heap.size w w') := h2
          have d1 : decide ((999999 : Int) < n) = true := decide_eq_true (by omega)
          have d2 : decide (999999 < n) = true := decide_eq_true (by omega)
          go_wp2_with fail
          refine (h2 _).mono ?_
          rintro e W1 ⟨rfl, q1⟩
          have q2 := bel_up q0 q1 q0.size
          have hg1 := laid_bel hgW q1
          have hnu := number_fault 1 0 _ hg1
          go_wp2_with fail
          refine hnu.mono ?_
          rintro e W2 ⟨rfl, q3⟩
          have hg2 := laid_bel hg1 q3
          have q4 := bel_up q2 q3 q2.size
          go_wp2_with fail
          refine (place_fault 1 0 _ hg2).mono ?_
          rintro e W3 ⟨rfl, q5⟩
          have q6 := bel_up q4 q5 q4.size
          go_wp2_with fail
          go_ret
          exact ⟨rfl, q6⟩
        · rw [tn_dec (by omega)] at h2
          replace h2 : ∀ w, Calls Tryd.prog 8 #[.string D] w (fun e w' => ∃ g cap, e = .returned (.tuple #[.slice (some ⟨g, 0, none⟩) 2 cap, .nilIface]) ∧ w'.ownsRow w.heap.size 42 6 (.slice (some ⟨g, 0, none⟩) 2 cap) 2 (([⟨2, decDigits n, n, 0, 0, 0⟩, endT (decDigits n).length] : List Tk).flatMap tkL) ∧ Below w.heap.size w w') := h2
          have d1 : decide ((999999 : Int) < n) = false := decide_eq_false (by omega)
          have d2 : decide (999999 < n) = false := decide_eq_false (by omega)
          go_wp2_with fail
          refine (h2 _).mono ?_
          rintro e W1 ⟨g, cap, rfl, ho, q1⟩
          have q2 := bel_up q0 q1 q0.size
          obtain ⟨C0, C1, C2, _, _, _⟩ := tok_cells (i := 0) ho rfl
          have eD : (⟨(decDigits n).toArray⟩ : ByteArray) = D := by rw [← HDL.out]
          simp only [Nat.mul_zero, Nat.zero_add, eD] at C0 C1 C2
          clear ho h2 eD
          go_wp2_with fail
          go_ret
          exact ⟨rfl, q2⟩
end Go.Proofs.YtbegdnagegonjaaDoor
