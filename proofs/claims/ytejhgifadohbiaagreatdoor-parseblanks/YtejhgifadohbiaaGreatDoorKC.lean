/- What number and pieceEnd do. -/
import Derived.Test.YtejhgifadohbiaaGreatDoorKB
namespace Go.Proofs.YtejhgifadohbiaaGreatDoor
open Go.RowKit Go.Lib

theorem acc_no {n : Nat} {c : UInt8} {l : List UInt8} (h : digP c = false) : accP n (c :: l) = none := by
  unfold digP at h
  rw [accP, if_pos]
  rw [u8_lt, u8_gt]
  simp at h
  omega
theorem acc_yes {n : Nat} {c : UInt8} {l : List UInt8} (h : digP c = true) : accP n (c :: l) = accP (n * 10 + (c.toNat - 48)) l ∧ 48 ≤ c.toNat ∧ c.toNat ≤ 57 := by
  unfold digP at h
  simp at h
  rw [accP, if_neg]
  · exact ⟨rfl, h⟩
  · rw [u8_lt, u8_gt]
    omega
/-- What number answers. -/
def tnV (o : Option Nat) : Value := .tuple #[.int .i64 (o.getD 0 : Nat), .bool o.isSome]
set_option maxHeartbeats 4000000 in
set_option maxRecDepth 20000 in
theorem tnum_loop (s : ByteArray) (l : List UInt8) (hsz : l.length = s.size) (hidx : ∀ k (h : k < s.size), s[k] = l.getD k 0) (k1 : (1 : Int) ≤ s.size) (k6 : s.size ≤ 6) (hz : ¬ (1 < s.size ∧ l.getD 0 0 = 48)) (HP : tnP l = accP 0 l) (w : World) :
    Calls Tryz.prog 57 #[.string s] w fun e w' => e = .returned (tnV (tnP l)) ∧ w' = w := by
  have d1 : decide ((s.size : Int) < 1) = false := decide_eq_false (by omega)
  have d3 : decide ((6 : Int) < s.size) = false := decide_eq_false (by omega)
  have HPH : Hid (tnP l = accP 0 l) := HP
  clear HP
  have hfin : ∃ b : Bool, decide ((1 : Int) < s.size) = b ∧ (b = true → (((l.getD 0 0).toNat : Int) == 48) = false) := by
    by_cases hb : 1 < s.size
    · refine ⟨true, decide_eq_true (by omega), fun _ => ?_⟩
      rw [beq_eq_false_iff_ne]
      intro h
      apply hz
      refine ⟨hb, UInt8.toNat_inj.1 ?_⟩
      show (l.getD 0 0).toNat = 48
      omega
    · exact ⟨false, decide_eq_false (by omega), fun h => by cases h⟩
  obtain ⟨b, d5, d6⟩ := hfin
  have hi0 := hidx 0 (by omega)
  obtain ⟨y, hy⟩ : ∃ y, y = l.getD 0 0 := ⟨_, rfl⟩
  rw [← hy] at hi0 d6
  clear hy hz
  have HIDX : Hid (∀ k (h : k < s.size), s[k] = l.getD k 0) := hidx
  clear hidx
  have HS : Hid (l.length = s.size) := hsz
  clear hsz
  cases b
  all_goals
    (try have d7 := d6 rfl)
    clear d6
    go_enter Tryz.func57, Tryz.ntmps57
    go_wp2_with fail
    clear hi0
    go_loop [4, 26] (fun nv i => ∃ k acc : Nat, k ≤ s.size ∧ i = .int .i64 k ∧ nv = .int .i64 acc ∧ acc < 10 ^ k ∧ accP acc (l.drop k) = accP 0 l) (fun _ i => s.size - (RowKit.intOf i).toNat)
    case atStart => exact ⟨0, 0, Nat.zero_le _, rfl, rfl, by decide, rfl⟩
    case round =>
      obtain ⟨k, acc, hk, rfl, rfl, ha, HJ⟩ := hrel
      have HA : Hid (acc < 10 ^ k) := ha
      have ha2 : acc < 1000000 := Nat.lt_of_lt_of_le ha (Nat.le_trans (Nat.pow_le_pow_right (by decide) (show k ≤ 6 by omega)) (by decide))
      by_cases hlt : k < s.size
      · have hi := HIDX.out k hlt
        have d4 : decide ((k : Int) < s.size) = true := decide_eq_true (by omega)
        have h2 := dig_any (l.getD k 0)
        rw [drop_at (by rw [HS.out]; exact hlt)] at HJ
        obtain ⟨c, hc⟩ : ∃ c, c = l.getD k 0 := ⟨_, rfl⟩
        rw [← hc] at hi h2 HJ
        clear hc ha
        cases hq : digP c
        · have HN : Hid (tnP l = none) := by
            show tnP l = none
            rw [HPH.out, ← HJ, acc_no hq]
          rw [hq] at h2
          obtain ⟨x, hx⟩ : ∃ x : Nat, x = c.toNat := ⟨_, rfl⟩
          have hi2 : s[k].toNat = x := by rw [hi, hx]
          rw [← hx] at h2
          clear hx hi HJ hq
          go_wp2_with fail
          refine (h2 _).mono ?_
          rintro e w1 ⟨rfl, rfl⟩
          go_wp2_with fail
          rw [HN.out]
          go_ret2
          exact ⟨rfl, rfl⟩
        · obtain ⟨ey, e1, e2⟩ := acc_yes (n := acc) (l := l.drop (k + 1)) hq
          rw [ey] at HJ
          rw [hq] at h2
          obtain ⟨x, hx⟩ : ∃ x : Nat, x = c.toNat := ⟨_, rfl⟩
          have hi2 : s[k].toNat = x := by rw [hi, hx]
          rw [← hx] at h2 HJ e1 e2
          have HJ' : Hid (accP (acc * 10 + (x - 48)) (l.drop (k + 1)) = accP 0 l) := HJ
          clear hx hi HJ hq ey
          go_wp2_with fail
          refine (h2 _).mono ?_
          rintro e w1 ⟨rfl, rfl⟩
          go_wp2_with fail
          have hacc := HA.out
          go_round
          case rel => exact ⟨k + 1, acc * 10 + (x - 48), by omega, by go_num, by congr 1; omega, by rw [Nat.pow_succ]; omega, HJ'.out⟩
          case measure => simp [RowKit.intOf]; omega
      · obtain rfl : k = s.size := by omega
        have d4 : decide ((s.size : Int) < s.size) = false := decide_eq_false (by omega)
        have HN : Hid (tnP l = some acc) := by
          show tnP l = some acc
          rw [HPH.out, ← HJ, List.drop_of_length_le (by rw [HS.out]; exact Nat.le_refl _), accP]
        clear HJ ha
        go_wp2_with fail
        rw [HN.out]
        go_ret2
        exact ⟨rfl, rfl⟩
set_option maxHeartbeats 4000000 in
set_option maxRecDepth 20000 in
theorem tnum_any (s : ByteArray) (w : World) :
    Calls Tryz.prog 57 #[.string s] w fun e w' => e = .returned (tnV (tnP s.data.toList)) ∧ w' = w := by
  have hsz : s.data.toList.length = s.size := (size_eq s).symm
  obtain ⟨l, hl⟩ : ∃ l, l = s.data.toList := ⟨_, rfl⟩
  rw [← hl] at hsz ⊢
  have hidx := idx_at hl
  clear hl
  by_cases h0 : s.size < 1
  · have e : tnP l = none := by unfold tnP; rw [if_pos (by omega)]
    rw [e]
    have d0 : decide ((s.size : Int) < 1) = true := decide_eq_true (by omega)
    clear hidx
    go_enter Tryz.func57, Tryz.ntmps57
    go_wp2_with fail
    go_ret2
    exact ⟨rfl, rfl⟩
  by_cases h1 : 6 < s.size
  · have e : tnP l = none := by unfold tnP; rw [if_pos (by omega)]
    rw [e]
    have d0 : decide ((s.size : Int) < 1) = false := decide_eq_false (by omega)
    have d1 : decide ((6 : Int) < s.size) = true := decide_eq_true (by omega)
    clear hidx
    go_enter Tryz.func57, Tryz.ntmps57
    go_wp2_with fail
    go_ret2
    exact ⟨rfl, rfl⟩
  have hhd : l.head? = some (l.getD 0 0) := by
    cases l with
    | nil => simp at hsz; omega
    | cons y r => rfl
  by_cases hz : 1 < s.size ∧ l.getD 0 0 = 48
  · have e : tnP l = none := by unfold tnP; rw [if_pos (Or.inr (Or.inr ⟨by omega, by rw [hhd, hz.2]⟩))]
    rw [e]
    have hi := hidx 0 (by omega)
    rw [hz.2] at hi
    have k1 : (1 : Int) ≤ s.size := by omega
    have d0 : decide ((s.size : Int) < 1) = false := decide_eq_false (by omega)
    have d1 : decide ((6 : Int) < s.size) = false := decide_eq_false (by omega)
    have d5 : decide ((1 : Int) < s.size) = true := decide_eq_true (by omega)
    clear hidx hhd
    go_enter Tryz.func57, Tryz.ntmps57
    go_wp2_with fail
    go_ret2
    exact ⟨rfl, rfl⟩
  · refine tnum_loop s l hsz hidx (by omega) (by omega) hz ?_ w
    unfold tnP
    rw [if_neg]
    rintro (h | h | ⟨h2, h3⟩)
    · omega
    · omega
    · exact hz ⟨by omega, by rw [hhd] at h3; exact Option.some.inj h3⟩

set_option maxHeartbeats 4000000 in
set_option maxRecDepth 20000 in
theorem end_any (s : ByteArray) (i : Nat) (hs : s.size ≤ 65536) (hi : i ≤ s.size) (w : World) :
    Calls Tryz.prog 39 #[.string s, .int .i64 i] w fun e w' => e = .returned (.int .i64 ((i + spanN prtP (s.data.toList.drop i) : Nat) : Int)) ∧ w' = w := by
  have hsz : s.data.toList.length = s.size := (size_eq s).symm
  obtain ⟨l, hl⟩ : ∃ l, l = s.data.toList := ⟨_, rfl⟩
  rw [← hl] at hsz ⊢
  have HIDX : Hid (∀ k (h : k < s.size), s[k] = l.getD k 0) := idx_at hl
  clear hl
  have HS : Hid (l.length = s.size) := hsz
  clear hsz
  obtain ⟨r, hr⟩ : ∃ r, r = i + spanN prtP (l.drop i) := ⟨_, rfl⟩
  rw [← hr]
  go_enter Tryz.func39, Tryz.ntmps39
  go_wp2_with fail
  go_loop [1] (fun v => ∃ k : Nat, k ≤ s.size ∧ v = .int .i64 k ∧ k + spanN prtP (l.drop k) = r) (fun v => s.size - (RowKit.intOf v).toNat)
  case atStart => exact ⟨i, hi, rfl, hr.symm⟩
  case round =>
    obtain ⟨k, hk, rfl, HJ⟩ := hrel
    by_cases hlt : k < s.size
    · have hi := HIDX.out k hlt
      have h1 := in_any (l.getD k 0)
      have d4 : decide ((k : Int) < s.size) = true := decide_eq_true (by omega)
      have hl' : k < l.length := by rw [HS.out]; exact hlt
      cases hq : prtP (l.getD k 0)
      · rw [span_stop hl' hq] at HJ
        obtain rfl : k = r := by omega
        rw [hq, ← hi] at h1
        clear hq HJ hr hl' hi
        obtain ⟨x, hx⟩ : ∃ x : Nat, x = s[k].toNat := ⟨_, rfl⟩
        rw [← hx] at h1
        have hx' : s[k].toNat = x := hx.symm
        clear hx
        go_wp2_with fail
        refine (h1 _).mono ?_
        rintro e w1 ⟨rfl, rfl⟩
        go_wp2_with fail
        go_ret
        exact ⟨rfl, rfl⟩
      · rw [span_go hl' hq] at HJ
        rw [hq, ← hi] at h1
        have HJ' : Hid (k + (spanN prtP (l.drop (k + 1)) + 1) = r) := HJ
        clear hq HJ hr hl' hi
        obtain ⟨x, hx⟩ : ∃ x : Nat, x = s[k].toNat := ⟨_, rfl⟩
        rw [← hx] at h1
        have hx' : s[k].toNat = x := hx.symm
        clear hx
        go_wp2_with fail
        refine (h1 _).mono ?_
        rintro e w1 ⟨rfl, rfl⟩
        go_wp2_with fail
        go_round
        case rel => exact ⟨k + 1, by omega, by go_num, by have := HJ'.out; omega⟩
        case measure => simp [RowKit.intOf]; omega
    · obtain rfl : k = s.size := by omega
      rw [span_out (by rw [HS.out]; exact Nat.le_refl _)] at HJ
      obtain rfl : s.size = r := by omega
      have d4 : decide ((s.size : Int) < s.size) = false := decide_eq_false (by omega)
      clear HJ hr
      go_wp2_with fail
      go_ret
      exact ⟨rfl, rfl⟩
end Go.Proofs.YtejhgifadohbiaaGreatDoor
