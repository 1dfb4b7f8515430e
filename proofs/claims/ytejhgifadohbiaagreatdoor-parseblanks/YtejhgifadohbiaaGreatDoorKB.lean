/- What token's small functions do: isLetter, isDigit, inPiece, Name, number, pieceEnd. -/
import Derived.Test.YtejhgifadohbiaaGreatDoorKA
import Derived.Test.YtejhgifadohbiaaGreatDoorHP
import Derived.Handy
namespace Go.Proofs.YtejhgifadohbiaaGreatDoor
open Go.RowKit Go.Lib

set_option maxHeartbeats 1000000 in
set_option maxRecDepth 20000 in
theorem let_any (c : UInt8) (w : World) : Calls Tryz.prog 72 #[.int .u8 (c.toNat : Int)] w fun e w' => e = .returned (.bool (letP c)) ∧ w' = w := by
  unfold letP
  obtain ⟨x, hx⟩ : ∃ x : Nat, x = c.toNat := ⟨_, rfl⟩
  rw [← hx]
  clear hx
  go_enter Tryz.func72, Tryz.ntmps72
  go_wp2
  all_goals go_ret
  all_goals simp_all
  all_goals (first | omega | (rw [Bool.eq_iff_iff]; simp; omega))
set_option maxHeartbeats 1000000 in
set_option maxRecDepth 20000 in
theorem dig_any (c : UInt8) (w : World) : Calls Tryz.prog 73 #[.int .u8 (c.toNat : Int)] w fun e w' => e = .returned (.bool (digP c)) ∧ w' = w := by
  unfold digP
  obtain ⟨x, hx⟩ : ∃ x : Nat, x = c.toNat := ⟨_, rfl⟩
  rw [← hx]
  clear hx
  go_enter Tryz.func73, Tryz.ntmps73
  go_wp2
  all_goals go_ret
  all_goals simp_all
  all_goals (first | omega | (rw [Bool.eq_iff_iff]; simp; omega))
set_option maxHeartbeats 1000000 in
set_option maxRecDepth 20000 in
theorem in_any (c : UInt8) (w : World) : Calls Tryz.prog 54 #[.int .u8 (c.toNat : Int)] w fun e w' => e = .returned (.bool (prtP c)) ∧ w' = w := by
  have h1 := let_any c
  have h2 := dig_any c
  unfold prtP
  obtain ⟨x, hx⟩ : ∃ x : Nat, x = c.toNat := ⟨_, rfl⟩
  rw [← hx] at h1 h2 ⊢
  generalize letP c = p at h1 ⊢
  generalize digP c = q at h2 ⊢
  clear hx
  go_enter Tryz.func54, Tryz.ntmps54
  go_wp2_with fail
  refine (h1 _).mono ?_
  rintro e w1 ⟨rfl, rfl⟩
  cases p
  · go_wp2_with fail
    refine (h2 _).mono ?_
    rintro e w1 ⟨rfl, rfl⟩
    cases q
    · go_wp2
      all_goals go_ret
      all_goals simp_all
      all_goals (first | omega | (rw [Bool.eq_iff_iff]; simp; omega))
    · go_wp2
      go_ret
      simp
  · go_wp2
    go_ret
    simp

theorem idx_at {s : ByteArray} {l : List UInt8} (hl : l = s.data.toList) (k : Nat) (h : k < s.size) : s[k] = l.getD k 0 := by
  subst hl
  have h2 : k < s.data.size := h
  simp [List.getD, ByteArray.getElem_eq_getElem_data, Array.getElem?_eq_getElem h2]
theorem all_take {p : UInt8 → Bool} {l : List UInt8} {k : Nat} (h : k < l.length) : (l.take (k + 1)).all p = ((l.take k).all p && p (l.getD k 0)) := by
  rw [List.take_succ_eq_append_getElem h, List.all_append]
  simp [List.getD, h]
theorem all_not {p : UInt8 → Bool} {l : List UInt8} {k : Nat} (h : k < l.length) (hp : p (l.getD k 0) = false) : l.all p = false := by
  rw [List.all_eq_false]
  refine ⟨l[k], List.getElem_mem h, ?_⟩
  have e : l.getD k 0 = l[k] := by simp [List.getD, h]
  rw [← e, hp]
  simp
set_option maxHeartbeats 4000000 in
set_option maxRecDepth 20000 in
theorem name_any (s : ByteArray) (w : World) :
    Calls Tryz.prog 55 #[.string s] w fun e w' => e = .returned (.bool (nameP s.data.toList)) ∧ w' = w := by
  have hsz : s.data.toList.length = s.size := (size_eq s).symm
  obtain ⟨l, hl⟩ : ∃ l, l = s.data.toList := ⟨_, rfl⟩
  rw [← hl] at hsz ⊢
  have hidx := idx_at hl
  clear hl
  by_cases h0 : s.size < 1
  · have e : nameP l = false := by
      unfold nameP
      rw [decide_eq_false (by omega)]
      rfl
    rw [e]
    have d0 : decide ((s.size : Int) < 1) = true := decide_eq_true (by omega)
    clear hidx
    go_enter Tryz.func55, Tryz.ntmps55
    go_wp2
    go_ret
    exact ⟨rfl, rfl⟩
  have d0 : decide ((s.size : Int) < 1) = false := decide_eq_false (by omega)
  by_cases h1 : 16 < s.size
  · have e : nameP l = false := by
      unfold nameP
      rw [show decide (l.length ≤ 16) = false from decide_eq_false (by omega)]
      simp
    rw [e]
    have d1 : decide ((16 : Int) < s.size) = true := decide_eq_true (by omega)
    clear hidx
    go_enter Tryz.func55, Tryz.ntmps55
    go_wp2
    go_ret
    exact ⟨rfl, rfl⟩
  have d1 : decide ((16 : Int) < s.size) = false := decide_eq_false (by omega)
  have hi := hidx 0 (by omega)
  have hh := let_any (l.getD 0 0)
  have hhd : hdP l = letP (l.getD 0 0) := by
    cases l with
    | nil => simp at hsz; omega
    | cons c r => rfl
  obtain ⟨c0, hc0⟩ : ∃ c, c = l.getD 0 0 := ⟨_, rfl⟩
  rw [← hc0] at hi hh hhd
  clear hc0
  have k1 : (1 : Int) ≤ s.size := by omega
  cases hp : letP c0 with
  | false =>
    have e : nameP l = false := by
      unfold nameP
      rw [hhd, hp]
      simp
    rw [e]
    rw [hp] at hh
    clear hidx hhd hp
    go_enter Tryz.func55, Tryz.ntmps55
    go_wp2_with fail
    refine (hh _).mono ?_
    rintro e w1 ⟨rfl, rfl⟩
    go_wp2
    go_ret
    exact ⟨rfl, rfl⟩
  | true =>
    have HE : Hid (nameP l = l.all nmcP) := by
      show nameP l = l.all nmcP
      unfold nameP
      rw [hhd, hp, decide_eq_true (by omega), decide_eq_true (by omega)]
      simp
    rw [hp] at hh
    have HIDX : Hid (∀ k (h : k < s.size), s[k] = l.getD k 0) := hidx
    clear hidx hhd hp
    go_enter Tryz.func55, Tryz.ntmps55
    go_wp2_with fail
    refine (hh _).mono ?_
    rintro e w1 ⟨rfl, rfl⟩
    clear hh hi
    go_wp2_with fail
    go_loop [21] (fun i => ∃ k : Nat, k ≤ s.size ∧ i = .int .i64 k ∧ (l.take k).all nmcP = true) (fun i => s.size - (RowKit.intOf i).toNat)
    case atStart => exact ⟨0, Nat.zero_le _, rfl, rfl⟩
    case round =>
      obtain ⟨k, hk, rfl, HJ⟩ := hrel
      have HJ' : Hid ((l.take k).all nmcP = true) := HJ
      clear HJ
      by_cases hlt : k < s.size
      · have hi := HIDX.out k hlt
        have d4 : decide ((k : Int) < s.size) = true := decide_eq_true (by omega)
        have h1 := let_any (l.getD k 0)
        have h2 := dig_any (l.getD k 0)
        have HN : Hid (nmcP (l.getD k 0) = (letP (l.getD k 0) || digP (l.getD k 0) || decide ((l.getD k 0).toNat = 45))) := rfl
        have HT : Hid ((l.take (k + 1)).all nmcP = ((l.take k).all nmcP && nmcP (l.getD k 0))) := all_take (by omega)
        have HF : Hid (nmcP (l.getD k 0) = false → l.all nmcP = false) := all_not (by omega)
        obtain ⟨c, hc⟩ : ∃ c, c = l.getD k 0 := ⟨_, rfl⟩
        rw [← hc] at hi h1 h2 HN HT HF
        clear hc
        obtain ⟨x, hx⟩ : ∃ x : Nat, x = c.toNat := ⟨_, rfl⟩
        have hi2 : s[k].toNat = x := by rw [hi, hx]
        rw [← hx] at h1 h2 HN
        clear hx hi
        cases hp : letP c
        · rw [hp] at h1 HN
          cases hq : digP c
          · rw [hq] at h2 HN
            by_cases h45 : x = 45
            · have HN' : Hid (nmcP c = true) := by show nmcP c = true; rw [HN.out, h45]; rfl
              subst h45
              clear HN hp hq
              go_wp2_with fail
              refine (h1 _).mono ?_
              rintro e w1 ⟨rfl, rfl⟩
              go_wp2_with fail
              refine (h2 _).mono ?_
              rintro e w1 ⟨rfl, rfl⟩
              go_wp2_with fail
              go_round
              case rel => exact ⟨k + 1, by omega, by go_num, by rw [HT.out, HJ'.out, HN'.out]; rfl⟩
              case measure => simp [RowKit.intOf]; omega
            · have HN' : Hid (nameP l = false) := by
                show nameP l = false
                rw [HE.out, HF.out (by rw [HN.out, decide_eq_false h45]; rfl)]
              have d5 : ((x : Int) != 45) = true := by simp; omega
              clear HN hp hq
              go_wp2_with fail
              refine (h1 _).mono ?_
              rintro e w1 ⟨rfl, rfl⟩
              go_wp2_with fail
              refine (h2 _).mono ?_
              rintro e w1 ⟨rfl, rfl⟩
              go_wp2_with fail
              go_ret
              rw [HN'.out]
              exact ⟨rfl, rfl⟩
          · rw [hq] at h2 HN
            have HN' : Hid (nmcP c = true) := by show nmcP c = true; rw [HN.out]; rfl
            clear HN hp hq
            go_wp2_with fail
            refine (h1 _).mono ?_
            rintro e w1 ⟨rfl, rfl⟩
            go_wp2_with fail
            refine (h2 _).mono ?_
            rintro e w1 ⟨rfl, rfl⟩
            go_wp2_with fail
            go_round
            case rel => exact ⟨k + 1, by omega, by go_num, by rw [HT.out, HJ'.out, HN'.out]; rfl⟩
            case measure => simp [RowKit.intOf]; omega
        · rw [hp] at h1 HN
          have HN' : Hid (nmcP c = true) := by show nmcP c = true; rw [HN.out]; rfl
          clear HN hp h2
          go_wp2_with fail
          refine (h1 _).mono ?_
          rintro e w1 ⟨rfl, rfl⟩
          go_wp2_with fail
          go_round
          case rel => exact ⟨k + 1, by omega, by go_num, by rw [HT.out, HJ'.out, HN'.out]; rfl⟩
          case measure => simp [RowKit.intOf]; omega
      · obtain rfl : k = s.size := by omega
        have d4 : decide ((s.size : Int) < s.size) = false := decide_eq_false (by omega)
        have HN' : Hid (nameP l = true) := by
          show nameP l = true
          have h := HJ'.out
          rw [← hsz, List.take_length] at h
          rw [HE.out, h]
        clear HJ'
        go_wp2_with fail
        go_ret
        rw [HN'.out]
        exact ⟨rfl, rfl⟩
end Go.Proofs.YtejhgifadohbiaaGreatDoor
