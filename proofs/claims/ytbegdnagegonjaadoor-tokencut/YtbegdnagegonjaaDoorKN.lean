/- What the law's own name says of a text. -/
import Derived.Test.YtbegdnagegonjaaDoorKB
namespace Go.Proofs.YtbegdnagegonjaaDoor
open Go.RowKit Go.Lib

theorem name_bad {l : List UInt8} {k : Nat} (h : k < l.length) (h1 : letP (l.getD k 0) = false) (h2 : k = 0 ∨ nmcP (l.getD k 0) = false) : nameP l = false := by
  rcases h2 with rfl | h2
  · have e : hdP l = false := by
      cases l with
      | nil => simp at h
      | cons c r => exact h1
    unfold nameP
    rw [e]
    simp
  · unfold nameP
    rw [all_not h h2]
    simp
theorem name_end {l : List UInt8} (h : 1 ≤ l.length → hdP l = true) (h2 : l.all nmcP = true) : nameP l = (decide (1 ≤ l.length) && decide (l.length ≤ 16)) := by
  unfold nameP
  rw [h2]
  by_cases h1 : 1 ≤ l.length
  · rw [h h1]
    simp
  · rw [decide_eq_false h1]
    rfl
theorem hd_at {l : List UInt8} (h : 0 < l.length) : hdP l = letP (l.getD 0 0) := by
  cases l with
  | nil => simp at h
  | cons c r => rfl
set_option maxHeartbeats 4000000 in
set_option maxRecDepth 20000 in
theorem lname_any (s : ByteArray) (hs : s.size ≤ maxLen) (w : World) :
    Calls Tryd.prog 25 #[.string s] w fun e w' => e = .returned (.bool (nameP s.data.toList)) ∧ w' = w := by
  have hsz : s.data.toList.length = s.size := (size_eq s).symm
  obtain ⟨l, hl⟩ : ∃ l, l = s.data.toList := ⟨_, rfl⟩
  rw [← hl] at hsz ⊢
  have HIDX : Hid (∀ k (h : k < s.size), s[k] = l.getD k 0) := idx_at hl
  clear hl
  have hs2 : s.size ≤ 9223372036854775807 := hs
  clear hs
  go_enter Tryd.func25, Tryd.ntmps25
  go_wp2_with fail
  go_loop [3] (fun i => ∃ k : Nat, k ≤ s.size ∧ i = .int .i64 k ∧ (1 ≤ k → hdP l = true) ∧ (l.take k).all nmcP = true) (fun i => s.size - (RowKit.intOf i).toNat)
  case atStart => exact ⟨0, Nat.zero_le _, rfl, fun h => absurd h (by decide), rfl⟩
  case round =>
    obtain ⟨k, hk, rfl, HH, HJ⟩ := hrel
    have HJ' : Hid ((1 ≤ k → hdP l = true) ∧ (l.take k).all nmcP = true) := ⟨HH, HJ⟩
    clear HJ HH
    by_cases hlt : k < s.size
    · have hi := HIDX.out k hlt
      have d4 : decide ((k : Int) < s.size) = true := decide_eq_true (by omega)
      have HLt : Hid (k < l.length) := by show k < l.length; omega
      have HB : Hid (letP (l.getD k 0) = false → (k = 0 ∨ nmcP (l.getD k 0) = false) → nameP l = false) := fun h1 h2 => name_bad HLt.out h1 h2
      have HG : Hid (nmcP (l.getD k 0) = true → (k = 0 → letP (l.getD k 0) = true) → (1 ≤ k + 1 → hdP l = true) ∧ (l.take (k + 1)).all nmcP = true) := by
        show nmcP (l.getD k 0) = true → (k = 0 → letP (l.getD k 0) = true) → (1 ≤ k + 1 → hdP l = true) ∧ (l.take (k + 1)).all nmcP = true
        intro h1 h2
        refine ⟨fun _ => ?_, by rw [all_take HLt.out, HJ'.out.2, h1]; rfl⟩
        by_cases h0 : k = 0
        · have := h2 h0
          subst h0
          rw [hd_at HLt.out]
          exact this
        · exact HJ'.out.1 (by omega)
      have HN : Hid (nmcP (l.getD k 0) = (letP (l.getD k 0) || digP (l.getD k 0) || decide ((l.getD k 0).toNat = 45))) := rfl
      have HLe : Hid (letP (l.getD k 0) = (decide (97 ≤ (l.getD k 0).toNat) && decide ((l.getD k 0).toNat ≤ 122))) := rfl
      have HDi : Hid (digP (l.getD k 0) = (decide (48 ≤ (l.getD k 0).toNat) && decide ((l.getD k 0).toNat ≤ 57))) := rfl
      clear HJ' HLt
      obtain ⟨c, hc⟩ : ∃ c, c = l.getD k 0 := ⟨_, rfl⟩
      rw [← hc] at hi HB HG HN HLe HDi
      clear hc
      obtain ⟨x, hx⟩ : ∃ x : Nat, x = c.toNat := ⟨_, rfl⟩
      have hi2 : s[k].toNat = x := by rw [hi, hx]
      rw [← hx] at HN HLe HDi
      clear hx hi
      by_cases hL : 97 ≤ x ∧ x ≤ 122
      · have d5 : decide ((97 : Int) ≤ x) = true := decide_eq_true (by omega)
        have d6 : decide ((x : Int) ≤ 122) = true := decide_eq_true (by omega)
        have HL : Hid (letP c = true) := by show letP c = true; rw [HLe.out, decide_eq_true hL.1, decide_eq_true hL.2]; rfl
        clear hL
        go_wp2_with fail
        go_round
        case rel =>
          have h := HG.out (by rw [HN.out, HL.out]; rfl) (fun _ => HL.out)
          exact ⟨k + 1, by omega, by go_num, h.1, h.2⟩
        case measure => simp [RowKit.intOf]; omega
      · have HL : Hid (letP c = false) := by
          show letP c = false
          rw [HLe.out]
          simp
          omega
        have hL2 : x < 97 ∨ (97 ≤ x ∧ 122 < x) := by omega
        clear hL
        rcases hL2 with h97 | ⟨h97, h122⟩
        · have d5 : decide ((97 : Int) ≤ x) = false := decide_eq_false (by omega)
          by_cases h0 : k = 0
          · subst h0
            have HE : Hid (nameP l = false) := HB.out HL.out (.inl rfl)
            clear HB HG HN HLe HDi
            go_wp2_with fail
            go_ret
            rw [HE.out]
            exact ⟨rfl, rfl⟩
          · have d7 : ((k : Int) == 0) = false := by simp; omega
            by_cases h45 : x = 45
            · subst h45
              have HE : Hid (nmcP c = true) := by show nmcP c = true; rw [HN.out]; simp
              clear HN HLe HDi
              go_wp2_with fail
              go_round
              case rel =>
                have h := HG.out HE.out (fun h => absurd h h0)
                exact ⟨k + 1, by omega, by go_num, h.1, h.2⟩
              case measure => simp [RowKit.intOf]; omega
            · have d8 : ((x : Int) != 45) = true := by simp; omega
              by_cases hD : 48 ≤ x ∧ x ≤ 57
              · have d9 : decide ((48 : Int) ≤ x) = true := decide_eq_true (by omega)
                have d10 : decide ((x : Int) ≤ 57) = true := decide_eq_true (by omega)
                have HE : Hid (nmcP c = true) := by show nmcP c = true; rw [HN.out, HDi.out, decide_eq_true hD.1, decide_eq_true hD.2]; simp
                clear HN HLe HDi
                go_wp2_with fail
                go_round
                case rel =>
                  have h := HG.out HE.out (fun h => absurd h h0)
                  exact ⟨k + 1, by omega, by go_num, h.1, h.2⟩
                case measure => simp [RowKit.intOf]; omega
              · have HE : Hid (nameP l = false) := by
                  show nameP l = false
                  refine HB.out HL.out (.inr ?_)
                  rw [HN.out, HL.out, HDi.out]
                  simp
                  omega
                have hD2 : x < 48 ∨ (48 ≤ x ∧ 57 < x) := by omega
                clear hD HB HG HN HLe HDi
                rcases hD2 with h | ⟨h, h'⟩
                · have d9 : decide ((48 : Int) ≤ x) = false := decide_eq_false (by omega)
                  go_wp2_with fail
                  go_ret
                  rw [HE.out]
                  exact ⟨rfl, rfl⟩
                · have d9 : decide ((48 : Int) ≤ x) = true := decide_eq_true (by omega)
                  have d10 : decide ((x : Int) ≤ 57) = false := decide_eq_false (by omega)
                  go_wp2_with fail
                  go_ret
                  rw [HE.out]
                  exact ⟨rfl, rfl⟩
        · have d5 : decide ((97 : Int) ≤ x) = true := decide_eq_true (by omega)
          have d6 : decide ((x : Int) ≤ 122) = false := decide_eq_false (by omega)
          have HE : Hid (nameP l = false) := by
            show nameP l = false
            refine HB.out HL.out (.inr ?_)
            rw [HN.out, HL.out, HDi.out]
            simp
            omega
          clear HB HG HN HLe HDi
          by_cases h0 : k = 0
          · subst h0
            go_wp2_with fail
            go_ret
            rw [HE.out]
            exact ⟨rfl, rfl⟩
          · have d7 : ((k : Int) == 0) = false := by simp; omega
            have d8 : ((x : Int) != 45) = true := by simp; omega
            have d9 : decide ((48 : Int) ≤ x) = true := decide_eq_true (by omega)
            have d10 : decide ((x : Int) ≤ 57) = false := decide_eq_false (by omega)
            go_wp2_with fail
            go_ret
            rw [HE.out]
            exact ⟨rfl, rfl⟩
    · obtain rfl : k = s.size := by omega
      have d4 : decide ((s.size : Int) < s.size) = false := decide_eq_false (by omega)
      have HE : Hid (nameP l = (decide (1 ≤ l.length) && decide (l.length ≤ 16))) := by
        show nameP l = _
        have h := HJ'.out
        rw [← hsz, List.take_length] at h
        exact name_end h.1 h.2
      rw [hsz] at HE
      clear HJ' hlt
      by_cases h1 : 1 ≤ s.size
      · have d5 : decide ((1 : Int) ≤ s.size) = true := decide_eq_true (by omega)
        rw [decide_eq_true h1] at HE
        by_cases h16 : s.size ≤ 16
        · have d6 : decide ((s.size : Int) ≤ 16) = true := decide_eq_true (by omega)
          rw [decide_eq_true h16] at HE
          go_wp2_with fail
          rw [HE.out]
          go_ret
          exact ⟨rfl, rfl⟩
        · have d6 : decide ((s.size : Int) ≤ 16) = false := decide_eq_false (by omega)
          rw [decide_eq_false h16] at HE
          go_wp2_with fail
          rw [HE.out]
          go_ret
          exact ⟨rfl, rfl⟩
      · have d5 : decide ((1 : Int) ≤ s.size) = false := decide_eq_false (by omega)
        rw [decide_eq_false h1] at HE
        go_wp2_with fail
        rw [HE.out]
        go_ret
        exact ⟨rfl, rfl⟩
end Go.Proofs.YtbegdnagegonjaaDoor
