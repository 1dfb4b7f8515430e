/- Texts that are cut off: what they end with. No program. -/
import Derived.Test.YtejhgifadohbiaaGreatDoorPX
namespace Go.Proofs.YtejhgifadohbiaaGreatDoor
open Go.RowKit Go.Lib

theorem take_last {l : Bs} {k : Nat} (h0 : 0 < k) (hk : k ≤ l.length) : l.take k = l.take (k - 1) ++ [l.getD (k - 1) 0] := by
  have h1 : l[k - 1]? = some (l.getD (k - 1) 0) := by
    rw [List.getElem?_eq_getElem (show k - 1 < l.length by omega), List.getD_eq_getElem?_getD, List.getElem?_eq_getElem (show k - 1 < l.length by omega)]
    rfl
  have := List.take_add_one (i := k - 1) (l := l)
  rw [Nat.sub_add_cancel h0, h1] at this
  exact this
theorem whole_nil (l : Bs) : wholeP (l.take 0) := .inl rfl
theorem whole_brace {l : Bs} {k : Nat} (h0 : 0 < k) (hk : k ≤ l.length) (h : l.getD (k - 1) 0 = 125) : wholeP (l.take k) := by
  rw [take_last h0 hk, h]
  exact .inr (.inl ⟨_, rfl⟩)
theorem whole_not {l : Bs} {k : Nat} (h0 : 0 < k) (hk : k ≤ l.length) (h : l.getD (k - 1) 0 ≠ 125) : wholeP (l.take k) ↔ 1 < k ∧ l.getD (k - 2) 0 = 125 ∧ l.getD (k - 1) 0 = 10 := by
  have e1 := take_last h0 hk
  constructor
  · rintro (h1 | ⟨q, h1⟩ | ⟨q, h1⟩)
    · rw [e1] at h1
      simp at h1
    · rw [e1] at h1
      have := (List.append_inj' h1 rfl).2
      injection this with this _
      exact absurd this h
    · rw [e1, show q ++ [125, 10] = (q ++ [125]) ++ [10] by simp] at h1
      have h2 := List.append_inj' h1 rfl
      have h3 : l.getD (k - 1) 0 = 10 := by have := h2.2; injection this
      have h4 : 0 < k - 1 := by
        rcases Nat.eq_zero_or_pos (k - 1) with h5 | h5
        · rw [h5] at h2
          have := congrArg List.length h2.1
          simp at this
        · exact h5
      rw [take_last h4 (by omega)] at h2
      have h6 := (List.append_inj' h2.1 rfl).2
      injection h6 with h6 _
      exact ⟨by omega, by rw [show k - 2 = k - 1 - 1 by omega]; exact h6, h3⟩
  · rintro ⟨h1, h2, h3⟩
    rw [e1, take_last (k := k - 1) (by omega) (by omega), show k - 1 - 1 = k - 2 by omega, h2, h3]
    exact .inr (.inr ⟨l.take (k - 2), by simp⟩)
theorem two_at {l : Bs} {k : Nat} (h1 : 1 < k) (hk : k ≤ l.length) : (l.drop (k - 2)).take 2 = [l.getD (k - 2) 0, l.getD (k - 1) 0] := by
  have e1 : l[k - 2]? = some (l.getD (k - 2) 0) := by
    rw [List.getD_eq_getElem?_getD, List.getElem?_eq_getElem (show k - 2 < l.length by omega)]
    rfl
  have e2 : l[k - 1]? = some (l.getD (k - 1) 0) := by
    rw [List.getD_eq_getElem?_getD, List.getElem?_eq_getElem (show k - 1 < l.length by omega)]
    rfl
  apply List.ext_getElem?
  intro i
  rw [List.getElem?_take, List.getElem?_drop]
  match i with
  | 0 => simp only [Nat.add_zero]; rw [if_pos (by decide), e1]; rfl
  | 1 => rw [if_pos (by decide), show k - 2 + 1 = k - 1 by omega, e2]; rfl
  | i + 2 => rw [if_neg (by omega)]; rfl
end Go.Proofs.YtejhgifadohbiaaGreatDoor
