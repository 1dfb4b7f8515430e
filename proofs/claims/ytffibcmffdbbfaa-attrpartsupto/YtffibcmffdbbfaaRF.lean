/- What the best of some is. No program. -/
import Derived.Test.YtffibcmffdbbfaaRA
namespace Go.Proofs.Ytffibcmffdbbfaa

theorem bet_ok {a b : At} (h : betP a b = true) : a.ok = true := ((bet_iff a b).1 h).1
theorem bestF_mem : ∀ (l : List At) (x : At), bestF x l = x ∨ bestF x l ∈ l
  | [], _ => .inl rfl
  | a :: l, x => by
    rcases bestF_mem l (if betP a x then a else x) with h | h
    · rw [bestF, h]
      split
      · exact .inr (List.mem_cons_self ..)
      · exact .inl rfl
    · exact .inr (List.mem_cons_of_mem _ h)
theorem bestF_first : ∀ (l : List At) (x : At), betP x (bestF x l) = false
  | [], x => bet_self x
  | a :: l, x => by
    have h := bestF_first l (if betP a x then a else x)
    rw [bestF]
    split at h
    · rename_i hax
      rw [if_pos hax]
      exact bet_no_trans (bet_not hax) h
    · rename_i hax
      rw [if_neg hax]
      exact h
theorem bestF_none : ∀ (l : List At) (x : At), ∀ a ∈ l, betP a (bestF x l) = false
  | b :: l, x, a, ha => by
    rw [bestF]
    rcases List.mem_cons.1 ha with rfl | ha
    · have h := bestF_first l (if betP a x then a else x)
      split at h
      · rename_i hax
        rw [if_pos hax]
        exact h
      · rename_i hax
        rw [if_neg hax]
        exact bet_no_trans ((bool_iff _).2 hax) h
    · exact bestF_none l _ a ha
theorem bestP_none (l : List At) : ∀ a ∈ l, betP a (bestP l) = false := bestF_none l _
/-- Are none of them any? -/
def noneP (l : List At) : Bool := l.all fun a => !a.ok
def anyP (x : At) (l : List At) : Bool := l.any fun a => eqP a x
theorem bestP_zero {l : List At} (h : noneP l = true) : bestP l = At.zero := by
  unfold bestP
  have key : ∀ (l : List At) (x : At), (∀ a ∈ l, a.ok = false) → bestF x l = x := by
    intro l
    induction l with
    | nil => intro x _; rfl
    | cons a l ih =>
      intro x h
      have : betP a x = false := by
        rw [bool_iff]
        intro hb
        have := bet_ok hb
        rw [h a (List.mem_cons_self ..)] at this
        cases this
      rw [bestF, this]
      exact ih x fun b hb => h b (List.mem_cons_of_mem _ hb)
  exact key l _ fun a ha => by simpa using List.all_eq_true.1 h a ha
theorem bestP_some {l : List At} (h : noneP l = false) : (bestP l).ok = true ∧ anyP (bestP l) l = true := by
  obtain ⟨a, ha, hok⟩ : ∃ a ∈ l, a.ok = true := by
    by_cases hc : ∃ a ∈ l, a.ok = true
    · exact hc
    · exfalso
      have : noneP l = true := List.all_eq_true.2 fun a ha => by
        cases hk : a.ok with
        | false => rfl
        | true => exact absurd ⟨a, ha, hk⟩ hc
      rw [h] at this
      cases this
  have hb : (bestP l).ok = true := by
    have := bestP_none l a ha
    cases hk : (bestP l).ok with
    | true => rfl
    | false =>
      rw [(bet_iff a (bestP l)).2 ⟨hok, .inl hk⟩] at this
      cases this
  refine ⟨hb, ?_⟩
  rcases bestF_mem l At.zero with h1 | h1
  · have : bestP l = At.zero := h1
    rw [this] at hb
    cases hb
  · exact List.any_eq_true.2 ⟨_, h1, (eqP_iff _ _).2 rfl⟩
theorem any_snoc (x a : At) (l : List At) : anyP x (l ++ [a]) = (anyP x l || eqP a x) := by simp [anyP]
theorem none_snoc (a : At) (l : List At) : noneP (l ++ [a]) = (noneP l && !a.ok) := by simp [noneP]
/-- The best of two rows: as good as the better one of their best ones. -/
theorem bestF_same : ∀ (l : List At) {x y : At}, samP x y = true → samP (bestF x l) (bestF y l) = true
  | [], _, _, h => h
  | a :: l, x, y, h => by
    rw [bestF, bestF, (bet_same h a).2]
    apply bestF_same l
    split
    · exact sam_self a
    · exact h
theorem bestF_app : ∀ (l r : List At) (x : At), bestF x (l ++ r) = bestF (bestF x l) r
  | [], _, _ => rfl
  | a :: l, r, x => by rw [List.cons_append, bestF, bestF]; exact bestF_app l r _
theorem sam_trans {a b c : At} (h1 : samP a b = true) (h2 : samP b c = true) : samP a c = true := by
  rw [sam_iff] at *
  cases ha : a.ok <;> cases hb : b.ok <;> cases hc : c.ok <;> simp_all
/-- From one on: the better one of it and the best of the others. -/
theorem bestF_split : ∀ (l : List At) (x : At), samP (bestF x l) (if betP (bestP l) x then bestP l else x) = true := by
  intro l x
  -- none of x :: l is better than the left one, which is one of them; the right one is so, too
  have hu : ∀ u v : At, betP u v = false → betP v u = false → samP u v = true := fun u v h1 h2 => by
    have := bet_or u v
    rw [h1, h2] at this
    cases h : samP u v with
    | true => rfl
    | false => rw [h] at this; cases this
  apply hu
  · -- the left one is not better than the right one
    rcases bestF_mem l x with h | h
    · rw [h]
      split
      · rename_i hb; exact bet_not hb
      · exact bet_self x
    · have h1 := bestP_none l _ h
      split
      · exact h1
      · rename_i hb
        exact bet_no_trans h1 ((bool_iff _).2 hb)
  · split
    · rename_i hb
      rcases bestF_mem l At.zero with h | h
      · have h0 : bestP l = At.zero := h
        rw [h0] at hb
        have := bet_ok hb
        cases this
      · exact bestF_none l x _ h
    · exact bestF_first l x
theorem zero_worst (a : At) : betP At.zero a = false := by
  rw [bool_iff]
  intro h
  have := bet_ok h
  cases this
theorem parts_same (a b : List At) : samP (bestP (a ++ b)) (bestP [bestP a, bestP b]) = true := by
  have h1 : bestP (a ++ b) = bestF (bestP a) b := bestF_app a b _
  have h2 : samP (bestP [bestP a, bestP b]) (if betP (bestP b) (bestP a) then bestP b else bestP a) = true := by
    have hz : samP (if betP (bestP a) At.zero then bestP a else At.zero) (bestP a) = true := by
      split
      · exact sam_self _
      · rename_i h
        have := bet_or (bestP a) At.zero
        rw [(bool_iff _).2 h, zero_worst] at this
        rw [sam_turn]
        cases hs : samP (bestP a) At.zero with
        | true => rfl
        | false => rw [hs] at this; cases this
    have := bestF_same [bestP b] hz
    exact this
  rw [h1]
  refine sam_trans (bestF_split b (bestP a)) ?_
  rw [sam_turn]
  exact h2
end Go.Proofs.Ytffibcmffdbbfaa
