/- Diagrams that are put together: plain mathematics. -/
import Derived.Test.YtahjkkegbcalnaaDoorJ
namespace Go.Proofs.YtahjkkegbcalnaaDoor

/-- What a diagram says. -/
abbrev says (ns : List Nd) (k : Int) (f : Int → Bool) : Bool := evalP ns f k

/-- Two values that are the same from v on. -/
def AgreeFrom (v : Int) (f g : Int → Bool) : Prop := ∀ x, v ≤ x → f x = g x

/-- What a diagram says hangs on variables alone that it may ask. -/
theorem evalP_agree {most : Int} {ns : List Nd} (h : Good most ns) : ∀ (n i : Nat), i < n → i < ns.length → ∀ {f g : Int → Bool} {v : Int}, v ≤ (ndAt ns i).v → AgreeFrom v f g → evalP ns f i = evalP ns g i
  | 0, i, hn, _, _, _, _, _, _ => by omega
  | n + 1, i, hn, hi, f, g, v, hv, ha => by
    by_cases hlt : (ndAt ns i).v < 1024
    · have h2 : 2 ≤ i := by
        obtain ⟨j, hj, hj2, _⟩ := asks h (k := (i : Int)) (by rw [getN_in hi]; exact hlt)
        omega
      obtain ⟨_, _, ⟨a, ea, la, va⟩, ⟨b, eb, lb, vb⟩, _⟩ := h.nodes i h2 hi
      rw [evalP_at h hi hlt, evalP_at h hi hlt, ea, eb, ha _ hv]
      cases g (ndAt ns i).v with
      | true => simp only [if_true]; exact evalP_agree h n b (by omega) (by omega) (Int.le_of_lt (Int.lt_of_le_of_lt hv vb)) ha
      | false => simp only [Bool.false_eq_true, if_false]; exact evalP_agree h n a (by omega) (by omega) (Int.le_of_lt (Int.lt_of_le_of_lt hv va)) ha
    · rw [evalP_end f (by rw [getN_in hi]; exact hlt), evalP_end g (by rw [getN_in hi]; exact hlt)]

/-- A value turned at v. -/
def turn (f : Int → Bool) (v : Int) (b : Bool) : Int → Bool := fun x => if x = v then b else f x
theorem turn_at (f : Int → Bool) (v : Int) (b : Bool) : turn f v b v = b := by simp [turn]
theorem turn_agree (f : Int → Bool) (v : Int) (b : Bool) {u : Int} (h : v < u) : AgreeFrom u (turn f v b) f := fun x hx => by
  unfold turn
  rw [if_neg (by omega)]

/-- The node of a number that may be there. -/
theorem asks_at {most : Int} {ns : List Nd} (h : Good most ns) {i : Nat} (hi : i < ns.length) (hlt : (ndAt ns i).v < 1024) :
    2 ≤ i ∧ 0 ≤ (ndAt ns i).v ∧ (∃ a : Nat, (ndAt ns i).lo = a ∧ a < i ∧ (ndAt ns i).v < (ndAt ns a).v) ∧ (∃ a : Nat, (ndAt ns i).hi = a ∧ a < i ∧ (ndAt ns i).v < (ndAt ns a).v) ∧ (ndAt ns i).lo ≠ (ndAt ns i).hi := by
  have h2 : 2 ≤ i := by
    obtain ⟨j, hj, hj2, _⟩ := asks h (k := (i : Int)) (by rw [getN_in hi]; exact hlt)
    omega
  obtain ⟨h3, _, h4, h5, h6⟩ := h.nodes i h2 hi
  exact ⟨h2, h3, h4, h5, h6⟩
theorem ends_at {most : Int} {ns : List Nd} (h : Good most ns) {i : Nat} (hi : i < ns.length) (hlt : ¬ (ndAt ns i).v < 1024) : i = 0 ∨ i = 1 := by
  by_cases h2 : 2 ≤ i
  · exact absurd (h.nodes i h2 hi).2.1 hlt
  · omega
theorem node_at {most : Int} {ns : List Nd} (h : Good most ns) : ndAt ns 0 = ⟨1024, 0, 0⟩ ∧ ndAt ns 1 = ⟨1024, 1, 1⟩ := by
  obtain ⟨l, rfl⟩ := h.two
  exact ⟨rfl, rfl⟩

/-- What is the same is the same number. -/
theorem one_number {most : Int} {ns : List Nd} (h : Good most ns) : ∀ (n i j : Nat), i < n → j < n → i < ns.length → j < ns.length → (∀ f, evalP ns f i = evalP ns f j) → i = j
  | 0, i, j, hn, _, _, _, _ => by omega
  | n + 1, i, j, hn, hn', hi, hj, he => by
    obtain ⟨n0, n1⟩ := node_at h
    -- a node that asks more behind than another one is what both its ways are
    have key : ∀ (i j : Nat), i < n + 1 → i < ns.length → j < ns.length → (∀ f, evalP ns f i = evalP ns f j) → (ndAt ns i).v < 1024 → (ndAt ns i).v < (ndAt ns j).v → False := by
      intro i j hn hi hj he hlt hij
      obtain ⟨h2, h0, ⟨a, ea, la, va⟩, ⟨b, eb, lb, vb⟩, hne⟩ := asks_at h hi hlt
      have hab : a = b := one_number h n a b (by omega) (by omega) (by omega) (by omega) (fun f => by
        have e1 := he (turn f (ndAt ns i).v false)
        have e2 := he (turn f (ndAt ns i).v true)
        rw [evalP_at h hi hlt, turn_at, ea] at e1
        rw [evalP_at h hi hlt, turn_at, eb] at e2
        simp only [Bool.false_eq_true, if_false, if_true] at e1 e2
        rw [evalP_agree h (j + 1) j (by omega) hj (Int.le_refl _) (turn_agree f _ _ hij)] at e1 e2
        rw [evalP_agree h (a + 1) a (by omega) (by omega) (Int.le_refl _) (turn_agree f _ _ va)] at e1
        rw [evalP_agree h (b + 1) b (by omega) (by omega) (Int.le_refl _) (turn_agree f _ _ vb)] at e2
        rw [e1, e2])
      exact hne (by rw [ea, eb, hab])
    by_cases hi' : (ndAt ns i).v < 1024
    · by_cases hj' : (ndAt ns j).v < 1024
      · rcases Int.lt_trichotomy (ndAt ns i).v (ndAt ns j).v with hlt | heq | hgt
        · exact absurd (key i j hn hi hj he hi' hlt) id
        · obtain ⟨_, _, ⟨a, ea, la, va⟩, ⟨b, eb, lb, vb⟩, _⟩ := asks_at h hi hi'
          obtain ⟨_, _, ⟨c, ec, lc, vc⟩, ⟨d, ed, ld, vd⟩, _⟩ := asks_at h hj hj'
          have hac : a = c := one_number h n a c (by omega) (by omega) (by omega) (by omega) (fun f => by
            have e1 := he (turn f (ndAt ns i).v false)
            rw [evalP_at h hi hi', turn_at, ea, evalP_at h hj hj', ← heq, turn_at, ec] at e1
            simp only [Bool.false_eq_true, if_false] at e1
            rwa [evalP_agree h (a + 1) a (by omega) (by omega) (Int.le_refl _) (turn_agree f _ _ va), evalP_agree h (c + 1) c (by omega) (by omega) (Int.le_refl _) (turn_agree f _ _ (heq ▸ vc))] at e1)
          have hbd : b = d := one_number h n b d (by omega) (by omega) (by omega) (by omega) (fun f => by
            have e1 := he (turn f (ndAt ns i).v true)
            rw [evalP_at h hi hi', turn_at, eb, evalP_at h hj hj', ← heq, turn_at, ed] at e1
            simp only [if_true] at e1
            rwa [evalP_agree h (b + 1) b (by omega) (by omega) (Int.le_refl _) (turn_agree f _ _ vb), evalP_agree h (d + 1) d (by omega) (by omega) (Int.le_refl _) (turn_agree f _ _ (heq ▸ vd))] at e1)
          exact ndAt_inj h.once hi hj (nd_ext heq (by rw [ea, ec, hac]) (by rw [eb, ed, hbd]))
        · exact absurd (key j i (by omega) hj hi (fun f => (he f).symm) hj' hgt) id
      · have hb : (ndAt ns j).v = 1024 := by
          rcases ends_at h hj hj' with rfl | rfl
          · rw [n0]
          · rw [n1]
        exact absurd (key i j hn hi hj he hi' (by omega)) id
    · by_cases hj' : (ndAt ns j).v < 1024
      · have hb : (ndAt ns i).v = 1024 := by
          rcases ends_at h hi hi' with rfl | rfl
          · rw [n0]
          · rw [n1]
        exact absurd (key j i (by omega) hj hi (fun f => (he f).symm) hj' (by omega)) id
      · have e := he (fun _ => false)
        rw [evalP_end _ (by rw [getN_in hi]; exact hi'), evalP_end _ (by rw [getN_in hj]; exact hj')] at e
        rcases ends_at h hi hi' with rfl | rfl <;> rcases ends_at h hj hj' with rfl | rfl <;> simp at e ⊢
end Go.Proofs.YtahjkkegbcalnaaDoor
