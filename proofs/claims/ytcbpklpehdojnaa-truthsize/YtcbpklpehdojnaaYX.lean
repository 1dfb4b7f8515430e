/- How many nodes a diagram has: plain mathematics. -/
import Derived.Test.YtcbpklpehdojnaaYW
namespace Go.Proofs.Ytcbpklpehdojnaa

theorem rowOf_agree {f g : Int → Bool} : ∀ (d v fr : Nat), AgreeFrom v f g → rowOf f d v fr = rowOf g d v fr
  | 0, _, _, _ => rfl
  | d + 1, v, fr, h => by
    have h' : AgreeFrom ((v + 1 : Nat) : Int) f g := fun x hx => h x (by omega)
    rw [rowOf, rowOf, h v (Int.le_refl _), rowOf_agree d (v + 1) _ h', rowOf_agree d (v + 1) _ h']
theorem rowOf_shift (f : Int → Bool) : ∀ (d v fr : Nat), rowOf f d v fr = fr + rowOf f d v 0
  | 0, _, _ => by simp [rowOf]
  | d + 1, v, fr => by
    rw [rowOf, rowOf]
    split
    · rw [rowOf_shift f d (v + 1) (fr + 2 ^ d), rowOf_shift f d (v + 1) (0 + 2 ^ d)]; omega
    · rw [rowOf_shift f d (v + 1) fr]
/-- A node is the diagram of the rows from fr on, of d variables from v on. -/
def Dg (F : List Nd) (bits d v fr : Nat) (k : Int) : Prop := D F k (fun φ => bits.testBit (rowOf φ d v fr))

section
variable {most : Int} {F : List Nd} {bits : Nat}
theorem Dg.halves (hg : Good most F) {d v fr : Nat} {k : Int} (hv : v < 1024) (h : Dg F bits (d + 1) v fr k) : (v : Int) ≤ (getN F k).v ∧ Dg F bits d (v + 1) fr (lowP v k (getN F k)) ∧ Dg F bits d (v + 1) (fr + 2 ^ d) (highP v k (getN F k)) := by
  have hfr := from_of_indep hg h.1 (v := v) (Nat.le_of_lt hv) (fun f g ha => by rw [h.2, h.2]; simp only; rw [rowOf_agree (d + 1) v fr ha])
  have hu : (v : Int) ≤ (getN F k).v := by
    obtain ⟨j, ej, hj, hv⟩ := hfr
    rw [ej, getN_in hj]
    exact hv
  obtain ⟨l1, l2⟩ := low_at hg h.1 hu hv
  obtain ⟨h1, h2⟩ := high_at hg h.1 hu hv
  refine ⟨hu, ⟨l1.in, fun φ => ?_⟩, ⟨h1.in, fun φ => ?_⟩⟩
  · rw [← from_agree hg l1 (nat_turn φ v false), l2 _ (turn_at _ _ _), h.2]
    simp only [rowOf]
    rw [turn_at, if_neg (by simp), rowOf_agree d (v + 1) fr (nat_turn φ v false)]
  · rw [← from_agree hg h1 (nat_turn φ v true), h2 _ (turn_at _ _ _), h.2]
    simp only [rowOf]
    rw [turn_at, if_pos rfl, rowOf_agree d (v + 1) (fr + 2 ^ d) (nat_turn φ v true)]
theorem Dg.one (hg : Good most F) {d v fr fr' : Nat} {k k' : Int} (h : Dg F bits d v fr k) (h' : Dg F bits d v fr' k') (e : ∀ r, r < 2 ^ d → bits.testBit (fr + r) = bits.testBit (fr' + r)) : k = k' := by
  refine D.one hg h h' (fun φ => ?_)
  have e1 := rowOf_shift φ d v fr
  have e2 := rowOf_shift φ d v fr'
  rw [e1, e2]
  exact e _ (by have := rowOf_lt φ d v 0; omega)
theorem Dg.row {d v fr r : Nat} {k : Int} (h : Dg F bits d v fr k) (hr : r < 2 ^ d) : evalP F (valF d v r) k = bits.testBit (fr + r) := by
  rw [h.2]
  simp only
  rw [rowOf_val _ d v fr r hr (fun _ _ _ => rfl)]
theorem Dg.same {d v fr fr' : Nat} {k : Int} (h : Dg F bits d v fr k) (h' : Dg F bits d v fr' k) : ∀ r, r < 2 ^ d → bits.testBit (fr + r) = bits.testBit (fr' + r) := fun r hr => by rw [← h.row hr, ← h'.row hr]
/-- A diagram asks its first variable just if its halves are unlike. -/
theorem Dg.asks (hg : Good most F) {d v fr : Nat} {k : Int} (hv : v < 1024) (h : Dg F bits (d + 1) v fr k) : (getN F k).v = v ↔ ¬ ∀ r, r < 2 ^ d → bits.testBit (fr + r) = bits.testBit (fr + 2 ^ d + r) := by
  obtain ⟨hu, hl, hh⟩ := h.halves hg hv
  constructor
  · intro e hs
    have e1 := hl.one hg hh hs
    rw [lowP, highP, if_pos e, if_pos e] at e1
    obtain ⟨i, ei, hi⟩ := h.1
    rw [ei, getN_in hi] at e e1
    exact (asks_at hg hi (by omega)).2.2.2.2 e1
  · intro hs
    by_cases e : (getN F k).v = v
    · exact e
    · rw [lowP, if_neg e] at hl
      rw [highP, if_neg e] at hh
      exact absurd (hl.same hh) hs
theorem Dg.rch (hg : Good most F) : ∀ (d v fr : Nat) (k : Int), v + d ≤ 1024 → Dg F bits d v fr k → ∀ x, (Rch F k x ↔ ∃ e i, e < d ∧ i < 2 ^ e ∧ Dg F bits (d - e) (v + e) (fr + i * 2 ^ (d - e)) x ∧ (getN F x).v = ((v + e : Nat) : Int))
  | 0, v, fr, k, hv, h, x => by
    constructor
    · intro hr
      exfalso
      have hfr := from_of_indep hg h.1 (v := 1024) (Nat.le_refl _) (fun f g _ => by rw [h.2, h.2]; rfl)
      obtain ⟨i, ei, hi, hvi⟩ := hfr
      have := hr.asks
      rw [ei, getN_in hi] at this
      omega
    · rintro ⟨e, i, he, _⟩
      omega
  | d + 1, v, fr, k, hv, h, x => by
    obtain ⟨hu, hl, hh⟩ := h.halves hg (by omega)
    have ihl := Dg.rch hg d (v + 1) fr _ (by omega) hl x
    have ihh := Dg.rch hg d (v + 1) (fr + 2 ^ d) _ (by omega) hh x
    have up : ∀ (e : Nat), e < d → d + 1 - (e + 1) = d - e ∧ v + (e + 1) = v + 1 + e ∧ 2 ^ (e + 1) = 2 ^ e + 2 ^ e ∧ 2 ^ e * 2 ^ (d - e) = 2 ^ d := fun e he => ⟨by omega, by omega, by rw [Nat.pow_succ]; omega, by rw [← Nat.pow_add]; congr 1; omega⟩
    have toL : ∀ e i, e < d → i < 2 ^ e → Dg F bits (d - e) (v + 1 + e) (fr + i * 2 ^ (d - e)) x → (getN F x).v = ((v + 1 + e : Nat) : Int) → ∃ e i, e < d + 1 ∧ i < 2 ^ e ∧ Dg F bits (d + 1 - e) (v + e) (fr + i * 2 ^ (d + 1 - e)) x ∧ (getN F x).v = ((v + e : Nat) : Int) := by
      intro e i he hi hd hx
      obtain ⟨u1, u2, u3, u4⟩ := up e he
      exact ⟨e + 1, i, by omega, by omega, by rw [u1, u2]; exact hd, by rw [u2]; exact hx⟩
    have toH : ∀ e i, e < d → i < 2 ^ e → Dg F bits (d - e) (v + 1 + e) (fr + 2 ^ d + i * 2 ^ (d - e)) x → (getN F x).v = ((v + 1 + e : Nat) : Int) → ∃ e i, e < d + 1 ∧ i < 2 ^ e ∧ Dg F bits (d + 1 - e) (v + e) (fr + i * 2 ^ (d + 1 - e)) x ∧ (getN F x).v = ((v + e : Nat) : Int) := by
      intro e i he hi hd hx
      obtain ⟨u1, u2, u3, u4⟩ := up e he
      refine ⟨e + 1, 2 ^ e + i, by omega, by omega, ?_, by rw [u2]; exact hx⟩
      rw [u1, u2, Nat.add_mul, u4, ← Nat.add_assoc]
      exact hd
    have fromA : (∃ e i, e < d + 1 ∧ i < 2 ^ e ∧ Dg F bits (d + 1 - e) (v + e) (fr + i * 2 ^ (d + 1 - e)) x ∧ (getN F x).v = ((v + e : Nat) : Int)) → (Dg F bits (d + 1) v fr x ∧ (getN F x).v = v) ∨ Rch F (lowP v k (getN F k)) x ∨ Rch F (highP v k (getN F k)) x := by
      rintro ⟨e, i, he, hi, hd, hx⟩
      cases e with
      | zero =>
        obtain rfl : i = 0 := by simpa using hi
        refine .inl ⟨?_, by simpa using hx⟩
        have e1 : d + 1 - 0 = d + 1 := rfl
        rw [e1, Nat.zero_mul, Nat.add_zero, Nat.add_zero] at hd
        exact hd
      | succ e =>
        obtain ⟨u1, u2, u3, u4⟩ := up e (by omega)
        rw [u1, u2] at hd
        rw [u2] at hx
        rcases Nat.lt_or_ge i (2 ^ e) with h1 | h1
        · exact .inr (.inl (ihl.2 ⟨e, i, by omega, h1, hd, hx⟩))
        · obtain ⟨i', rfl⟩ : ∃ i', i = 2 ^ e + i' := ⟨i - 2 ^ e, by omega⟩
          rw [Nat.add_mul, u4, ← Nat.add_assoc] at hd
          exact .inr (.inr (ihh.2 ⟨e, i', by omega, by omega, hd, hx⟩))
    by_cases ev : (getN F k).v = v
    · have hlt : (getN F k).v < 1024 := by omega
      have el : lowP v k (getN F k) = (getN F k).lo := by rw [lowP, if_pos ev]
      have eh : highP v k (getN F k) = (getN F k).hi := by rw [highP, if_pos ev]
      rw [el, eh] at fromA
      rw [el] at ihl
      rw [eh] at ihh
      constructor
      · intro hr
        rcases hr.ways.2 with h1 | h1 | h1
        · rw [h1]; exact ⟨0, 0, by omega, by simp, by simpa using h, by simpa using ev⟩
        · obtain ⟨e, i, he, hi, hd, hx⟩ := ihl.1 h1
          exact toL e i he hi hd hx
        · obtain ⟨e, i, he, hi, hd, hx⟩ := ihh.1 h1
          exact toH e i he hi hd hx
      · intro hr
        rcases fromA hr with ⟨h1, _⟩ | h1 | h1
        · rw [h1.one hg h (fun _ _ => rfl)]
          exact .self hlt
        · exact .lo hlt h1
        · exact .hi hlt h1
    · have el : lowP v k (getN F k) = k := by rw [lowP, if_neg ev]
      have eh : highP v k (getN F k) = k := by rw [highP, if_neg ev]
      rw [el, eh] at fromA
      rw [el] at ihl
      constructor
      · intro hr
        obtain ⟨e, i, he, hi, hd, hx⟩ := ihl.1 hr
        exact toL e i he hi hd hx
      · intro hr
        rcases fromA hr with ⟨h1, h2⟩ | h1 | h1
        · rw [h1.one hg h (fun _ _ => rfl)] at h2
          exact absurd h2 ev
        · exact h1
        · exact h1
theorem Dg.ex (hg : Good most F) : ∀ (e d v fr i : Nat) (k : Int), v + d ≤ 1024 → e ≤ d → i < 2 ^ e → Dg F bits d v fr k → ∃ x, Dg F bits (d - e) (v + e) (fr + i * 2 ^ (d - e)) x
  | 0, d, v, fr, i, k, hv, he, hi, h => by
    obtain rfl : i = 0 := by simpa using hi
    exact ⟨k, by simpa using h⟩
  | e + 1, 0, v, fr, i, k, hv, he, hi, h => by omega
  | e + 1, d + 1, v, fr, i, k, hv, he, hi, h => by
    obtain ⟨hu, hl, hh⟩ := h.halves hg (by omega)
    have u1 : d + 1 - (e + 1) = d - e := by omega
    have u2 : v + (e + 1) = v + 1 + e := by omega
    have u3 : 2 ^ (e + 1) = 2 ^ e + 2 ^ e := by rw [Nat.pow_succ]; omega
    have u4 : 2 ^ e * 2 ^ (d - e) = 2 ^ d := by rw [← Nat.pow_add]; congr 1; omega
    rw [u1, u2]
    rcases Nat.lt_or_ge i (2 ^ e) with h1 | h1
    · exact Dg.ex hg e d (v + 1) fr i _ (by omega) (by omega) h1 hl
    · obtain ⟨i', rfl⟩ : ∃ i', i = 2 ^ e + i' := ⟨i - 2 ^ e, by omega⟩
      obtain ⟨x, hx⟩ := Dg.ex hg e d (v + 1) (fr + 2 ^ d) i' _ (by omega) (by omega) (by omega) hh
      refine ⟨x, ?_⟩
      rw [Nat.add_mul, u4, ← Nat.add_assoc]
      exact hx
end
end Go.Proofs.Ytcbpklpehdojnaa
