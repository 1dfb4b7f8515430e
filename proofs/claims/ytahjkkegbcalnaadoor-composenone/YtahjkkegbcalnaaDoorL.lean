/- What puts diagrams together, whole. -/
import Derived.Test.YtahjkkegbcalnaaDoorQ3
namespace Go.Proofs.YtahjkkegbcalnaaDoor
open Go.RowKit Go.Maps

theorem const_of {most : Int} {ns : List Nd} (h : Good most ns) {N : Nat} (hu : Upto N ns) {k : Int} {v : Nat} (hk : From ns k v) (hv : N ≤ v) : k = 0 ∨ k = 1 := by
  obtain ⟨i, rfl, hi, hvi⟩ := hk
  rcases hu i hi with h1 | h1
  · omega
  · rcases ends_at h hi (by omega) with rfl | rfl
    · exact .inl rfl
    · exact .inr rfl
theorem in_wf {most : Int} {ns : List Nd} (h : Good most ns) {k : Int} (hk : In ns k) : (Lit.int .i64 k).wf = true := by
  obtain ⟨i, rfl, hi⟩ := hk
  have h1 := h.room
  have h2 := h.most
  exact wf_i64 (by omega) (by omega)
theorem getN_from {ns : List Nd} {k : Int} {v : Nat} (h : From ns k v) : (v : Int) ≤ (getN ns k).v := by
  obtain ⟨i, rfl, hi, hv⟩ := h
  rw [getN_in hi]
  exact hv
theorem getN_upto {most : Int} {ns : List Nd} (h : Good most ns) {N : Nat} (hu : Upto N ns) {k : Int} (hk : In ns k) (hne : ¬ (k = 0 ∨ k = 1)) : (getN ns k).v < N := by
  obtain ⟨i, rfl, hi⟩ := hk
  rw [getN_in hi]
  rcases hu i hi with h1 | h1
  · exact h1
  · exfalso
    rcases ends_at h hi (by omega) with rfl | rfl
    · exact hne (.inl rfl)
    · exact hne (.inr rfl)

/-- What is known behind a call that puts diagrams together. -/
def IPost (p m : Nat) (most : Int) (w : World) (g : Nat) (R : List Nd → Int → Int → Prop) (e : Ending) (w' : World) : Prop :=
  ∃ g' cap' ns' k err, e = .returned (.tuple #[.int .i64 k, errV err]) ∧ ArenaAt 39 35 w' p g' m cap' most ns' ∧ Kept [p, g, m] w w' ∧ (g' = g ∨ w.heap.size ≤ g') ∧ R ns' k err
def IOut (op : Bool → Bool → Bool → Bool) (N : Nat) (most : Int) (ns : List Nd) (d : Nd) (ns' : List Nd) (k err : Int) : Prop := ∃ kvs', JOut op N most N ns ⟨nodeP ns d.v, nodeP ns d.lo, nodeP ns d.hi⟩ ns' kvs' k err
theorem nodeP_in {most : Int} {ns : List Nd} (h : Good most ns) (k : Int) : In ns (nodeP ns k) := by
  unfold nodeP
  by_cases hb : hasB ns k = true
  · rw [if_pos hb]
    obtain ⟨i, rfl, hi⟩ := hasB_elim hb
    exact ⟨i, rfl, hi⟩
  · rw [if_neg hb]
    exact in0 h
theorem nodeP_is {ns : List Nd} {k : Int} (h : In ns k) : nodeP ns k = k := by
  obtain ⟨i, rfl, hi⟩ := h
  unfold nodeP
  rw [if_pos (hasB_nat.2 hi)]

end Go.Proofs.YtahjkkegbcalnaaDoor
