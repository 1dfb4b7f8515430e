/- Variable, and the document's examples. -/
import Derived.Test.YtcbpklpehdojnaaE
import Derived.Test.YtcbpklpehdojnaaV
namespace Go.Proofs.Ytcbpklpehdojnaa
open Go.RowKit

theorem errV_zero : errV 0 = .nilIface := rfl
section
variable {w : World} {p g m cap : Nat} {most : Int} {ns : List Nd}

/-- The arena is as it was where only other blocks have turned. -/
theorem Kept.up {own : List Nat} {w W W' : World} (h : Kept own w W) (h' : Below W.heap.size W W') : Kept own w W' :=
  ⟨h'.os.trans h.os, h'.tape.trans h.tape, h'.output.trans h.output, Nat.le_trans h.size h'.size, fun k hk hn => (h'.block k (Nat.lt_of_lt_of_le hk h.size)).trans (h.block k hk hn)⟩
/-- What was there ahead of an arena is there behind what is made in it. -/
theorem Below.kept {B : Nat} {own : List Nat} {w W W' : World} (h : Below B w W) (h' : Kept own W W') (hB : B ≤ w.heap.size) (hown : ∀ k ∈ own, B ≤ k) : Below B w W' :=
  ⟨h'.os.trans h.os, h'.tape.trans h.tape, h'.output.trans h.output, Nat.le_trans h.size h'.size, fun k hk => (h'.block k (by have := h.size; omega) (fun hm => by have := hown k hm; omega)).trans (h.block k hk)⟩

end

/-- What is below B stays, and the arena's blocks stay from B on. -/
theorem next {B : Nat} {w W W' : World} {p g m g' : Nat} (b : Below B w W) (hB : B ≤ w.heap.size) (hp : B ≤ p) (hg : B ≤ g) (hm : B ≤ m) (k : Kept [p, g, m] W W') (e : g' = g ∨ W.heap.size ≤ g') : Below B w W' ∧ B ≤ g' := by
  have := b.size
  refine ⟨Below.kept b k hB (fun x hx => by simp at hx; omega), ?_⟩
  omega

end Go.Proofs.Ytcbpklpehdojnaa
