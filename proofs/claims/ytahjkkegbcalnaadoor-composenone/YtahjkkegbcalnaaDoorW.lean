/- Variable, and the document's examples. -/
import Derived.Test.YtahjkkegbcalnaaDoorE
import Derived.Test.YtahjkkegbcalnaaDoorV
namespace Go.Proofs.YtahjkkegbcalnaaDoor
open Go.RowKit

theorem errV_zero : errV 0 = .nilIface := rfl
section
variable {w : World} {p g m cap : Nat} {most : Int} {ns : List Nd}

/-- The arena is as it was where only other blocks have turned. -/
theorem Kept.up {own : List Nat} {w W W' : World} (h : Kept own w W) (h' : Below W.heap.size W W') : Kept own w W' :=
  ⟨h'.os.trans h.os, h'.tape.trans h.tape, h'.output.trans h.output, Nat.le_trans h.size h'.size, fun k hk hn => (h'.block k (Nat.lt_of_lt_of_le hk h.size)).trans (h.block k hk hn)⟩
/-- What was there ahead of an arena is there behind what is made in it. -/
theorem Below.kept {B : Nat} {own : List Nat} {w W W' : World} (h : Below B w W) (h' : Kept own W W') (hB : B ≤ w.heap.size) (hown : ∀ k ∈ own, B ≤ k) : Below B w W' :=
  ⟨h'.os.trans h.os, h'.tape.trans h.tape, h'.output.trans h.output, Nat.le_trans h.size h'.size, fun k hk => (h'.block k (by have := h.size; omega) (fun hm => by have := hown k hm; omega)).trans (h.block k hk)⟩

set_option maxHeartbeats 400000 in
set_option maxRecDepth 20000 in
theorem variable_any (h : ArenaAt 39 35 w p g m cap most ns) (v : Int) :
    Calls Tryd.prog 9 #[.pointer (some ⟨p, 0, none⟩), .int .i64 v] w fun e w' => ∃ g' cap', e = .returned (.tuple #[.int .i64 (mkR most ns v 0 1).1, errV (mkR most ns v 0 1).2.1]) ∧ ArenaAt 39 35 w' p g' m cap' most (mkR most ns v 0 1).2.2 ∧ Kept [p, g, m] w w' ∧ (g' = g ∨ w.heap.size ≤ g') := by
  have hm := mk_any h v 0 1
  generalize mkR most ns v 0 1 = r at hm ⊢
  clear h
  go_enter Tryd.func9, Tryd.ntmps9
  go_wp2_with fail
  refine hm.mono ?_
  rintro e w1 ⟨g', cap', rfl, h1, h2, h3⟩
  go_wp2_with fail
  go_ret2
  exact ⟨g', cap', rfl, h1, h2, h3⟩
end

/-- What is below B stays, and the arena's blocks stay from B on. -/
theorem next {B : Nat} {w W W' : World} {p g m g' : Nat} (b : Below B w W) (hB : B ≤ w.heap.size) (hp : B ≤ p) (hg : B ≤ g) (hm : B ≤ m) (k : Kept [p, g, m] W W') (e : g' = g ∨ W.heap.size ≤ g') : Below B w W' ∧ B ≤ g' := by
  have := b.size
  refine ⟨Below.kept b k hB (fun x hx => by simp at hx; omega), ?_⟩
  omega

end Go.Proofs.YtahjkkegbcalnaaDoor
