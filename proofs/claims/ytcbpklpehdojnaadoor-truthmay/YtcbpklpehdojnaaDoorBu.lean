/- Build: the walk. -/
import Derived.Test.YtcbpklpehdojnaaDoorP
import Derived.Test.YtcbpklpehdojnaaDoorW
namespace Go.Proofs.YtcbpklpehdojnaaDoor
open Go.RowKit

theorem Kept.next {w W W' : World} {p g m g' : Nat} (h : Kept [p, g, m] w W) (hg : g' = g ∨ w.heap.size ≤ g') (k : Kept [p, g', m] W W') : Kept [p, g, m] w W' := by
  refine ⟨k.os.trans h.os, k.tape.trans h.tape, k.output.trans h.output, Nat.le_trans h.size k.size, fun i hi hn => ?_⟩
  have := h.size
  simp at hn
  rw [k.block i (by omega) (by simp; omega), h.block i hi (by simp; omega)]
theorem Kept.stays {own : List Nat} {w W : World} {b : Nat} {o : Obj} (h : Kept own w W) (hb : w.heap[b]? = some o) (hn : b ∉ own) : W.heap[b]? = some o :=
  (h.block b (Array.getElem?_eq_some_iff.1 hb).1 hn).trans hb

end Go.Proofs.YtcbpklpehdojnaaDoor
