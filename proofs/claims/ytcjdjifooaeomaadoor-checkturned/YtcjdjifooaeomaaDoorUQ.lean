/- What is kept while a configuration is made of numbers. -/
import Derived.Test.YtcjdjifooaeomaaDoorUP
import Derived.Test.YtcjdjifooaeomaaDoorHM
namespace Go.Proofs.YtcjdjifooaeomaaDoor
open Go.RowKit Go.Lib

/-- What lies while a configuration is made. -/
structure CS (w : World) (b1 b2 b3 : Nat) (bx : Array Value) (mv rv : Value) (lm : List MpV) (lr : List RoV) (W : World) : Prop where
  c : W.heap[b3]? = some (.cells #[mv, rv] 33 (0, 0))
  x : W.heap[b1]? = some (.cells bx 25 (0, 0))
  z : W.heap[b2]? = some (.cells #[.slice none 0 0, .slice none 0 0] 33 (0, 0))
  m : W.ownsRow w.heap.size 57 3 mv lm.length (lm.flatMap mpL)
  mc : ∀ p ∈ lm, Row1 W w.heap.size p
  r : W.ownsRow w.heap.size 48 5 rv lr.length (lr.flatMap roL)
  rc : ∀ p ∈ lr, Rows3 W w.heap.size p
  b : Below w.heap.size w W
section
variable {w W W' : World} {b1 b2 b3 : Nat} {bx : Array Value} {mv rv : Value} {lm : List MpV} {lr : List RoV}
theorem CS.below (h : CS w b1 b2 b3 bx mv rv lm lr W) (q : Below W.heap.size W W') : CS w b1 b2 b3 bx mv rv lm lr W' :=
  ⟨pf_block q h.c, pf_block q h.x, pf_block q h.z, own_bel h.m q, fun p hp => own_bel (h.mc p hp) q, own_bel h.r q, fun p hp => ⟨own_bel (h.rc p hp).1 q, own_bel (h.rc p hp).2.1 q, own_bel (h.rc p hp).2.2 q⟩, bel_up h.b q h.b.size⟩
end
theorem CS.conf {w W : World} {b1 b2 b3 : Nat} {bx : Array Value} {mv rv : Value} {lm : List MpV} {lr : List RoV} (h : CS w b1 b2 b3 bx mv rv lm lr W) (h1 : lm.length ≤ 100 ∧ lr.length ≤ 100) (h2 : ∀ p ∈ lm, p.1.cls.length ≤ 100) (h3 : ∀ p ∈ lr, p.1.nets.length ≤ 100 ∧ p.1.lks.length ≤ 100 ∧ p.1.sts.length ≤ 100) :
    CfAt W W.heap.size (.agg #[mv, rv]) ⟨lm.map (·.1), lr.map (·.1)⟩ := by
  refine ⟨mv, rv, rfl, slice_fst (slice_of_own2 mpL (fun _ => rfl) (fun b o p hp _ hc => mpL_at (h.mc p hp) (by have := h2 p hp; omega) hc) (by omega) h.m), slice_fst (slice_of_own2 roL (fun _ => rfl) (fun b o p hp _ hc => roL_at (h.rc p hp) (by have := h3 p hp; omega) hc) (by omega) h.r)⟩
end Go.Proofs.YtcjdjifooaeomaaDoor
