/- Configurations as they lie in memory. -/
import Derived.Test.YtcjdjifooaeomaaDoorUE
import Derived.Test.YtcjdjifooaeomaaDoorUB
import Derived.Test.YtcjdjifooaeomaaDoorHM
namespace Go.Proofs.YtcjdjifooaeomaaDoor
open Go.RowKit Go.Lib

theorem oth_below {e : TypeId} {b : Option Nat} {w w' : World} (q : Below w.heap.size w w') : Lib.OthersKept e b w w' := fun _ _ h _ _ => pf_block q h
/-- Another block than the builder's, of another type than bytes. -/
theorem oth_block {b2 b t : Nat} {w w' : World} {cs : Array Value} (h : Lib.OthersKept 5 (some b2) w w') (hb : w.heap[b]? = some (.cells cs t (0, 0))) (hne : b ≠ b2) (ht : t ≠ 5) : w'.heap[b]? = some (.cells cs t (0, 0)) :=
  h b _ hb (by simpa using hne) (by intro c fz e; injection e with _ e2 _; exact ht e2)
end Go.Proofs.YtcjdjifooaeomaaDoor
