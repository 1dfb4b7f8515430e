/- TextParts, whole. -/
import Derived.Test.YthelllciciohiaaDoorU4
import Derived.Test.YthelllciciohiaaDoorU3b
namespace Go.Proofs.YthelllciciohiaaDoor
open Go.RowKit Go.Lib

theorem tparts_all (s : ShD) (hok : s.ok) (v : Value) (t : ShD) (hok2 : t.ok) (v2 : Value) (w : World) (hv : ShAt w w.heap.size v s) (hv2 : ShAt w w.heap.size v2 t) (ht : TabP w) :
    Calls Tryd.prog 8 #[v, v2] w fun e w' => e = .returned (.bool true) ∧ Below w.heap.size w w' := tparts_any own_said s t hok hok2 v v2 w hv hv2 ht
end Go.Proofs.YthelllciciohiaaDoor
