/- TextSame, whole. -/
import Derived.Test.YthelllciciohiaaDoorU6
import Derived.Test.YthelllciciohiaaDoorU3b
namespace Go.Proofs.YthelllciciohiaaDoor
open Go.RowKit Go.Lib

theorem tsame_all (s : ShD) (hok : s.ok) (v : Value) (t : ShD) (hok2 : t.ok) (v2 : Value) (pl : Int) (_ : -9223372036854775808 ≤ pl ∧ pl ≤ 9223372036854775807) (w : World) (hv : ShAt w w.heap.size v s) (hv2 : ShAt w w.heap.size v2 t) (ht : TabP w) :
    Calls Tryd.prog 6 #[v, v2, .int .i64 pl] w fun e w' => e = .returned (.bool true) ∧ Below w.heap.size w w' := tsame_any own_said s t hok hok2 v v2 pl w hv hv2 ht
end Go.Proofs.YthelllciciohiaaDoor
