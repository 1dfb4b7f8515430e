/- TextLines, whole. -/
import Derived.Test.YthelllciciohiaaDoorU5
import Derived.Test.YthelllciciohiaaDoorUV
namespace Go.Proofs.YthelllciciohiaaDoor
open Go.RowKit Go.Lib

theorem tlines_all (s : ShD) (hok : s.ok) (v : Value) (w : World) (hv : ShAt w w.heap.size v s) (ht : TabP w) : Calls Tryd.prog 7 #[v] w fun e w' => e = .returned (.bool true) ∧ Below w.heap.size w w' :=
  tlines_any (fun s hok v w hv => sconf_any s hok v w hv) s hok v w hv ht
end Go.Proofs.YthelllciciohiaaDoor
