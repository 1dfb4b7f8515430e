/- TextConfig, whole. -/
import Derived.Test.YthelllciciohiaaDoorU2
import Derived.Test.YthelllciciohiaaDoorUV
namespace Go.Proofs.YthelllciciohiaaDoor
open Go.RowKit Go.Lib

theorem tconfig_any (s : ShD) (hok : s.ok) (v : Value) (w : World) (hv : ShAt w w.heap.size v s) (ht : TabP w) : Calls Tryd.prog 4 #[v] w fun e w' => e = .returned (.bool true) ∧ Below w.heap.size w w' :=
  tcfg_any (fun s hok v w hv => sconf_any s hok v w hv) s hok v w hv ht
end Go.Proofs.YthelllciciohiaaDoor
