/- Config is as said. -/
import Derived.Test.YthelllciciohiaaDoorU3
import Derived.Test.YthelllciciohiaaDoorUV
namespace Go.Proofs.YthelllciciohiaaDoor
open Go.RowKit Go.Lib

theorem own_said : OwnSaid := fun s hok v w hv =>
  (sconf_own s hok v w hv).mono fun _ _ ⟨mv, rv, lm, lr, he, ho, h1, h2, q⟩ => ⟨_, he, ⟨mv, rv, lm, lr, rfl, ho, h1, h2⟩, q⟩
end Go.Proofs.YthelllciciohiaaDoor
