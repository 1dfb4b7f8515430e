/- ClauseDo: the walk. -/
import Derived.Test.YtphhfjfdanlhiaaFG
import Derived.Test.YtphhfjfdanlhiaaFE
import Derived.Test.YtphhfjfdanlhiaaUP
namespace Go.Proofs.Ytphhfjfdanlhiaa
open Go.RowKit Go.Lib

theorem clausesS_ok {rs : List RlD} (h : ∀ r ∈ rs, r.ok) : ∀ c ∈ clausesS rs, c.ok := fun c hc => by
  obtain ⟨r, hr, rfl⟩ := List.mem_map.1 hc
  exact ruleC_ok (h r (List.mem_of_mem_take hr))
theorem clausesS_len (rs : List RlD) : (clausesS rs).length ≤ 5 := by
  unfold clausesS
  rw [List.length_map, List.length_take]
  omega
theorem rls_keep {W W' : World} {B : Nat} {v : Value} {l : List RlD} (h : SliceAt B 6 (RlAt W) v l) (k : Below B W W') : SliceAt B 6 (RlAt W') v l :=
  h.mono (Nat.le_refl _) fun _ _ _ hb h => h.keep hb (cells_below k (Nat.le_refl _))
end Go.Proofs.Ytphhfjfdanlhiaa
