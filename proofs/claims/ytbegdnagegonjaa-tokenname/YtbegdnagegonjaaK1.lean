/- TokenName's walk. -/
import Derived.Test.YtbegdnagegonjaaKW
import Derived.Test.YtbegdnagegonjaaKN
namespace Go.Proofs.Ytbegdnagegonjaa
open Go.RowKit Go.Lib

set_option maxHeartbeats 1000000 in
set_option maxRecDepth 20000 in
theorem tokenName_walk (s : ByteArray) (hs : s.size ≤ maxLen) (w : World) :
    Calls Try.prog 3 #[.string s] w fun e w' => e = .returned (.bool true) ∧ Below w.heap.size w w' := by
  have h1 := awake6_any w
  have h2 := name_any s
  have h3 := lname_any s hs
  clear hs
  generalize nameP s.data.toList = b at h2 h3
  go_enter Try.func3, Try.ntmps3
  go_wp2_with fail
  refine h1.mono ?_
  rintro e W ⟨rfl, q⟩
  go_wp2_with fail
  refine (h2 _).mono ?_
  rintro e W1 ⟨rfl, rfl⟩
  go_wp2_with fail
  refine (h3 _).mono ?_
  rintro e W1 ⟨rfl, rfl⟩
  cases b
  all_goals go_wp2_with fail
  all_goals go_ret
  all_goals exact ⟨rfl, q⟩
end Go.Proofs.Ytbegdnagegonjaa
