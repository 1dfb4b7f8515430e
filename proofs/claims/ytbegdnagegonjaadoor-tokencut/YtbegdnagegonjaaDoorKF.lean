/- Cut of a text that is too long; Cut of any text. -/
import Derived.Test.YtbegdnagegonjaaDoorKE
namespace Go.Proofs.YtbegdnagegonjaaDoor
open Go.RowKit Go.Lib

theorem cut_long (s : ByteArray) (hs : 65536 < s.size) (w : World) :
    Calls Tryd.prog 8 #[.string s] w fun e w' => e = .returned (.tuple #[.slice none 0 0, faV 7 0]) ∧ w' = w := by
  have d : decide ((65536 : Int) < s.size) = true := decide_eq_true (by omega)
  have h := wrap_any 7 0
  go_enter Tryd.func8, Tryd.ntmps8
  go_wp2_with fail
  go_step3
  go_wp2_with fail
  refine (h _).mono ?_
  rintro e W ⟨rfl, rfl⟩
  go_wp2_with fail
  (try rw [Exit.noGoto_ret])
  go_ret2
  exact ⟨rfl, rfl⟩
end Go.Proofs.YtbegdnagegonjaaDoor
