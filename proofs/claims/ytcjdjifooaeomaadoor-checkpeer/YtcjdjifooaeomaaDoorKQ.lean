/- What Number and Place say of no error; the variable that lies. -/
import Derived.Test.YtcjdjifooaeomaaDoorKP
import Derived.Test.YtcjdjifooaeomaaDoorKR
namespace Go.Proofs.YtcjdjifooaeomaaDoor
open Go.RowKit Go.Lib

theorem laid_pos {w : World} (h : Laid w) : 0 < w.heap.size := by
  rcases Nat.eq_zero_or_pos w.heap.size with h0 | h1
  · simp [Laid, World.cell?, h0] at h
  · exact h1
theorem laid_below {w w' : World} (h : Laid w) (q : Below w.heap.size w w') : Laid w' := by
  show w'.cell? ⟨0, 0, none⟩ = _
  rw [q.cell (p := ⟨0, 0, none⟩) (laid_pos h)]
  exact h
set_option maxHeartbeats 1000000 in
set_option maxRecDepth 20000 in
theorem number_nil (w : World) :
    Calls Tryd.prog 13 #[.nilIface] w fun e w' => e = .returned (.int .i64 0) ∧ Below w.heap.size w w' := by
  go_enter Tryd.func13, Tryd.ntmps13
  go_wp2_with (first | (go_at_call 27; refine (as_nil _ _).mono ?_; rintro e w' ⟨rfl, rfl⟩))
  go_ret
  exact ⟨rfl, (Below.refl _ _).alloc (Nat.le_refl _) _⟩
set_option maxHeartbeats 1000000 in
set_option maxRecDepth 20000 in
theorem place_nil (w : World) :
    Calls Tryd.prog 14 #[.nilIface] w fun e w' => e = .returned (.int .i64 (-1)) ∧ Below w.heap.size w w' := by
  go_enter Tryd.func14, Tryd.ntmps14
  go_wp2_with (first | (go_at_call 27; refine (as_nil _ _).mono ?_; rintro e w' ⟨rfl, rfl⟩))
  go_ret
  exact ⟨rfl, (Below.refl _ _).alloc (Nat.le_refl _) _⟩
end Go.Proofs.YtcjdjifooaeomaaDoor
