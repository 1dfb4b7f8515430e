/- The document's example. -/
import Derived.Test.YtgofhgbffgmjhaaDoorHE
import Derived.Test.YtgofhgbffgmjhaaDoorHP
namespace Go.Proofs.YtgofhgbffgmjhaaDoor
open Go.RowKit Go.Lib

theorem ex_read : parseP [49, 48, 46, 49, 46, 48, 46, 48, 47, 49, 54] = some (167837696, 16) := by decide +kernel
theorem ex_text : textP 167837696 16 = [49, 48, 46, 49, 46, 48, 46, 48, 47, 49, 54] := (parse_is ex_read).2.2.symm
theorem ex_may : mayP 167837696 16 = true := by decide +kernel
set_option maxHeartbeats 2000000 in
set_option maxRecDepth 20000 in
theorem awake5_any (w : World) (ht : TabP w) :
    Calls Tryd.prog 9 #[] w fun e w' => e = .returned (.bool true) ∧ Below w.heap.size w w' := by
  have pp : ∀ w, Calls Tryd.prog 14 #[.string ⟨#[49, 48, 46, 49, 46, 48, 46, 48, 47, 49, 54]⟩] w fun e w' => e = .returned (.tuple #[.agg #[.int .u32 167837696, .int .i64 16], .bool true]) ∧ Below w.heap.size w w' := fun w => by
    have h := parse_l [49, 48, 46, 49, 46, 48, 46, 48, 47, 49, 54] (by unfold maxLen; decide) w
    rw [ex_read] at h
    exact h
  have pt : ∀ w, TabP w → Calls Tryd.prog 12 #[.agg #[.int .u32 167837696, .int .i64 16]] w fun e w' => e = .returned (.string ⟨#[49, 48, 46, 49, 46, 48, 46, 48, 47, 49, 54]⟩) ∧ Below w.heap.size w w' := fun w h => by
    have h := ptext_any 167837696 16 (by decide) ex_may w h
    rw [ex_text] at h
    exact h
  have HT : Hid (∀ w, TabP w → Calls Tryd.prog 12 #[.agg #[.int .u32 167837696, .int .i64 16]] w fun e w' => e = .returned (.string ⟨#[49, 48, 46, 49, 46, 48, 46, 48, 47, 49, 54]⟩) ∧ Below w.heap.size w w') := pt
  clear pt
  go_enter Tryd.func9, Tryd.ntmps9
  go_wp2_with fail
  refine (pp _).mono ?_
  rintro e w1 ⟨rfl, q1⟩
  clear pp
  go_wp2_with fail
  have q2 : Below w.heap.size w (w1.alloc (.cells #[.int .u32 167837696, .int .i64 16] 24)) := bel_alloc q1 _
  refine (HT.out _ (ht.below q2)).mono ?_
  rintro e w3 ⟨rfl, q3⟩
  go_wp2_with fail
  go_ret
  exact ⟨rfl, bel_up q2 q3 q2.size⟩
end Go.Proofs.YtgofhgbffgmjhaaDoor
