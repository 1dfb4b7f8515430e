/- What the small functions do: Better, Same, Origin, the law's awake. -/
import Derived.Test.YtffibcmffdbbfaaRA
import Derived.Test.YtffibcmffdbbfaaHQ
import Derived.Test.YtffibcmffdbbfaaChecked
namespace Go.Proofs.Ytffibcmffdbbfaa
open Go.RowKit

theorem bel_alloc2 (w : World) (o p : Obj) : Below w.heap.size w ((w.alloc o).alloc p) := bel_alloc (bel_alloc (Below.refl _ _) o) p
theorem bool_ret {x y : Bool} (h : x = true ↔ y = true) : Ending.returned (Value.bool x) = Ending.returned (Value.bool y) := by rw [bool_of h]
theorem better_any (a b : At) (w : World) :
    Calls Try.prog 9 #[atV a, atV b] w fun e w' => e = .returned (.bool (betP a b)) ∧ Below w.heap.size w w' := by
  obtain ⟨ao, ap, ac, at'⟩ := a
  obtain ⟨bo, bp, bc, bt⟩ := b
  unfold atV betP
  simp only
  cases ao <;> cases bo
  all_goals
    go_enter Try.func9, Try.ntmps9
    go_wp2_with fail
  all_goals
    go_ret
    refine ⟨bool_ret ?_, bel_alloc2 _ _ _⟩
    simp_all
    try omega
theorem same_any (a b : At) (w : World) :
    Calls Try.prog 10 #[atV a, atV b] w fun e w' => e = .returned (.bool (samP a b)) ∧ Below w.heap.size w w' := by
  obtain ⟨ao, ap, ac, at'⟩ := a
  obtain ⟨bo, bp, bc, bt⟩ := b
  unfold atV samP eqP
  simp only
  go_enter Try.func10, Try.ntmps10
  go_wp2_with fail
  all_goals
    go_ret
    refine ⟨bool_ret ?_, bel_alloc2 _ _ _⟩
    simp_all
    try omega
theorem cells_four {w : World} {b t : Nat} {x y z u : Value} (h : w.heap[b]? = some (.cells #[x, y, z, u] t (0, 0))) : w.cell? ⟨b, 0, none⟩ = some x ∧ w.cell? ⟨b, 1, none⟩ = some y ∧ w.cell? ⟨b, 2, none⟩ = some z ∧ w.cell? ⟨b, 3, none⟩ = some u := by
  refine ⟨?_, ?_, ?_, ?_⟩ <;> simp [World.cell?, h]
theorem origin_any (w : World) :
    Calls Try.prog 12 #[] w fun e w' => e = .returned (atV ⟨true, 100, 0, 0⟩) ∧ Below w.heap.size w w' := by
  unfold atV
  go_enter Try.func12, Try.ntmps12
  go_wp2_with fail
  obtain ⟨W0, W1, W2, W3⟩ := cells_four (pf_new w (.cells #[.bool true, .int .i64 100, .int .i64 0, .int .u8 0] 23) _ rfl)
  refine bodyPost_ret (v := .agg #[.bool true, .int .i64 100, .int .i64 0, .int .u8 0]) (by simp [results, Try.results12, go_sem, W0, W1, W2, W3]) rfl ?_
  exact ⟨rfl, bel_alloc (Below.refl _ _) _⟩
theorem awake10_any (w : World) :
    Calls Try.prog 8 #[] w fun e w' => e = .returned (.bool true) ∧ Below w.heap.size w w' := by
  have hb := better_any ⟨true, 200, 9, 0⟩ ⟨true, 100, 1, 0⟩
  have hbt : betP ⟨true, 200, 9, 0⟩ ⟨true, 100, 1, 0⟩ = true := by decide
  rw [hbt] at hb
  have ho := origin_any
  unfold atV at hb ho
  simp only at hb ho
  go_enter Try.func8, Try.ntmps8
  go_wp2_with (first
    | (go_at_call 9; refine (hb _).mono ?_; rintro e W1 ⟨rfl, q1⟩)
    | (go_at_call 12; refine (ho _).mono ?_; rintro e W2 ⟨rfl, q2⟩))
  go_ret
  exact ⟨rfl, bel_up q1 q2 q1.size⟩
end Go.Proofs.Ytffibcmffdbbfaa
