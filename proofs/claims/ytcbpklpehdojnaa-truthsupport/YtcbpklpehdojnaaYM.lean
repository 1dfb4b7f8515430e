/- The document's examples of package truth. -/
import Derived.Test.YtcbpklpehdojnaaYV2
namespace Go.Proofs.Ytcbpklpehdojnaa
open Go.RowKit

def three0 : List Nd := [⟨1024, 0, 0⟩, ⟨1024, 1, 1⟩, ⟨0, 0, 1⟩]
theorem bld0 : bld (clampN 20) 2 1 0 0 first2 = (2, three0) := by rfl
theorem cnt0 : cntB (tellR three0 (clampV 1) 0 2) (2 ^ clampV 1) = 1 := by decide
theorem sees0 : (seesP three0 2).length = 1 := by decide

set_option maxHeartbeats 400000 in
set_option maxRecDepth 20000 in
theorem awake4_any (w : World) :
    Calls Try.prog 8 #[] w fun e w' => e = .returned (.bool true) ∧ Below w.heap.size w w' := by
  go_enter Try.func8, Try.ntmps8
  go_wp2_with fail
  refine (of_any 20 w).mono ?_
  rintro e w1 ⟨rfl, a1, b1, s1⟩
  obtain ⟨p, hp, hp'⟩ : ∃ p, w.heap.size ≤ p ∧ p = w.heap.size + 2 := ⟨_, by omega, rfl⟩
  obtain ⟨m, hm, hm'⟩ : ∃ m, w.heap.size ≤ m ∧ m = w.heap.size + 1 := ⟨_, by omega, rfl⟩
  rw [← hp', ← hm'] at a1
  rw [← hp']
  clear hp' hm' s1
  have bL := (Below.refl w1.heap.size w1).alloc (Nat.le_refl _) (.cells #[.bool false, .bool true] 4)
  have hrow : RowsAt (w1.alloc (.cells #[.bool false, .bool true] 4)) w1.heap.size 0 (2 ^ 1) (fun i => Nat.testBit 2 i) := by
    intro i hi
    have hb := heap_new_at w1 (.cells #[.bool false, .bool true] 4) _ rfl
    simp only [World.cell?, hb]
    rcases (by omega : i = 0 ∨ i = 1) with rfl | rfl
    · rfl
    · rfl
  have v1 := trbuild_ok 2 1 (by decide) (a1.below bL) (b := w1.heap.size) (off := 0) (cap := 2) (by
    have := a1.ltp
    have := a1.ltg
    have := a1.ltm
    simp
    omega) (by decide) (by decide) hrow
  have B1 := Below.up b1 bL (Nat.le_refl _)
  rw [bld0] at v1
  clear hrow bL
  go_wp2_with fail
  refine v1.mono ?_
  rintro e w2 ⟨g2, c2, rfl, a2, k2, e2⟩
  obtain ⟨b2, hg2⟩ := next B1 (Nat.le_refl _) hp (Nat.le_refl _) hm k2 e2
  clear v1 a1 b1 k2 e2 B1
  have v2 := trcount_any a2 2 1
  rw [cnt0] at v2
  go_wp2_with fail
  refine v2.mono ?_
  rintro e w3 ⟨rfl, b3⟩
  have v3 := size_any (a2.below b3) 2
  rw [sees0] at v3
  clear v2
  go_wp2_with fail
  refine v3.mono ?_
  rintro e w4 ⟨rfl, b4⟩
  clear v3
  go_wp2_with fail
  go_ret
  exact ⟨rfl, Below.up (Below.up b2 b3 (Nat.le_refl _)) b4 (Nat.le_refl _)⟩
end Go.Proofs.Ytcbpklpehdojnaa
