/- The document's examples of package compose. -/
import Derived.Test.YtahjkkegbcalnaaDoorXC
namespace Go.Proofs.YtahjkkegbcalnaaDoor
open Go.RowKit

set_option maxHeartbeats 400000 in
set_option maxRecDepth 20000 in
theorem awake3_any (w : World) :
    Calls Tryd.prog 4 #[] w fun e w' => e = .returned (.bool true) ∧ Below w.heap.size w w' := by
  have hnil := errV_zero
  go_enter Tryd.func4, Tryd.ntmps4
  go_wp2_with fail
  refine (of_any 20 w).mono ?_
  rintro e w1 ⟨rfl, a1, b1, s1⟩
  obtain ⟨p, hp, hp'⟩ : ∃ p, w.heap.size ≤ p ∧ p = w.heap.size + 2 := ⟨_, by omega, rfl⟩
  obtain ⟨m, hm, hm'⟩ : ∃ m, w.heap.size ≤ m ∧ m = w.heap.size + 1 := ⟨_, by omega, rfl⟩
  rw [← hp', ← hm'] at a1
  rw [← hp']
  clear hp' hm' s1
  have v1 := variable_any a1 2
  rw [mk2a] at v1
  go_wp2_with fail
  refine v1.mono ?_
  rintro e w2 ⟨g2, c2, rfl, a2, k2, e2⟩
  obtain ⟨b2, hg2⟩ := next b1 (Nat.le_refl _) hp (Nat.le_refl _) hm k2 e2
  clear v1 a1 b1 k2 e2
  have g0 := a2.good
  have v2 := csome_any a2 (N := 3) (by decide) upto2 2 2
  go_wp2_with fail
  refine v2.mono ?_
  rintro e w3 ⟨g3, c3, n3, k, e1, rfl, a3, k3, e3, O3⟩
  obtain ⟨b3, hg3⟩ := next b2 (Nat.le_refl _) hp hg2 hm k3 e3
  obtain ⟨rfl, W3⟩ := cout_some g0 (d2 g0) O3 (by decide)
  have x3 : n3 = three2 := W3.new 1 ((d1 g0).eq (fun φ => by simp [turn]))
  obtain rfl : k = 1 := W3.is.one W3.good (d1 W3.good) (fun φ => by simp [turn])
  subst x3
  clear v2 a2 b2 k3 e3 O3 W3
  have v3 := crestrict_any a3 (N := 3) (by decide) upto2 2 2 false
  go_wp2_with fail
  refine v3.mono ?_
  rintro e w4 ⟨g4, c4, n4, k', e1, rfl, a4, k4, e4, O4⟩
  obtain ⟨b4, hg4⟩ := next b3 (Nat.le_refl _) hp hg3 hm k4 e4
  obtain ⟨rfl, W4⟩ := cout_restrict g0 (d2 g0) O4 (by decide)
  obtain rfl : k' = 0 := W4.is.one W4.good (d0 W4.good) (fun φ => by simp [turn])
  clear v3 a3 b3 k4 e4 O4 W4
  go_wp2_with fail
  go_ret
  exact ⟨rfl, b4⟩
end Go.Proofs.YtahjkkegbcalnaaDoor
