/- ComposeNone: the walk. -/
import Derived.Test.YtahjkkegbcalnaaDoorXM
import Derived.Test.YtahjkkegbcalnaaDoorN2
namespace Go.Proofs.YtahjkkegbcalnaaDoor
open Go.RowKit

theorem c20 : clampN 20 = 20 := rfl
theorem upto_two (N : Nat) : Upto N first2 := by
  intro i hi
  simp [first2] at hi
  rcases (by omega : i = 0 ∨ i = 1) with rfl | rfl
  · right; rfl
  · right; rfl
/-- A number counts as yes, if it is its; else as no. -/
def wantP (f : Int) : Int := if f = 1 then 1 else 0
theorem nodeP_two (f : Int) : nodeP first2 f = wantP f := by
  unfold wantP
  by_cases h1 : f = 1
  · subst h1; rfl
  · rw [if_neg h1]
    unfold nodeP
    by_cases h0 : f = 0
    · subst h0; rfl
    · rw [if_neg]
      intro h
      obtain ⟨i, rfl, hi⟩ := hasB_elim h
      simp [first2] at hi
      omega
theorem none_out {ru v f g k err : Int} {ns' : List Nd} (hg : Good 20 first2) (h : COut ru v 0 20 first2 f g ns' k err) : err = 0 ∧ k = wantP f ∧ ns' = first2 := by
  rcases h with ⟨_, _, h1⟩ | ⟨e0, W⟩
  · simp [first2] at h1
  · refine ⟨e0, ?_⟩
    rw [nodeP_two f] at W
    have hd : D first2 (wantP f) (M3 (opOf ru) first2 v ⟨nodeP first2 g, wantP f, wantP f⟩) := by
      unfold wantP
      by_cases h1 : f = 1
      · rw [if_pos h1]
        refine ⟨in1 hg, fun φ => ?_⟩
        unfold M3
        simp only
        rw [eval1 hg, eval1 hg, eval1 hg, opOf_same]
      · rw [if_neg h1]
        refine ⟨in0 hg, fun φ => ?_⟩
        unfold M3
        simp only
        rw [eval0 hg, eval0 hg, eval0 hg, opOf_same]
    have e := W.new _ hd
    subst e
    exact ⟨W.is.one hg hd (fun _ => rfl), rfl⟩

set_option maxHeartbeats 1000000 in
set_option maxRecDepth 20000 in
theorem none_law (f v : Int) (one : Bool) (w : World) (_hg : Laid w) :
    Calls Tryd.prog 3 #[.int .i64 f, .int .i64 v, .bool one] w fun e w' => e = .returned (.bool true) ∧ Below w.heap.size w w' := by
  have hnil := errV_zero
  clear _hg
  go_enter Tryd.func3, Tryd.ntmps3
  go_wp2_with fail
  refine (awake3_any w).mono ?_
  rintro e w0 ⟨rfl, b0⟩
  go_wp2_with fail
  refine (of_any 20 w0).mono ?_
  rintro e w1 ⟨rfl, a1, b1, s1⟩
  have B1 := Below.up b0 b1 (Nat.le_refl _)
  have hs0 := b0.size
  obtain ⟨p, hp, hp'⟩ : ∃ p, w.heap.size ≤ p ∧ p = w0.heap.size + 2 := ⟨_, by omega, rfl⟩
  obtain ⟨gg, hgg, hg'⟩ : ∃ gg, w.heap.size ≤ gg ∧ gg = w0.heap.size := ⟨_, by omega, rfl⟩
  obtain ⟨m, hmm, hm'⟩ : ∃ m, w.heap.size ≤ m ∧ m = w0.heap.size + 1 := ⟨_, by omega, rfl⟩
  rw [← hp', ← hm', ← hg', c20] at a1
  rw [← hp']
  clear hp' hm' hg' s1 b0 b1 hs0
  have v2 := crestrict_any a1 (N := 0) (by decide) (upto_two 0) f v one
  generalize (if one = true then (1 : Int) else 0) = g1 at v2
  go_wp2_with fail
  refine v2.mono ?_
  rintro e w3 ⟨g3, c3, n3, k3, e1, rfl, a3, q3, e3, O3⟩
  obtain ⟨b3, hg3⟩ := next B1 (Nat.le_refl _) hp hgg hmm q3 e3
  obtain ⟨rfl, hk3, rfl⟩ := none_out a1.good O3
  clear v2 a1 B1 q3 e3 O3 hgg
  have v3 := csome_any a3 (N := 0) (by decide) (upto_two 0) f v
  have hnum := fun W => number_nil W
  unfold wantP at hk3
  by_cases h1 : f = 1
  · subst h1
    rw [if_pos rfl] at hk3
    subst hk3
    go_wp2_with fail
    refine v3.mono ?_
    rintro e w4 ⟨g4, c4, n4, k4, e1, rfl, a4, q4, e4, O4⟩
    obtain ⟨b4, hg4⟩ := next b3 (Nat.le_refl _) hp hg3 hmm q4 e4
    obtain ⟨rfl, hk4, rfl⟩ := none_out a3.good O4
    unfold wantP at hk4
    rw [if_pos rfl] at hk4
    subst hk4
    clear v3 a3 b3 q4 e4 O4
    go_wp2_with fail
    refine (hnum _).mono ?_
    rintro e w5 ⟨rfl, b5⟩
    go_wp2_with fail
    go_ret
    exact ⟨rfl, Below.up b4 b5 (Nat.le_refl _)⟩
  · rw [if_neg h1] at hk3
    subst hk3
    go_wp2_with fail
    refine v3.mono ?_
    rintro e w4 ⟨g4, c4, n4, k4, e1, rfl, a4, q4, e4, O4⟩
    obtain ⟨b4, hg4⟩ := next b3 (Nat.le_refl _) hp hg3 hmm q4 e4
    obtain ⟨rfl, hk4, rfl⟩ := none_out a3.good O4
    unfold wantP at hk4
    rw [if_neg h1] at hk4
    subst hk4
    clear v3 a3 b3 q4 e4 O4
    go_wp2_with fail
    refine (hnum _).mono ?_
    rintro e w5 ⟨rfl, b5⟩
    go_wp2_with fail
    go_ret
    exact ⟨rfl, Below.up b4 b5 (Nat.le_refl _)⟩
end Go.Proofs.YtahjkkegbcalnaaDoor
