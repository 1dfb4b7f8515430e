/- ComposeSelf: the walk. -/
import Derived.Test.YtahjkkegbcalnaaX1
namespace Go.Proofs.Ytahjkkegbcalnaa
open Go.RowKit

theorem turn_swap (φ : Int → Bool) {i k : Int} (h : i ≠ k) (a b : Bool) : turn (turn φ k b) i a = turn (turn φ i a) k b := by
  funext x
  unfold turn
  by_cases h1 : x = i
  · have h2 : x ≠ k := by omega
    rw [if_pos h1, if_neg h2, if_pos h1]
  · rw [if_neg h1]
    by_cases h2 : x = k
    · rw [if_pos h2, if_pos h2]
    · rw [if_neg h2, if_neg h2, if_neg h1]

set_option maxHeartbeats 1000000 in
set_option maxRecDepth 20000 in
theorem self_law (f v u : Nat) (hf : f < 65536) (hv : v < 256) (hu : u < 256) (w : World) :
    Calls Try.prog 6 #[.int .u16 f, .int .u8 v, .int .u8 u] w fun e w' => e = .returned (.bool true) ∧ Below w.heap.size w w' := by
  have hnil := errV_zero
  obtain ⟨i, hi, hi4⟩ : ∃ i : Nat, (v : Int) % 4 = i ∧ i < 4 := ⟨v % 4, by omega, by omega⟩
  have hi4' : (i : Int) < 4 := by omega
  have h0v : (0 : Int) ≤ v := by omega
  have h1v : (v : Int) < 256 := by omega
  obtain ⟨k, hk, hk4⟩ : ∃ k : Nat, (u : Int) % 4 = k ∧ k < 4 := ⟨u % 4, by omega, by omega⟩
  have hk4' : (k : Int) < 4 := by omega
  have h0u : (0 : Int) ≤ u := by omega
  have h1u : (u : Int) < 256 := by omega
  go_enter Try.func6, Try.ntmps6
  go_wp2_with fail
  refine (awake3_any w).mono ?_
  rintro e w0 ⟨rfl, b0⟩
  go_wp2_with fail
  refine (of_any 300 w0).mono ?_
  rintro e w1 ⟨rfl, a1, b1, s1⟩
  have B1 := Below.up b0 b1 (Nat.le_refl _)
  have hs0 := b0.size
  obtain ⟨p, hp, hp'⟩ : ∃ p, w.heap.size ≤ p ∧ p = w0.heap.size + 2 := ⟨_, by omega, rfl⟩
  obtain ⟨gg, hgg, hg'⟩ : ∃ gg, w.heap.size ≤ gg ∧ gg = w0.heap.size := ⟨_, by omega, rfl⟩
  obtain ⟨m, hmm, hm'⟩ : ∃ m, w.heap.size ≤ m ∧ m = w0.heap.size + 1 := ⟨_, by omega, rfl⟩
  rw [← hp', ← hm', ← hg', c300] at a1
  rw [← hp']
  clear hp' hm' hg' s1 b0 b1 hs0
  have m1 := build_any f hf a1
  have D1 := built f a1.good (upto_first 4) (by rw [len2]; decide)
  have L1 := D1.len
  rw [len2] at L1
  generalize bld 300 f 4 0 0 first2 = R1 at m1 D1 L1
  go_wp2_with fail
  refine m1.mono ?_
  rintro e w2 ⟨g2, c2, rfl, a2, q2, e2⟩
  obtain ⟨b2, hg2⟩ := next B1 (Nat.le_refl _) hp hgg hmm q2 e2
  clear m1 a1 B1 q2 e2 hgg
  have v2 := column_any i hi4
  have hcl := colN_lt i
  have hct := tb_col i hi4
  generalize colN i = col at *
  go_wp2_with fail
  refine (v2 _).mono ?_
  rintro e w3 ⟨rfl, b3⟩
  replace a2 := a2.below b3
  replace b2 := Below.up b2 b3 (Nat.le_refl _)
  clear v2 b3
  have m2 := build_any col hcl a2
  have D2 := built col a2.good D1.upto (by omega)
  have L2 := D2.len
  generalize bld 300 col 4 0 0 R1.2 = R2 at m2 D2 L2
  go_wp2_with fail
  refine m2.mono ?_
  rintro e w4 ⟨g4, c4, rfl, a4, q4, e4⟩
  obtain ⟨b4, hg4⟩ := next b2 (Nat.le_refl _) hp hg2 hmm q4 e4
  have x1 := D1.is.on D1.good D2.good D2.on
  have x2 := D2.is
  have u2 := D2.upto
  have G2 := D2.good
  clear m2 b2 q4 e4 hg2 a2 D1 D2
  have v3 := cof_any a4 (N := 4) (by decide) u2 R1.1 i R2.1
  go_wp2_with fail
  refine v3.mono ?_
  rintro e w5 ⟨g5, c5, n5, y, e1, rfl, a5, q5, e5, O5⟩
  obtain ⟨b5, hg5⟩ := next b4 (Nat.le_refl _) hp hg4 hmm q5 e5
  obtain ⟨rfl, W5⟩ := cout_of x1 x2 O5 (room4 (by omega))
  have L5 := W5.len4
  have x5 := x1.on G2 W5.good W5.on
  have hy : y = R1.1 := W5.is.one W5.good x5 (fun φ => by
    rw [hct]
    cases hφ : φ i with
    | true => simp only [if_true]; rw [← hφ, turn_self]
    | false => simp only [Bool.false_eq_true, if_false]; rw [← hφ, turn_self])
  subst hy
  have u5 := W5.upto
  have G5 := W5.good
  clear v3 a4 b4 q5 e5 O5 hg4 W5 x1 x2 u2 G2 hct hcl
  -- the one way
  have v4 := crestrict1_any a5 (N := 4) (by decide) u5 R1.1 i
  go_wp2_with fail
  refine v4.mono ?_
  rintro e w6 ⟨g6, c6, n6, p1, e1, rfl, a6, q6, e6, O6⟩
  obtain ⟨b6, hg6⟩ := next b5 (Nat.le_refl _) hp hg5 hmm q6 e6
  obtain ⟨rfl, W6⟩ := cout_one G5 x5 O6 (room4 (by omega))
  have L6 := W6.len4
  have y6 := W6.is
  have x6 := x5.on G5 W6.good W6.on
  have u6 := W6.upto
  have G6 := W6.good
  clear v4 a5 b5 q6 e6 O6 hg5 W6 x5 u5 G5
  have v5 := crestrict0_any a6 (N := 4) (by decide) u6 p1 k
  go_wp2_with fail
  refine v5.mono ?_
  rintro e w7 ⟨g7, c7, n7, p2, e1, rfl, a7, q7, e7, O7⟩
  obtain ⟨b7, hg7⟩ := next b6 (Nat.le_refl _) hp hg6 hmm q7 e7
  obtain ⟨rfl, W7⟩ := cout_zero G6 y6 O7 (room4 (by omega))
  have L7 := W7.len4
  have y7 := W7.is
  have x7 := x6.on G6 W7.good W7.on
  have u7 := W7.upto
  have G7 := W7.good
  clear v5 a6 b6 q7 e7 O7 hg6 W7 x6 u6 G6 y6
  -- the other way
  have v6 := crestrict0_any a7 (N := 4) (by decide) u7 R1.1 k
  go_wp2_with fail
  refine v6.mono ?_
  rintro e w8 ⟨g8, c8, n8, r1, e1, rfl, a8, q8, e8, O8⟩
  obtain ⟨b8, hg8⟩ := next b7 (Nat.le_refl _) hp hg7 hmm q8 e8
  obtain ⟨rfl, W8⟩ := cout_zero G7 x7 O8 (room4 (by omega))
  have L8 := W8.len4
  have z8 := W8.is
  have y8 := y7.on G7 W8.good W8.on
  have u8 := W8.upto
  have G8 := W8.good
  clear v6 a7 b7 q8 e8 O8 hg7 W8 x7 u7 G7 y7
  have v7 := crestrict1_any a8 (N := 4) (by decide) u8 r1 i
  go_wp2_with fail
  refine v7.mono ?_
  rintro e w9 ⟨g9, c9, n9, r2, e1, rfl, a9, q9, e9, O9⟩
  obtain ⟨b9, hg9⟩ := next b8 (Nat.le_refl _) hp hg8 hmm q9 e9
  obtain ⟨rfl, W9⟩ := cout_one G8 z8 O9 (room4 (by omega))
  have hpq : i ≠ k → p2 = r2 := fun hne => (y8.on G8 W9.good W9.on).one W9.good W9.is (fun φ => by rw [turn_swap φ (by omega)])
  clear v7 a8 b8 q9 e9 O9 hg8 W9 u8 G8 y8 z8 a9 hg9 L5 L6 L7 L8
  by_cases hik : i = k
  · subst hik
    clear hpq
    go_wp2_with fail
    go_ret
    exact ⟨rfl, b9⟩
  · obtain rfl := hpq hik
    have hik' : ((i : Int) == k) = false := by simpa using fun h => hik (by omega)
    clear hpq
    go_wp2_with fail
    go_ret
    exact ⟨rfl, b9⟩
end Go.Proofs.Ytahjkkegbcalnaa
