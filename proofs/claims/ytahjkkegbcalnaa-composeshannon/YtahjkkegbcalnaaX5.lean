/- ComposeShannon: the walk. -/
import Derived.Test.YtahjkkegbcalnaaX1
namespace Go.Proofs.Ytahjkkegbcalnaa
open Go.RowKit

/-- A variable's diagram, where there is room. -/
theorem var_whole {most : Int} {ns : List Nd} {k : Nat} (h : Good most ns) (hk : k < 1024) (hr : (ns.length : Int) + 1 ≤ most) :
    ∃ x ns', mkR most ns k 0 1 = (x, 0, ns') ∧ Good most ns' ∧ On ns ns' ∧ ns'.length ≤ ns.length + 1 ∧ D ns' x (fun φ => φ k) := by
  obtain ⟨n0, n1⟩ := node_at h
  have hl := h.len
  have f0 : From ns 0 (k + 1) := ⟨0, rfl, by omega, by rw [n0]; simp only; omega⟩
  have f1 : From ns 1 (k + 1) := ⟨1, rfl, by omega, by rw [n1]; simp only; omega⟩
  rcases mk_whole h hk f0 f1 with ⟨_, hm, _⟩ | ⟨x, ns', em, g3, o3, l3, in3, hc, _⟩
  · omega
  · refine ⟨x, ns', em, g3, o3, l3, in3, fun φ => ?_⟩
    rcases hc with ⟨h1, _⟩ | ⟨_, i, rfl, hi, hn⟩
    · cases h1
    · have hlt : (ndAt ns' i).v < 1024 := by rw [hn]; exact Int.ofNat_lt.2 hk
      rw [evalP_at g3 hi hlt, hn]
      simp only
      cases φ k with
      | true => simp only [if_true]; exact eval1 g3 φ
      | false => simp only [Bool.false_eq_true, if_false]; exact eval0 g3 φ

set_option maxHeartbeats 1000000 in
set_option maxRecDepth 20000 in
theorem shannon_law (f v : Nat) (hf : f < 65536) (hv : v < 256) (w : World) :
    Calls Try.prog 7 #[.int .u16 f, .int .u8 v] w fun e w' => e = .returned (.bool true) ∧ Below w.heap.size w w' := by
  have hnil := errV_zero
  obtain ⟨k, hk, hk4⟩ : ∃ k : Nat, (v : Int) % 4 = k ∧ k < 4 := ⟨v % 4, by omega, by omega⟩
  have hk4' : (k : Int) < 4 := by omega
  have h0v : (0 : Int) ≤ v := by omega
  have h1v : (v : Int) < 256 := by omega
  go_enter Try.func7, Try.ntmps7
  go_wp2_with fail
  refine (awake3_any w).mono ?_
  rintro e w0 ⟨rfl, b0⟩
  go_wp2_with fail
  refine (of_any 300 w0).mono ?_
  rintro e w1 ⟨rfl, a1, b1, s1⟩
  have B1 := Below.up b0 b1 (Nat.le_refl _)
  have hs0 := b0.size
  obtain ⟨p, hp, hp'⟩ : ∃ p, w.heap.size ≤ p ∧ p = w0.heap.size + 2 := ⟨_, by omega, rfl⟩
  obtain ⟨gg, hgg, hg'⟩ : ∃ gg, w.heap.size ≤ gg ∧ gg = w0.heap.size := ⟨_, by omega, rfl⟩
  obtain ⟨m, hmm, hm'⟩ : ∃ m, w.heap.size ≤ m ∧ m = w0.heap.size + 1 := ⟨_, by omega, rfl⟩
  rw [← hp', ← hm', ← hg', c300] at a1
  rw [← hp']
  clear hp' hm' hg' s1 b0 b1 hs0
  have m1 := build_any f hf a1
  have D1 := built f a1.good (upto_first 4) (by rw [len2]; decide)
  have L1 := D1.len
  rw [len2] at L1
  generalize bld 300 f 4 0 0 first2 = R1 at m1 D1 L1
  go_wp2_with fail
  refine m1.mono ?_
  rintro e w2 ⟨g2, c2, rfl, a2, q2, e2⟩
  obtain ⟨b2, hg2⟩ := next B1 (Nat.le_refl _) hp hgg hmm q2 e2
  clear m1 a1 B1 q2 e2 hgg
  have x2 := D1.is
  have u2 := D1.upto
  have G2 := D1.good
  clear D1
  have v4 := crestrict1_any a2 (N := 4) (by decide) u2 R1.1 k
  go_wp2_with fail
  refine v4.mono ?_
  rintro e w6 ⟨g6, c6, n6, hh, e1, rfl, a6, q6, e6, O6⟩
  obtain ⟨b6, hg6⟩ := next b2 (Nat.le_refl _) hp hg2 hmm q6 e6
  obtain ⟨rfl, W6⟩ := cout_one G2 x2 O6 (room4 (by omega))
  have L6 := W6.len4
  have y6 := W6.is
  have x6 := x2.on G2 W6.good W6.on
  have u6 := W6.upto
  have G6 := W6.good
  clear v4 a2 b2 q6 e6 O6 hg2 W6 x2 u2 G2
  have v5 := crestrict0_any a6 (N := 4) (by decide) u6 R1.1 k
  go_wp2_with fail
  refine v5.mono ?_
  rintro e w7 ⟨g7, c7, n7, ll, e1, rfl, a7, q7, e7, O7⟩
  obtain ⟨b7, hg7⟩ := next b6 (Nat.le_refl _) hp hg6 hmm q7 e7
  obtain ⟨rfl, W7⟩ := cout_zero G6 x6 O7 (room4 (by omega))
  have L7 := W7.len4
  have y7 := y6.on G6 W7.good W7.on
  have z7 := W7.is
  have x7 := x6.on G6 W7.good W7.on
  have u7 := W7.upto
  have G7 := W7.good
  clear v5 a6 b6 q7 e7 O7 hg6 W7 x6 u6 G6 y6
  have v6 := variable_any a7 k
  have u8 := upto_mk (most := 300) (lo := 0) (hi := 1) u7 hk4'
  obtain ⟨x, n8, em, G8, o8, l8, d8⟩ := var_whole (k := k) G7 (by omega) (by omega)
  rw [em] at v6 u8
  simp only at v6 u8
  go_wp2_with fail
  refine v6.mono ?_
  rintro e w8 ⟨g8, c8, rfl, a8, q8, e8⟩
  obtain ⟨b8, hg8⟩ := next b7 (Nat.le_refl _) hp hg7 hmm q8 e8
  have x8 := x7.on G7 G8 o8
  have y8 := y7.on G7 G8 o8
  have z8 := z7.on G7 G8 o8
  clear v6 a7 b7 q8 e8 hg7 x7 y7 z7 u7 em
  have v7 := iof_any a8 (N := 4) (by decide) u8 x hh ll
  go_wp2_with fail
  refine v7.mono ?_
  rintro e w9 ⟨g9, c9, n9, y, e1, rfl, a9, q9, e9, O9⟩
  obtain ⟨b9, hg9⟩ := next b8 (Nat.le_refl _) hp hg8 hmm q9 e9
  obtain ⟨rfl, W9⟩ := iout_room d8 y8 z8 O9 (room4 (by omega))
  have hy : y = R1.1 := W9.is.one W9.good (x8.on G8 W9.good W9.on) (fun φ => by
    unfold opChoose
    cases hφ : φ k with
    | true => simp only [if_true]; rw [← hφ, turn_self]
    | false => simp only [Bool.false_eq_true, if_false]; rw [← hφ, turn_self])
  subst hy
  clear v7 a8 b8 q9 e9 O9 hg8 W9 x8 y8 z8 d8 u8
  go_wp2_with fail
  go_ret
  exact ⟨rfl, b9⟩
end Go.Proofs.Ytahjkkegbcalnaa
