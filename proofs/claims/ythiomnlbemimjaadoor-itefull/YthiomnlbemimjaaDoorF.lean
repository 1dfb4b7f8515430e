/- IteFull: the walk. -/
import Derived.Test.YthiomnlbemimjaaDoorM2
import Derived.Test.YthiomnlbemimjaaDoorN2
namespace Go.Proofs.YthiomnlbemimjaaDoor
open Go.RowKit

theorem Laid.below {w w' : World} (h : Laid w) (hb : Below w.heap.size w w') : Laid w' := by
  have hlt : 0 < w.heap.size := by
    rcases Nat.eq_zero_or_pos w.heap.size with h0 | h'
    · simp [Laid, World.cell?, h0] at h
    · exact h'
  unfold Laid
  rw [hb.cell hlt]
  exact h
theorem c100 : clampN 100 = 100 := rfl
theorem len2 : (first2.length : Int) = 2 := rfl

/-- Where there is room in both, Mk does the same. -/
theorem mk_most {most most' : Int} {ns : List Nd} {v lo hi : Int} (hr : (ns.length : Int) < most) (hl : ((mkR most ns v lo hi).2.2.length : Int) ≤ most') : mkR most' ns v lo hi = mkR most ns v lo hi := by
  unfold mkR at hl ⊢
  split
  · rename_i hb
    rw [if_pos hb] at hl
    split
    · rfl
    · rename_i hne
      rw [if_neg hne] at hl
      split
      · rfl
      · rename_i hf
        rw [hf] at hl
        simp only at hl
        have h1 : ¬ most ≤ (ns.length : Int) := by omega
        rw [if_neg h1] at hl ⊢
        simp at hl
        have h2 : ¬ most' ≤ (ns.length : Int) := by omega
        rw [if_neg h2]
  · rfl
theorem bld_most {most most' : Int} (bits : Nat) : ∀ (d v fr : Nat) (ns : List Nd), Good most ns → v + d ≤ 20 → (ns.length : Int) + 2 ^ d ≤ most + 1 → ((bld most bits d v fr ns).2.length : Int) ≤ most' → bld most' bits d v fr ns = bld most bits d v fr ns := by
  intro d
  induction d with
  | zero =>
    intro v fr ns _ _ _ _
    rw [bld, bld]
  | succ d ih =>
    intro v fr ns hg hv hr hl
    have hp : (2 : Int) ^ (d + 1) = 2 ^ d + 2 ^ d := by rw [Int.pow_succ]; omega
    have hp1 : (1 : Int) ≤ 2 ^ d := by
      have : (0 : Int) < 2 ^ d := Int.pow_pos (by decide)
      omega
    obtain ⟨a1, a2, a3, a4, a5, a6⟩ := bld_all most bits d (v + 1) fr ns hg (by omega) (by omega)
    have iA := ih (v + 1) fr ns hg (by omega) (by omega)
    generalize hA : bld most bits d (v + 1) fr ns = A at *
    obtain ⟨b1, b2, b3, b4, b5, b6⟩ := bld_all most bits d (v + 1) (fr + 2 ^ d) A.2 a1 (by omega) (by omega)
    have iB := ih (v + 1) (fr + 2 ^ d) A.2 a1 (by omega) (by omega)
    have eT : bld most bits (d + 1) v fr ns = joinD most v A (bld most bits d (v + 1) (fr + 2 ^ d) A.2) := by rw [bld_succ, hA]
    generalize hB : bld most bits d (v + 1) (fr + 2 ^ d) A.2 = B at *
    rw [eT] at hl ⊢
    have e1 : (joinD most v A B).2 = (mkR most B.2 v A.1 B.1).2.2 := by unfold joinD; simp only
    rw [e1] at hl
    have lb : (B.2.length : Int) ≤ (mkR most B.2 v A.1 B.1).2.2.length := by
      obtain ⟨k, ns', em, _, o, _⟩ := mk_room b1 (v := v) (by omega) (a4.on b2) b4 (by omega)
      rw [em]
      have := o.len
      simp only
      omega
    have la := b2.len
    rw [bld_succ, iA (by omega), iB (by omega)]
    have e2 := mk_most (most' := most') (ns := B.2) (v := v) (lo := A.1) (hi := B.1) (by omega) hl
    unfold joinD
    rw [e2]

set_option maxHeartbeats 1000000 in
set_option maxRecDepth 20000 in
theorem itefull_any (f g o : Nat) (hf : f < 65536) (hg : g < 65536) (ho : o < 256) (w : World) (hL : Laid w) :
    Calls Tryd.prog 3 #[.int .u16 f, .int .u16 g, .int .u8 o] w fun e w' => e = .returned (.bool true) ∧ Below w.heap.size w w' := by
  have e_xor := u16_xor_nat f g hf hg
  have l_xor := xor_lt f g hf hg
  have t_xor := tb_xor f g
  generalize f ^^^ g = fxor at *
  have hnil := errV_zero
  go_enter Tryd.func3, Tryd.ntmps3
  go_wp2_with fail
  refine (awake2_any w).mono ?_
  rintro e w0 ⟨rfl, b0⟩
  go_wp2_with fail
  refine (of_any 100 w0).mono ?_
  rintro e w1 ⟨rfl, a1, b1, s1⟩
  have B1 := Below.up b0 b1 (Nat.le_refl _)
  have hs0 := b0.size
  obtain ⟨p, hp, hp'⟩ : ∃ p, w.heap.size ≤ p ∧ p = w0.heap.size + 2 := ⟨_, by omega, rfl⟩
  obtain ⟨gg, hgg, hg'⟩ : ∃ gg, w.heap.size ≤ gg ∧ gg = w0.heap.size := ⟨_, by omega, rfl⟩
  obtain ⟨m, hmm, hm'⟩ : ∃ m, w.heap.size ≤ m ∧ m = w0.heap.size + 1 := ⟨_, by omega, rfl⟩
  rw [← hp', ← hm', ← hg', c100] at a1
  rw [← hp']
  clear hp' hm' hg' s1 b0 b1 hs0
  have e16 : (2 : Int) ^ 4 = 16 := rfl
  have m1 := build_any f hf a1
  have D1 := built f a1.good (upto_first 4) (by rw [len2]; decide)
  have L1 := D1.len
  rw [len2] at L1
  have T1 := fun (most' : Int) => bld_most (most' := most') f 4 0 0 first2 a1.good (by decide) (by rw [len2, e16]; decide)
  generalize bld 100 f 4 0 0 first2 = R1 at m1 D1 L1 T1
  go_wp2_with fail
  refine m1.mono ?_
  rintro e w2 ⟨g2, c2, rfl, a2, q2, e2⟩
  obtain ⟨b2, hg2⟩ := next B1 (Nat.le_refl _) hp hgg hmm q2 e2
  clear m1 a1 B1 q2 e2 hgg
  have m2 := build_any g hg a2
  have D2 := built g a2.good D1.upto (by omega)
  have L2 := D2.len
  have T2 := fun (most' : Int) => bld_most (most' := most') g 4 0 0 R1.2 a2.good (by decide) (by rw [e16]; omega)
  generalize bld 100 g 4 0 0 R1.2 = R2 at m2 D2 L2 T2
  go_wp2_with fail
  refine m2.mono ?_
  rintro e w3 ⟨g3, c3, rfl, a3, q3, e3⟩
  obtain ⟨b3, hg3⟩ := next b2 (Nat.le_refl _) hp hg2 hmm q3 e3
  have hl := len_any a3
  have l12 := D2.on.len
  have l02 := D2.good.len
  clear m2 b2 q3 e3 hg2 a2 hp hmm hg3 a3
  obtain ⟨n, hn⟩ : ∃ n : Nat, n = R2.2.length := ⟨_, rfl⟩
  rw [← hn] at hl l12 l02 L2
  obtain ⟨r, hr, hr8⟩ : ∃ r : Nat, (o : Int).tmod 8 = r ∧ r < 8 := by
    refine ⟨o % 8, ?_, by omega⟩
    rw [Int.tmod_eq_emod_of_nonneg (by omega)]
    omega
  have T1' := T1 ((n : Int) + r) (by omega)
  have T2' := T2 ((n : Int) + r) (by rw [← hn]; omega)
  have HN : Hid (n = R2.2.length) := hn
  clear hn T1 T2
  go_wp2_with fail
  refine hl.mono ?_
  rintro e w3' ⟨rfl, rfl⟩
  clear hl
  have hn32 : (n : Int) ≤ 32 := by omega
  have hr7 : (r : Int) ≤ 7 := by omega
  have hr0 : (0 : Int) ≤ r := by omega
  have ho0 : (0 : Int) ≤ o := by omega
  have ho255 : (o : Int) ≤ 255 := by omega
  go_wp2_with fail
  have hcl : clampN ((n : Int) + r) = (n : Int) + r := clamp_mid (by omega) (by omega)
  obtain ⟨mo, hmo⟩ : ∃ mo : Int, mo = (n : Int) + r := ⟨_, rfl⟩
  rw [← hmo] at hcl T1' T2' ⊢
  clear hmo
  refine (of_any mo w3').mono ?_
  rintro e w4 ⟨rfl, a4, b4, s4⟩
  have B4 := Below.up b3 b4 (Nat.le_refl _)
  have hs3 := b3.size
  obtain ⟨pp, hp, hp'⟩ : ∃ pp, w.heap.size ≤ pp ∧ pp = w3'.heap.size + 2 := ⟨_, by omega, rfl⟩
  obtain ⟨gg, hgg, hg'⟩ : ∃ gg, w.heap.size ≤ gg ∧ gg = w3'.heap.size := ⟨_, by omega, rfl⟩
  obtain ⟨mm, hmm, hm'⟩ : ∃ mm, w.heap.size ≤ mm ∧ mm = w3'.heap.size + 1 := ⟨_, by omega, rfl⟩
  rw [← hp', ← hm', ← hg', hcl] at a4
  rw [← hp']
  clear hp' hm' hg' s4 b3 b4 hs3 hcl
  have m5 := build_any f hf a4
  rw [T1'] at m5
  go_wp2_with fail
  refine m5.mono ?_
  rintro e w5 ⟨g5, c5, rfl, a5, q5, e5⟩
  obtain ⟨b5, hg5⟩ := next B4 (Nat.le_refl _) hp hgg hmm q5 e5
  clear m5 a4 B4 q5 e5 hgg T1'
  have m6 := build_any g hg a5
  rw [T2'] at m6
  go_wp2_with fail
  refine m6.mono ?_
  rintro e w6 ⟨g6, c6, rfl, a6, q6, e6⟩
  obtain ⟨b6, hg6⟩ := next b5 (Nat.le_refl _) hp hg5 hmm q6 e6
  clear m6 a5 b5 q6 e6 hg5 T2'
  have x1 := D1.is.on D1.good D2.good D2.on
  have x2 := D2.is
  have m7 := ixor_any a6 (N := 4) (by decide) D2.upto R1.1 R2.1
  have G6 := a6.good
  clear D1 D2 L1 L2 l12 l02 a6
  obtain ⟨X, hX⟩ : ∃ X, X = R1.1 := ⟨_, rfl⟩
  obtain ⟨Y, hY⟩ : ∃ Y, Y = R2.1 := ⟨_, rfl⟩
  rw [← hX] at x1 m7 ⊢
  rw [← hY] at x2 m7 ⊢
  clear hX hY
  go_wp2_with fail
  refine m7.mono ?_
  rintro e w7 ⟨g7, c7, n7, k, e1, rfl, a7, q7, e7, O7⟩
  obtain ⟨b7, hg7⟩ := next b6 (Nat.le_refl _) hp hg6 hmm q7 e7
  rcases iout_in x1 x2 (d0 G6) O7 with ⟨rfl, rfl, _⟩ | ⟨rfl, W7⟩
  · have HE := errV_some (e := 8) (by decide)
    rw [HE]
    have hn8 := number_hit 8 w7 (hL.below b7)
    clear m7 b6 q7 e7 hg6 O7 x1 x2 G6 HE a7
    go_wp2_with fail
    refine hn8.mono ?_
    rintro e w8 ⟨rfl, b8⟩
    go_wp2_with fail
    go_ret
    exact ⟨rfl, Below.up b7 b8 (Nat.le_refl _)⟩
  · rw [errV_zero]
    have tq := table_is W7.is l_xor (fun φ => by rw [t_xor, opDiffer])
    have t8 := table_any a7 k
    clear m7 b6 q7 e7 hg6 O7 x1 x2 G6 W7
    go_wp2_with fail
    refine t8.mono ?_
    rintro e w8 ⟨rfl, b8⟩
    have p9 := bits_any (fun i => evalP n7 (rowF i) k) w8
    rw [tq] at p9
    clear t8 tq
    go_wp2_with fail
    refine p9.mono ?_
    rintro e w9 ⟨rfl, b9⟩
    go_wp2_with fail
    go_ret
    exact ⟨rfl, Below.up (Below.up b7 b8 (Nat.le_refl _)) b9 (Nat.le_refl _)⟩
end Go.Proofs.YthiomnlbemimjaaDoor
