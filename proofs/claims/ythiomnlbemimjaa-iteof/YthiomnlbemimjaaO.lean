/- IteOf: the walk. -/
import Derived.Test.YthiomnlbemimjaaM2
namespace Go.Proofs.Ythiomnlbemimjaa
open Go.RowKit

theorem c200 : clampN 200 = 200 := rfl
theorem len2 : (first2.length : Int) = 2 := rfl

set_option maxHeartbeats 1000000 in
theorem iteof_any (f g h : Nat) (hf : f < 65536) (hg : g < 65536) (hh : h < 65536) (w : World) :
    Calls Try.prog 3 #[.int .u16 f, .int .u16 g, .int .u16 h] w fun e w' => e = .returned (.bool true) ∧ Below w.heap.size w w' := by
  have hpk := pickN_is f g h hf hg hh
  have hpl := pickN_lt f g h hf
  have htb := tb_pick f g h
  generalize pickN f g h = want at hpk hpl htb
  have hnil := errV_zero
  go_enter Try.func3, Try.ntmps3
  go_wp2_with fail
  refine (awake2_any w).mono ?_
  rintro e w0 ⟨rfl, b0⟩
  go_wp2_with fail
  refine (of_any 200 w0).mono ?_
  rintro e w1 ⟨rfl, a1, b1, s1⟩
  have B1 := Below.up b0 b1 (Nat.le_refl _)
  have hs0 := b0.size
  obtain ⟨p, hp, hp'⟩ : ∃ p, w.heap.size ≤ p ∧ p = w0.heap.size + 2 := ⟨_, by omega, rfl⟩
  obtain ⟨gg, hgg, hg'⟩ : ∃ gg, w.heap.size ≤ gg ∧ gg = w0.heap.size := ⟨_, by omega, rfl⟩
  obtain ⟨m, hmm, hm'⟩ : ∃ m, w.heap.size ≤ m ∧ m = w0.heap.size + 1 := ⟨_, by omega, rfl⟩
  rw [← hp', ← hm', ← hg', c200] at a1
  rw [← hp']
  clear hp' hm' hg' s1 b0 b1 hs0
  -- the three tables
  have m1 := build_any f hf a1
  have D1 := built f a1.good (upto_first 4) (by rw [len2]; decide)
  have L1 := D1.len
  rw [len2] at L1
  generalize bld 200 f 4 0 0 first2 = R1 at m1 D1 L1
  go_wp2_with fail
  refine m1.mono ?_
  rintro e w2 ⟨g2, c2, rfl, a2, q2, e2⟩
  obtain ⟨b2, hg2⟩ := next B1 (Nat.le_refl _) hp hgg hmm q2 e2
  clear m1 a1 B1 q2 e2 hgg
  have m2 := build_any g hg a2
  have D2 := built g a2.good D1.upto (by omega)
  have L2 := D2.len
  generalize bld 200 g 4 0 0 R1.2 = R2 at m2 D2 L2
  go_wp2_with fail
  refine m2.mono ?_
  rintro e w3 ⟨g3, c3, rfl, a3, q3, e3⟩
  obtain ⟨b3, hg3⟩ := next b2 (Nat.le_refl _) hp hg2 hmm q3 e3
  clear m2 b2 q3 e3 hg2
  have m3 := build_any h hh a3
  have D3 := built h a3.good D2.upto (by omega)
  have L3 := D3.len
  generalize bld 200 h 4 0 0 R2.2 = R3 at m3 D3 L3
  go_wp2_with fail
  refine m3.mono ?_
  rintro e w4 ⟨g4, c4, rfl, a4, q4, e4⟩
  obtain ⟨b4, hg4⟩ := next b3 (Nat.le_refl _) hp hg3 hmm q4 e4
  have x1 := (D1.is.on D1.good D2.good D2.on).on D2.good D3.good D3.on
  have x2 := D2.is.on D2.good D3.good D3.on
  have x3 := D3.is
  have u3 := D3.upto
  have G3 := D3.good
  clear m3 b3 q4 e4 hg3 a2 a3 D1 D2 D3
  -- put together
  have m4 := iof_any a4 (N := 4) (by decide) u3 R1.1 R2.1 R3.1
  go_wp2_with fail
  refine m4.mono ?_
  rintro e w5 ⟨g5, c5, n5, k, e1, rfl, a5, q5, e5, O5⟩
  obtain ⟨b5, hg5⟩ := next b4 (Nat.le_refl _) hp hg4 hmm q5 e5
  obtain ⟨rfl, W5⟩ := iout_room x1 x2 x3 O5 (room4 (by omega))
  have L5 := W5.len4
  have x5 := W5.is.eq htb
  have tq := table_is x5 hpl (fun _ => rfl)
  have u5 := W5.upto
  clear m4 b4 q5 e5 hg4 a4 O5 x1 x2 x3 u3 G3 W5
  have t1 := table_any a5 k
  go_wp2_with fail
  refine t1.mono ?_
  rintro e w6 ⟨rfl, b6⟩
  have p1 := bits_any (fun i => evalP n5 (rowF i) k) w6
  rw [tq] at p1
  clear t1 tq
  go_wp2_with fail
  refine p1.mono ?_
  rintro e w7 ⟨rfl, b7⟩
  have b57 := Below.up b6 b7 (Nat.le_refl _)
  have b07 := Below.up b5 b57 (Nat.le_refl _)
  have a7 := a5.below b57
  have D7 := built want a7.good u5 (by omega)
  have m7 := build_any want hpl a7
  clear p1 b6 b7 b5 b57 a5
  have hk : k = (bld 200 want 4 0 0 n5).1 := (x5.on a7.good D7.good D7.on).one D7.good D7.is (fun _ => rfl)
  rw [← hk] at m7
  clear hk D7
  go_wp2_with fail
  refine m7.mono ?_
  rintro e w8 ⟨g8, c8, rfl, a8, q8, e8⟩
  obtain ⟨b8, hg8⟩ := next b07 (Nat.le_refl _) hp hg5 hmm q8 e8
  clear m7
  go_wp2_with fail
  go_ret
  exact ⟨rfl, b8⟩
end Go.Proofs.Ythiomnlbemimjaa
