/- ComposeOf: the walk. -/
import Derived.Test.YtahjkkegbcalnaaX1
namespace Go.Proofs.Ytahjkkegbcalnaa
open Go.RowKit

set_option maxHeartbeats 1000000 in
set_option maxRecDepth 20000 in
theorem of_law (f v g : Nat) (hf : f < 65536) (hv : v < 256) (hg : g < 65536) (w : World) :
    Calls Try.prog 4 #[.int .u16 f, .int .u8 v, .int .u16 g] w fun e w' => e = .returned (.bool true) ∧ Below w.heap.size w w' := by
  have hnil := errV_zero
  obtain ⟨k, hk, hk4⟩ : ∃ k : Nat, (v : Int) % 4 = k ∧ k < 4 := ⟨v % 4, by omega, by omega⟩
  have hk4' : (k : Int) < 4 := by omega
  have h0v : (0 : Int) ≤ v := by omega
  have h1v : (v : Int) < 256 := by omega
  go_enter Try.func4, Try.ntmps4
  go_wp2_with fail
  refine (awake3_any w).mono ?_
  rintro e w0 ⟨rfl, b0⟩
  go_wp2_with fail
  refine (of_any 300 w0).mono ?_
  rintro e w1 ⟨rfl, a1, b1, s1⟩
  have B1 := Below.up b0 b1 (Nat.le_refl _)
  have hs0 := b0.size
  obtain ⟨p, hp, hp'⟩ : ∃ p, w.heap.size ≤ p ∧ p = w0.heap.size + 2 := ⟨_, by omega, rfl⟩
  obtain ⟨gg, hgg, hg'⟩ : ∃ gg, w.heap.size ≤ gg ∧ gg = w0.heap.size := ⟨_, by omega, rfl⟩
  obtain ⟨m, hmm, hm'⟩ : ∃ m, w.heap.size ≤ m ∧ m = w0.heap.size + 1 := ⟨_, by omega, rfl⟩
  rw [← hp', ← hm', ← hg', c300] at a1
  rw [← hp']
  clear hp' hm' hg' s1 b0 b1 hs0
  have m1 := build_any f hf a1
  have D1 := built f a1.good (upto_first 4) (by rw [len2]; decide)
  have L1 := D1.len
  rw [len2] at L1
  generalize bld 300 f 4 0 0 first2 = R1 at m1 D1 L1
  go_wp2_with fail
  refine m1.mono ?_
  rintro e w2 ⟨g2, c2, rfl, a2, q2, e2⟩
  obtain ⟨b2, hg2⟩ := next B1 (Nat.le_refl _) hp hgg hmm q2 e2
  clear m1 a1 B1 q2 e2 hgg
  have m2 := build_any g hg a2
  have D2 := built g a2.good D1.upto (by omega)
  have L2 := D2.len
  generalize bld 300 g 4 0 0 R1.2 = R2 at m2 D2 L2
  go_wp2_with fail
  refine m2.mono ?_
  rintro e w3 ⟨g3, c3, rfl, a3, q3, e3⟩
  obtain ⟨b3, hg3⟩ := next b2 (Nat.le_refl _) hp hg2 hmm q3 e3
  have x1 := D1.is.on D1.good D2.good D2.on
  have x2 := D2.is
  have u2 := D2.upto
  clear m2 b2 q3 e3 hg2 a2 D1 D2
  have v2 := cof_any a3 (N := 4) (by decide) u2 R1.1 k R2.1
  go_wp2_with fail
  refine v2.mono ?_
  rintro e w4 ⟨g4, c4, n4, k4, e1, rfl, a4, q4, e4, O4⟩
  obtain ⟨b4, hg4⟩ := next b3 (Nat.le_refl _) hp hg3 hmm q4 e4
  obtain ⟨rfl, W4⟩ := cout_of x1 x2 O4 (room4 (by omega))
  have x4 := W4.is
  clear v2 a3 b3 q4 e4 O4 x1 x2 u2 hg3 W4 L1 L2
  have A1 := at_any f k hf hk4 true
  have A0 := at_any f k hf hk4 false
  have htb : ∀ φ, (if tb g φ = true then tb f (turn φ k true) else tb f (turn φ k false)) = tb (pickN g (atN f k true) (atN f k false)) φ := fun φ => by
    rw [← tb_pick, tb_at f k hk4, tb_at f k hk4]
    rfl
  have hpk := pickN_is g (atN f k true) (atN f k false) hg (atN_lt _ _ _) (atN_lt _ _ _)
  have hpl := pickN_lt g (atN f k true) (atN f k false) hg
  generalize pickN g (atN f k true) (atN f k false) = want at htb hpk hpl
  generalize atN f k true = f1 at *
  generalize atN f k false = f0 at *
  have tq := table_is (x4.eq htb) hpl (fun _ => rfl)
  clear x4 htb
  go_wp2_with fail
  refine (A1 _).mono ?_
  rintro e w5 ⟨rfl, b5⟩
  go_wp2_with fail
  refine (A0 _).mono ?_
  rintro e w6 ⟨rfl, b6⟩
  have b56 := Below.up b5 b6 (Nat.le_refl _)
  have t1 := table_any (a4.below b56) k4
  have b06 := Below.up b4 b56 (Nat.le_refl _)
  clear A1 A0 b5 b6 b56 b4 a4
  go_wp2_with fail
  refine t1.mono ?_
  rintro e w7 ⟨rfl, b7⟩
  have p1 := bits_any (fun i => evalP n4 (rowF i) k4) w7
  rw [tq] at p1
  clear t1 tq
  go_wp2_with fail
  refine p1.mono ?_
  rintro e w8 ⟨rfl, b8⟩
  clear p1
  go_wp2_with fail
  go_ret
  exact ⟨rfl, Below.up (Below.up b06 b7 (Nat.le_refl _)) b8 (Nat.le_refl _)⟩
end Go.Proofs.Ytahjkkegbcalnaa
