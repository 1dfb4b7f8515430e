/- ComposeSome: the walk. -/
import Derived.Test.YtahjkkegbcalnaaX1
namespace Go.Proofs.Ytahjkkegbcalnaa
open Go.RowKit

set_option maxHeartbeats 1000000 in
set_option maxRecDepth 20000 in
theorem some_law (f v : Nat) (hf : f < 65536) (hv : v < 256) (w : World) :
    Calls Try.prog 5 #[.int .u16 f, .int .u8 v] w fun e w' => e = .returned (.bool true) ∧ Below w.heap.size w w' := by
  have hnil := errV_zero
  obtain ⟨k, hk, hk4⟩ : ∃ k : Nat, (v : Int) % 4 = k ∧ k < 4 := ⟨v % 4, by omega, by omega⟩
  have hk4' : (k : Int) < 4 := by omega
  have h0v : (0 : Int) ≤ v := by omega
  have h1v : (v : Int) < 256 := by omega
  go_enter Try.func5, Try.ntmps5
  go_wp2_with fail
  refine (awake3_any w).mono ?_
  rintro e w0 ⟨rfl, b0⟩
  go_wp2_with fail
  refine (of_any 200 w0).mono ?_
  rintro e w1 ⟨rfl, a1, b1, s1⟩
  have B1 := Below.up b0 b1 (Nat.le_refl _)
  have hs0 := b0.size
  obtain ⟨p, hp, hp'⟩ : ∃ p, w.heap.size ≤ p ∧ p = w0.heap.size + 2 := ⟨_, by omega, rfl⟩
  obtain ⟨gg, hgg, hg'⟩ : ∃ gg, w.heap.size ≤ gg ∧ gg = w0.heap.size := ⟨_, by omega, rfl⟩
  obtain ⟨m, hmm, hm'⟩ : ∃ m, w.heap.size ≤ m ∧ m = w0.heap.size + 1 := ⟨_, by omega, rfl⟩
  rw [← hp', ← hm', ← hg', c200] at a1
  rw [← hp']
  clear hp' hm' hg' s1 b0 b1 hs0
  have m1 := build_any f hf a1
  have D1 := built f a1.good (upto_first 4) (by rw [len2]; decide)
  have L1 := D1.len
  rw [len2] at L1
  generalize bld 200 f 4 0 0 first2 = R1 at m1 D1 L1
  go_wp2_with fail
  refine m1.mono ?_
  rintro e w2 ⟨g2, c2, rfl, a2, q2, e2⟩
  obtain ⟨b2, hg2⟩ := next B1 (Nat.le_refl _) hp hgg hmm q2 e2
  clear m1 a1 B1 q2 e2 hgg
  have v2 := csome_any a2 (N := 4) (by decide) D1.upto R1.1 k
  go_wp2_with fail
  refine v2.mono ?_
  rintro e w4 ⟨g4, c4, n4, k4, e1, rfl, a4, q4, e4, O4⟩
  obtain ⟨b4, hg4⟩ := next b2 (Nat.le_refl _) hp hg2 hmm q4 e4
  obtain ⟨rfl, W4⟩ := cout_some D1.good D1.is O4 (room4 (by omega))
  have x4 := W4.is
  clear v2 a2 b2 q4 e4 O4 hg2 W4 L1 D1
  have A1 := at_any f k hf hk4 true
  have A0 := at_any f k hf hk4 false
  have htb : ∀ φ, (tb f (turn φ k true) || tb f (turn φ k false)) = tb (atN f k true ||| atN f k false) φ := fun φ => by
    rw [tb_or, tb_at f k hk4, tb_at f k hk4]
  have hpk := u16_or_nat (atN f k true) (atN f k false) (atN_lt _ _ _) (atN_lt _ _ _)
  have hpl := or_lt (atN f k true) (atN f k false) (atN_lt _ _ _) (atN_lt _ _ _)
  generalize atN f k true ||| atN f k false = want at htb hpk hpl
  generalize atN f k true = f1 at *
  generalize atN f k false = f0 at *
  have tq := table_is (x4.eq htb) hpl (fun _ => rfl)
  clear x4 htb
  have t1 := table_any a4 k4
  go_wp2_with fail
  refine t1.mono ?_
  rintro e w5 ⟨rfl, b5⟩
  have p1 := bits_any (fun i => evalP n4 (rowF i) k4) w5
  rw [tq] at p1
  clear t1 tq
  go_wp2_with fail
  refine p1.mono ?_
  rintro e w6 ⟨rfl, b6⟩
  clear p1
  go_wp2_with fail
  refine (A1 _).mono ?_
  rintro e w7 ⟨rfl, b7⟩
  go_wp2_with fail
  refine (A0 _).mono ?_
  rintro e w8 ⟨rfl, b8⟩
  clear A1 A0
  go_wp2_with fail
  go_ret
  exact ⟨rfl, Below.up (Below.up (Below.up (Below.up b4 b5 (Nat.le_refl _)) b6 (Nat.le_refl _)) b7 (Nat.le_refl _)) b8 (Nat.le_refl _)⟩
end Go.Proofs.Ytahjkkegbcalnaa
