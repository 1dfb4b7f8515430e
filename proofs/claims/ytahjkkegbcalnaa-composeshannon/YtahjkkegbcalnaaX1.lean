/- ComposeRestrict: the walk. -/
import Derived.Test.YtahjkkegbcalnaaXM
import Derived.Test.YtahjkkegbcalnaaXT
namespace Go.Proofs.Ytahjkkegbcalnaa
open Go.RowKit

theorem c200 : clampN 200 = 200 := rfl
theorem c300 : clampN 300 = 300 := rfl
theorem len2 : (first2.length : Int) = 2 := rfl

set_option maxHeartbeats 1000000 in
set_option maxRecDepth 20000 in
theorem restrict_law (f v : Nat) (hf : f < 65536) (hv : v < 256) (one : Bool) (w : World) :
    Calls Try.prog 3 #[.int .u16 f, .int .u8 v, .bool one] w fun e w' => e = .returned (.bool true) ∧ Below w.heap.size w w' := by
  have hnil := errV_zero
  obtain ⟨k, hk, hk6⟩ : ∃ k : Nat, (v : Int) % 6 = k ∧ k < 6 := ⟨v % 6, by omega, by omega⟩
  have h0 : (0 : Int) ≤ v := by omega
  have hv' : (v : Int) < 256 := by omega
  go_enter Try.func3, Try.ntmps3
  go_wp2_with fail
  refine (awake3_any w).mono ?_
  rintro e w0 ⟨rfl, b0⟩
  go_wp2_with fail
  refine (of_any 200 w0).mono ?_
  rintro e w1 ⟨rfl, a1, b1, s1⟩
  have B1 := Below.up b0 b1 (Nat.le_refl _)
  have hs0 := b0.size
  obtain ⟨p, hp, hp'⟩ : ∃ p, w.heap.size ≤ p ∧ p = w0.heap.size + 2 := ⟨_, by omega, rfl⟩
  obtain ⟨gg, hgg, hg'⟩ : ∃ gg, w.heap.size ≤ gg ∧ gg = w0.heap.size := ⟨_, by omega, rfl⟩
  obtain ⟨m, hmm, hm'⟩ : ∃ m, w.heap.size ≤ m ∧ m = w0.heap.size + 1 := ⟨_, by omega, rfl⟩
  rw [← hp', ← hm', ← hg', c200] at a1
  rw [← hp']
  clear hp' hm' hg' s1 b0 b1 hs0
  have m1 := build_any f hf a1
  have D1 := built f a1.good (upto_first 4) (by rw [len2]; decide)
  have L1 := D1.len
  rw [len2] at L1
  generalize bld 200 f 4 0 0 first2 = R1 at m1 D1 L1
  go_wp2_with fail
  refine m1.mono ?_
  rintro e w2 ⟨g2, c2, rfl, a2, q2, e2⟩
  obtain ⟨b2, hg2⟩ := next B1 (Nat.le_refl _) hp hgg hmm q2 e2
  clear m1 a1 B1 q2 e2 hgg
  have v2 := crestrict_any a2 (N := 4) (by decide) D1.upto R1.1 k one
  go_wp2_with fail
  refine v2.mono ?_
  rintro e w3 ⟨g3, c3, n3, k3, e1, rfl, a3, q3, e3, O3⟩
  obtain ⟨b3, hg3⟩ := next b2 (Nat.le_refl _) hp hg2 hmm q3 e3
  obtain ⟨rfl, W3⟩ := cout_restrict D1.good D1.is O3 (room4 (by omega))
  clear v2 a2 b2 q3 e3 O3 hg2 D1
  by_cases hk4 : k < 4
  · have htb : ∀ φ, tb f (turn φ k one) = tb (atN f k one) φ := fun φ => (tb_at f k hk4 one φ).symm
    have hpl := atN_lt f k one
    have v3 := at_any f k hf hk4 one w3
    obtain ⟨want, hw⟩ : ∃ want, want = atN f k one := ⟨_, rfl⟩
    rw [← hw] at htb hpl v3
    clear hw
    have hk4' : (k : Int) < 4 := by omega
    go_wp2_with fail
    refine v3.mono ?_
    rintro e w4 ⟨rfl, b4⟩
    clear v3
    replace a3 := a3.below b4
    replace b3 := Below.up b3 b4 (Nat.le_refl _)
    clear b4
    have x5 := W3.is.eq htb
    have tq := table_is x5 hpl (fun _ => rfl)
    have u5 := W3.upto
    have L5 := W3.len4
    clear W3
    have t1 := table_any a3 k3
    go_wp2_with fail
    refine t1.mono ?_
    rintro e w6 ⟨rfl, b6⟩
    have p1 := bits_any (fun i => evalP n3 (rowF i) k3) w6
    rw [tq] at p1
    clear t1 tq
    go_wp2_with fail
    refine p1.mono ?_
    rintro e w7 ⟨rfl, b7⟩
    have b57 := Below.up b6 b7 (Nat.le_refl _)
    have b07 := Below.up b3 b57 (Nat.le_refl _)
    have a7 := a3.below b57
    have D7 := built want a7.good u5 (by omega)
    have m7 := build_any want hpl a7
    clear p1 b6 b7 b3 b57 a3
    have hkk : k3 = (bld 200 want 4 0 0 n3).1 := (x5.on a7.good D7.good D7.on).one D7.good D7.is (fun _ => rfl)
    rw [← hkk] at m7
    clear hkk D7
    go_wp2_with fail
    refine m7.mono ?_
    rintro e w8 ⟨g8, c8, rfl, a8, q8, e8⟩
    obtain ⟨b8, hg8⟩ := next b07 (Nat.le_refl _) hp hg3 hmm q8 e8
    clear m7
    go_wp2_with fail
    go_ret
    exact ⟨rfl, b8⟩
  · have htb : ∀ φ, tb f (turn φ k one) = tb f φ := fun φ => tb_far f k (by omega) one φ
    have hk4' : ¬ (k : Int) < 4 := by omega
    obtain ⟨want, hw⟩ : ∃ want, want = f := ⟨_, rfl⟩
    have hpl : want < 65536 := by omega
    subst hw
    have x5 := W3.is.eq htb
    have tq := table_is x5 hpl (fun _ => rfl)
    have u5 := W3.upto
    have L5 := W3.len4
    clear W3
    have t1 := table_any a3 k3
    go_wp2_with fail
    refine t1.mono ?_
    rintro e w6 ⟨rfl, b6⟩
    have p1 := bits_any (fun i => evalP n3 (rowF i) k3) w6
    rw [tq] at p1
    clear t1 tq
    go_wp2_with fail
    refine p1.mono ?_
    rintro e w7 ⟨rfl, b7⟩
    have b57 := Below.up b6 b7 (Nat.le_refl _)
    have b07 := Below.up b3 b57 (Nat.le_refl _)
    have a7 := a3.below b57
    have D7 := built want a7.good u5 (by omega)
    have m7 := build_any want hpl a7
    clear p1 b6 b7 b3 b57 a3
    have hkk : k3 = (bld 200 want 4 0 0 n3).1 := (x5.on a7.good D7.good D7.on).one D7.good D7.is (fun _ => rfl)
    rw [← hkk] at m7
    clear hkk D7
    go_wp2_with fail
    refine m7.mono ?_
    rintro e w8 ⟨g8, c8, rfl, a8, q8, e8⟩
    obtain ⟨b8, hg8⟩ := next b07 (Nat.le_refl _) hp hg3 hmm q8 e8
    clear m7
    go_wp2_with fail
    go_ret
    exact ⟨rfl, b8⟩
end Go.Proofs.Ytahjkkegbcalnaa
