/- TruthMay: the walk. -/
import Derived.Test.YtcbpklpehdojnaaDoorYM
import Derived.Test.YtcbpklpehdojnaaDoorBt
import Derived.Test.YtcbpklpehdojnaaDoorCB
import Derived.Test.YtcbpklpehdojnaaDoorN2
namespace Go.Proofs.YtcbpklpehdojnaaDoor
open Go.RowKit

theorem c4096 : clampN 4096 = 4096 := rfl
theorem lenTwo : (first2.length : Int) = 2 := rfl
theorem room10 {d : Nat} (h : d ≤ 10) : (first2.length : Int) + 2 ^ d ≤ 4096 + 1 := by
  have e : (2 : Int) ^ d = ((2 ^ d : Nat) : Int) := by simp
  have h2 : (2 : Nat) ^ d ≤ 2 ^ 10 := Nat.pow_le_pow_right (by decide) h
  have e10 : (2 : Nat) ^ 10 = 1024 := rfl
  rw [lenTwo, e]
  generalize (2 : Nat) ^ d = n at h2
  omega

set_option maxHeartbeats 1000000 in
set_option maxRecDepth 20000 in
theorem may_law (vars : Int) (a : Option Addr) (len cap : Nat) (t : Nat → Bool) (w : World) (hlen : len ≤ cap ∧ cap ≤ maxLen) (hc : CameB w a len t) (hg : Laid w) :
    Calls Tryd.prog 3 #[.int .i64 vars, .slice a len cap] w fun e w' => e = .returned (.bool true) ∧ Below w.heap.size w w' := by
  have hlc := hlen.1
  clear hlen
  have hlg : 0 < w.heap.size := by
    rcases Nat.eq_zero_or_pos w.heap.size with h0 | h
    · simp [Laid, World.cell?, h0] at hg
    · exact h
  go_enter Tryd.func3, Tryd.ntmps3
  go_wp2_with fail
  refine (awake4_any w).mono ?_
  rintro e w0 ⟨rfl, b0⟩
  go_wp2_with fail
  refine (of_any 4096 w0).mono ?_
  rintro e w1 ⟨rfl, a1, b1, s1⟩
  have B1 := Below.up b0 b1 (Nat.le_refl _)
  have hs0 := b0.size
  obtain ⟨p, hp, hp'⟩ : ∃ p, w.heap.size ≤ p ∧ p = w0.heap.size + 2 := ⟨_, by omega, rfl⟩
  obtain ⟨gg, hgg, hg'⟩ : ∃ gg, w.heap.size ≤ gg ∧ gg = w0.heap.size := ⟨_, by omega, rfl⟩
  obtain ⟨m, hmm, hm'⟩ : ∃ m, w.heap.size ≤ m ∧ m = w0.heap.size + 1 := ⟨_, by omega, rfl⟩
  rw [← hp', ← hm', ← hg', c4096] at a1
  rw [← hp']
  clear hp' hm' hg' s1 b0 b1 hs0
  have bad : ∀ (hb : vars < 0 ∨ 10 < vars ∨ (0 ≤ vars ∧ vars ≤ 10 ∧ len ≠ 2 ^ vars.toNat)), Calls Tryd.prog 6 #[.pointer (some ⟨p, 0, none⟩), .int .i64 vars, .slice a len cap] w1 fun e w' => e = .returned (.tuple #[.int .i64 0, .iface 30 (.int .i64 10)]) ∧ Below w.heap.size w w' ∧ Laid w' := fun hb =>
    (trbuild_bad vars a len cap hb).mono fun e w' ⟨h1, h2⟩ => by
      have b := Below.up B1 h2 (Nat.le_refl _)
      exact ⟨h1, b, by unfold Laid; rw [b.cell (p := ⟨0, 0, none⟩) hlg]; exact hg⟩
  rcases (by omega : vars < 0 ∨ 10 < vars ∨ (0 ≤ vars ∧ vars ≤ 10)) with h1 | h1 | ⟨h1, h2⟩
  · have v1 := bad (.inl h1)
    clear bad
    go_wp2_with fail
    refine v1.mono ?_
    rintro e w2 ⟨rfl, b2, l2⟩
    go_wp2_with fail
    refine (number_hit 10 _ l2).mono ?_
    rintro e w3 ⟨rfl, b3⟩
    go_wp2_with fail
    go_ret
    exact ⟨rfl, Below.up b2 b3 (Nat.le_refl _)⟩
  · have v1 := bad (.inr (.inl h1))
    clear bad
    go_wp2_with fail
    refine v1.mono ?_
    rintro e w2 ⟨rfl, b2, l2⟩
    go_wp2_with fail
    refine (number_hit 10 _ l2).mono ?_
    rintro e w3 ⟨rfl, b3⟩
    go_wp2_with fail
    go_ret
    exact ⟨rfl, Below.up b2 b3 (Nat.le_refl _)⟩
  · obtain ⟨d, rfl⟩ : ∃ d : Nat, vars = d := ⟨vars.toNat, by omega⟩
    have hd : d ≤ 10 := by omega
    have hwr := wrap_two d hd
    simp only [Int.toNat_natCast] at bad
    by_cases hl : len = 2 ^ d
    · clear bad
      have hne : ((len : Int) != wrap64 (2 ^ d)) = false := by rw [hwr, hl]; simp
      have hpos : 0 < len := by rw [hl]; exact Nat.pow_pos (by decide)
      obtain ⟨ab, ao, rfl, hcell⟩ := hc hpos
      have hrow : RowsAt w1 ab ao (2 ^ d) (fun i => (numTo t len).testBit i) := by
        intro i hi
        rw [← hl] at hi
        rw [B1.cell (p := ⟨ab, ao + i, none⟩) (World.block_lt_of_cell? w _ (hcell i hi)), hcell i hi]
        simp only [numTo_test t len i hi]
      have lab : ab < w.heap.size := World.block_lt_of_cell? w _ (hcell 0 hpos)
      have v1 := trbuild_ok (numTo t len) d hd a1 (cap := cap) (by simp; omega) (room10 hd) (by omega) hrow
      obtain ⟨G1, _, _, ⟨i, ei, hi, _⟩, _, _⟩ := bld_all 4096 (numTo t len) d 0 0 first2 a1.good (by omega) (room10 hd)
      generalize bld 4096 (numTo t len) d 0 0 first2 = R1 at v1 G1 ei hi
      rw [← hl] at v1
      clear hrow hcell hc hl hwr
      go_wp2_with fail
      refine v1.mono ?_
      rintro e w2 ⟨g2, c2, rfl, a2, k2, e2⟩
      obtain ⟨b2, hg2⟩ := next B1 (Nat.le_refl _) hp hgg hmm k2 e2
      clear v1
      have v2 := len_any a2
      have hlt : R1.1 < R1.2.length := by rw [ei]; omega
      go_wp2_with fail
      refine v2.mono ?_
      rintro e w3 ⟨rfl, rfl⟩
      go_wp2_with fail
      go_ret
      exact ⟨rfl, b2⟩
    · have v1 := bad (.inr (.inr ⟨h1, h2, hl⟩))
      have hne : ((len : Int) != wrap64 (2 ^ d)) = true := by
        rw [hwr, bne_iff_ne]
        exact fun h => hl (Int.ofNat.inj h)
      clear bad hwr
      go_wp2_with fail
      refine v1.mono ?_
      rintro e w2 ⟨rfl, b2, l2⟩
      go_wp2_with fail
      refine (number_hit 10 _ l2).mono ?_
      rintro e w3 ⟨rfl, b3⟩
      go_wp2_with fail
      go_ret
      exact ⟨rfl, Below.up b2 b3 (Nat.le_refl _)⟩
end Go.Proofs.YtcbpklpehdojnaaDoor
