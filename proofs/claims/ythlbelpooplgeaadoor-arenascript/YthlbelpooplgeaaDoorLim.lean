/- ArenaLimits: the walk. -/
import Derived.Test.YthlbelpooplgeaaDoorW
import Derived.Test.YthlbelpooplgeaaDoorN2
namespace Go.Proofs.YthlbelpooplgeaaDoor
open Go.RowKit

theorem Laid.below {w w' : World} (h : Laid w) (hb : Below w.heap.size w w') : Laid w' := by
  have hlt : 0 < w.heap.size := by
    rcases Nat.eq_zero_or_pos w.heap.size with h0 | h'
    · simp [Laid, World.cell?, h0] at h
    · exact h'
  unfold Laid
  rw [hb.cell hlt]
  exact h

def badL (v lo hi : Int) : Prop := v < 0 ∨ 1024 ≤ v ∨ lo < 0 ∨ 1 < lo ∨ hi < 0 ∨ 1 < hi
theorem c9 : clampN 9 = 9 := rfl
theorem beh2 {k v : Int} : behB first2 k v = true ↔ 0 ≤ k ∧ k ≤ 1 ∧ v < 1024 := by
  constructor
  · intro h
    obtain ⟨i, rfl, hi, hv⟩ := behB_elim h
    simp [first2] at hi
    match i with
    | 0 => simp [first2, ndAt] at hv; omega
    | 1 => simp [first2, ndAt] at hv; omega
    | i + 2 => omega
  · rintro ⟨h1, h2, h3⟩
    obtain ⟨i, rfl⟩ := Int.eq_ofNat_of_zero_le h1
    match i with
    | 0 => simp [behB, hasB, first2, ndAt]; omega
    | 1 => simp [behB, hasB, first2, ndAt]; omega
    | i + 2 => omega
theorem ok2 {v lo hi : Int} : okB first2 v lo hi = true ↔ ¬ badL v lo hi := by
  simp only [okB, Bool.and_eq_true, decide_eq_true_eq, beh2, badL]
  omega
theorem mk_lim_bad {v lo hi : Int} (h : badL v lo hi) : mkR (clampN 9) first2 v lo hi = (0, 10, first2) := by
  have : ¬ okB first2 v lo hi = true := fun e => ok2.1 e h
  simp [mkR, this]
theorem mk_lim_same {v lo : Int} (h : ¬ badL v lo lo) : mkR (clampN 9) first2 v lo lo = (lo, 0, first2) := by
  simp [mkR, ok2.2 h]
theorem mk_lim_new {v lo hi : Int} (h : ¬ badL v lo hi) (hne : lo ≠ hi) : mkR (clampN 9) first2 v lo hi = (2, 0, first2 ++ [⟨v, lo, hi⟩]) := by
  have hv : v < 1024 := by unfold badL at h; omega
  have : findN first2 ⟨v, lo, hi⟩ = none := by
    simp [findN, first2, sameN]
    omega
  have hl : ¬ (clampN 9 ≤ (first2.length : Int)) := by decide
  rw [mkR, if_pos (ok2.2 h), if_neg hne, this]
  simp only [if_neg hl]
  rfl

set_option maxHeartbeats 1000000 in
theorem lim_bad (v lo hi : Int) (w : World) (hL : Laid w) (hbad : badL v lo hi) :
    Calls Tryd.prog 4 #[.int .i64 v, .int .i64 lo, .int .i64 hi] w fun e w' => e = .returned (.bool true) ∧ Below w.heap.size w w' := by
  go_enter Tryd.func4, Tryd.ntmps4
  go_wp2_with fail
  refine (awake_any w).mono ?_
  rintro e w0 ⟨rfl, b0⟩
  go_wp2_with fail
  refine (of_any 9 w0).mono ?_
  rintro e w1 ⟨rfl, a1, b1, s1⟩
  have B1 := Below.up b0 b1 (Nat.le_refl _)
  have hs0 := b0.size
  obtain ⟨p, hp, hp'⟩ : ∃ p, w.heap.size ≤ p ∧ p = w0.heap.size + 2 := ⟨_, by omega, rfl⟩
  obtain ⟨g, hg, hg'⟩ : ∃ g, w.heap.size ≤ g ∧ g = w0.heap.size := ⟨_, by omega, rfl⟩
  obtain ⟨m, hm, hm'⟩ : ∃ m, w.heap.size ≤ m ∧ m = w0.heap.size + 1 := ⟨_, by omega, rfl⟩
  rw [← hp', ← hm', ← hg'] at a1
  rw [← hp']
  clear hp' hm' hg' s1 b0 b1 hs0
  have m1 := mk_any a1 v lo hi
  rw [mk_lim_bad hbad] at m1
  go_wp2_with fail
  refine m1.mono ?_
  rintro e w2 ⟨g2, c2, rfl, a2, k2, e2⟩
  obtain ⟨b2, hg2⟩ := next B1 (Nat.le_refl _) hp hg hm k2 e2
  have hn := number_hit 10 w2 (hL.below b2)
  have hl := fun w' (hb : Below w2.heap.size w2 w') => len_any (a2.below hb)
  clear m1 a1 B1 k2 e2
  rcases (show v < 0 ∨ (0 ≤ v ∧ 1024 ≤ v) ∨ (0 ≤ v ∧ v < 1024 ∧ lo < 0) ∨ (0 ≤ v ∧ v < 1024 ∧ 0 ≤ lo ∧ 1 < lo) ∨ (0 ≤ v ∧ v < 1024 ∧ 0 ≤ lo ∧ lo ≤ 1 ∧ hi < 0) ∨ (0 ≤ v ∧ v < 1024 ∧ 0 ≤ lo ∧ lo ≤ 1 ∧ 0 ≤ hi ∧ 1 < hi) by unfold badL at hbad; omega) with h1 | ⟨h1, h2⟩ | ⟨h1, h2, h3⟩ | ⟨h1, h2, h3, h4⟩ | ⟨h1, h2, h3, h4, h5⟩ | ⟨h1, h2, h3, h4, h5, h6⟩
  all_goals
    clear hbad
    go_wp2_with fail
    refine hn.mono ?_
    rintro e w3 ⟨rfl, b3⟩
    have hl3 := hl w3 b3
    have e3 : ((first2.length : Nat) : Int) = 2 := rfl
    rw [e3] at hl3
    clear e3 hl
    go_wp2_with fail
    refine hl3.mono ?_
    rintro e _ ⟨rfl, rfl⟩
    go_wp2_with fail
    go_ret
    exact ⟨rfl, Below.up b2 b3 (Nat.le_refl _)⟩

set_option maxHeartbeats 1000000 in
theorem lim_same (v lo : Int) (w : World) (hgood : ¬ badL v lo lo) :
    Calls Tryd.prog 4 #[.int .i64 v, .int .i64 lo, .int .i64 lo] w fun e w' => e = .returned (.bool true) ∧ Below w.heap.size w w' := by
  go_enter Tryd.func4, Tryd.ntmps4
  go_wp2_with fail
  refine (awake_any w).mono ?_
  rintro e w0 ⟨rfl, b0⟩
  go_wp2_with fail
  refine (of_any 9 w0).mono ?_
  rintro e w1 ⟨rfl, a1, b1, s1⟩
  have B1 := Below.up b0 b1 (Nat.le_refl _)
  have hs0 := b0.size
  obtain ⟨p, hp, hp'⟩ : ∃ p, w.heap.size ≤ p ∧ p = w0.heap.size + 2 := ⟨_, by omega, rfl⟩
  obtain ⟨g, hg, hg'⟩ : ∃ g, w.heap.size ≤ g ∧ g = w0.heap.size := ⟨_, by omega, rfl⟩
  obtain ⟨m, hm, hm'⟩ : ∃ m, w.heap.size ≤ m ∧ m = w0.heap.size + 1 := ⟨_, by omega, rfl⟩
  rw [← hp', ← hm', ← hg'] at a1
  rw [← hp']
  clear hp' hm' hg' s1 b0 b1 hs0
  have m1 := mk_any a1 v lo lo
  rw [mk_lim_same hgood] at m1
  have hnil := errV_zero
  go_wp2_with fail
  refine m1.mono ?_
  rintro e w2 ⟨g2, c2, rfl, a2, k2, e2⟩
  obtain ⟨b2, hg2⟩ := next B1 (Nat.le_refl _) hp hg hm k2 e2
  have hl := len_any a2
  have e3 : ((first2.length : Nat) : Int) = 2 := rfl
  rw [e3] at hl
  clear m1 a1 B1 k2 e2 e3
  obtain ⟨h1, h2, h3, h4⟩ : 0 ≤ v ∧ v < 1024 ∧ 0 ≤ lo ∧ lo ≤ 1 := by unfold badL at hgood; omega
  clear hgood
  go_wp2_with fail
  refine hl.mono ?_
  rintro e _ ⟨rfl, rfl⟩
  go_wp2_with fail
  go_ret
  exact ⟨rfl, b2⟩

set_option maxHeartbeats 1000000 in
theorem lim_new (v lo hi : Int) (w : World) (hgood : ¬ badL v lo hi) (hne : lo ≠ hi) :
    Calls Tryd.prog 4 #[.int .i64 v, .int .i64 lo, .int .i64 hi] w fun e w' => e = .returned (.bool true) ∧ Below w.heap.size w w' := by
  go_enter Tryd.func4, Tryd.ntmps4
  go_wp2_with fail
  refine (awake_any w).mono ?_
  rintro e w0 ⟨rfl, b0⟩
  go_wp2_with fail
  refine (of_any 9 w0).mono ?_
  rintro e w1 ⟨rfl, a1, b1, s1⟩
  have B1 := Below.up b0 b1 (Nat.le_refl _)
  have hs0 := b0.size
  obtain ⟨p, hp, hp'⟩ : ∃ p, w.heap.size ≤ p ∧ p = w0.heap.size + 2 := ⟨_, by omega, rfl⟩
  obtain ⟨g, hg, hg'⟩ : ∃ g, w.heap.size ≤ g ∧ g = w0.heap.size := ⟨_, by omega, rfl⟩
  obtain ⟨m, hm, hm'⟩ : ∃ m, w.heap.size ≤ m ∧ m = w0.heap.size + 1 := ⟨_, by omega, rfl⟩
  rw [← hp', ← hm', ← hg'] at a1
  rw [← hp']
  clear hp' hm' hg' s1 b0 b1 hs0
  have m1 := mk_any a1 v lo hi
  rw [mk_lim_new hgood hne] at m1
  have hnil := errV_zero
  go_wp2_with fail
  refine m1.mono ?_
  rintro e w2 ⟨g2, c2, rfl, a2, k2, e2⟩
  obtain ⟨b2, hg2⟩ := next B1 (Nat.le_refl _) hp hg hm k2 e2
  have hl := len_any a2
  have hgt := get_any a2 2
  have e3 : (((first2 ++ [(⟨v, lo, hi⟩ : Nd)]).length : Nat) : Int) = 3 := rfl
  have e4 : getN (first2 ++ [⟨v, lo, hi⟩]) 2 = ⟨v, lo, hi⟩ := rfl
  rw [e3] at hl
  rw [e4] at hgt
  clear m1 a1 B1 k2 e2 e3 e4
  obtain ⟨h1, h2, h3, h4, h5, h6⟩ : 0 ≤ v ∧ v < 1024 ∧ 0 ≤ lo ∧ lo ≤ 1 ∧ 0 ≤ hi ∧ hi ≤ 1 := by unfold badL at hgood; omega
  clear hgood
  have hne' : (lo == hi) = false := by simpa using hne
  clear hne
  go_wp2_with fail
  refine hl.mono ?_
  rintro e _ ⟨rfl, rfl⟩
  go_wp2_with fail
  refine hgt.mono ?_
  rintro e w3 ⟨rfl, b3, _⟩
  unfold ndV
  go_wp2_with fail
  go_ret
  exact ⟨rfl, Below.up b2 b3 (Nat.le_refl _)⟩

theorem lim_any (v lo hi : Int) (w : World) (hL : Laid w) :
    Calls Tryd.prog 4 #[.int .i64 v, .int .i64 lo, .int .i64 hi] w fun e w' => e = .returned (.bool true) ∧ Below w.heap.size w w' := by
  by_cases hb : badL v lo hi
  · exact lim_bad v lo hi w hL hb
  · by_cases hne : lo = hi
    · subst hne
      exact lim_same v lo w hb
    · exact lim_new v lo hi w hb hne
end Go.Proofs.YthlbelpooplgeaaDoor
