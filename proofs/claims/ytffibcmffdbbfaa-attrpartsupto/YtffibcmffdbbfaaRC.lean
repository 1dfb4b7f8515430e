/- The laws of routes as values: the walks. -/
import Derived.Test.YtffibcmffdbbfaaRB
namespace Go.Proofs.Ytffibcmffdbbfaa
open Go.RowKit

theorem at_cells {U : World} {b : Nat} {x y z u : Value} {t : TypeId} (h : U.heap[b]? = some (.cells #[x, y, z, u] t (0, 0))) :
    (∀ p : BelOf U, p.w.cell? ⟨b, 0, none⟩ = some x) ∧ (∀ p : BelOf U, p.w.cell? ⟨b, 1, none⟩ = some y) ∧ (∀ p : BelOf U, p.w.cell? ⟨b, 2, none⟩ = some z) ∧ (∀ p : BelOf U, p.w.cell? ⟨b, 3, none⟩ = some u) := by
  have l := (Array.getElem?_eq_some_iff.1 h).1
  obtain ⟨c0, c1, c2, c3⟩ := cells_four h
  exact ⟨bel_cell l c0, bel_cell l c1, bel_cell l c2, bel_cell l c3⟩
theorem int_cases (x y : Int) : x = y ∨ (decide (y < x) = true ∧ decide (x < y) = false ∧ (x == y) = false ∧ decide (x = y) = false) ∨ (decide (y < x) = false ∧ decide (x < y) = true ∧ (x == y) = false ∧ decide (x = y) = false) := by
  by_cases h1 : x = y
  · exact .inl h1
  · by_cases h2 : y < x
    · exact .inr (.inl ⟨decide_eq_true h2, decide_eq_false (by omega), by simpa using h1, decide_eq_false h1⟩)
    · exact .inr (.inr ⟨decide_eq_false h2, decide_eq_true (by omega), by simpa using h1, decide_eq_false h1⟩)
theorem int_self (x : Int) : decide (x < x) = false ∧ (x == x) = true ∧ decide (x = x) = true := ⟨decide_eq_false (by omega), by simp, decide_eq_true rfl⟩
set_option maxHeartbeats 4000000 in
set_option maxRecDepth 20000 in
theorem lbetter_walk (a b : At) (w : World) :
    Calls Try.prog 3 #[atV a, atV b] w fun e w' => e = .returned (.bool true) ∧ Below w.heap.size w w' := by
  have hb := better_any a b
  obtain ⟨ao, ap, ac, at'⟩ := a
  obtain ⟨bo, bp, bc, bt⟩ := b
  obtain ⟨x, hx⟩ : ∃ x, betP ⟨ao, ap, ac, at'⟩ ⟨bo, bp, bc, bt⟩ = x := ⟨_, rfl⟩
  rw [hx] at hb
  unfold betP at hx
  unfold atV at hb ⊢
  simp only at hb hx ⊢
  go_enter Try.func3, Try.ntmps3
  go_wp2_with fail
  obtain ⟨X, hX⟩ : ∃ X, X = (w.alloc (.cells #[.bool ao, .int .i64 ap, .int .i64 ac, .int .u8 at'] 23)).alloc (.cells #[.bool bo, .int .i64 bp, .int .i64 bc, .int .u8 bt] 23) := ⟨_, rfl⟩
  have hwX : Below w.heap.size w X := by rw [hX]; exact bel_alloc2 _ _ _
  obtain ⟨A0, A1, A2, A3⟩ := at_cells (U := X) (b := w.heap.size) (by rw [hX]; exact pf_block (bel_alloc (Below.refl _ _) _) (pf_new _ _ _ rfl))
  obtain ⟨B0, B1, B2, B3⟩ := at_cells (U := X) (b := w.heap.size + 1) (by rw [hX]; exact pf_new _ _ _ (by simp))
  rw [← hX]
  clear hX
  refine (awake10_any _).mono ?_
  rintro e W1 ⟨rfl, q1⟩
  obtain ⟨p, rfl⟩ : ∃ p : BelOf X, W1 = p.w := ⟨⟨W1, q1⟩, rfl⟩
  clear q1
  have hX := hwX.size
  have hpX := p.h.size
  have HID : Hid (Below w.heap.size w X) := hwX
  cases ao <;> cases bo
  rotate_left 3
  · obtain ⟨s1, s2, s3⟩ := int_self ap
    obtain ⟨t1, t2, t3⟩ := int_self ac
    rcases int_cases ap bp with rfl | ⟨d1, d2, d3, d4⟩ | ⟨d1, d2, d3, d4⟩
    · rcases int_cases ac bc with rfl | ⟨g1, g2, g3, g4⟩ | ⟨g1, g2, g3, g4⟩
      · obtain ⟨k, hk⟩ : ∃ k, decide (at' < bt) = k := ⟨_, rfl⟩
        rw [hk] at hx
        cases k
        all_goals
          simp [*] at hx
          subst hx
          go_wp2_with (go_at_call 9; refine (hb _).mono ?_; rintro e W2 ⟨rfl, q2⟩)
          go_ret
          exact ⟨rfl, bel_up hwX (bel_up p.h q2 hpX) hX⟩
      all_goals
        simp [*] at hx
        subst hx
        go_wp2_with (go_at_call 9; refine (hb _).mono ?_; rintro e W2 ⟨rfl, q2⟩)
        go_ret
        exact ⟨rfl, bel_up hwX (bel_up p.h q2 hpX) hX⟩
    all_goals
      simp [*] at hx
      subst hx
      go_wp2_with (go_at_call 9; refine (hb _).mono ?_; rintro e W2 ⟨rfl, q2⟩)
      go_ret
      exact ⟨rfl, bel_up hwX (bel_up p.h q2 hpX) hX⟩
  all_goals
    simp at hx
    subst hx
    go_wp2_with (go_at_call 9; refine (hb _).mono ?_; rintro e W2 ⟨rfl, q2⟩)
    go_ret
    exact ⟨rfl, bel_up hwX (bel_up p.h q2 hpX) hX⟩
set_option maxHeartbeats 4000000 in
set_option maxRecDepth 20000 in
theorem lsame_walk (a b : At) (w : World) :
    Calls Try.prog 6 #[atV a, atV b] w fun e w' => e = .returned (.bool true) ∧ Below w.heap.size w w' := by
  have hb := same_any a b
  obtain ⟨ao, ap, ac, at'⟩ := a
  obtain ⟨bo, bp, bc, bt⟩ := b
  obtain ⟨x, hx⟩ : ∃ x, samP ⟨ao, ap, ac, at'⟩ ⟨bo, bp, bc, bt⟩ = x := ⟨_, rfl⟩
  rw [hx] at hb
  unfold samP eqP at hx
  unfold atV at hb ⊢
  simp only at hb hx ⊢
  go_enter Try.func6, Try.ntmps6
  go_wp2_with fail
  obtain ⟨X, hX⟩ : ∃ X, X = (w.alloc (.cells #[.bool ao, .int .i64 ap, .int .i64 ac, .int .u8 at'] 23)).alloc (.cells #[.bool bo, .int .i64 bp, .int .i64 bc, .int .u8 bt] 23) := ⟨_, rfl⟩
  have hwX : Below w.heap.size w X := by rw [hX]; exact bel_alloc2 _ _ _
  obtain ⟨A0, A1, A2, A3⟩ := at_cells (U := X) (b := w.heap.size) (by rw [hX]; exact pf_block (bel_alloc (Below.refl _ _) _) (pf_new _ _ _ rfl))
  obtain ⟨B0, B1, B2, B3⟩ := at_cells (U := X) (b := w.heap.size + 1) (by rw [hX]; exact pf_new _ _ _ (by simp))
  rw [← hX]
  clear hX
  refine (awake10_any _).mono ?_
  rintro e W1 ⟨rfl, q1⟩
  obtain ⟨p, rfl⟩ : ∃ p : BelOf X, W1 = p.w := ⟨⟨W1, q1⟩, rfl⟩
  clear q1
  have hX := hwX.size
  have hpX := p.h.size
  have HID : Hid (Below w.heap.size w X) := hwX
  cases ao <;> cases bo
  rotate_left 3
  · obtain ⟨s1, s2, s3⟩ := int_self ap
    obtain ⟨t1, t2, t3⟩ := int_self ac
    obtain ⟨r1, r2, r3⟩ := int_self at'
    rcases int_cases ap bp with rfl | ⟨d1, d2, d3, d4⟩ | ⟨d1, d2, d3, d4⟩
    · rcases int_cases ac bc with rfl | ⟨g1, g2, g3, g4⟩ | ⟨g1, g2, g3, g4⟩
      · rcases int_cases at' bt with rfl | ⟨k1, k2, k3, k4⟩ | ⟨k1, k2, k3, k4⟩
        all_goals
          simp [*] at hx
          subst hx
          go_wp2_with (go_at_call 10; refine (hb _).mono ?_; rintro e W2 ⟨rfl, q2⟩)
          go_ret
          exact ⟨rfl, bel_up hwX (bel_up p.h q2 hpX) hX⟩
      all_goals
        simp [*] at hx
        subst hx
        go_wp2_with (go_at_call 10; refine (hb _).mono ?_; rintro e W2 ⟨rfl, q2⟩)
        go_ret
        exact ⟨rfl, bel_up hwX (bel_up p.h q2 hpX) hX⟩
    all_goals
      simp [*] at hx
      subst hx
      go_wp2_with (go_at_call 10; refine (hb _).mono ?_; rintro e W2 ⟨rfl, q2⟩)
      go_ret
      exact ⟨rfl, bel_up hwX (bel_up p.h q2 hpX) hX⟩
  all_goals
    simp at hx
    subst hx
    go_wp2_with (go_at_call 10; refine (hb _).mono ?_; rintro e W2 ⟨rfl, q2⟩)
    go_ret
    exact ⟨rfl, bel_up hwX (bel_up p.h q2 hpX) hX⟩
end Go.Proofs.Ytffibcmffdbbfaa
