/- AttrOrder: the walk. -/
import Derived.Test.YtffibcmffdbbfaaRC
namespace Go.Proofs.Ytffibcmffdbbfaa
open Go.RowKit

theorem order_facts (a b c : At) : ((!betP a b || !betP b c || betP a c) && !(betP a b && betP b a) && ((betP a b || betP b a) != samP a b)) = true := by
  have h1 := bet_or a b
  rw [h1]
  cases hab : betP a b with
  | false => cases samP a b <;> simp
  | true =>
    rw [bet_not hab]
    cases hbc : betP b c with
    | false => cases samP a b <;> simp
    | true => rw [bet_trans hab hbc]; cases samP a b <;> simp
set_option maxHeartbeats 16000000 in
set_option maxRecDepth 20000 in
theorem lorder_core (ao bo co : Bool) (ap ac at' bp bc bt cp cc ct : Int) (xab xbc xac xba sab : Bool) (con : ((!xab || !xbc || xac) && !(xab && xba) && ((xab || xba) != sab)) = true)
    (vab : ∀ w, Calls Try.prog 9 #[.agg #[.bool ao, .int .i64 ap, .int .i64 ac, .int .u8 at'], .agg #[.bool bo, .int .i64 bp, .int .i64 bc, .int .u8 bt]] w fun e w' => e = .returned (.bool xab) ∧ Below w.heap.size w w')
    (vbc : ∀ w, Calls Try.prog 9 #[.agg #[.bool bo, .int .i64 bp, .int .i64 bc, .int .u8 bt], .agg #[.bool co, .int .i64 cp, .int .i64 cc, .int .u8 ct]] w fun e w' => e = .returned (.bool xbc) ∧ Below w.heap.size w w')
    (vac : ∀ w, Calls Try.prog 9 #[.agg #[.bool ao, .int .i64 ap, .int .i64 ac, .int .u8 at'], .agg #[.bool co, .int .i64 cp, .int .i64 cc, .int .u8 ct]] w fun e w' => e = .returned (.bool xac) ∧ Below w.heap.size w w')
    (vba : ∀ w, Calls Try.prog 9 #[.agg #[.bool bo, .int .i64 bp, .int .i64 bc, .int .u8 bt], .agg #[.bool ao, .int .i64 ap, .int .i64 ac, .int .u8 at']] w fun e w' => e = .returned (.bool xba) ∧ Below w.heap.size w w')
    (sb : ∀ w, Calls Try.prog 10 #[.agg #[.bool ao, .int .i64 ap, .int .i64 ac, .int .u8 at'], .agg #[.bool bo, .int .i64 bp, .int .i64 bc, .int .u8 bt]] w fun e w' => e = .returned (.bool sab) ∧ Below w.heap.size w w')
    (sv : ∀ w, Calls Try.prog 10 #[.agg #[.bool bo, .int .i64 bp, .int .i64 bc, .int .u8 bt], .agg #[.bool ao, .int .i64 ap, .int .i64 ac, .int .u8 at']] w fun e w' => e = .returned (.bool sab) ∧ Below w.heap.size w w')
    (sa : ∀ w, Calls Try.prog 10 #[.agg #[.bool ao, .int .i64 ap, .int .i64 ac, .int .u8 at'], .agg #[.bool ao, .int .i64 ap, .int .i64 ac, .int .u8 at']] w fun e w' => e = .returned (.bool true) ∧ Below w.heap.size w w') (w : World) :
    Calls Try.prog 4 #[.agg #[.bool ao, .int .i64 ap, .int .i64 ac, .int .u8 at'], .agg #[.bool bo, .int .i64 bp, .int .i64 bc, .int .u8 bt], .agg #[.bool co, .int .i64 cp, .int .i64 cc, .int .u8 ct]] w fun e w' => e = .returned (.bool true) ∧ Below w.heap.size w w' := by
  cases xab <;> cases xbc <;> cases xac <;> cases xba <;> cases sab <;> simp at con
  all_goals
    try clear con
    go_enter Try.func4, Try.ntmps4
    go_wp2_with fail
    obtain ⟨X, hX⟩ : ∃ X, X = ((w.alloc (.cells #[.bool ao, .int .i64 ap, .int .i64 ac, .int .u8 at'] 23)).alloc (.cells #[.bool bo, .int .i64 bp, .int .i64 bc, .int .u8 bt] 23)).alloc (.cells #[.bool co, .int .i64 cp, .int .i64 cc, .int .u8 ct] 23) := ⟨_, rfl⟩
    have hwX : Below w.heap.size w X := by rw [hX]; exact bel_alloc (bel_alloc2 _ _ _) _
    obtain ⟨A0, A1, A2, A3⟩ := at_cells (U := X) (b := w.heap.size) (by rw [hX]; exact pf_block (bel_alloc (Below.refl _ _) _) (pf_block (bel_alloc (Below.refl _ _) _) (pf_new _ _ _ rfl)))
    obtain ⟨B0, B1, B2, B3⟩ := at_cells (U := X) (b := w.heap.size + 1) (by rw [hX]; exact pf_block (bel_alloc (Below.refl _ _) _) (pf_new _ _ _ (by simp)))
    obtain ⟨C0, C1, C2, C3⟩ := at_cells (U := X) (b := w.heap.size + 1 + 1) (by rw [hX]; exact pf_new _ _ _ (by simp))
    rw [← hX]
    clear hX
    refine (awake10_any _).mono ?_
    rintro e W1 ⟨rfl, q1⟩
    obtain ⟨p, rfl⟩ : ∃ p : BelOf X, W1 = p.w := ⟨⟨W1, q1⟩, rfl⟩
    clear q1
    have hne := bel_ne X
    replace vab := bel_all vab X
    replace vbc := bel_all vbc X
    replace vac := bel_all vac X
    replace vba := bel_all vba X
    replace sb := bel_all sb X
    replace sv := bel_all sv X
    replace sa := bel_all sa X
    go_wp2_with (first
      | (go_at_call 9; with_reducible refine (vab _).mono ?_; rintro e w' ⟨rfl, q, rfl⟩)
      | (go_at_call 9; with_reducible refine (vbc _).mono ?_; rintro e w' ⟨rfl, q, rfl⟩)
      | (go_at_call 9; with_reducible refine (vac _).mono ?_; rintro e w' ⟨rfl, q, rfl⟩)
      | (go_at_call 9; with_reducible refine (vba _).mono ?_; rintro e w' ⟨rfl, q, rfl⟩))
    refine wp_region_belU (by kernel_rfl) (by kernel_rfl) ?_
    repeat (go_big_quiet_step (first
      | (go_at_call 9; with_reducible exact vab _)
      | (go_at_call 9; with_reducible exact vba _)
      | (go_at_call 10; with_reducible exact sb _)
      | (go_at_call 10; with_reducible exact sv _)
      | (go_at_call 10; with_reducible exact sa _)))
    refine wpQuiet_nil ?_
    rintro W ⟨q, rfl⟩
    have hq := bel_up hwX q.h hwX.size
    clear A0 A1 A2 A3 B0 B1 B2 B3 C0 C1 C2 C3 hne
    go_wp2_with fail
    go_ret
    exact ⟨rfl, hq⟩
theorem lorder_walk (a b c : At) (w : World) :
    Calls Try.prog 4 #[atV a, atV b, atV c] w fun e w' => e = .returned (.bool true) ∧ Below w.heap.size w w' := by
  have sv := same_any b a
  rw [sam_turn] at sv
  have sa := same_any a a
  rw [sam_self] at sa
  exact lorder_core a.ok b.ok c.ok a.pref a.cost a.tags b.pref b.cost b.tags c.pref c.cost c.tags _ _ _ _ _ (order_facts a b c) (better_any a b) (better_any b c) (better_any a c) (better_any b a) (same_any a b) sv sa w
end Go.Proofs.Ytffibcmffdbbfaa
