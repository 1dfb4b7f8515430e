/- What Covers does, and the reckoning by bits. -/
import Derived.Test.YtphhfjfdanlhiaaHB
namespace Go.Proofs.Ytphhfjfdanlhiaa
open Go.RowKit

theorem cov_f1 {a c : Nat} {b d : Int} (h : mayP a b = false) : covP a b c d = false := by simp [covP, h]
theorem cov_f2 {a c : Nat} {b d : Int} (h : mayP c d = false) : covP a b c d = false := by simp [covP, h]
theorem cov_f3 {a c : Nat} {b d : Int} (h : ¬ b ≤ d) : covP a b c d = false := by simp [covP, h]
theorem cov_t {a c : Nat} {b d : Int} (h1 : mayP a b = true) (h2 : mayP c d = true) (h3 : b ≤ d) : covP a b c d = decide (fstP c b.toNat = a) := by simp [covP, h1, h2, h3]
/-- Two prefixes in boxes. -/
theorem two_pf (w : World) (a c : Nat) (b d : Int) {U : World} {b1 b2 : Nat} (hU : U = (w.alloc (.cells #[.int .u32 a, .int .i64 b] 50)).alloc (.cells #[.int .u32 c, .int .i64 d] 50)) (hb1 : b1 = w.heap.size) (hb2 : b2 = w.heap.size + 1) :
    Below w.heap.size w U ∧ (∀ p : BelOf U, p.w.cell? ⟨b1, 0, none⟩ = some (.int .u32 a)) ∧ (∀ p : BelOf U, p.w.cell? ⟨b1, 1, none⟩ = some (.int .i64 b)) ∧ (∀ p : BelOf U, p.w.cell? ⟨b2, 0, none⟩ = some (.int .u32 c)) ∧ ∀ p : BelOf U, p.w.cell? ⟨b2, 1, none⟩ = some (.int .i64 d) := by
  have s1 : (w.alloc (.cells #[.int .u32 a, .int .i64 b] 50)).heap.size = w.heap.size + 1 := by simp
  have hwU : Below w.heap.size w U := by rw [hU]; exact bel_alloc (bel_alloc (Below.refl _ _) _) _
  have hc1 : U.heap[b1]? = some (.cells #[.int .u32 a, .int .i64 b] 50 (0, 0)) := by
    rw [hU]
    exact pf_block (bel_alloc (Below.refl _ _) _) (pf_new _ _ _ hb1)
  have hc2 : U.heap[b2]? = some (.cells #[.int .u32 c, .int .i64 d] 50 (0, 0)) := by rw [hU]; exact pf_new _ _ _ (by rw [s1]; exact hb2)
  obtain ⟨C0, C1⟩ := cells_two hc1
  obtain ⟨D0, D1⟩ := cells_two hc2
  have l1 := (Array.getElem?_eq_some_iff.1 hc1).1
  have l2 := (Array.getElem?_eq_some_iff.1 hc2).1
  exact ⟨hwU, bel_cell l1 C0, bel_cell l1 C1, bel_cell l2 D0, bel_cell l2 D1⟩
set_option maxHeartbeats 4000000 in
set_option maxRecDepth 20000 in
theorem covers_t (a c : Nat) (b d : Int) (ha : a < 4294967296) (hc : c < 4294967296) (w : World) (h1 : mayP a b = true) (h2 : mayP c d = true) (h3 : b ≤ d) :
    Calls Try.prog 25 #[pfV a b, pfV c d] w fun e w' => e = .returned (.bool (covP a b c d)) ∧ Below w.heap.size w w' := by
  rw [cov_t h1 h2 h3, ← nat_beq]
  obtain ⟨q0, q1, _⟩ := may_bounds h1
  have hf := first_any c b q0 q1 hc
  have d3 : decide (b ≤ d) = true := decide_eq_true h3
  have m1 := may_any a b ha
  have m2 := may_any c d hc
  unfold pfV at m1 m2 ⊢
  go_enter Try.func25, Try.ntmps25
  go_wp2_with fail
  obtain ⟨U, hU⟩ : ∃ U, U = (w.alloc (.cells #[.int .u32 a, .int .i64 b] 50)).alloc (.cells #[.int .u32 c, .int .i64 d] 50) := ⟨_, rfl⟩
  rw [← hU]
  obtain ⟨b1, hb1⟩ : ∃ b1, b1 = w.heap.size := ⟨_, rfl⟩
  obtain ⟨b2, hb2⟩ : ∃ b2, b2 = w.heap.size + 1 := ⟨_, rfl⟩
  rw [← hb2, ← hb1]
  obtain ⟨hwU, C0, C1, D0, D1⟩ := two_pf w a c b d hU hb1 hb2
  clear hU hb1 hb2
  rw [h1] at m1
  rw [h2] at m2
  clear h1 h2
  have hne := bel_ne U
  refine wp_region_bel (by kernel_rfl) (by kernel_rfl) ?_
  repeat (go_big_quiet_step (first
    | (go_at_call 28; exact bel_same (hf _))
    | (go_at_call_of 27 b; exact bel_of (m1 _))
    | (go_at_call_of 27 d; exact bel_of (m2 _))))
  refine wpQuiet_nil ?_
  rintro V ⟨⟨V', hV⟩, rfl⟩
  go_wp2_with fail
  go_ret
  exact ⟨rfl, bel_up hwU hV hwU.size⟩
set_option maxHeartbeats 4000000 in
set_option maxRecDepth 20000 in
theorem covers_f3 (a c : Nat) (b d : Int) (ha : a < 4294967296) (hc : c < 4294967296) (w : World) (h1 : mayP a b = true) (h2 : mayP c d = true) (h3 : ¬ b ≤ d) :
    Calls Try.prog 25 #[pfV a b, pfV c d] w fun e w' => e = .returned (.bool (covP a b c d)) ∧ Below w.heap.size w w' := by
  rw [cov_f3 h3]
  have d3 : decide (b ≤ d) = false := decide_eq_false h3
  have m1 := may_any a b ha
  have m2 := may_any c d hc
  unfold pfV at m1 m2 ⊢
  go_enter Try.func25, Try.ntmps25
  go_wp2_with fail
  obtain ⟨U, hU⟩ : ∃ U, U = (w.alloc (.cells #[.int .u32 a, .int .i64 b] 50)).alloc (.cells #[.int .u32 c, .int .i64 d] 50) := ⟨_, rfl⟩
  rw [← hU]
  obtain ⟨b1, hb1⟩ : ∃ b1, b1 = w.heap.size := ⟨_, rfl⟩
  obtain ⟨b2, hb2⟩ : ∃ b2, b2 = w.heap.size + 1 := ⟨_, rfl⟩
  rw [← hb2, ← hb1]
  obtain ⟨hwU, C0, C1, D0, D1⟩ := two_pf w a c b d hU hb1 hb2
  clear hU hb1 hb2
  rw [h1] at m1
  rw [h2] at m2
  clear h1 h2
  have hne := bel_ne U
  refine wp_region_bel (by kernel_rfl) (by kernel_rfl) ?_
  repeat (go_big_quiet_step (first
    | (go_at_call_of 27 b; exact bel_of (m1 _))
    | (go_at_call_of 27 d; exact bel_of (m2 _))))
  refine wpQuiet_nil ?_
  rintro V ⟨⟨V', hV⟩, rfl⟩
  go_wp2_with fail
  go_ret
  exact ⟨rfl, bel_up hwU hV hwU.size⟩
set_option maxHeartbeats 4000000 in
set_option maxRecDepth 20000 in
theorem covers_f2 (a c : Nat) (b d : Int) (ha : a < 4294967296) (hc : c < 4294967296) (w : World) (h1 : mayP a b = true) (h2 : mayP c d = false) :
    Calls Try.prog 25 #[pfV a b, pfV c d] w fun e w' => e = .returned (.bool (covP a b c d)) ∧ Below w.heap.size w w' := by
  rw [cov_f2 h2]
  have m1 := may_any a b ha
  have m2 := may_any c d hc
  unfold pfV at m1 m2 ⊢
  go_enter Try.func25, Try.ntmps25
  go_wp2_with fail
  obtain ⟨U, hU⟩ : ∃ U, U = (w.alloc (.cells #[.int .u32 a, .int .i64 b] 50)).alloc (.cells #[.int .u32 c, .int .i64 d] 50) := ⟨_, rfl⟩
  rw [← hU]
  obtain ⟨b1, hb1⟩ : ∃ b1, b1 = w.heap.size := ⟨_, rfl⟩
  obtain ⟨b2, hb2⟩ : ∃ b2, b2 = w.heap.size + 1 := ⟨_, rfl⟩
  rw [← hb2, ← hb1]
  obtain ⟨hwU, C0, C1, D0, D1⟩ := two_pf w a c b d hU hb1 hb2
  clear hU hb1 hb2
  rw [h1] at m1
  rw [h2] at m2
  clear h1 h2
  have hne := bel_ne U
  refine wp_region_bel (by kernel_rfl) (by kernel_rfl) ?_
  repeat (go_big_quiet_step (first
    | (go_at_call_of 27 b; exact bel_of (m1 _))
    | (go_at_call_of 27 d; exact bel_of (m2 _))))
  refine wpQuiet_nil ?_
  rintro V ⟨⟨V', hV⟩, rfl⟩
  go_wp2_with fail
  go_ret
  exact ⟨rfl, bel_up hwU hV hwU.size⟩
set_option maxHeartbeats 4000000 in
set_option maxRecDepth 20000 in
theorem covers_f1 (a c : Nat) (b d : Int) (ha : a < 4294967296) (hc : c < 4294967296) (w : World) (h1 : mayP a b = false) :
    Calls Try.prog 25 #[pfV a b, pfV c d] w fun e w' => e = .returned (.bool (covP a b c d)) ∧ Below w.heap.size w w' := by
  rw [cov_f1 h1]
  have m1 := may_any a b ha
  have m2 := may_any c d hc
  unfold pfV at m1 m2 ⊢
  go_enter Try.func25, Try.ntmps25
  go_wp2_with fail
  obtain ⟨U, hU⟩ : ∃ U, U = (w.alloc (.cells #[.int .u32 a, .int .i64 b] 50)).alloc (.cells #[.int .u32 c, .int .i64 d] 50) := ⟨_, rfl⟩
  rw [← hU]
  obtain ⟨b1, hb1⟩ : ∃ b1, b1 = w.heap.size := ⟨_, rfl⟩
  obtain ⟨b2, hb2⟩ : ∃ b2, b2 = w.heap.size + 1 := ⟨_, rfl⟩
  rw [← hb2, ← hb1]
  obtain ⟨hwU, C0, C1, D0, D1⟩ := two_pf w a c b d hU hb1 hb2
  clear hU hb1 hb2
  rw [h1] at m1
  clear h1
  have hne := bel_ne U
  refine wp_region_bel (by kernel_rfl) (by kernel_rfl) ?_
  repeat (go_big_quiet_step (first
    | (go_at_call_of 27 b; exact bel_of (m1 _))
    | (go_at_call_of 27 d; exact bel_of (m2 _))))
  refine wpQuiet_nil ?_
  rintro V ⟨⟨V', hV⟩, rfl⟩
  go_wp2_with fail
  go_ret
  exact ⟨rfl, bel_up hwU hV hwU.size⟩
theorem covers_any (a c : Nat) (b d : Int) (ha : a < 4294967296) (hc : c < 4294967296) (w : World) :
    Calls Try.prog 25 #[pfV a b, pfV c d] w fun e w' => e = .returned (.bool (covP a b c d)) ∧ Below w.heap.size w w' := by
  cases h1 : mayP a b with
  | false => exact covers_f1 a c b d ha hc w h1
  | true =>
    cases h2 : mayP c d with
    | false => exact covers_f2 a c b d ha hc w h1 h2
    | true =>
      by_cases h3 : b ≤ d
      · exact covers_t a c b d ha hc w h1 h2 h3
      · exact covers_f3 a c b d ha hc w h1 h2 h3
end Go.Proofs.Ytphhfjfdanlhiaa
