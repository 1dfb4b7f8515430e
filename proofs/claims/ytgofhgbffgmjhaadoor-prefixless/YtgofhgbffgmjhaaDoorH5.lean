/- PrefixLess: the walk. -/
import Derived.Test.YtgofhgbffgmjhaaDoorHW
namespace Go.Proofs.YtgofhgbffgmjhaaDoor
open Go.RowKit Go.Lib

set_option maxHeartbeats 4000000 in
set_option maxRecDepth 20000 in
theorem less_lt (a c : Nat) (b d : Int) (h : a < c) (w : World) (ht : TabP w) :
    Calls Tryd.prog 7 #[pfV a b, pfV c d] w fun e w' => e = .returned (.bool true) ∧ Below w.heap.size w w' := by
  have L := less_any a c b d
  have e : (decide (a < c) || (decide (a = c) && decide (b < d))) = true := by rw [decide_eq_true h]; rfl
  rw [e] at L
  have d1 : decide ((a : Int) < (c : Int)) = true := decide_eq_true (by omega)
  unfold pfV at L ⊢
  go_enter Tryd.func7, Tryd.ntmps7
  go_wp2_with fail
  obtain ⟨U, hU⟩ : ∃ U, U = (w.alloc (.cells #[.int .u32 a, .int .i64 b] 24)).alloc (.cells #[.int .u32 c, .int .i64 d] 24) := ⟨_, rfl⟩
  rw [← hU]
  obtain ⟨b1, hb1⟩ : ∃ b1, b1 = w.heap.size := ⟨_, rfl⟩
  obtain ⟨b2, hb2⟩ : ∃ b2, b2 = w.heap.size + 1 := ⟨_, rfl⟩
  rw [← hb2, ← hb1]
  obtain ⟨hwU, C0, C1, D0, D1⟩ := two_pf w a c b d hU hb1 hb2
  clear hU hb1 hb2
  refine (awake5_any U (ht.below hwU)).mono ?_
  rintro e V ⟨rfl, q1⟩
  have E0 : ∀ p : BelOf V, p.w.cell? ⟨b1, 0, none⟩ = some (.int .u32 a) := fun p => C0 ⟨p.w, bel_up q1 p.h q1.size⟩
  have E1 : ∀ p : BelOf V, p.w.cell? ⟨b1, 1, none⟩ = some (.int .i64 b) := fun p => C1 ⟨p.w, bel_up q1 p.h q1.size⟩
  have G0 : ∀ p : BelOf V, p.w.cell? ⟨b2, 0, none⟩ = some (.int .u32 c) := fun p => D0 ⟨p.w, bel_up q1 p.h q1.size⟩
  have G1 : ∀ p : BelOf V, p.w.cell? ⟨b2, 1, none⟩ = some (.int .i64 d) := fun p => D1 ⟨p.w, bel_up q1 p.h q1.size⟩
  clear C0 C1 D0 D1
  go_wp2_with fail
  have hne := bel_ne V
  refine wp_region_bel (by kernel_rfl) (by kernel_rfl) ?_
  repeat (go_big_quiet_step (first
    | (go_at_call 19; exact bel_of (L _))))
  refine wpQuiet_nil ?_
  rintro W ⟨⟨W', hW⟩, rfl⟩
  clear E0 E1 G0 G1 hne
  go_wp2_with fail
  go_ret
  exact ⟨rfl, bel_up (bel_up hwU q1 hwU.size) hW (Nat.le_trans hwU.size q1.size)⟩
set_option maxHeartbeats 4000000 in
set_option maxRecDepth 20000 in
theorem less_eq (a : Nat) (b d : Int)  (w : World) (ht : TabP w) :
    Calls Tryd.prog 7 #[pfV a b, pfV a d] w fun e w' => e = .returned (.bool true) ∧ Below w.heap.size w w' := by
  have L := less_any a a b d
  have e : (decide (a < a) || (decide (a = a) && decide (b < d))) = decide (b < d) := by simp
  rw [e] at L
  have d1 : decide ((a : Int) < (a : Int)) = false := decide_eq_false (by omega)
  unfold pfV at L ⊢
  go_enter Tryd.func7, Tryd.ntmps7
  go_wp2_with fail
  obtain ⟨U, hU⟩ : ∃ U, U = (w.alloc (.cells #[.int .u32 a, .int .i64 b] 24)).alloc (.cells #[.int .u32 a, .int .i64 d] 24) := ⟨_, rfl⟩
  rw [← hU]
  obtain ⟨b1, hb1⟩ : ∃ b1, b1 = w.heap.size := ⟨_, rfl⟩
  obtain ⟨b2, hb2⟩ : ∃ b2, b2 = w.heap.size + 1 := ⟨_, rfl⟩
  rw [← hb2, ← hb1]
  obtain ⟨hwU, C0, C1, D0, D1⟩ := two_pf w a a b d hU hb1 hb2
  clear hU hb1 hb2
  refine (awake5_any U (ht.below hwU)).mono ?_
  rintro e V ⟨rfl, q1⟩
  have E0 : ∀ p : BelOf V, p.w.cell? ⟨b1, 0, none⟩ = some (.int .u32 a) := fun p => C0 ⟨p.w, bel_up q1 p.h q1.size⟩
  have E1 : ∀ p : BelOf V, p.w.cell? ⟨b1, 1, none⟩ = some (.int .i64 b) := fun p => C1 ⟨p.w, bel_up q1 p.h q1.size⟩
  have G0 : ∀ p : BelOf V, p.w.cell? ⟨b2, 0, none⟩ = some (.int .u32 a) := fun p => D0 ⟨p.w, bel_up q1 p.h q1.size⟩
  have G1 : ∀ p : BelOf V, p.w.cell? ⟨b2, 1, none⟩ = some (.int .i64 d) := fun p => D1 ⟨p.w, bel_up q1 p.h q1.size⟩
  clear C0 C1 D0 D1
  go_wp2_with fail
  have hne := bel_ne V
  refine wp_region_bel (by kernel_rfl) (by kernel_rfl) ?_
  repeat (go_big_quiet_step (first
    | (go_at_call 19; exact bel_of (L _))))
  refine wpQuiet_nil ?_
  rintro W ⟨⟨W', hW⟩, rfl⟩
  clear E0 E1 G0 G1 hne
  go_wp2_with fail
  go_ret
  exact ⟨rfl, bel_up (bel_up hwU q1 hwU.size) hW (Nat.le_trans hwU.size q1.size)⟩
set_option maxHeartbeats 4000000 in
set_option maxRecDepth 20000 in
theorem less_gt (a c : Nat) (b d : Int) (h : c < a) (w : World) (ht : TabP w) :
    Calls Tryd.prog 7 #[pfV a b, pfV c d] w fun e w' => e = .returned (.bool true) ∧ Below w.heap.size w w' := by
  have L := less_any a c b d
  have e : (decide (a < c) || (decide (a = c) && decide (b < d))) = false := by rw [decide_eq_false (by omega), decide_eq_false (show ¬ a = c by omega)]; rfl
  rw [e] at L
  have d1 : decide ((a : Int) < (c : Int)) = false := decide_eq_false (by omega)
  have d2 : ((a : Int) == (c : Int)) = false := by rw [nat_beq]; exact decide_eq_false (by omega)
  have d3 : decide (a < c) = false := decide_eq_false (by omega)
  clear h
  unfold pfV at L ⊢
  go_enter Tryd.func7, Tryd.ntmps7
  go_wp2_with fail
  obtain ⟨U, hU⟩ : ∃ U, U = (w.alloc (.cells #[.int .u32 a, .int .i64 b] 24)).alloc (.cells #[.int .u32 c, .int .i64 d] 24) := ⟨_, rfl⟩
  rw [← hU]
  obtain ⟨b1, hb1⟩ : ∃ b1, b1 = w.heap.size := ⟨_, rfl⟩
  obtain ⟨b2, hb2⟩ : ∃ b2, b2 = w.heap.size + 1 := ⟨_, rfl⟩
  rw [← hb2, ← hb1]
  obtain ⟨hwU, C0, C1, D0, D1⟩ := two_pf w a c b d hU hb1 hb2
  clear hU hb1 hb2
  refine (awake5_any U (ht.below hwU)).mono ?_
  rintro e V ⟨rfl, q1⟩
  have E0 : ∀ p : BelOf V, p.w.cell? ⟨b1, 0, none⟩ = some (.int .u32 a) := fun p => C0 ⟨p.w, bel_up q1 p.h q1.size⟩
  have E1 : ∀ p : BelOf V, p.w.cell? ⟨b1, 1, none⟩ = some (.int .i64 b) := fun p => C1 ⟨p.w, bel_up q1 p.h q1.size⟩
  have G0 : ∀ p : BelOf V, p.w.cell? ⟨b2, 0, none⟩ = some (.int .u32 c) := fun p => D0 ⟨p.w, bel_up q1 p.h q1.size⟩
  have G1 : ∀ p : BelOf V, p.w.cell? ⟨b2, 1, none⟩ = some (.int .i64 d) := fun p => D1 ⟨p.w, bel_up q1 p.h q1.size⟩
  clear C0 C1 D0 D1
  go_wp2_with fail
  have hne := bel_ne V
  refine wp_region_bel (by kernel_rfl) (by kernel_rfl) ?_
  repeat (go_big_quiet_step (first
    | (go_at_call 19; exact bel_of (L _))))
  refine wpQuiet_nil ?_
  rintro W ⟨⟨W', hW⟩, rfl⟩
  clear E0 E1 G0 G1 hne
  go_wp2_with fail
  go_ret
  exact ⟨rfl, bel_up (bel_up hwU q1 hwU.size) hW (Nat.le_trans hwU.size q1.size)⟩
theorem less_law (a c : Nat) (b d : Int) (w : World) (ht : TabP w) :
    Calls Tryd.prog 7 #[pfV a b, pfV c d] w fun e w' => e = .returned (.bool true) ∧ Below w.heap.size w w' := by
  rcases Nat.lt_trichotomy a c with h | h | h
  · exact less_lt a c b d h w ht
  · subst h
    exact less_eq a b d w ht
  · exact less_gt a c b d h w ht
theorem less_walk (a : Nat) (b : Int) (c : Nat) (d : Int) (_ : a < 4294967296) (_ : c < 4294967296) (w : World) (ht : TabP w) :
    Calls Tryd.prog 7 #[pfV a b, pfV c d] w fun e w' => e = .returned (.bool true) ∧ Below w.heap.size w w' := less_law a c b d w ht
end Go.Proofs.YtgofhgbffgmjhaaDoor
