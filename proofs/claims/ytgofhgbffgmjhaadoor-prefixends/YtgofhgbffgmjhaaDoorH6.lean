/- PrefixEnds: the walk. -/
import Derived.Test.YtgofhgbffgmjhaaDoorHW
namespace Go.Proofs.YtgofhgbffgmjhaaDoor
open Go.RowKit Go.Lib

theorem may_one (a : Nat) : mayP a 32 = true := by
  unfold mayP
  rw [decide_eq_true_iff]
  exact ⟨by decide, by decide, by simp [Nat.mod_one]⟩
theorem may_all : mayP 0 0 = true := by decide
theorem cov_one (a c : Nat) (d : Int) : covP a 32 c d = true ↔ c = a ∧ d = 32 := by
  unfold covP
  rw [may_one]
  have e : fstP c (32 : Int).toNat = c := by
    show c / 2 ^ 0 * 2 ^ 0 = c
    simp
  rw [e]
  simp only [Bool.true_and, Bool.and_eq_true, decide_eq_true_iff]
  constructor
  · rintro ⟨⟨h1, h2⟩, h3⟩
    have := may_bounds h1
    exact ⟨h3, by omega⟩
  · rintro ⟨rfl, rfl⟩
    exact ⟨⟨may_one c, by decide⟩, rfl⟩
theorem cov_all (c : Nat) (d : Int) (hc : c < 4294967296) : covP 0 0 c d = mayP c d := by
  unfold covP
  rw [may_all]
  have e : fstP c (0 : Int).toNat = 0 := by
    show c / 2 ^ 32 * 2 ^ 32 = 0
    omega
  rw [e]
  cases h : mayP c d with
  | false => rfl
  | true =>
    have := may_bounds h
    simp
    omega
theorem cov_self (c : Nat) (d : Int) : covP c d c d = mayP c d := by
  unfold covP
  cases h : mayP c d with
  | false => rfl
  | true =>
    have h' := may_bounds h
    have e := (fst_eq c d.toNat).2 h'.2.2
    simp [e]
set_option maxHeartbeats 4000000 in
set_option maxRecDepth 20000 in
theorem ends_eq (a : Nat) (ha : a < 4294967296) (w : World) (ht : TabP w) :
    Calls Tryd.prog 8 #[pfV a 32, .int .u32 a] w fun e w' => e = .returned (.bool true) ∧ Below w.heap.size w w' := by
  have hc := ha
  have m1 := may_any a 32 ha
  have m2 := may_any 0 0 (by decide)
  have m3 := may_any a 32 hc
  rw [may_one] at m1 m3
  rw [may_all] at m2
  have v1 := covers_any a a 32 32 ha hc
  have v2 := covers_any 0 a 0 32 (by decide) hc
  have v3 := covers_any a a 32 32 hc hc
  rw [cov_all a 32 hc, may_one] at v2
  rw [cov_self, may_one] at v3 v1
  unfold pfV at m1 m2 m3 v1 v2 v3 ⊢
  simp only [Int.natCast_zero] at m2 v2
  have HT : Hid (TabP w) := ht
  clear ht
  go_enter Tryd.func8, Tryd.ntmps8
  go_wp2_with fail
  obtain ⟨U, hU⟩ : ∃ U, U = w.alloc (.cells #[.int .u32 a, .int .i64 32] 24) := ⟨_, rfl⟩
  rw [← hU]
  obtain ⟨b1, hb1⟩ : ∃ b1, b1 = w.heap.size := ⟨_, rfl⟩
  rw [← hb1]
  have hwU : Below w.heap.size w U := by rw [hU]; exact bel_alloc (Below.refl _ _) _
  have hcU : U.heap[b1]? = some (.cells #[.int .u32 a, .int .i64 32] 24 (0, 0)) := by rw [hU]; exact pf_new _ _ _ hb1
  clear hU hb1
  refine (awake5_any U (HT.out.below hwU)).mono ?_
  rintro e V ⟨rfl, q1⟩
  go_wp2_with fail
  obtain ⟨X, hX⟩ : ∃ X, X = (V.alloc (.cells #[.int .u32 a, .int .i64 32] 24)).alloc (.cells #[.int .u32 0, .int .i64 0] 24) := ⟨_, rfl⟩
  rw [← hX]
  obtain ⟨b2, hb2⟩ : ∃ b2, b2 = V.heap.size := ⟨_, rfl⟩
  obtain ⟨b3, hb3⟩ : ∃ b3, b3 = V.heap.size + 1 := ⟨_, rfl⟩
  rw [← hb3, ← hb2]
  obtain ⟨qX, C0, C1, D0, D1⟩ := two_pf V a 0 32 0 hX hb2 hb3
  have hcX := pf_block qX (pf_block q1 hcU)
  have lX := (Array.getElem?_eq_some_iff.1 hcX).1
  obtain ⟨x0, x1⟩ := cells_two hcX
  have hwX := bel_up (bel_up hwU q1 hwU.size) qX (Nat.le_trans hwU.size q1.size)
  clear hX hb2 hb3 q1 hcU hwU qX hcX
  refine (m1 _).mono ?_
  rintro e X1 ⟨rfl, q1⟩
  have y0 : X1.cell? ⟨b3, 0, none⟩ = some (.int .u32 0) := D0 ⟨X1, q1⟩
  have y1 : X1.cell? ⟨b3, 1, none⟩ = some (.int .i64 0) := D1 ⟨X1, q1⟩
  go_wp2_with fail
  refine (m2 _).mono ?_
  rintro e X2 ⟨rfl, q2'⟩
  have q2 := bel_up q1 q2' q1.size
  have E0 : ∀ p : BelOf X2, p.w.cell? ⟨b2, 0, none⟩ = some (.int .u32 a) := fun p => C0 ⟨p.w, bel_up q2 p.h q2.size⟩
  have E1 : ∀ p : BelOf X2, p.w.cell? ⟨b2, 1, none⟩ = some (.int .i64 32) := fun p => C1 ⟨p.w, bel_up q2 p.h q2.size⟩
  have G0 : ∀ p : BelOf X2, p.w.cell? ⟨b3, 0, none⟩ = some (.int .u32 0) := fun p => D0 ⟨p.w, bel_up q2 p.h q2.size⟩
  have G1 : ∀ p : BelOf X2, p.w.cell? ⟨b3, 1, none⟩ = some (.int .i64 0) := fun p => D1 ⟨p.w, bel_up q2 p.h q2.size⟩
  have I0 : ∀ p : BelOf X2, p.w.cell? ⟨b1, 0, none⟩ = some (.int .u32 a) := fun p => bel_cell lX x0 ⟨p.w, bel_up q2 p.h q2.size⟩
  have I1 : ∀ p : BelOf X2, p.w.cell? ⟨b1, 1, none⟩ = some (.int .i64 32) := fun p => bel_cell lX x1 ⟨p.w, bel_up q2 p.h q2.size⟩
  have hw2 := bel_up hwX q2 hwX.size
  clear C0 C1 D0 D1 x0 x1 lX y0 y1 q1 q2' q2 m1 m2
  go_wp2_with fail
  have hne := bel_ne X2
  refine wp_region_bel (by kernel_rfl) (by kernel_rfl) ?_
  repeat (go_big_quiet_step (first
    | (go_at_call 10; exact bel_of (m3 _))
    | (go_at_call_of 18 (0 : Int); exact bel_of (v2 _))
    | (go_at_call_of 18 (32 : Int); exact bel_of (v1 _))
    | (go_at_call 18; exact bel_of (v3 _))))
  refine wpQuiet_nil ?_
  rintro W ⟨⟨W', hW⟩, rfl⟩
  clear E0 E1 G0 G1 I0 I1 hne m3 v1 v2 v3
  go_wp2_with fail
  go_ret
  exact ⟨rfl, bel_up hw2 hW hw2.size⟩
set_option maxHeartbeats 4000000 in
set_option maxRecDepth 20000 in
theorem ends_n1 (a c : Nat) (d : Int) (ha : a < 4294967296) (hc : c < 4294967296) (hne : ¬ c = a) (w : World) (ht : TabP w) :
    Calls Tryd.prog 8 #[pfV c d, .int .u32 a] w fun e w' => e = .returned (.bool true) ∧ Below w.heap.size w w' := by
  have k1 : ¬ ((c : Int) = (a : Int)) := by omega
  have m1 := may_any a 32 ha
  have m2 := may_any 0 0 (by decide)
  have m3 := may_any c d hc
  rw [may_one] at m1
  rw [may_all] at m2
  have v1 := covers_any a c 32 d ha hc
  have v2 := covers_any 0 c 0 d (by decide) hc
  have v3 := covers_any c c d d hc hc
  rw [cov_all c d hc] at v2
  rw [cov_self] at v3
  have ef : covP a 32 c d = false := by
    cases h : covP a 32 c d with
    | false => rfl
    | true => exact absurd ((cov_one a c d).1 h) (fun h => hne h.1)
  rw [ef] at v1
  clear ef
  obtain ⟨z, hz⟩ : ∃ z, z = mayP c d := ⟨_, rfl⟩
  rw [← hz] at m3 v2 v3
  clear hz
  unfold pfV at m1 m2 m3 v1 v2 v3 ⊢
  simp only [Int.natCast_zero] at m2 v2
  have HT : Hid (TabP w) := ht
  clear ht
  go_enter Tryd.func8, Tryd.ntmps8
  go_wp2_with fail
  obtain ⟨U, hU⟩ : ∃ U, U = w.alloc (.cells #[.int .u32 c, .int .i64 d] 24) := ⟨_, rfl⟩
  rw [← hU]
  obtain ⟨b1, hb1⟩ : ∃ b1, b1 = w.heap.size := ⟨_, rfl⟩
  rw [← hb1]
  have hwU : Below w.heap.size w U := by rw [hU]; exact bel_alloc (Below.refl _ _) _
  have hcU : U.heap[b1]? = some (.cells #[.int .u32 c, .int .i64 d] 24 (0, 0)) := by rw [hU]; exact pf_new _ _ _ hb1
  clear hU hb1
  refine (awake5_any U (HT.out.below hwU)).mono ?_
  rintro e V ⟨rfl, q1⟩
  go_wp2_with fail
  obtain ⟨X, hX⟩ : ∃ X, X = (V.alloc (.cells #[.int .u32 a, .int .i64 32] 24)).alloc (.cells #[.int .u32 0, .int .i64 0] 24) := ⟨_, rfl⟩
  rw [← hX]
  obtain ⟨b2, hb2⟩ : ∃ b2, b2 = V.heap.size := ⟨_, rfl⟩
  obtain ⟨b3, hb3⟩ : ∃ b3, b3 = V.heap.size + 1 := ⟨_, rfl⟩
  rw [← hb3, ← hb2]
  obtain ⟨qX, C0, C1, D0, D1⟩ := two_pf V a 0 32 0 hX hb2 hb3
  have hcX := pf_block qX (pf_block q1 hcU)
  have lX := (Array.getElem?_eq_some_iff.1 hcX).1
  obtain ⟨x0, x1⟩ := cells_two hcX
  have hwX := bel_up (bel_up hwU q1 hwU.size) qX (Nat.le_trans hwU.size q1.size)
  clear hX hb2 hb3 q1 hcU hwU qX hcX
  refine (m1 _).mono ?_
  rintro e X1 ⟨rfl, q1⟩
  have y0 : X1.cell? ⟨b3, 0, none⟩ = some (.int .u32 0) := D0 ⟨X1, q1⟩
  have y1 : X1.cell? ⟨b3, 1, none⟩ = some (.int .i64 0) := D1 ⟨X1, q1⟩
  go_wp2_with fail
  refine (m2 _).mono ?_
  rintro e X2 ⟨rfl, q2'⟩
  have q2 := bel_up q1 q2' q1.size
  have E0 : ∀ p : BelOf X2, p.w.cell? ⟨b2, 0, none⟩ = some (.int .u32 a) := fun p => C0 ⟨p.w, bel_up q2 p.h q2.size⟩
  have E1 : ∀ p : BelOf X2, p.w.cell? ⟨b2, 1, none⟩ = some (.int .i64 32) := fun p => C1 ⟨p.w, bel_up q2 p.h q2.size⟩
  have G0 : ∀ p : BelOf X2, p.w.cell? ⟨b3, 0, none⟩ = some (.int .u32 0) := fun p => D0 ⟨p.w, bel_up q2 p.h q2.size⟩
  have G1 : ∀ p : BelOf X2, p.w.cell? ⟨b3, 1, none⟩ = some (.int .i64 0) := fun p => D1 ⟨p.w, bel_up q2 p.h q2.size⟩
  have I0 : ∀ p : BelOf X2, p.w.cell? ⟨b1, 0, none⟩ = some (.int .u32 c) := fun p => bel_cell lX x0 ⟨p.w, bel_up q2 p.h q2.size⟩
  have I1 : ∀ p : BelOf X2, p.w.cell? ⟨b1, 1, none⟩ = some (.int .i64 d) := fun p => bel_cell lX x1 ⟨p.w, bel_up q2 p.h q2.size⟩
  have hw2 := bel_up hwX q2 hwX.size
  clear C0 C1 D0 D1 x0 x1 lX y0 y1 q1 q2' q2 m1 m2
  go_wp2_with fail
  have hne := bel_ne X2
  refine wp_region_bel (by kernel_rfl) (by kernel_rfl) ?_
  repeat (go_big_quiet_step (first
    | (go_at_call 10; exact bel_of (m3 _))
    | (go_at_call_of 18 (0 : Int); exact bel_of (v2 _))
    | (go_at_call_of 18 (32 : Int); exact bel_of (v1 _))
    | (go_at_call 18; exact bel_of (v3 _))))
  refine wpQuiet_nil ?_
  rintro W ⟨⟨W', hW⟩, rfl⟩
  clear E0 E1 G0 G1 I0 I1 hne m3 v1 v2 v3
  go_wp2_with fail
  go_ret
  exact ⟨rfl, bel_up hw2 hW hw2.size⟩
set_option maxHeartbeats 4000000 in
set_option maxRecDepth 20000 in
theorem ends_n2 (a : Nat) (d : Int) (ha : a < 4294967296) (hne : ¬ d = 32) (w : World) (ht : TabP w) :
    Calls Tryd.prog 8 #[pfV a d, .int .u32 a] w fun e w' => e = .returned (.bool true) ∧ Below w.heap.size w w' := by
  have hc := ha
  have m1 := may_any a 32 ha
  have m2 := may_any 0 0 (by decide)
  have m3 := may_any a d hc
  rw [may_one] at m1
  rw [may_all] at m2
  have v1 := covers_any a a 32 d ha hc
  have v2 := covers_any 0 a 0 d (by decide) hc
  have v3 := covers_any a a d d hc hc
  rw [cov_all a d hc] at v2
  rw [cov_self] at v3
  have ef : covP a 32 a d = false := by
    cases h : covP a 32 a d with
    | false => rfl
    | true => exact absurd ((cov_one a a d).1 h) (fun h => hne h.2)
  rw [ef] at v1
  clear ef
  obtain ⟨z, hz⟩ : ∃ z, z = mayP a d := ⟨_, rfl⟩
  rw [← hz] at m3 v2 v3
  clear hz
  unfold pfV at m1 m2 m3 v1 v2 v3 ⊢
  simp only [Int.natCast_zero] at m2 v2
  have HT : Hid (TabP w) := ht
  clear ht
  go_enter Tryd.func8, Tryd.ntmps8
  go_wp2_with fail
  obtain ⟨U, hU⟩ : ∃ U, U = w.alloc (.cells #[.int .u32 a, .int .i64 d] 24) := ⟨_, rfl⟩
  rw [← hU]
  obtain ⟨b1, hb1⟩ : ∃ b1, b1 = w.heap.size := ⟨_, rfl⟩
  rw [← hb1]
  have hwU : Below w.heap.size w U := by rw [hU]; exact bel_alloc (Below.refl _ _) _
  have hcU : U.heap[b1]? = some (.cells #[.int .u32 a, .int .i64 d] 24 (0, 0)) := by rw [hU]; exact pf_new _ _ _ hb1
  clear hU hb1
  refine (awake5_any U (HT.out.below hwU)).mono ?_
  rintro e V ⟨rfl, q1⟩
  go_wp2_with fail
  obtain ⟨X, hX⟩ : ∃ X, X = (V.alloc (.cells #[.int .u32 a, .int .i64 32] 24)).alloc (.cells #[.int .u32 0, .int .i64 0] 24) := ⟨_, rfl⟩
  rw [← hX]
  obtain ⟨b2, hb2⟩ : ∃ b2, b2 = V.heap.size := ⟨_, rfl⟩
  obtain ⟨b3, hb3⟩ : ∃ b3, b3 = V.heap.size + 1 := ⟨_, rfl⟩
  rw [← hb3, ← hb2]
  obtain ⟨qX, C0, C1, D0, D1⟩ := two_pf V a 0 32 0 hX hb2 hb3
  have hcX := pf_block qX (pf_block q1 hcU)
  have lX := (Array.getElem?_eq_some_iff.1 hcX).1
  obtain ⟨x0, x1⟩ := cells_two hcX
  have hwX := bel_up (bel_up hwU q1 hwU.size) qX (Nat.le_trans hwU.size q1.size)
  clear hX hb2 hb3 q1 hcU hwU qX hcX
  refine (m1 _).mono ?_
  rintro e X1 ⟨rfl, q1⟩
  have y0 : X1.cell? ⟨b3, 0, none⟩ = some (.int .u32 0) := D0 ⟨X1, q1⟩
  have y1 : X1.cell? ⟨b3, 1, none⟩ = some (.int .i64 0) := D1 ⟨X1, q1⟩
  go_wp2_with fail
  refine (m2 _).mono ?_
  rintro e X2 ⟨rfl, q2'⟩
  have q2 := bel_up q1 q2' q1.size
  have E0 : ∀ p : BelOf X2, p.w.cell? ⟨b2, 0, none⟩ = some (.int .u32 a) := fun p => C0 ⟨p.w, bel_up q2 p.h q2.size⟩
  have E1 : ∀ p : BelOf X2, p.w.cell? ⟨b2, 1, none⟩ = some (.int .i64 32) := fun p => C1 ⟨p.w, bel_up q2 p.h q2.size⟩
  have G0 : ∀ p : BelOf X2, p.w.cell? ⟨b3, 0, none⟩ = some (.int .u32 0) := fun p => D0 ⟨p.w, bel_up q2 p.h q2.size⟩
  have G1 : ∀ p : BelOf X2, p.w.cell? ⟨b3, 1, none⟩ = some (.int .i64 0) := fun p => D1 ⟨p.w, bel_up q2 p.h q2.size⟩
  have I0 : ∀ p : BelOf X2, p.w.cell? ⟨b1, 0, none⟩ = some (.int .u32 a) := fun p => bel_cell lX x0 ⟨p.w, bel_up q2 p.h q2.size⟩
  have I1 : ∀ p : BelOf X2, p.w.cell? ⟨b1, 1, none⟩ = some (.int .i64 d) := fun p => bel_cell lX x1 ⟨p.w, bel_up q2 p.h q2.size⟩
  have hw2 := bel_up hwX q2 hwX.size
  clear C0 C1 D0 D1 x0 x1 lX y0 y1 q1 q2' q2 m1 m2
  go_wp2_with fail
  have hne := bel_ne X2
  refine wp_region_bel (by kernel_rfl) (by kernel_rfl) ?_
  repeat (go_big_quiet_step (first
    | (go_at_call 10; exact bel_of (m3 _))
    | (go_at_call_of 18 (0 : Int); exact bel_of (v2 _))
    | (go_at_call_of 18 (32 : Int); exact bel_of (v1 _))
    | (go_at_call 18; exact bel_of (v3 _))))
  refine wpQuiet_nil ?_
  rintro W ⟨⟨W', hW⟩, rfl⟩
  clear E0 E1 G0 G1 I0 I1 hne m3 v1 v2 v3
  go_wp2_with fail
  go_ret
  exact ⟨rfl, bel_up hw2 hW hw2.size⟩
theorem ends_walk (c : Nat) (d : Int) (a : Nat) (hc : c < 4294967296) (ha : a < 4294967296) (w : World) (ht : TabP w) :
    Calls Tryd.prog 8 #[pfV c d, .int .u32 a] w fun e w' => e = .returned (.bool true) ∧ Below w.heap.size w w' := by
  by_cases h1 : c = a
  · subst h1
    by_cases h2 : d = 32
    · subst h2
      exact ends_eq c ha w ht
    · exact ends_n2 c d ha h2 w ht
  · exact ends_n1 a c d ha hc h1 w ht
end Go.Proofs.YtgofhgbffgmjhaaDoor
