/- What Covers does, and the reckoning by bits. -/
import Derived.Test.YtgofhgbffgmjhaaDoorHB
namespace Go.Proofs.YtgofhgbffgmjhaaDoor
open Go.RowKit

theorem cov_f1 {a c : Nat} {b d : Int} (h : mayP a b = false) : covP a b c d = false := by simp [covP, h]
theorem cov_f2 {a c : Nat} {b d : Int} (h : mayP c d = false) : covP a b c d = false := by simp [covP, h]
theorem cov_f3 {a c : Nat} {b d : Int} (h : ¬ b ≤ d) : covP a b c d = false := by simp [covP, h]
theorem cov_t {a c : Nat} {b d : Int} (h1 : mayP a b = true) (h2 : mayP c d = true) (h3 : b ≤ d) : covP a b c d = decide (fstP c b.toNat = a) := by simp [covP, h1, h2, h3]
/-- Two prefixes in boxes. -/
theorem two_pf (w : World) (a c : Nat) (b d : Int) {U : World} {b1 b2 : Nat} (hU : U = (w.alloc (.cells #[.int .u32 a, .int .i64 b] 24)).alloc (.cells #[.int .u32 c, .int .i64 d] 24)) (hb1 : b1 = w.heap.size) (hb2 : b2 = w.heap.size + 1) :
    Below w.heap.size w U ∧ (∀ p : BelOf U, p.w.cell? ⟨b1, 0, none⟩ = some (.int .u32 a)) ∧ (∀ p : BelOf U, p.w.cell? ⟨b1, 1, none⟩ = some (.int .i64 b)) ∧ (∀ p : BelOf U, p.w.cell? ⟨b2, 0, none⟩ = some (.int .u32 c)) ∧ ∀ p : BelOf U, p.w.cell? ⟨b2, 1, none⟩ = some (.int .i64 d) := by
  have s1 : (w.alloc (.cells #[.int .u32 a, .int .i64 b] 24)).heap.size = w.heap.size + 1 := by simp
  have hwU : Below w.heap.size w U := by rw [hU]; exact bel_alloc (bel_alloc (Below.refl _ _) _) _
  have hc1 : U.heap[b1]? = some (.cells #[.int .u32 a, .int .i64 b] 24 (0, 0)) := by
    rw [hU]
    exact pf_block (bel_alloc (Below.refl _ _) _) (pf_new _ _ _ hb1)
  have hc2 : U.heap[b2]? = some (.cells #[.int .u32 c, .int .i64 d] 24 (0, 0)) := by rw [hU]; exact pf_new _ _ _ (by rw [s1]; exact hb2)
  obtain ⟨C0, C1⟩ := cells_two hc1
  obtain ⟨D0, D1⟩ := cells_two hc2
  have l1 := (Array.getElem?_eq_some_iff.1 hc1).1
  have l2 := (Array.getElem?_eq_some_iff.1 hc2).1
  exact ⟨hwU, bel_cell l1 C0, bel_cell l1 C1, bel_cell l2 D0, bel_cell l2 D1⟩
set_option maxHeartbeats 4000000 in
set_option maxRecDepth 20000 in
theorem covers_t (a c : Nat) (b d : Int) (ha : a < 4294967296) (hc : c < 4294967296) (w : World) (h1 : mayP a b = true) (h2 : mayP c d = true) (h3 : b ≤ d) :
    Calls Tryd.prog 18 #[pfV a b, pfV c d] w fun e w' => e = .returned (.bool (covP a b c d)) ∧ Below w.heap.size w w' := by
  rw [cov_t h1 h2 h3, ← nat_beq]
  obtain ⟨q0, q1, _⟩ := may_bounds h1
  have hf := first_any c b q0 q1 hc
  have d3 : decide (b ≤ d) = true := decide_eq_true h3
  have m1 := may_any a b ha
  have m2 := may_any c d hc
  unfold pfV at m1 m2 ⊢
  go_enter Tryd.func18, Tryd.ntmps18
  go_wp2_with fail
  obtain ⟨U, hU⟩ : ∃ U, U = (w.alloc (.cells #[.int .u32 a, .int .i64 b] 24)).alloc (.cells #[.int .u32 c, .int .i64 d] 24) := ⟨_, rfl⟩
  rw [← hU]
  obtain ⟨b1, hb1⟩ : ∃ b1, b1 = w.heap.size := ⟨_, rfl⟩
  obtain ⟨b2, hb2⟩ : ∃ b2, b2 = w.heap.size + 1 := ⟨_, rfl⟩
  rw [← hb2, ← hb1]
  obtain ⟨hwU, C0, C1, D0, D1⟩ := two_pf w a c b d hU hb1 hb2
  clear hU hb1 hb2
  rw [h1] at m1
  rw [h2] at m2
  clear h1 h2
  have hne := bel_ne U
  refine wp_region_bel (by kernel_rfl) (by kernel_rfl) ?_
  repeat (go_big_quiet_step (first
    | (go_at_call 20; exact bel_same (hf _))
    | (go_at_call_of 10 b; exact bel_of (m1 _))
    | (go_at_call_of 10 d; exact bel_of (m2 _))))
  refine wpQuiet_nil ?_
  rintro V ⟨⟨V', hV⟩, rfl⟩
  go_wp2_with fail
  go_ret
  exact ⟨rfl, bel_up hwU hV hwU.size⟩
set_option maxHeartbeats 4000000 in
set_option maxRecDepth 20000 in
theorem covers_f3 (a c : Nat) (b d : Int) (ha : a < 4294967296) (hc : c < 4294967296) (w : World) (h1 : mayP a b = true) (h2 : mayP c d = true) (h3 : ¬ b ≤ d) :
    Calls Tryd.prog 18 #[pfV a b, pfV c d] w fun e w' => e = .returned (.bool (covP a b c d)) ∧ Below w.heap.size w w' := by
  rw [cov_f3 h3]
  have d3 : decide (b ≤ d) = false := decide_eq_false h3
  have m1 := may_any a b ha
  have m2 := may_any c d hc
  unfold pfV at m1 m2 ⊢
  go_enter Tryd.func18, Tryd.ntmps18
  go_wp2_with fail
  obtain ⟨U, hU⟩ : ∃ U, U = (w.alloc (.cells #[.int .u32 a, .int .i64 b] 24)).alloc (.cells #[.int .u32 c, .int .i64 d] 24) := ⟨_, rfl⟩
  rw [← hU]
  obtain ⟨b1, hb1⟩ : ∃ b1, b1 = w.heap.size := ⟨_, rfl⟩
  obtain ⟨b2, hb2⟩ : ∃ b2, b2 = w.heap.size + 1 := ⟨_, rfl⟩
  rw [← hb2, ← hb1]
  obtain ⟨hwU, C0, C1, D0, D1⟩ := two_pf w a c b d hU hb1 hb2
  clear hU hb1 hb2
  rw [h1] at m1
  rw [h2] at m2
  clear h1 h2
  have hne := bel_ne U
  refine wp_region_bel (by kernel_rfl) (by kernel_rfl) ?_
  repeat (go_big_quiet_step (first
    | (go_at_call_of 10 b; exact bel_of (m1 _))
    | (go_at_call_of 10 d; exact bel_of (m2 _))))
  refine wpQuiet_nil ?_
  rintro V ⟨⟨V', hV⟩, rfl⟩
  go_wp2_with fail
  go_ret
  exact ⟨rfl, bel_up hwU hV hwU.size⟩
set_option maxHeartbeats 4000000 in
set_option maxRecDepth 20000 in
theorem covers_f2 (a c : Nat) (b d : Int) (ha : a < 4294967296) (hc : c < 4294967296) (w : World) (h1 : mayP a b = true) (h2 : mayP c d = false) :
    Calls Tryd.prog 18 #[pfV a b, pfV c d] w fun e w' => e = .returned (.bool (covP a b c d)) ∧ Below w.heap.size w w' := by
  rw [cov_f2 h2]
  have m1 := may_any a b ha
  have m2 := may_any c d hc
  unfold pfV at m1 m2 ⊢
  go_enter Tryd.func18, Tryd.ntmps18
  go_wp2_with fail
  obtain ⟨U, hU⟩ : ∃ U, U = (w.alloc (.cells #[.int .u32 a, .int .i64 b] 24)).alloc (.cells #[.int .u32 c, .int .i64 d] 24) := ⟨_, rfl⟩
  rw [← hU]
  obtain ⟨b1, hb1⟩ : ∃ b1, b1 = w.heap.size := ⟨_, rfl⟩
  obtain ⟨b2, hb2⟩ : ∃ b2, b2 = w.heap.size + 1 := ⟨_, rfl⟩
  rw [← hb2, ← hb1]
  obtain ⟨hwU, C0, C1, D0, D1⟩ := two_pf w a c b d hU hb1 hb2
  clear hU hb1 hb2
  rw [h1] at m1
  rw [h2] at m2
  clear h1 h2
  have hne := bel_ne U
  refine wp_region_bel (by kernel_rfl) (by kernel_rfl) ?_
  repeat (go_big_quiet_step (first
    | (go_at_call_of 10 b; exact bel_of (m1 _))
    | (go_at_call_of 10 d; exact bel_of (m2 _))))
  refine wpQuiet_nil ?_
  rintro V ⟨⟨V', hV⟩, rfl⟩
  go_wp2_with fail
  go_ret
  exact ⟨rfl, bel_up hwU hV hwU.size⟩
set_option maxHeartbeats 4000000 in
set_option maxRecDepth 20000 in
theorem covers_f1 (a c : Nat) (b d : Int) (ha : a < 4294967296) (hc : c < 4294967296) (w : World) (h1 : mayP a b = false) :
    Calls Tryd.prog 18 #[pfV a b, pfV c d] w fun e w' => e = .returned (.bool (covP a b c d)) ∧ Below w.heap.size w w' := by
  rw [cov_f1 h1]
  have m1 := may_any a b ha
  have m2 := may_any c d hc
  unfold pfV at m1 m2 ⊢
  go_enter Tryd.func18, Tryd.ntmps18
  go_wp2_with fail
  obtain ⟨U, hU⟩ : ∃ U, U = (w.alloc (.cells #[.int .u32 a, .int .i64 b] 24)).alloc (.cells #[.int .u32 c, .int .i64 d] 24) := ⟨_, rfl⟩
  rw [← hU]
  obtain ⟨b1, hb1⟩ : ∃ b1, b1 = w.heap.size := ⟨_, rfl⟩
  obtain ⟨b2, hb2⟩ : ∃ b2, b2 = w.heap.size + 1 := ⟨_, rfl⟩
  rw [← hb2, ← hb1]
  obtain ⟨hwU, C0, C1, D0, D1⟩ := two_pf w a c b d hU hb1 hb2
  clear hU hb1 hb2
  rw [h1] at m1
  clear h1
  have hne := bel_ne U
  refine wp_region_bel (by kernel_rfl) (by kernel_rfl) ?_
  repeat (go_big_quiet_step (first
    | (go_at_call_of 10 b; exact bel_of (m1 _))
    | (go_at_call_of 10 d; exact bel_of (m2 _))))
  refine wpQuiet_nil ?_
  rintro V ⟨⟨V', hV⟩, rfl⟩
  go_wp2_with fail
  go_ret
  exact ⟨rfl, bel_up hwU hV hwU.size⟩
theorem covers_any (a c : Nat) (b d : Int) (ha : a < 4294967296) (hc : c < 4294967296) (w : World) :
    Calls Tryd.prog 18 #[pfV a b, pfV c d] w fun e w' => e = .returned (.bool (covP a b c d)) ∧ Below w.heap.size w w' := by
  cases h1 : mayP a b with
  | false => exact covers_f1 a c b d ha hc w h1
  | true =>
    cases h2 : mayP c d with
    | false => exact covers_f2 a c b d ha hc w h1 h2
    | true =>
      by_cases h3 : b ≤ d
      · exact covers_t a c b d ha hc w h1 h2 h3
      · exact covers_f3 a c b d ha hc w h1 h2 h3
theorem bit_ne (a c i : Nat) : (((a : Int) / 2 ^ i % 2) != ((c : Int) / 2 ^ i % 2)) = true ↔ a / 2 ^ i % 2 ≠ c / 2 ^ i % 2 := by
  have e : ((a : Int) / 2 ^ i % 2) = ((a / 2 ^ i % 2 : Nat) : Int) := by simp
  have e' : ((c : Int) / 2 ^ i % 2) = ((c / 2 ^ i % 2 : Nat) : Int) := by simp
  rw [e, e']
  simp
  omega
set_option maxHeartbeats 4000000 in
set_option maxRecDepth 20000 in
theorem lcov_any (a c : Nat) (b d : Int) (ha : a < 4294967296) (hc : c < 4294967296) (w : World) :
    Calls Tryd.prog 16 #[pfV a b, pfV c d] w fun e w' => e = .returned (.bool (covP a b c d)) ∧ Below w.heap.size w w' := by
  have m1 := lmay_any a b ha
  have m2 := lmay_any c d hc
  cases h1 : mayP a b with
  | false =>
    rw [cov_f1 h1]
    rw [h1] at m1
    unfold pfV at m1 m2 ⊢
    go_enter Tryd.func16, Tryd.ntmps16
    go_wp2_with fail
    refine (m1 _).mono ?_
    rintro e w1 ⟨rfl, b1⟩
    clear m1 m2
    go_wp2
    go_ret
    exact ⟨rfl, bel_up (bel_alloc (bel_alloc (Below.refl _ _) _) _) b1 (by simp; omega)⟩
  | true =>
    cases h2 : mayP c d with
    | false =>
      rw [cov_f2 h2]
      rw [h1] at m1
      rw [h2] at m2
      unfold pfV at m1 m2 ⊢
      go_enter Tryd.func16, Tryd.ntmps16
      go_wp2_with fail
      obtain ⟨U, hU⟩ : ∃ U, U = (w.alloc (.cells #[.int .u32 a, .int .i64 b] 24)).alloc (.cells #[.int .u32 c, .int .i64 d] 24) := ⟨_, rfl⟩
      rw [← hU]
      obtain ⟨b1, hb1⟩ : ∃ b1, b1 = w.heap.size := ⟨_, rfl⟩
      obtain ⟨b2, hb2⟩ : ∃ b2, b2 = w.heap.size + 1 := ⟨_, rfl⟩
      rw [← hb2, ← hb1]
      obtain ⟨hwU, C0, C1, D0, D1⟩ := two_pf w a c b d hU hb1 hb2
      clear hU hb1 hb2
      refine (m1 _).mono ?_
      rintro e w1 ⟨rfl, q1⟩
      have x0 : w1.cell? ⟨b2, 0, none⟩ = some (.int .u32 c) := D0 ⟨w1, q1⟩
      have x1 : w1.cell? ⟨b2, 1, none⟩ = some (.int .i64 d) := D1 ⟨w1, q1⟩
      go_wp2_with fail
      refine (m2 _).mono ?_
      rintro e w2 ⟨rfl, q2'⟩
      have q2 := bel_up q1 q2' q1.size
      have y0 : w2.cell? ⟨b1, 0, none⟩ = some (.int .u32 a) := C0 ⟨w2, q2⟩
      have y1 : w2.cell? ⟨b1, 1, none⟩ = some (.int .i64 b) := C1 ⟨w2, q2⟩
      have z0 : w2.cell? ⟨b2, 0, none⟩ = some (.int .u32 c) := D0 ⟨w2, q2⟩
      have z1 : w2.cell? ⟨b2, 1, none⟩ = some (.int .i64 d) := D1 ⟨w2, q2⟩
      clear m1 m2 x0 x1 q1 q2'
      go_wp2
      go_ret
      exact ⟨rfl, bel_up hwU q2 hwU.size⟩
    | true =>
      rw [h1] at m1
      rw [h2] at m2
      by_cases h3 : b ≤ d
      · have HCB := cov_bits (a := a) (c := c) (by omega) (by omega) h1 h2 h3
        obtain ⟨k0, k1, _⟩ := may_bounds h1
        obtain ⟨m, rfl⟩ : ∃ m : Nat, b = m := ⟨b.toNat, by omega⟩
        have HH : Hid (covP a m c d = true ↔ ∀ k : Nat, (k : Int) < m → a / 2 ^ (31 - k) % 2 = c / 2 ^ (31 - k) % 2) := HCB
        have HK : Hid (m ≤ 32) := by show m ≤ 32; omega
        have d3 : decide (d < (m : Int)) = false := decide_eq_false (by omega)
        clear HCB h1 h2 h3 k0 k1
        unfold pfV at m1 m2 ⊢
        go_enter Tryd.func16, Tryd.ntmps16
        go_wp2_with fail
        obtain ⟨U, hU⟩ : ∃ U, U = (w.alloc (.cells #[.int .u32 a, .int .i64 m] 24)).alloc (.cells #[.int .u32 c, .int .i64 d] 24) := ⟨_, rfl⟩
        rw [← hU]
        obtain ⟨b1, hb1⟩ : ∃ b1, b1 = w.heap.size := ⟨_, rfl⟩
        obtain ⟨b2, hb2⟩ : ∃ b2, b2 = w.heap.size + 1 := ⟨_, rfl⟩
        rw [← hb2, ← hb1]
        obtain ⟨hwU, C0, C1, D0, D1⟩ := two_pf w a c m d hU hb1 hb2
        clear hU hb1 hb2
        refine (m1 _).mono ?_
        rintro e w1 ⟨rfl, q1⟩
        have x0 : w1.cell? ⟨b2, 0, none⟩ = some (.int .u32 c) := D0 ⟨w1, q1⟩
        have x1 : w1.cell? ⟨b2, 1, none⟩ = some (.int .i64 d) := D1 ⟨w1, q1⟩
        go_wp2_with fail
        refine (m2 _).mono ?_
        rintro e w2 ⟨rfl, q2'⟩
        have q2 := bel_up q1 q2' q1.size
        have y0 : w2.cell? ⟨b1, 0, none⟩ = some (.int .u32 a) := C0 ⟨w2, q2⟩
        have y1 : w2.cell? ⟨b1, 1, none⟩ = some (.int .i64 m) := C1 ⟨w2, q2⟩
        have z0 : w2.cell? ⟨b2, 0, none⟩ = some (.int .u32 c) := D0 ⟨w2, q2⟩
        have z1 : w2.cell? ⟨b2, 1, none⟩ = some (.int .i64 d) := D1 ⟨w2, q2⟩
        clear m1 m2 x0 x1 q1 q2'
        go_wp2_with fail
        go_loopw [5] (fun i wr => ∃ k : Nat, k ≤ m ∧ i = .int .i64 k ∧ Below U.heap.size U wr ∧ ∀ j, j < k → a / 2 ^ (31 - j) % 2 = c / 2 ^ (31 - j) % 2) (fun i _ => m - (intOf i).toNat)
        case atStart => exact ⟨0, Nat.zero_le _, rfl, q2, fun j h => by omega⟩
        case round =>
          obtain ⟨k, hk, rfl, q3, HJ⟩ := hrel
          have HJ' : Hid (∀ j, j < k → a / 2 ^ (31 - j) % 2 = c / 2 ^ (31 - j) % 2) := HJ
          clear HJ y0 y1 z0 z1 q2
          have y1 : wr.cell? ⟨b1, 1, none⟩ = some (.int .i64 m) := C1 ⟨wr, q3⟩
          by_cases hkm : k < m
          · have HK' : m ≤ 32 := HK
            have bt1 := bit_any a k (by omega) ha
            have bt2 := bit_any c k (by omega) hc
            have d4 : decide ((k : Int) < (m : Int)) = true := decide_eq_true (by omega)
            have E0 : ∀ p : BelOf wr, p.w.cell? ⟨b1, 0, none⟩ = some (.int .u32 a) := fun p => C0 ⟨p.w, bel_up q3 p.h q3.size⟩
            have E1 : ∀ p : BelOf wr, p.w.cell? ⟨b2, 0, none⟩ = some (.int .u32 c) := fun p => D0 ⟨p.w, bel_up q3 p.h q3.size⟩
            go_wp2_with fail
            have hne := bel_ne wr
            refine wp_region_bel (by kernel_rfl) (by kernel_rfl) ?_
            repeat (go_big_quiet_step (first
              | (go_at_call_of 17 a; exact bel_same (bt1 _))
              | (go_at_call_of 17 c; exact bel_same (bt2 _))))
            refine wpQuiet_nil ?_
            rintro V ⟨⟨V', hV⟩, rfl⟩
            have q4 := bel_up q3 hV q3.size
            clear E0 E1 bt1 bt2 y1 hne
            go_wp2
            · have hx : (((a : Int) / 2 ^ (31 - k) % 2) != ((c : Int) / 2 ^ (31 - k) % 2)) = true := by assumption
              have hf : covP a m c d = false := by
                have HM : covP a m c d = true ↔ ∀ k : Nat, (k : Int) < m → a / 2 ^ (31 - k) % 2 = c / 2 ^ (31 - k) % 2 := HH
                cases hcv : covP a m c d with
                | false => rfl
                | true => exact absurd (HM.1 hcv k (by omega)) ((bit_ne a c (31 - k)).1 hx)
              rw [hf]
              go_ret
              exact ⟨rfl, bel_up hwU q4 hwU.size⟩
            · have hx : (((a : Int) / 2 ^ (31 - k) % 2) != ((c : Int) / 2 ^ (31 - k) % 2)) = false := by assumption
              have hx' : a / 2 ^ (31 - k) % 2 = c / 2 ^ (31 - k) % 2 := by
                by_cases h : a / 2 ^ (31 - k) % 2 = c / 2 ^ (31 - k) % 2
                · exact h
                · rw [(bit_ne a c (31 - k)).2 h] at hx
                  cases hx
              have HJ : ∀ j, j < k → a / 2 ^ (31 - j) % 2 = c / 2 ^ (31 - j) % 2 := HJ'
              go_roundw
              case rel =>
                refine ⟨k + 1, by omega, by go_num, q4, fun j h => ?_⟩
                rcases Nat.lt_or_ge j k with h' | h'
                · exact HJ j h'
                · obtain rfl : j = k := by omega
                  exact hx'
              case measure => simp [intOf]; omega
          · have d4 : decide ((k : Int) < (m : Int)) = false := decide_eq_false (by omega)
            have hf : covP a m c d = true := by
              have HM : covP a m c d = true ↔ ∀ k : Nat, (k : Int) < m → a / 2 ^ (31 - k) % 2 = c / 2 ^ (31 - k) % 2 := HH
              have HJ : ∀ j, j < k → a / 2 ^ (31 - j) % 2 = c / 2 ^ (31 - j) % 2 := HJ'
              exact HM.2 fun j h => HJ j (by omega)
            go_wp2
            rw [hf]
            go_ret
            exact ⟨rfl, bel_up hwU q3 hwU.size⟩
      · rw [cov_f3 h3]
        have d3 : decide (d < b) = true := decide_eq_true (by omega)
        clear h3
        unfold pfV at m1 m2 ⊢
        go_enter Tryd.func16, Tryd.ntmps16
        go_wp2_with fail
        obtain ⟨U, hU⟩ : ∃ U, U = (w.alloc (.cells #[.int .u32 a, .int .i64 b] 24)).alloc (.cells #[.int .u32 c, .int .i64 d] 24) := ⟨_, rfl⟩
        rw [← hU]
        obtain ⟨b1, hb1⟩ : ∃ b1, b1 = w.heap.size := ⟨_, rfl⟩
        obtain ⟨b2, hb2⟩ : ∃ b2, b2 = w.heap.size + 1 := ⟨_, rfl⟩
        rw [← hb2, ← hb1]
        obtain ⟨hwU, C0, C1, D0, D1⟩ := two_pf w a c b d hU hb1 hb2
        clear hU hb1 hb2
        refine (m1 _).mono ?_
        rintro e w1 ⟨rfl, q1⟩
        have x0 : w1.cell? ⟨b2, 0, none⟩ = some (.int .u32 c) := D0 ⟨w1, q1⟩
        have x1 : w1.cell? ⟨b2, 1, none⟩ = some (.int .i64 d) := D1 ⟨w1, q1⟩
        go_wp2_with fail
        refine (m2 _).mono ?_
        rintro e w2 ⟨rfl, q2'⟩
        have q2 := bel_up q1 q2' q1.size
        have y0 : w2.cell? ⟨b1, 0, none⟩ = some (.int .u32 a) := C0 ⟨w2, q2⟩
        have y1 : w2.cell? ⟨b1, 1, none⟩ = some (.int .i64 b) := C1 ⟨w2, q2⟩
        have z0 : w2.cell? ⟨b2, 0, none⟩ = some (.int .u32 c) := D0 ⟨w2, q2⟩
        have z1 : w2.cell? ⟨b2, 1, none⟩ = some (.int .i64 d) := D1 ⟨w2, q2⟩
        clear m1 m2 x0 x1 q1 q2'
        go_wp2
        go_ret
        exact ⟨rfl, bel_up hwU q2 hwU.size⟩
end Go.Proofs.YtgofhgbffgmjhaaDoor
