/- PrefixText: the walk. -/
import Derived.Test.YtgofhgbffgmjhaaDoorHW
import Derived.Test.YtgofhgbffgmjhaaDoorHG
import Derived.Deep.RegionHeld3
namespace Go.Proofs.YtgofhgbffgmjhaaDoor
open Go.RowKit Go.Lib

/-- The two prefixes that are gone through. -/
def RowT (bs a : Nat) (b : Int) (x : Nat) (xb : Int) (w : World) : Prop := w.heap[bs]? = some (.cells #[.int .u32 a, .int .i64 b, .int .u32 x, .int .i64 xb] 24 (0, 0))
theorem RowT.cells {bs a x : Nat} {b xb : Int} {w : World} (h : RowT bs a b x xb w) : w.cell? ⟨bs, 0, none⟩ = some (.int .u32 a) ∧ w.cell? ⟨bs, 1, none⟩ = some (.int .i64 b) ∧ w.cell? ⟨bs, 2, none⟩ = some (.int .u32 x) ∧ w.cell? ⟨bs, 3, none⟩ = some (.int .i64 xb) := by
  unfold RowT at h
  refine ⟨?_, ?_, ?_, ?_⟩ <;> simp [World.cell?, h]
theorem text_len {a b : Nat} (hm : mayP a b = true) (ha : a < 4294967296) : (textP a b).length ≤ maxLen := by
  obtain ⟨_, hb, _⟩ := may_bounds hm
  have l1 := (dec_len (n := a / 16777216) (by omega)).1
  have l2 := (dec_len (n := a / 65536 % 256) (by omega)).1
  have l3 := (dec_len (n := a / 256 % 256) (by omega)).1
  have l4 := (dec_len (n := a % 256) (by omega)).1
  have l5 := (dec_len (n := b) (by omega)).1
  unfold textP maxLen
  simp only [List.length_append, List.length_cons, List.length_nil]
  omega
set_option maxHeartbeats 16000000 in
set_option maxRecDepth 20000 in
theorem text_walk (a : Nat) (b : Int) (n : Nat) (ha : a < 4294967296) (hn : n < 256) (w : World) (ht : TabP w) :
    Calls Tryd.prog 3 #[pfV a b, .int .u8 n] w fun e w' => e = .returned (.bool true) ∧ Below w.heap.size w w' := by
  have mk := make_any n hn
  have lx := mkA_lt hn
  have mx := mk_may n
  obtain ⟨x, hx⟩ : ∃ x, x = mkA n := ⟨_, rfl⟩
  obtain ⟨xn, hxn⟩ : ∃ x, x = mkB n := ⟨_, rfl⟩
  rw [← hx, ← hxn] at mk mx
  rw [← hx] at lx
  clear hx hxn
  have m1 := may_any a b ha
  have m2 := lmay_any a b ha
  have m3 : mayP a b = false → ∀ w, Calls Tryd.prog 12 #[pfV a b] w fun e w' => e = .returned (strV []) ∧ Below w.heap.size w w' := fun h => ptext_none a b ha h
  unfold pfV at mk m1 m2 m3 ⊢
  unfold strV at m3
  have HT : Hid (TabP w) := ht
  clear ht
  go_enter Tryd.func3, Tryd.ntmps3
  go_wp2_with fail
  obtain ⟨U, hU⟩ : ∃ U, U = w.alloc (.cells #[.int .u32 a, .int .i64 b] 24) := ⟨_, rfl⟩
  rw [← hU]
  obtain ⟨b1, hb1⟩ : ∃ b1, b1 = w.heap.size := ⟨_, rfl⟩
  rw [← hb1]
  have hwU : Below w.heap.size w U := by rw [hU]; exact bel_alloc (Below.refl _ _) _
  have hcU : U.heap[b1]? = some (.cells #[.int .u32 a, .int .i64 b] 24 (0, 0)) := by rw [hU]; exact pf_new _ _ _ hb1
  clear hU hb1
  refine (awake5_any U (HT.out.below hwU)).mono ?_
  rintro e V ⟨rfl, q1⟩
  have hcV := pf_block q1 hcU
  have lV := (Array.getElem?_eq_some_iff.1 hcV).1
  obtain ⟨c0, c1⟩ := cells_two hcV
  have C0 := fun p => bel_cell lV c0 p
  have C1 := fun p => bel_cell lV c1 p
  have hwV := bel_up hwU q1 hwU.size
  clear hcU hwU q1 hcV c0 c1
  obtain ⟨p0, hp0⟩ := bel_start V
  rw [hp0]
  clear hp0
  have hne := bel_ne V
  go_wp2_with fail
  have key : ∀ (Q : Exit → Act → World → Prop) (A : Act), True := fun _ _ => trivial
  clear key
  cases hm : mayP a b with
  | false =>
    rw [hm] at m1 m2
    refine wp_region_belU (by kernel_rfl) (by kernel_rfl) ?_
    repeat (go_big_quiet_step (first
      | (go_at_call 10; exact bel_of (m1 _))
      | (go_at_call 11; exact bel_of (m2 _))
      | (go_at_call 12; exact bel_of (m3 hm _))))
    refine wpQuiet_nil ?_
    rintro W ⟨q, rfl⟩
    clear m1 m2 m3
    go_wp2_with fail
    have z0 := C0 q
    have z1 := C1 q
    have hwZ := bel_up hwV q.h hwV.size
    have lz : b1 < q.w.heap.size := Nat.lt_of_lt_of_le lV q.h.size
    obtain ⟨Z, hZ⟩ : ∃ Z, Z = q.w := ⟨_, rfl⟩
    rw [← hZ] at z0 z1 hwZ lz ⊢
    clear hZ C0 C1 hne lV hwV
    have HC : ∀ Y, Below Z.heap.size Z Y → Y.cell? ⟨b1, 0, none⟩ = some (.int .u32 a) ∧ Y.cell? ⟨b1, 1, none⟩ = some (.int .i64 b) := fun Y hY =>
      ⟨by rw [hY.cell (p := ⟨b1, 0, none⟩) lz]; exact z0, by rw [hY.cell (p := ⟨b1, 1, none⟩) lz]; exact z1⟩
    go_region_held3 (fun Y => Y.cell? ⟨b1, 0, none⟩ = some (.int .u32 a) ∧ Y.cell? ⟨b1, 1, none⟩ = some (.int .i64 b))
      (first
        | exact ⟨z0, z1⟩
        | exact HC _ hbu
        | exact HC _ (hbu.alloc hbu.size _)
        | exact HC _ (hbu.alloc hbu.size _).drew)
      (first
        | (go_at_call 13; refine (mk _).mono ?_; rintro e Y ⟨rfl, hbu0⟩; have hbu := bel_up (Below.refl Z.heap.size Z).drew hbu0 (Nat.le_refl _)))
    go_wp2_with fail
    obtain ⟨bs, hbs⟩ : ∃ b, b = Y.heap.size := ⟨_, rfl⟩
    rw [← hbs]
    obtain ⟨L0, hL0⟩ : ∃ L, L = Y.alloc (.cells #[.int .u32 a, .int .i64 b, .int .u32 x, .int .i64 xn] 24) := ⟨_, rfl⟩
    rw [← hL0]
    have hwY := bel_up hwZ hbu hwZ.size
    have hwL : Below w.heap.size w L0 := by rw [hL0]; exact hwY.alloc hwY.size _
    have hrL : RowT bs a b x xn L0 := by
      unfold RowT
      rw [hL0]
      exact pf_new _ _ _ hbs
    clear hL0 hbs hwY hbu hwZ z0 z1 lz HC mk
    go_loopw [31] (fun i wr => ∃ k : Nat, k ≤ 2 ∧ i = .int .i64 k ∧ RowT bs a b x xn wr ∧ Below w.heap.size w wr) (fun i _ => 2 - (RowKit.intOf i).toNat)
    case atStart => exact ⟨0, by decide, rfl, hrL, hwL⟩
    case round =>
      obtain ⟨k, hk, rfl, hr, hw⟩ := hrel
      clear hrL hwL
      have hk' : k = 0 ∨ k = 1 ∨ k = 2 := by omega
      obtain ⟨r0, r1, r2, r3⟩ := hr.cells
      rcases hk' with rfl | rfl | rfl
      · rw [show ((0 : Nat) : Int) = 0 from rfl]
        have m2 := lmay_any a b ha
        rw [hm] at m2
        unfold pfV at m2
        go_wp2_with fail
        refine (m2 _).mono ?_
        rintro e W1 ⟨rfl, s1⟩
        have s0 := bel_up (bel_alloc (Below.refl wr.heap.size wr) (.cells #[.int .u32 a, .int .i64 b] 24)) s1 (by simp)
        clear m2 r0 r1 r2 r3
        go_wp2_with fail
        go_roundw
        case rel => exact ⟨1, by decide, by go_num, pf_block s0 hr, bel_up hw s0 hw.size⟩
        case measure => simp [RowKit.intOf]
      · rw [show ((1 : Nat) : Int) = 1 from rfl]
        have m2 := lmay_any x xn lx
        rw [mx] at m2
        have pt := fun w h => ptext_any x xn lx mx w h
        have lt := ltext_any x xn lx (by have := may_bounds mx; omega)
        have pp := parse_l (textP x xn) (text_len mx lx)
        rw [parse_at mx lx] at pp
        unfold parV at pp
        unfold pfV at m2 pt lt pp
        unfold strV at pt lt
        obtain ⟨T, hT⟩ : ∃ T : ByteArray, T = ⟨(textP x xn).toArray⟩ := ⟨_, rfl⟩
        rw [← hT] at pt lt pp
        dsimp only at pp
        have PT : Hid (∀ w, TabP w → Calls Tryd.prog 12 #[.agg #[.int .u32 x, .int .i64 xn]] w fun e w' => e = .returned (.string T) ∧ Below w.heap.size w w') := pt
        clear hT pt
        have HTR : TabP wr := HT.out.below hw
        obtain ⟨b6, hb6⟩ : ∃ b, b = wr.heap.size := ⟨_, rfl⟩
        go_wp2_with fail
        rw [← hb6]
        obtain ⟨X, hX⟩ : ∃ X, X = wr.alloc (.cells #[.int .u32 x, .int .i64 xn] 24) := ⟨_, rfl⟩
        rw [← hX]
        have sX : Below wr.heap.size wr X := by rw [hX]; exact bel_alloc (Below.refl _ _) _
        have hcX : X.heap[b6]? = some (.cells #[.int .u32 x, .int .i64 xn] 24 (0, 0)) := by rw [hX]; exact pf_new _ _ _ hb6
        clear hX hb6 r0 r1 r2 r3
        refine (m2 _).mono ?_
        rintro e W1 ⟨rfl, s1⟩
        have hc1 := pf_block s1 hcX
        obtain ⟨y0, y1⟩ := cells_two hc1
        have s2 := bel_up sX s1 sX.size
        clear m2
        go_wp2_with fail
        refine (PT.out _ (HTR.below s2)).mono ?_
        rintro e W2 ⟨rfl, s3⟩
        have hc2 := pf_block s3 hc1
        have s4 := bel_up s2 s3 s2.size
        clear y0 y1
        go_wp2_with fail
        refine (pp _).mono ?_
        rintro e W3 ⟨rfl, s5⟩
        have hc3 := pf_block s5 hc2
        have s6 := bel_up s4 s5 s4.size
        clear pp
        go_wp2_with fail
        obtain ⟨b7, hb7⟩ : ∃ b, b = W3.heap.size := ⟨_, rfl⟩
        rw [← hb7]
        obtain ⟨G, hG⟩ : ∃ G, G = W3.alloc (.cells #[.int .u32 x, .int .i64 xn] 24) := ⟨_, rfl⟩
        rw [← hG]
        have s7' : Below W3.heap.size W3 G := by rw [hG]; exact bel_alloc (Below.refl _ _) _
        have hc7 : G.heap[b7]? = some (.cells #[.int .u32 x, .int .i64 xn] 24 (0, 0)) := by rw [hG]; exact pf_new _ _ _ hb7
        have hc4 := pf_block s7' hc3
        have s7 := bel_up s6 s7' s6.size
        have l6 := (Array.getElem?_eq_some_iff.1 hc4).1
        have l7 := (Array.getElem?_eq_some_iff.1 hc7).1
        obtain ⟨u0, u1⟩ := cells_two hc4
        obtain ⟨v0, v1⟩ := cells_two hc7
        have A0 := fun p => bel_cell l6 u0 p
        have A1 := fun p => bel_cell l6 u1 p
        have B0 := fun p => bel_cell l7 v0 p
        have B1 := fun p => bel_cell l7 v1 p
        have HTG := HTR.below s7
        have HTP : ∀ p : BelOf G, TabP p.w := fun p => HTG.below p.h
        have pt := PT.out
        clear hG hb7 u0 u1 v0 v1 hc7 hc4 hc3 hc2 hc1 hcX s7' s5 s3 s1 HTG
        have hne := bel_ne G
        refine wp_region_bel (by kernel_rfl) (by kernel_rfl) ?_
        repeat (go_big_quiet_step (first
          | (go_at_call 12; exact bel_of (pt _ (HTP _)))
          | (go_at_call 15; exact bel_of (lt _))))
        refine wpQuiet_nil ?_
        rintro W ⟨⟨W4, s8⟩, rfl⟩
        have s9 := bel_up s7 s8 s7.size
        clear A0 A1 B0 B1 pt lt HTP hne
        go_wp2_with fail
        go_roundw
        case rel => exact ⟨2, by decide, by go_num, pf_block s9 hr, bel_up hw s9 hw.size⟩
        case measure => simp [RowKit.intOf]
      · rw [show ((2 : Nat) : Int) = 2 from rfl]
        go_wp2_with fail
        go_ret
        exact ⟨rfl, hw⟩
  | true =>
    obtain ⟨bn, rfl⟩ : ∃ m : Nat, b = m := ⟨b.toNat, by have := may_bounds hm; omega⟩
    rw [hm] at m1 m2
    refine wp_region_belU (by kernel_rfl) (by kernel_rfl) ?_
    repeat (go_big_quiet_step (first
      | (go_at_call 10; exact bel_of (m1 _))
      | (go_at_call 11; exact bel_of (m2 _))))
    refine wpQuiet_nil ?_
    rintro W ⟨q, rfl⟩
    clear m1 m2 m3
    go_wp2_with fail
    have z0 := C0 q
    have z1 := C1 q
    have hwZ := bel_up hwV q.h hwV.size
    have lz : b1 < q.w.heap.size := Nat.lt_of_lt_of_le lV q.h.size
    obtain ⟨Z, hZ⟩ : ∃ Z, Z = q.w := ⟨_, rfl⟩
    rw [← hZ] at z0 z1 hwZ lz ⊢
    clear hZ C0 C1 hne lV hwV
    have HC : ∀ Y, Below Z.heap.size Z Y → Y.cell? ⟨b1, 0, none⟩ = some (.int .u32 a) ∧ Y.cell? ⟨b1, 1, none⟩ = some (.int .i64 bn) := fun Y hY =>
      ⟨by rw [hY.cell (p := ⟨b1, 0, none⟩) lz]; exact z0, by rw [hY.cell (p := ⟨b1, 1, none⟩) lz]; exact z1⟩
    go_region_held3 (fun Y => Y.cell? ⟨b1, 0, none⟩ = some (.int .u32 a) ∧ Y.cell? ⟨b1, 1, none⟩ = some (.int .i64 bn))
      (first
        | exact ⟨z0, z1⟩
        | exact HC _ hbu
        | exact HC _ (hbu.alloc hbu.size _)
        | exact HC _ (hbu.alloc hbu.size _).drew)
      (first
        | (go_at_call 13; refine (mk _).mono ?_; rintro e Y ⟨rfl, hbu0⟩; have hbu := bel_up (Below.refl Z.heap.size Z).drew hbu0 (Nat.le_refl _)))
    go_wp2_with fail
    obtain ⟨bs, hbs⟩ : ∃ b, b = Y.heap.size := ⟨_, rfl⟩
    rw [← hbs]
    obtain ⟨L0, hL0⟩ : ∃ L, L = Y.alloc (.cells #[.int .u32 a, .int .i64 bn, .int .u32 x, .int .i64 xn] 24) := ⟨_, rfl⟩
    rw [← hL0]
    have hwY := bel_up hwZ hbu hwZ.size
    have hwL : Below w.heap.size w L0 := by rw [hL0]; exact hwY.alloc hwY.size _
    have hrL : RowT bs a bn x xn L0 := by
      unfold RowT
      rw [hL0]
      exact pf_new _ _ _ hbs
    clear hL0 hbs hwY hbu hwZ z0 z1 lz HC mk
    go_loopw [31] (fun i wr => ∃ k : Nat, k ≤ 2 ∧ i = .int .i64 k ∧ RowT bs a bn x xn wr ∧ Below w.heap.size w wr) (fun i _ => 2 - (RowKit.intOf i).toNat)
    case atStart => exact ⟨0, by decide, rfl, hrL, hwL⟩
    case round =>
      obtain ⟨k, hk, rfl, hr, hw⟩ := hrel
      clear hrL hwL
      have hk' : k = 0 ∨ k = 1 ∨ k = 2 := by omega
      obtain ⟨r0, r1, r2, r3⟩ := hr.cells
      rcases hk' with rfl | rfl | rfl
      · rw [show ((0 : Nat) : Int) = 0 from rfl]
        have m2 := lmay_any a bn ha
        rw [hm] at m2
        have pt := fun w h => ptext_any a bn ha hm w h
        have lt := ltext_any a bn ha (by have := may_bounds hm; omega)
        have pp := parse_l (textP a bn) (text_len hm ha)
        rw [parse_at hm ha] at pp
        unfold parV at pp
        unfold pfV at m2 pt lt pp
        unfold strV at pt lt
        obtain ⟨T, hT⟩ : ∃ T : ByteArray, T = ⟨(textP a bn).toArray⟩ := ⟨_, rfl⟩
        rw [← hT] at pt lt pp
        dsimp only at pp
        have PT : Hid (∀ w, TabP w → Calls Tryd.prog 12 #[.agg #[.int .u32 a, .int .i64 bn]] w fun e w' => e = .returned (.string T) ∧ Below w.heap.size w w') := pt
        clear hT pt
        have HTR : TabP wr := HT.out.below hw
        obtain ⟨b6, hb6⟩ : ∃ b, b = wr.heap.size := ⟨_, rfl⟩
        go_wp2_with fail
        rw [← hb6]
        obtain ⟨X, hX⟩ : ∃ X, X = wr.alloc (.cells #[.int .u32 a, .int .i64 bn] 24) := ⟨_, rfl⟩
        rw [← hX]
        have sX : Below wr.heap.size wr X := by rw [hX]; exact bel_alloc (Below.refl _ _) _
        have hcX : X.heap[b6]? = some (.cells #[.int .u32 a, .int .i64 bn] 24 (0, 0)) := by rw [hX]; exact pf_new _ _ _ hb6
        clear hX hb6 r0 r1 r2 r3
        refine (m2 _).mono ?_
        rintro e W1 ⟨rfl, s1⟩
        have hc1 := pf_block s1 hcX
        obtain ⟨y0, y1⟩ := cells_two hc1
        have s2 := bel_up sX s1 sX.size
        clear m2
        go_wp2_with fail
        refine (PT.out _ (HTR.below s2)).mono ?_
        rintro e W2 ⟨rfl, s3⟩
        have hc2 := pf_block s3 hc1
        have s4 := bel_up s2 s3 s2.size
        clear y0 y1
        go_wp2_with fail
        refine (pp _).mono ?_
        rintro e W3 ⟨rfl, s5⟩
        have hc3 := pf_block s5 hc2
        have s6 := bel_up s4 s5 s4.size
        clear pp
        go_wp2_with fail
        obtain ⟨b7, hb7⟩ : ∃ b, b = W3.heap.size := ⟨_, rfl⟩
        rw [← hb7]
        obtain ⟨G, hG⟩ : ∃ G, G = W3.alloc (.cells #[.int .u32 a, .int .i64 bn] 24) := ⟨_, rfl⟩
        rw [← hG]
        have s7' : Below W3.heap.size W3 G := by rw [hG]; exact bel_alloc (Below.refl _ _) _
        have hc7 : G.heap[b7]? = some (.cells #[.int .u32 a, .int .i64 bn] 24 (0, 0)) := by rw [hG]; exact pf_new _ _ _ hb7
        have hc4 := pf_block s7' hc3
        have s7 := bel_up s6 s7' s6.size
        have l6 := (Array.getElem?_eq_some_iff.1 hc4).1
        have l7 := (Array.getElem?_eq_some_iff.1 hc7).1
        obtain ⟨u0, u1⟩ := cells_two hc4
        obtain ⟨v0, v1⟩ := cells_two hc7
        have A0 := fun p => bel_cell l6 u0 p
        have A1 := fun p => bel_cell l6 u1 p
        have B0 := fun p => bel_cell l7 v0 p
        have B1 := fun p => bel_cell l7 v1 p
        have HTG := HTR.below s7
        have HTP : ∀ p : BelOf G, TabP p.w := fun p => HTG.below p.h
        have pt := PT.out
        clear hG hb7 u0 u1 v0 v1 hc7 hc4 hc3 hc2 hc1 hcX s7' s5 s3 s1 HTG
        have hne := bel_ne G
        refine wp_region_bel (by kernel_rfl) (by kernel_rfl) ?_
        repeat (go_big_quiet_step (first
          | (go_at_call 12; exact bel_of (pt _ (HTP _)))
          | (go_at_call 15; exact bel_of (lt _))))
        refine wpQuiet_nil ?_
        rintro W ⟨⟨W4, s8⟩, rfl⟩
        have s9 := bel_up s7 s8 s7.size
        clear A0 A1 B0 B1 pt lt HTP hne
        go_wp2_with fail
        go_roundw
        case rel => exact ⟨1, by decide, by go_num, pf_block s9 hr, bel_up hw s9 hw.size⟩
        case measure => simp [RowKit.intOf]
      · rw [show ((1 : Nat) : Int) = 1 from rfl]
        have m2 := lmay_any x xn lx
        rw [mx] at m2
        have pt := fun w h => ptext_any x xn lx mx w h
        have lt := ltext_any x xn lx (by have := may_bounds mx; omega)
        have pp := parse_l (textP x xn) (text_len mx lx)
        rw [parse_at mx lx] at pp
        unfold parV at pp
        unfold pfV at m2 pt lt pp
        unfold strV at pt lt
        obtain ⟨T, hT⟩ : ∃ T : ByteArray, T = ⟨(textP x xn).toArray⟩ := ⟨_, rfl⟩
        rw [← hT] at pt lt pp
        dsimp only at pp
        have PT : Hid (∀ w, TabP w → Calls Tryd.prog 12 #[.agg #[.int .u32 x, .int .i64 xn]] w fun e w' => e = .returned (.string T) ∧ Below w.heap.size w w') := pt
        clear hT pt
        have HTR : TabP wr := HT.out.below hw
        obtain ⟨b6, hb6⟩ : ∃ b, b = wr.heap.size := ⟨_, rfl⟩
        go_wp2_with fail
        rw [← hb6]
        obtain ⟨X, hX⟩ : ∃ X, X = wr.alloc (.cells #[.int .u32 x, .int .i64 xn] 24) := ⟨_, rfl⟩
        rw [← hX]
        have sX : Below wr.heap.size wr X := by rw [hX]; exact bel_alloc (Below.refl _ _) _
        have hcX : X.heap[b6]? = some (.cells #[.int .u32 x, .int .i64 xn] 24 (0, 0)) := by rw [hX]; exact pf_new _ _ _ hb6
        clear hX hb6 r0 r1 r2 r3
        refine (m2 _).mono ?_
        rintro e W1 ⟨rfl, s1⟩
        have hc1 := pf_block s1 hcX
        obtain ⟨y0, y1⟩ := cells_two hc1
        have s2 := bel_up sX s1 sX.size
        clear m2
        go_wp2_with fail
        refine (PT.out _ (HTR.below s2)).mono ?_
        rintro e W2 ⟨rfl, s3⟩
        have hc2 := pf_block s3 hc1
        have s4 := bel_up s2 s3 s2.size
        clear y0 y1
        go_wp2_with fail
        refine (pp _).mono ?_
        rintro e W3 ⟨rfl, s5⟩
        have hc3 := pf_block s5 hc2
        have s6 := bel_up s4 s5 s4.size
        clear pp
        go_wp2_with fail
        obtain ⟨b7, hb7⟩ : ∃ b, b = W3.heap.size := ⟨_, rfl⟩
        rw [← hb7]
        obtain ⟨G, hG⟩ : ∃ G, G = W3.alloc (.cells #[.int .u32 x, .int .i64 xn] 24) := ⟨_, rfl⟩
        rw [← hG]
        have s7' : Below W3.heap.size W3 G := by rw [hG]; exact bel_alloc (Below.refl _ _) _
        have hc7 : G.heap[b7]? = some (.cells #[.int .u32 x, .int .i64 xn] 24 (0, 0)) := by rw [hG]; exact pf_new _ _ _ hb7
        have hc4 := pf_block s7' hc3
        have s7 := bel_up s6 s7' s6.size
        have l6 := (Array.getElem?_eq_some_iff.1 hc4).1
        have l7 := (Array.getElem?_eq_some_iff.1 hc7).1
        obtain ⟨u0, u1⟩ := cells_two hc4
        obtain ⟨v0, v1⟩ := cells_two hc7
        have A0 := fun p => bel_cell l6 u0 p
        have A1 := fun p => bel_cell l6 u1 p
        have B0 := fun p => bel_cell l7 v0 p
        have B1 := fun p => bel_cell l7 v1 p
        have HTG := HTR.below s7
        have HTP : ∀ p : BelOf G, TabP p.w := fun p => HTG.below p.h
        have pt := PT.out
        clear hG hb7 u0 u1 v0 v1 hc7 hc4 hc3 hc2 hc1 hcX s7' s5 s3 s1 HTG
        have hne := bel_ne G
        refine wp_region_bel (by kernel_rfl) (by kernel_rfl) ?_
        repeat (go_big_quiet_step (first
          | (go_at_call 12; exact bel_of (pt _ (HTP _)))
          | (go_at_call 15; exact bel_of (lt _))))
        refine wpQuiet_nil ?_
        rintro W ⟨⟨W4, s8⟩, rfl⟩
        have s9 := bel_up s7 s8 s7.size
        clear A0 A1 B0 B1 pt lt HTP hne
        go_wp2_with fail
        go_roundw
        case rel => exact ⟨2, by decide, by go_num, pf_block s9 hr, bel_up hw s9 hw.size⟩
        case measure => simp [RowKit.intOf]
      · rw [show ((2 : Nat) : Int) = 2 from rfl]
        go_wp2_with fail
        go_ret
        exact ⟨rfl, hw⟩
end Go.Proofs.YtgofhgbffgmjhaaDoor
