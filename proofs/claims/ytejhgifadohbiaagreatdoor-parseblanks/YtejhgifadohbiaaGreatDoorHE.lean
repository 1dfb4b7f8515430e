/- What Itoa, part and Text do, where the library's table lies as it is laid. -/
import Derived.Test.YtejhgifadohbiaaGreatDoorHC
import Derived.Test.YtejhgifadohbiaaGreatDoorHD
import Derived.Test.YtejhgifadohbiaaGreatDoorShelf
import Derived.Lib.ItoaMem
import Derived.Lib.LaidTab
namespace Go.Proofs.YtejhgifadohbiaaGreatDoor
open Go.RowKit Go.Lib

/-- The library's table of powers of ten. -/
def TabP (w : World) : Prop := Lib.TabIs Tryz.prog w "internal/strconv.uint64pow10" .u64 Lib.pow10Tab
theorem tab_some : (Tryz.prog.globalNamed "internal/strconv.uint64pow10").isSome = true := by kernel_rfl
theorem tab_named : ∃ g, Tryz.prog.globalNamed "internal/strconv.uint64pow10" = some g := Option.isSome_iff_exists.1 tab_some
theorem TabP.below {w w' : World} (h : TabP w) (hb : Below w.heap.size w w') : TabP w' := by
  obtain ⟨g, hg⟩ := tab_named
  unfold TabP Lib.TabIs World.var? at h ⊢
  rw [hg] at h ⊢
  simp only [Option.bind_some] at h ⊢
  have hlt : g < w.heap.size := by
    rcases Nat.lt_or_ge g w.heap.size with h' | h'
    · exact h'
    · rw [Array.getElem?_eq_none h'] at h; cases h
  rw [hb.block g hlt]
  exact h
theorem bel_grow (w : World) (k : Nat) (os : Array Obj) : Below w.heap.size w (Go.Sort.grow (w.drewN k) os) :=
  ⟨rfl, rfl, rfl, by simp [World.drewN], fun i hi => Go.Sort.heap_grow_old _ _ hi⟩
theorem itoa_any (n : Nat) (hn : n < 1000) (w : World) (ht : TabP w) :
    Calls Tryz.prog 34 #[.int .i64 n] w fun e w' => e = .returned (.string ⟨(decDigits n).toArray⟩) ∧ Below w.heap.size w w' := by
  refine (Tryz.strconv_Itoa (n : Int) (by omega) (by omega) w ht).mono ?_
  rintro e w' ⟨rfl, k, os, rfl⟩
  rw [itoa_nonneg]
  exact ⟨rfl, bel_grow w k os⟩
set_option maxHeartbeats 1000000 in
set_option maxRecDepth 20000 in
theorem part_any (a k : Nat) (ha : a < 4294967296) (hk : k < 32) (w : World) (ht : TabP w) :
    Calls Tryz.prog 33 #[.int .u32 a, .int .i64 k] w fun e w' => e = .returned (.string ⟨(decDigits (a / 2 ^ k % 256)).toArray⟩) ∧ Below w.heap.size w w' := by
  have m := mask_int a (2 ^ k) ha
  have e : (((2 ^ k : Nat) : Int)) = 2 ^ k := by simp
  rw [e] at m
  obtain ⟨x, hx⟩ : ∃ x : Int, x = (a / 2 ^ k % 256 : Nat) := ⟨_, rfl⟩
  have ci := fun w h => itoa_any (a / 2 ^ k % 256) (by omega) w h
  have hb : 0 ≤ x ∧ x < 256 := by omega
  rw [← hx] at ci m
  have HC : Hid (∀ w, TabP w → Calls Tryz.prog 34 #[.int .i64 x] w fun e w' => e = .returned (.string ⟨(decDigits (a / 2 ^ k % 256)).toArray⟩) ∧ Below w.heap.size w w') := ci
  clear e hx ci
  go_enter Tryz.func33, Tryz.ntmps33
  go_wp2_with fail
  have ci : ∀ w, TabP w → Calls Tryz.prog 34 #[.int .i64 x] w fun e w' => e = .returned (.string ⟨(decDigits (a / 2 ^ k % 256)).toArray⟩) ∧ Below w.heap.size w w' := HC
  refine (ci _ ht).mono ?_
  rintro e w' ⟨rfl, hb⟩
  go_wp2_with fail
  go_ret
  exact ⟨rfl, hb⟩
theorem ptext_none (a : Nat) (b : Int) (ha : a < 4294967296) (hm : mayP a b = false) (w : World) :
    Calls Tryz.prog 18 #[pfV a b] w fun e w' => e = .returned (strV []) ∧ Below w.heap.size w w' := by
  have m1 := may_any a b ha
  rw [hm] at m1
  unfold pfV at m1 ⊢
  go_enter Tryz.func18, Tryz.ntmps18
  go_wp2_with fail
  refine (m1 _).mono ?_
  rintro e w1 ⟨rfl, b1⟩
  go_wp2
  go_ret
  exact ⟨rfl, bel_up (bel_alloc (Below.refl _ _) _) b1 (by simp)⟩
set_option maxHeartbeats 4000000 in
set_option maxRecDepth 20000 in
theorem ptext_any (a b : Nat) (ha : a < 4294967296) (hm : mayP a b = true) (w : World) (ht : TabP w) :
    Calls Tryz.prog 18 #[pfV a b] w fun e w' => e = .returned (strV (textP a b)) ∧ Below w.heap.size w w' := by
  have m1 := may_any a b ha
  obtain ⟨_, hb, _⟩ := may_bounds hm
  have hb32 : b ≤ 32 := by omega
  rw [hm] at m1
  unfold pfV at m1 ⊢
  have l1 := (dec_len (n := a / 16777216) (by omega)).1
  have l2 := (dec_len (n := a / 65536 % 256) (by omega)).1
  have l3 := (dec_len (n := a / 256 % 256) (by omega)).1
  have l4 := (dec_len (n := a % 256) (by omega)).1
  have l5 := (dec_len (n := b) (by omega)).1
  have c1 : ∀ w, TabP w → Calls Tryz.prog 33 #[.int .u32 a, .int .i64 24] w fun e w' => e = .returned (.string ⟨(decDigits (a / 16777216)).toArray⟩) ∧ Below w.heap.size w w' := fun w h => by
    have := part_any a 24 ha (by decide) w h
    rwa [show a / 2 ^ 24 % 256 = a / 16777216 by omega] at this
  have c2 : ∀ w, TabP w → Calls Tryz.prog 33 #[.int .u32 a, .int .i64 16] w fun e w' => e = .returned (.string ⟨(decDigits (a / 65536 % 256)).toArray⟩) ∧ Below w.heap.size w w' := fun w h => part_any a 16 ha (by decide) w h
  have c3 : ∀ w, TabP w → Calls Tryz.prog 33 #[.int .u32 a, .int .i64 8] w fun e w' => e = .returned (.string ⟨(decDigits (a / 256 % 256)).toArray⟩) ∧ Below w.heap.size w w' := fun w h => part_any a 8 ha (by decide) w h
  have c4 : ∀ w, TabP w → Calls Tryz.prog 33 #[.int .u32 a, .int .i64 0] w fun e w' => e = .returned (.string ⟨(decDigits (a % 256)).toArray⟩) ∧ Below w.heap.size w w' := fun w h => by
    have := part_any a 0 ha (by decide) w h
    rwa [show a / 2 ^ 0 % 256 = a % 256 by omega] at this
  have c5 := fun w h => itoa_any b (by omega) w h
  obtain ⟨s1, e1⟩ : ∃ x : ByteArray, x = ⟨(decDigits (a / 16777216)).toArray⟩ := ⟨_, rfl⟩
  obtain ⟨s2, e2⟩ : ∃ x : ByteArray, x = ⟨(decDigits (a / 65536 % 256)).toArray⟩ := ⟨_, rfl⟩
  obtain ⟨s3, e3⟩ : ∃ x : ByteArray, x = ⟨(decDigits (a / 256 % 256)).toArray⟩ := ⟨_, rfl⟩
  obtain ⟨s4, e4⟩ : ∃ x : ByteArray, x = ⟨(decDigits (a % 256)).toArray⟩ := ⟨_, rfl⟩
  obtain ⟨s5, e5⟩ : ∃ x : ByteArray, x = ⟨(decDigits b).toArray⟩ := ⟨_, rfl⟩
  rw [← text_strs a b s1 s2 s3 s4 s5 e1 e2 e3 e4 e5]
  rw [← e1] at c1
  rw [← e2] at c2
  rw [← e3] at c3
  rw [← e4] at c4
  rw [← e5] at c5
  have z1 : s1.size ≤ 3 := by rw [e1, str_size]; exact l1
  have z2 : s2.size ≤ 3 := by rw [e2, str_size]; exact l2
  have z3 : s3.size ≤ 3 := by rw [e3, str_size]; exact l3
  have z4 : s4.size ≤ 3 := by rw [e4, str_size]; exact l4
  have z5 : s5.size ≤ 3 := by rw [e5, str_size]; exact l5
  clear e1 e2 e3 e4 e5 l1 l2 l3 l4 l5 hm hb hb32
  go_enter Tryz.func18, Tryz.ntmps18
  go_wp2_with fail
  obtain ⟨U, hU⟩ : ∃ U, U = w.alloc (.cells #[.int .u32 a, .int .i64 b] 63) := ⟨_, rfl⟩
  rw [← hU]
  obtain ⟨b1, hb1⟩ : ∃ b1, b1 = w.heap.size := ⟨_, rfl⟩
  rw [← hb1]
  have hwU : Below w.heap.size w U := by rw [hU]; exact bel_alloc (Below.refl _ _) _
  have hc1 : U.heap[b1]? = some (.cells #[.int .u32 a, .int .i64 b] 63 (0, 0)) := by rw [hU]; exact pf_new _ _ _ hb1
  clear hU hb1
  refine (m1 _).mono ?_
  rintro e V ⟨rfl, q1⟩
  clear m1
  have hcV := pf_block q1 hc1
  obtain ⟨C0, C1⟩ := cells_two hcV
  have lV := (Array.getElem?_eq_some_iff.1 hcV).1
  have E0 := fun p => bel_cell lV C0 p
  have E1 := fun p => bel_cell lV C1 p
  have hT := (ht.below hwU).below q1
  have HT : ∀ p : BelOf V, TabP p.w := fun p => hT.below p.h
  clear C0 C1 hc1 hcV hT
  go_wp2_with fail
  have hne := bel_ne V
  refine wp_region_bel (by kernel_rfl) (by kernel_rfl) ?_
  repeat (go_big_quiet_step (first
    | (go_at_call_of 33 (24 : Int); exact bel_of (c1 _ (HT _)))
    | (go_at_call_of 33 (16 : Int); exact bel_of (c2 _ (HT _)))
    | (go_at_call_of 33 (8 : Int); exact bel_of (c3 _ (HT _)))
    | (go_at_call_of 33 (0 : Int); exact bel_of (c4 _ (HT _)))
    | (go_at_call_of 34 b; exact bel_of (c5 _ (HT _)))))
  refine wpQuiet_nil ?_
  rintro W ⟨⟨W', hW⟩, rfl⟩
  clear c1 c2 c3 c4 c5 HT E0 E1 hne
  go_wp2_with fail
  go_ret
  exact ⟨rfl, bel_up (bel_up hwU q1 hwU.size) hW (Nat.le_trans hwU.size q1.size)⟩
end Go.Proofs.YtejhgifadohbiaaGreatDoor
