/- PrefixCovers: the walk. -/
import Derived.Test.YtgofhgbffgmjhaaDoorHW
import Derived.Test.YtgofhgbffgmjhaaDoorHG
namespace Go.Proofs.YtgofhgbffgmjhaaDoor
open Go.RowKit Go.Lib

theorem cov_mine (c : Nat) (d : Int) (h : mayP c d = true) : covP c d c d = true := by
  unfold covP
  have h' := may_bounds h
  have e := (fst_eq c d.toNat).2 h'.2.2
  simp [e, h]
set_option maxHeartbeats 8000000 in
set_option maxRecDepth 20000 in
theorem covers_walk (n m : Nat) (a : Nat) (b : Int) (c : Nat) (d : Int) (hn : n < 256) (hm : m < 256) (ha : a < 4294967296) (hc : c < 4294967296) (w : World) (ht : TabP w) :
    Calls Tryd.prog 5 #[.int .u8 n, .int .u8 m, pfV a b, pfV c d] w fun e w' => e = .returned (.bool true) ∧ Below w.heap.size w w' := by
  have mk1 := make_any n hn
  have mk2 := make_any m hm
  have lx := mkA_lt hn
  have ly := mkA_lt hm
  have mx := mk_may n
  obtain ⟨x, hx⟩ : ∃ x, x = mkA n := ⟨_, rfl⟩
  obtain ⟨xb, hxb⟩ : ∃ x : Int, x = (mkB n : Nat) := ⟨_, rfl⟩
  obtain ⟨y, hy⟩ : ∃ x, x = mkA m := ⟨_, rfl⟩
  obtain ⟨yb, hyb⟩ : ∃ x : Int, x = (mkB m : Nat) := ⟨_, rfl⟩
  rw [← hx, ← hxb] at mk1 mx
  rw [← hx] at lx
  rw [← hy, ← hyb] at mk2
  rw [← hy] at ly
  have v1 := covers_any x y xb yb lx ly
  have v2 := lcov_any x y xb yb lx ly
  have v3 := covers_any a c b d ha hc
  have v4 := lcov_any a c b d ha hc
  have v5 := covers_any x x xb xb lx lx
  rw [cov_mine x xb mx] at v5
  obtain ⟨z1, hz1⟩ : ∃ z, z = covP x xb y yb := ⟨_, rfl⟩
  obtain ⟨z2, hz2⟩ : ∃ z, z = covP a b c d := ⟨_, rfl⟩
  rw [← hz1] at v1 v2
  rw [← hz2] at v3 v4
  clear hz1 hz2 hx hxb hy hyb mx lx ly
  have HT : Hid (TabP w) := ht
  clear ht
  unfold pfV at mk1 mk2 v1 v2 v3 v4 v5 ⊢
  go_enter Tryd.func5, Tryd.ntmps5
  go_wp2_with fail
  obtain ⟨U, hU⟩ : ∃ U, U = (w.alloc (.cells #[.int .u32 a, .int .i64 b] 24)).alloc (.cells #[.int .u32 c, .int .i64 d] 24) := ⟨_, rfl⟩
  rw [← hU]
  obtain ⟨b1, hb1⟩ : ∃ b1, b1 = w.heap.size := ⟨_, rfl⟩
  obtain ⟨b2, hb2⟩ : ∃ b2, b2 = w.heap.size + 1 := ⟨_, rfl⟩
  rw [← hb2, ← hb1]
  obtain ⟨hwU, C0, C1, D0, D1⟩ := two_pf w a c b d hU hb1 hb2
  clear hU hb1 hb2
  refine (awake5_any U (HT.out.below hwU)).mono ?_
  rintro e V1 ⟨rfl, q1⟩
  go_wp2_with fail
  refine (mk1 _).mono ?_
  rintro e V2 ⟨rfl, q2⟩
  go_wp2_with fail
  refine (mk2 _).mono ?_
  rintro e V3 ⟨rfl, q3⟩
  have r2 := bel_up q1 q2 q1.size
  have r3 := bel_up r2 q3 r2.size
  clear mk1 mk2 q1 q2 q3 r2
  go_wp2_with fail
  obtain ⟨X, hX⟩ : ∃ X, X = (V3.alloc (.cells #[.int .u32 x, .int .i64 xb] 24)).alloc (.cells #[.int .u32 y, .int .i64 yb] 24) := ⟨_, rfl⟩
  rw [← hX]
  obtain ⟨b3, hb3⟩ : ∃ b, b = V3.heap.size := ⟨_, rfl⟩
  obtain ⟨b4, hb4⟩ : ∃ b, b = V3.heap.size + 1 := ⟨_, rfl⟩
  rw [← hb4, ← hb3]
  obtain ⟨qX, E0, E1, G0, G1⟩ := two_pf V3 x y xb yb hX hb3 hb4
  have hUX := bel_up r3 qX r3.size
  have I0 : ∀ p : BelOf X, p.w.cell? ⟨b1, 0, none⟩ = some (.int .u32 a) := fun p => C0 ⟨p.w, bel_up hUX p.h hUX.size⟩
  have I1 : ∀ p : BelOf X, p.w.cell? ⟨b1, 1, none⟩ = some (.int .i64 b) := fun p => C1 ⟨p.w, bel_up hUX p.h hUX.size⟩
  have J0 : ∀ p : BelOf X, p.w.cell? ⟨b2, 0, none⟩ = some (.int .u32 c) := fun p => D0 ⟨p.w, bel_up hUX p.h hUX.size⟩
  have J1 : ∀ p : BelOf X, p.w.cell? ⟨b2, 1, none⟩ = some (.int .i64 d) := fun p => D1 ⟨p.w, bel_up hUX p.h hUX.size⟩
  have hwX := bel_up hwU hUX hwU.size
  clear C0 C1 D0 D1 hX hb3 hb4 qX r3 hUX hwU
  have hne := bel_ne X
  refine wp_region_bel (by kernel_rfl) (by kernel_rfl) ?_
  repeat (go_big_quiet_step (first
    | (go_at_call_of 18 y; exact bel_of (v1 _))
    | (go_at_call_of 16 y; exact bel_of (v2 _))
    | (go_at_call_of 18 a; exact bel_of (v3 _))
    | (go_at_call_of 16 a; exact bel_of (v4 _))
    | (go_at_call_of 18 x; exact bel_of (v5 _))))
  refine wpQuiet_nil ?_
  rintro W ⟨⟨W', hW⟩, rfl⟩
  clear E0 E1 G0 G1 I0 I1 J0 J1 hne v1 v2 v3 v4 v5
  go_wp2_with fail
  go_ret
  exact ⟨rfl, bel_up hwX hW hwX.size⟩
end Go.Proofs.YtgofhgbffgmjhaaDoor
