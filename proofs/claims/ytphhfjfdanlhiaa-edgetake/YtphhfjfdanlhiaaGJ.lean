/- EdgeTake: the walk. -/
import Derived.Test.YtphhfjfdanlhiaaGF
import Derived.Test.YtphhfjfdanlhiaaGC
namespace Go.Proofs.Ytphhfjfdanlhiaa
open Go.RowKit Go.Lib

/-- A wire in a block of its own. -/
def wiB (fr co : Nat) (ve vi : Value) : Obj := .cells #[.int .u8 fr, .int .u8 co, ve, vi] 24 (0, 0)
theorem wi_cells {w : World} {b fr co : Nat} {ve vi : Value} (h : w.heap[b]? = some (wiB fr co ve vi)) : w.cell? ⟨b, 0, none⟩ = some (.int .u8 fr) ∧ w.cell? ⟨b, 1, none⟩ = some (.int .u8 co) ∧ w.cell? ⟨b, 2, none⟩ = some ve ∧ w.cell? ⟨b, 3, none⟩ = some vi := cells_four h
set_option maxHeartbeats 8000000 in
set_option maxRecDepth 20000 in
theorem legtake_walk {vr vs ve vi : Value} {rx ry : List RlD} {ex im : List ClD} (f0 c0 : Nat) (hb : f0 < 256 ∧ c0 < 256) (fr cost : Int) (x : At) (ht : 0 ≤ x.tags ∧ x.tags < 256) (_ : -9223372036854775808 ≤ x.cost ∧ x.cost ≤ 9223372036854775807) (t : Nat) (ht2 : t < 256) (w : World)
    (hs : WiS w vr vs rx ry) (h : EdS w ve vi ex im) :
    Calls Try.prog 3 #[wiV f0 c0 vr vs, edV fr cost ve vi, atV x, .int .u8 t] w fun e w' => e = .returned (.bool true) ∧ Below w.heap.size w w' := by
  have hwk := awake12_any
  have hed := fun (X : World) (b : Below w.heap.size w X) => edge_any f0 c0 hb X (hs.keep b)
  have HE : Hid (EdS w ve vi ex im) := h
  have HT : Hid ((0 ≤ x.tags ∧ x.tags < 256) ∧ (0 ≤ (t : Int) ∧ (t : Int) < 256)) := ⟨ht, by omega⟩
  obtain ⟨ar, cr, at9, cs, rfl, rfl⟩ := hs.form
  obtain ⟨ae, ce, ai, ci, rfl, rfl⟩ := h.form
  obtain ⟨xo, xp, xc, xt⟩ := x
  have t0 : (0 : Int) ≤ t := by omega
  have t1 : (t : Int) < 256 := by omega
  obtain ⟨U, hU⟩ : ∃ U, U = ((w.alloc (wiB f0 c0 (.slice ar rx.length cr) (.slice at9 ry.length cs))).alloc (edB fr cost (.slice ae ex.length ce) (.slice ai im.length ci))).alloc (atB ⟨xo, xp, xc, xt⟩) := ⟨_, rfl⟩
  have hwU : Below w.heap.size w U := by rw [hU]; exact bel_alloc3 _ _ _ _
  obtain ⟨b4, hb4⟩ : ∃ b, b = w.heap.size := ⟨_, rfl⟩
  obtain ⟨b5, hb5⟩ : ∃ b, b = w.heap.size + 1 := ⟨_, rfl⟩
  obtain ⟨b6, hb6⟩ : ∃ b, b = w.heap.size + 1 + 1 := ⟨_, rfl⟩
  have h4 : U.heap[b4]? = some (wiB f0 c0 (.slice ar rx.length cr) (.slice at9 ry.length cs)) := by rw [hU]; exact pf_block (bel_alloc (Below.refl _ _) _) (pf_block (bel_alloc (Below.refl _ _) _) (pf_new _ _ _ hb4))
  have h5 : U.heap[b5]? = some (edB fr cost (.slice ae ex.length ce) (.slice ai im.length ci)) := by rw [hU]; exact pf_block (bel_alloc (Below.refl _ _) _) (pf_new _ _ _ (by rw [hb5]; simp))
  have h6 : U.heap[b6]? = some (atB ⟨xo, xp, xc, xt⟩) := by rw [hU]; exact pf_new _ _ _ (by rw [hb6]; simp)
  unfold wiB edB atB at hU
  dsimp only at hU
  unfold wiV at hed ⊢
  unfold edV at hed ⊢
  unfold atV
  dsimp only
  clear hs h ht ht2 hb
  go_enter Try.func3, Try.ntmps3
  go_wp2_with fail
  rw [← hU, ← hb6, ← hb5, ← hb4]
  clear hU hb4 hb5 hb6
  refine (hwk _).mono ?_
  rintro e W ⟨rfl, q1⟩
  replace h4 := pf_block q1 h4
  replace h5 := pf_block q1 h5
  replace h6 := pf_block q1 h6
  have hwW := bel_up hwU q1 hwU.size
  clear hwU q1 U hwk
  go_upto_region 4 with fail
  obtain ⟨b9, hb9⟩ : ∃ b, b = W.heap.size := ⟨_, rfl⟩
  obtain ⟨X, hX⟩ : ∃ V, V = W.alloc (atB ⟨true, 7, 9, t⟩) := ⟨_, rfl⟩
  have h9 : X.heap[b9]? = some (atB ⟨true, 7, 9, t⟩) := by rw [hX]; exact pf_new _ _ _ hb9
  have qX : Below W.heap.size W X := by rw [hX]; exact bel_alloc (Below.refl _ _) _
  replace h4 := pf_block qX h4
  replace h5 := pf_block qX h5
  replace h6 := pf_block qX h6
  have hwX := bel_up hwW qX hwW.size
  unfold atB at hX
  dsimp only at hX
  rw [← hX, ← hb9]
  clear hX hb9 qX hwW
  obtain ⟨r0, r1, r2, r3⟩ := wi_cells h4
  have hx := hed X hwX
  clear hed
  go_wp2_with fail
  refine hx.mono ?_
  rintro e Y ⟨ve, vi, rfl, HX, qY⟩
  obtain ⟨ad, cd, aj, cj, rfl, rfl⟩ := HX.form
  replace h5 := pf_block qY h5
  replace h6 := pf_block qY h6
  replace h9 := pf_block qY h9
  have hwY := bel_up hwX qY hwX.size
  clear hx qY hwX h4 r0 r1 r2 r3
  go_upto_region 5 with fail
  obtain ⟨C, hC⟩ : ∃ C, C = 1 + (c0 : Int) % 3 := ⟨_, rfl⟩
  rw [← hC]
  obtain ⟨b10, hb10⟩ : ∃ b, b = Y.heap.size := ⟨_, rfl⟩
  obtain ⟨Z, hZ⟩ : ∃ V, V = Y.alloc (edB f0 C (.slice ad (plainS rx).length cd) (.slice aj (plainS ry).length cj)) := ⟨_, rfl⟩
  have h10 : Z.heap[b10]? = some (edB f0 C (.slice ad (plainS rx).length cd) (.slice aj (plainS ry).length cj)) := by rw [hZ]; exact pf_new _ _ _ hb10
  have qZ : Below Y.heap.size Y Z := by rw [hZ]; exact bel_alloc (Below.refl _ _) _
  replace h5 := pf_block qZ h5
  replace h6 := pf_block qZ h6
  replace h9 := pf_block qZ h9
  have HWZ : Hid (Below w.heap.size w Z) := bel_up hwY qZ hwY.size
  replace HX := HX.keep qZ
  unfold edB at hZ
  rw [← hZ, ← hb10]
  clear hZ hb10 qZ hwY
  obtain ⟨e0, e1, e2, e3⟩ := at_cells h5
  obtain ⟨x0, x1, x2, x3⟩ := at_cells h6
  obtain ⟨y0, y1, y2, y3⟩ := at_cells h9
  obtain ⟨z0, z1, z2, z3⟩ := at_cells h10
  have A1 := fun p : BelOf Z => take_any f0 C ⟨xo, xp, xc, xt⟩ HT.out.1 p.w (HX.keep p.h)
  have B1 := fun p : BelOf Z => ltake_any f0 C ⟨xo, xp, xc, xt⟩ HT.out.1 p.w (HX.keep p.h)
  have A2 := fun p : BelOf Z => take_any f0 C ⟨true, 7, 9, t⟩ HT.out.2 p.w (HX.keep p.h)
  have B2 := fun p : BelOf Z => ltake_any f0 C ⟨true, 7, 9, t⟩ HT.out.2 p.w (HX.keep p.h)
  have A3 := fun p : BelOf Z => take_any fr cost ⟨xo, xp, xc, xt⟩ HT.out.1 p.w ((HE.out.keep HWZ.out).keep p.h)
  have B3 := fun p : BelOf Z => ltake_any fr cost ⟨xo, xp, xc, xt⟩ HT.out.1 p.w ((HE.out.keep HWZ.out).keep p.h)
  have A4 := fun p : BelOf Z => take_any fr cost ⟨true, 7, 9, t⟩ HT.out.2 p.w ((HE.out.keep HWZ.out).keep p.h)
  have B4 := fun p : BelOf Z => ltake_any fr cost ⟨true, 7, 9, t⟩ HT.out.2 p.w ((HE.out.keep HWZ.out).keep p.h)
  generalize takeP (plainS rx) (plainS ry) C ⟨xo, xp, xc, xt⟩ = k1 at A1 B1
  generalize takeP (plainS rx) (plainS ry) C ⟨true, 7, 9, t⟩ = k2 at A2 B2
  generalize takeP ex im cost ⟨xo, xp, xc, xt⟩ = k3 at A3 B3
  generalize takeP ex im cost ⟨true, 7, 9, t⟩ = k4 at A4 B4
  unfold edV atV at A1 B1 A2 B2 A3 B3 A4 B4
  dsimp only at A1 B1 A2 B2 A3 B3 A4 B4
  clear h5 h6 h9 h10 HX hC
  have hne := bel_ne Z
  refine wp_region_bel (by kernel_rfl) (by kernel_rfl) ?_
  repeat (go_big_quiet_step (first
    | (go_at_call_of 11 ad; go_at_call_of 11 xo; exact bel_of (A1 _))
    | (go_at_call_of 11 ad; go_at_call_of 11 t; exact bel_of (A2 _))
    | (go_at_call_of 11 ae; go_at_call_of 11 xo; exact bel_of (A3 _))
    | (go_at_call_of 11 ae; go_at_call_of 11 t; exact bel_of (A4 _))
    | (go_at_call_of 12 ad; go_at_call_of 12 xo; exact bel_of (B1 _))
    | (go_at_call_of 12 ad; go_at_call_of 12 t; exact bel_of (B2 _))
    | (go_at_call_of 12 ae; go_at_call_of 12 xo; exact bel_of (B3 _))
    | (go_at_call_of 12 ae; go_at_call_of 12 t; exact bel_of (B4 _))))
  refine wpQuiet_nil ?_
  rintro V ⟨⟨V', hV⟩, rfl⟩
  go_wp2_with fail
  go_ret
  exact ⟨rfl, bel_up HWZ.out hV HWZ.out.size⟩
end Go.Proofs.Ytphhfjfdanlhiaa
