/- What Take learns over an edge; what the law's own take does. -/
import Derived.Test.YtphhfjfdanlhiaaGA
import Derived.Deep.CutRange
import Derived.Deep.DeepCutAuto
namespace Go.Proofs.Ytphhfjfdanlhiaa
open Go.RowKit Go.Lib

theorem cost_sum (y c : Int) : wrap64 (y + if 1000 < if c < 1 then 1 else c then 1000 else if c < 1 then 1 else c) = sumI y (costP c) := by
  unfold sumI costP
  rw [IntKind.wrap_i64]
  simp only [wrap64]
  by_cases h1 : c < 1
  · simp only [if_pos h1]
    rfl
  · simp only [if_neg h1]
theorem take_form (ex im : List ClD) (cost : Int) (x : At) {y : At} (hy : y = doP ex 0 0 x) : takeP ex im cost x = if y.ok then doP im 0 0 ⟨true, 100, sumI y.cost (costP cost), y.tags⟩ else At.zero := by
  rw [hy]; rfl
set_option maxHeartbeats 8000000 in
set_option maxRecDepth 20000 in
theorem take_any {ve vi : Value} {ex im : List ClD} (fr cost : Int) (x : At) (ht : 0 ≤ x.tags ∧ x.tags < 256) (w : World) (h : EdS w ve vi ex im) :
    Calls Try.prog 11 #[edV fr cost ve vi, atV x] w fun e w' => e = .returned (atV (takeP ex im cost x)) ∧ Below w.heap.size w w' := by
  obtain ⟨U, hU⟩ : ∃ U, U = ((w.alloc (edB fr cost ve vi)).alloc (atB x)).alloc (atB At.zero) := ⟨_, rfl⟩
  have hwU : Below w.heap.size w U := by rw [hU]; exact bel_alloc3 _ _ _ _
  obtain ⟨be, hbe⟩ : ∃ b, b = w.heap.size := ⟨_, rfl⟩
  obtain ⟨ba, hba⟩ : ∃ b, b = w.heap.size + 1 := ⟨_, rfl⟩
  obtain ⟨br, hbr⟩ : ∃ b, b = w.heap.size + 1 + 1 := ⟨_, rfl⟩
  have he : U.heap[be]? = some (edB fr cost ve vi) := by rw [hU]; exact pf_block (bel_alloc (Below.refl _ _) _) (pf_block (bel_alloc (Below.refl _ _) _) (pf_new _ _ _ hbe))
  have ha : U.heap[ba]? = some (atB x) := by rw [hU]; exact pf_block (bel_alloc (Below.refl _ _) _) (pf_new _ _ _ (by rw [hba]; simp))
  have hr : U.heap[br]? = some (atB At.zero) := by rw [hU]; exact pf_new _ _ _ (by rw [hbr]; simp)
  have HUP : Hid (w.heap.size ≤ ba ∧ w.heap.size ≤ br ∧ be ≠ ba ∧ br ≠ ba) := by show _ ∧ _ ∧ _ ∧ _; omega
  have HED : Hid (EdS U ve vi ex im) := h.keep hwU
  have hd := ebehind_any HED.out.eo x ht U HED.out.e
  have hty := doP_tags ex 0 0 ht
  obtain ⟨y, hy⟩ : ∃ y, y = doP ex 0 0 x := ⟨_, rfl⟩
  have HF : Hid (takeP ex im cost x = if y.ok then doP im 0 0 ⟨true, 100, sumI y.cost (costP cost), y.tags⟩ else At.zero) := take_form ex im cost x hy
  rw [← hy] at hd hty
  obtain ⟨z, hz⟩ : ∃ z, z = takeP ex im cost x := ⟨_, rfl⟩
  rw [← hz] at HF ⊢
  clear hy hz
  obtain ⟨ae, ce, ai, ci, rfl, rfl⟩ := h.form
  have HH : Hid (EdS w (.slice ae ex.length ce) (.slice ai im.length ci) ex im) := h
  obtain ⟨xo, xp, xc, xt⟩ := x
  obtain ⟨yo, yp, yc, yt⟩ := y
  unfold atV at hd
  unfold atV edV
  unfold atB At.zero edB at hU
  dsimp only at hd hU hty HF ⊢
  clear h ht
  have HTY : Hid (0 ≤ yt ∧ yt < 256) := hty
  clear hty
  obtain ⟨e0, e1, e2, e3⟩ := ed_cells he
  obtain ⟨x0, x1, x2, x3⟩ := at_cell ha
  go_enter Try.func11, Try.ntmps11
  go_wp2_with fail
  rw [← hU, ← hbr, ← hba, ← hbe]
  clear hU
  refine hd.mono ?_
  rintro e W ⟨rfl, q⟩
  clear e0 e1 e2 e3 x0 x1 x2 x3
  have heW := pf_block q he
  have haW := pf_block q ha
  have hrW := pf_block q hr
  have hwW := bel_up hwU q hwU.size
  obtain ⟨e0, e1, e2, e3⟩ := ed_cells heW
  obtain ⟨x0, x1, x2, x3⟩ := at_cell haW
  obtain ⟨f0, f1, f2, f3⟩ := at_free haW
  obtain ⟨g0, g1, g2, g3⟩ := at_free hrW
  obtain ⟨m0, m1, m2, m3⟩ := at_cell hrW
  clear hd he ha hr hwU q hbe hba hbr HED
  go_upto_region 2 with fail
  have haV := put4_at haW ⟨yo, yp, yc, yt⟩
  have heV := put4_off heW HUP.out.2.2.1 ⟨yo, yp, yc, yt⟩
  have hrV := put4_off hrW HUP.out.2.2.2 ⟨yo, yp, yc, yt⟩
  have hwV := put4_below hwW HUP.out.1 ⟨yo, yp, yc, yt⟩
  obtain ⟨V, hV⟩ : ∃ V, V = put4 W ba ⟨yo, yp, yc, yt⟩ := ⟨_, rfl⟩
  rw [← hV] at haV heV hrV hwV
  unfold put4 at hV
  dsimp only at hV
  rw [← hV]
  clear hV heW haW hrW hwW e0 e1 e2 e3 x0 x1 x2 x3 f0 f1 f2 f3 g0 g1 g2 g3 m0 m1 m2 m3
  have HSV : Hid (EdS V (.slice ae ex.length ce) (.slice ai im.length ci) ex im) := HH.out.keep hwV
  obtain ⟨e0, e1, e2, e3⟩ := ed_cells heV
  obtain ⟨x0, x1, x2, x3⟩ := at_cell haV
  obtain ⟨f0, f1, f2, f3⟩ := at_free haV
  obtain ⟨g0, g1, g2, g3⟩ := at_free hrV
  obtain ⟨m0, m1, m2, m3⟩ := at_cell hrV
  cases yo
  · go_wp2_with fail
    have hr2 := put4_at hrV ⟨false, 0, 0, 0⟩
    have hw2 := put4_below hwV HUP.out.2.1 ⟨false, 0, 0, 0⟩
    unfold put4 at hr2 hw2
    dsimp only at hr2 hw2
    obtain ⟨W0, W1, W3, W4⟩ := at_cell hr2
    have hz : z = At.zero := HF.out
    rw [hz]
    refine bodyPost_ret (v := atV At.zero) (by unfold atV At.zero; simp [results, Try.results11, go_sem, W0, W1, W3, W4]) rfl ?_
    exact ⟨rfl, hw2⟩
  · go_upto_region 6 with fail
    rw [cost_sum]
    generalize (if (1000 : Int) < if cost < 1 then 1 else cost then 1000 else if cost < 1 then 1 else cost) = k2
    generalize (if cost < 1 then (1 : Int) else cost) = k1
    obtain ⟨s, hs⟩ : ∃ s, s = sumI yc (costP cost) := ⟨_, rfl⟩
    have HZ : Hid (z = doP im 0 0 ⟨true, 100, s, yt⟩) := by rw [hs]; exact HF.out
    rw [← hs]
    have e1 := set_at (i := 2) haV (.int .i64 s)
    have haX : ((V.setCell ⟨ba, 2, none⟩ (.int .i64 s)).setCell ⟨ba, 1, none⟩ (.int .i64 100)).heap[ba]? = some (atB ⟨true, 100, s, yt⟩) := set_at (i := 1) e1 (.int .i64 100)
    have heX := set_off (set_off heV HUP.out.2.2.1 (i := 2) (.int .i64 s)) HUP.out.2.2.1 (i := 1) (.int .i64 100)
    have hrX := set_off (set_off hrV HUP.out.2.2.2 (i := 2) (.int .i64 s)) HUP.out.2.2.2 (i := 1) (.int .i64 100)
    have hwX := (hwV.setCell (p := ⟨ba, 2, none⟩) HUP.out.1 (.int .i64 s)).setCell (p := ⟨ba, 1, none⟩) HUP.out.1 (.int .i64 100)
    obtain ⟨X, hX⟩ : ∃ X, X = (V.setCell ⟨ba, 2, none⟩ (.int .i64 s)).setCell ⟨ba, 1, none⟩ (.int .i64 100) := ⟨_, rfl⟩
    rw [← hX] at haX heX hrX hwX ⊢
    clear hX hs HF e0 e1 e2 e3 x0 x1 x2 x3 f0 f1 f2 f3 g0 g1 g2 g3 m0 m1 m2 m3 haV heV hrV hwV HSV
    have hb := ebehind_any HH.out.io ⟨true, 100, s, yt⟩ HTY.out X (HH.out.keep hwX).i
    obtain ⟨e0, e1, e2, e3⟩ := ed_cells heX
    obtain ⟨x0, x1, x2, x3⟩ := at_cell haX
    rw [← HZ.out] at hb
    unfold atV at hb
    dsimp only at hb
    go_wp2_with fail
    refine hb.mono ?_
    rintro e Y ⟨rfl, q⟩
    have hrY := pf_block q hrX
    have hwY := bel_up hwX q hwX.size
    obtain ⟨g0, g1, g2, g3⟩ := at_free hrY
    obtain ⟨m0, m1, m2, m3⟩ := at_cell hrY
    clear hb q hrX hwX haX heX e0 e1 e2 e3 x0 x1 x2 x3 HZ
    go_wp2_with fail
    have hr2 := put4_at hrY z
    have hw2 := put4_below hwY HUP.out.2.1 z
    unfold put4 at hr2 hw2
    obtain ⟨W0, W1, W3, W4⟩ := at_cell hr2
    refine bodyPost_ret (v := atV z) (by unfold atV; simp [results, Try.results11, go_sem, W0, W1, W3, W4]) rfl ?_
    exact ⟨rfl, hw2⟩
end Go.Proofs.Ytphhfjfdanlhiaa
