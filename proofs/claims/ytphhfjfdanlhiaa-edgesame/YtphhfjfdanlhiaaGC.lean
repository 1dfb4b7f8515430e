/- What the law's own take learns over an edge. -/
import Derived.Test.YtphhfjfdanlhiaaGA
import Derived.Deep.CutRange
import Derived.Deep.DeepCutAuto
namespace Go.Proofs.Ytphhfjfdanlhiaa
open Go.RowKit Go.Lib

theorem wrap_sum (y k : Int) : wrap64 (y + k) = sumI y k := by
  unfold sumI
  rw [IntKind.wrap_i64]
  simp only [wrap64]
theorem cost_cases (c : Int) : (decide (c < 1) = true ∧ costP c = 1) ∨ (decide (c < 1) = false ∧ decide (1000 < c) = false ∧ costP c = c) ∨ (decide (c < 1) = false ∧ decide (1000 < c) = true ∧ costP c = 1000) := by
  unfold costP
  by_cases h1 : c < 1
  · exact .inl ⟨decide_eq_true h1, if_pos h1⟩
  · by_cases h2 : 1000 < c
    · exact .inr (.inr ⟨decide_eq_false h1, decide_eq_true h2, by rw [if_neg h1, if_pos h2]⟩)
    · exact .inr (.inl ⟨decide_eq_false h1, decide_eq_false h2, by rw [if_neg h1, if_neg h2]⟩)
set_option maxHeartbeats 8000000 in
set_option maxRecDepth 20000 in
theorem ltake_any {ve vi : Value} {ex im : List ClD} (fr cost : Int) (x : At) (ht : 0 ≤ x.tags ∧ x.tags < 256) (w : World) (h : EdS w ve vi ex im) :
    Calls Try.prog 12 #[edV fr cost ve vi, atV x] w fun e w' => e = .returned (atV (takeP ex im cost x)) ∧ Below w.heap.size w w' := by
  obtain ⟨U, hU⟩ : ∃ U, U = ((w.alloc (edB fr cost ve vi)).alloc (atB x)).alloc (atB At.zero) := ⟨_, rfl⟩
  have hwU : Below w.heap.size w U := by rw [hU]; exact bel_alloc3 _ _ _ _
  obtain ⟨be, hbe⟩ : ∃ b, b = w.heap.size := ⟨_, rfl⟩
  obtain ⟨ba, hba⟩ : ∃ b, b = w.heap.size + 1 := ⟨_, rfl⟩
  obtain ⟨br, hbr⟩ : ∃ b, b = w.heap.size + 1 + 1 := ⟨_, rfl⟩
  have he : U.heap[be]? = some (edB fr cost ve vi) := by rw [hU]; exact pf_block (bel_alloc (Below.refl _ _) _) (pf_block (bel_alloc (Below.refl _ _) _) (pf_new _ _ _ hbe))
  have ha : U.heap[ba]? = some (atB x) := by rw [hU]; exact pf_block (bel_alloc (Below.refl _ _) _) (pf_new _ _ _ (by rw [hba]; simp))
  have hr : U.heap[br]? = some (atB At.zero) := by rw [hU]; exact pf_new _ _ _ (by rw [hbr]; simp)
  have HUP : Hid (w.heap.size ≤ br) := by show _ ≤ _; omega
  have hd := do_any h.eo 0 0 (by decide) x ht U (h.keep hwU).e
  have hty := doP_tags ex 0 0 ht
  obtain ⟨y, hy⟩ : ∃ y, y = doP ex 0 0 x := ⟨_, rfl⟩
  obtain ⟨k, hk⟩ : ∃ k, k = costP cost := ⟨_, rfl⟩
  have HF : Hid (takeP ex im cost x = if y.ok then doP im 0 0 ⟨true, 100, sumI y.cost k, y.tags⟩ else At.zero) := by rw [hy, hk]; rfl
  rw [← hy] at hd hty
  obtain ⟨z, hz⟩ : ∃ z, z = takeP ex im cost x := ⟨_, rfl⟩
  rw [← hz] at HF ⊢
  have hcc := cost_cases cost
  rw [← hk] at hcc
  clear hy hz hk
  obtain ⟨ae, ce, ai, ci, rfl, rfl⟩ := h.form
  have HH : Hid (EdS w (.slice ae ex.length ce) (.slice ai im.length ci) ex im) := h
  obtain ⟨xo, xp, xc, xt⟩ := x
  obtain ⟨yo, yp, yc, yt⟩ := y
  unfold atV pfV at hd
  unfold atV edV
  unfold atB At.zero edB at hU
  dsimp only at hd hU hty HF ⊢
  clear h ht
  have HTY : Hid (0 ≤ yt ∧ yt < 256) := hty
  have HCC : Hid _ := hcc
  clear hty hcc
  obtain ⟨e0, e1, e2, e3⟩ := ed_cells he
  obtain ⟨x0, x1, x2, x3⟩ := at_cell ha
  go_enter Try.func12, Try.ntmps12
  go_wp2_with fail
  rw [← hU, ← hbr, ← hba, ← hbe]
  clear hU
  refine hd.mono ?_
  rintro e W ⟨rfl, q⟩
  clear e0 e1 e2 e3 x0 x1 x2 x3
  have heW := pf_block q he
  have hrW := pf_block q hr
  have hwW := bel_up hwU q hwU.size
  clear hd he ha hr hwU q hbe hba hbr
  go_upto_region 2 with fail
  obtain ⟨bb, hbb⟩ : ∃ b, b = W.heap.size := ⟨_, rfl⟩
  obtain ⟨V, hV⟩ : ∃ V, V = W.alloc (atB ⟨yo, yp, yc, yt⟩) := ⟨_, rfl⟩
  have haV : V.heap[bb]? = some (atB ⟨yo, yp, yc, yt⟩) := by rw [hV]; exact pf_new _ _ _ hbb
  have hqV : Below W.heap.size W V := by rw [hV]; exact bel_alloc (Below.refl _ _) _
  have heV := pf_block hqV heW
  have hrV := pf_block hqV hrW
  have hwV := bel_up hwW hqV hwW.size
  unfold atB at hV
  dsimp only at hV
  rw [← hV, ← hbb]
  clear hV hbb heW hrW hwW hqV
  obtain ⟨e0, e1, e2, e3⟩ := ed_cells heV
  obtain ⟨x0, x1, x2, x3⟩ := at_cell haV
  obtain ⟨g0, g1, g2, g3⟩ := at_free hrV
  obtain ⟨m0, m1, m2, m3⟩ := at_cell hrV
  cases yo
  · go_wp2_with fail
    have hr2 := put4_at hrV ⟨false, 0, 0, 0⟩
    have hw2 := put4_below hwV HUP.out ⟨false, 0, 0, 0⟩
    unfold put4 at hr2 hw2
    dsimp only at hr2 hw2
    obtain ⟨W0, W1, W3, W4⟩ := at_cell hr2
    have hz : z = At.zero := HF.out
    rw [hz]
    refine bodyPost_ret (v := atV At.zero) (by unfold atV At.zero; simp [results, Try.results12, go_sem, W0, W1, W3, W4]) rfl ?_
    exact ⟨rfl, hw2⟩
  · have hdi := fun s : Int => do_any HH.out.io 0 0 (by decide) ⟨true, 100, s, yt⟩ HTY.out V (HH.out.keep hwV).i
    unfold atV pfV at hdi
    dsimp only at hdi
    rcases HCC.out with ⟨d1, hk⟩ | ⟨d1, d2, hk⟩ | ⟨d1, d2, hk⟩
    all_goals
      have HK : Hid (k = _) := hk
      clear hk
      go_wp2_with fail
      rw [wrap_sum, ← HK.out]
      obtain ⟨s, hs⟩ : ∃ s, s = sumI yc k := ⟨_, rfl⟩
      have HZ : Hid (z = doP im 0 0 ⟨true, 100, s, yt⟩) := by rw [hs]; exact HF.out
      rw [← hs]
      have hb := hdi s
      rw [← HZ.out] at hb
      refine hb.mono ?_
      rintro e Y ⟨rfl, q⟩
      have hrY := pf_block q hrV
      have hwY := bel_up hwV q hwV.size
      clear g0 g1 g2 g3 m0 m1 m2 m3
      obtain ⟨g0, g1, g2, g3⟩ := at_free hrY
      obtain ⟨m0, m1, m2, m3⟩ := at_cell hrY
      clear hb q hrV hwV haV heV e0 e1 e2 e3 x0 x1 x2 x3 HZ hdi hs d1 HF
      go_wp2_with fail
      have hr2 := put4_at hrY z
      have hw2 := put4_below hwY HUP.out z
      unfold put4 at hr2 hw2
      obtain ⟨W0, W1, W3, W4⟩ := at_cell hr2
      refine bodyPost_ret (v := atV z) (by unfold atV; simp [results, Try.results12, go_sem, W0, W1, W3, W4]) rfl ?_
      exact ⟨rfl, hw2⟩
end Go.Proofs.Ytphhfjfdanlhiaa
