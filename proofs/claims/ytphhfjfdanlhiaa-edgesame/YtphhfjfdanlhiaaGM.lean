/- A wire's edge, whose maps lie in rows of its own. -/
import Derived.Test.YtphhfjfdanlhiaaGF
import Derived.Test.YtphhfjfdanlhiaaHM
namespace Go.Proofs.Ytphhfjfdanlhiaa
open Go.RowKit Go.Lib

theorem own_ge {W : World} {B t z n : Nat} {v : Value} {xs : List Value} (h : W.ownsRow B t z v n xs) {g : Nat} (hg : v.ownBlock = some g) : B ≤ g := by
  rcases h.2 with ⟨rfl, _⟩ | ⟨q, cap, cur, rfl, hq, _⟩
  · simp [Value.ownBlock] at hg
  · simp [Value.ownBlock] at hg
    omega
/-- What a call made is an edge whose maps lie in blocks of its own. -/
def EdIs (B : Nat) (fr cost : Int) (ex im : List ClD) (W : World) (x : Value) : Prop := ∃ ve vi, x = edV fr cost ve vi ∧ W.ownsRow B 53 10 ve ex.length (ex.flatMap clW) ∧ W.ownsRow B 53 10 vi im.length (im.flatMap clW)
set_option maxHeartbeats 4000000 in
set_option maxRecDepth 20000 in
theorem plain_own {v : Value} {rs : List RlD} (hrs : ∀ r ∈ rs, r.ok) (w : World) (h : SliceAt w.heap.size 6 (RlAt w) v rs) :
    Calls Try.prog 16 #[v] w fun e w' => ∃ cv, e = .returned cv ∧ w'.ownsRow w.heap.size 53 10 cv (plainS rs).length ((plainS rs).flatMap clW) ∧ Below w.heap.size w w' := by
  have hcw := clausesS_any hrs (Nat.le_refl _) h
  have HR : Hid (∀ r ∈ rs, r.ok) := hrs
  obtain ⟨ad, cap, rfl, _, _⟩ := h
  clear hrs
  go_enter Try.func16, Try.ntmps16
  go_wp2_with fail
  refine hcw.mono ?_
  rintro e X ⟨cv, rfl, ho, q⟩
  have hln := clausesS_len rs
  have hf := for_any (clausesS_ok HR.out) 167772160 32 (by decide) X (by omega) (cls_of_own (by omega) ho)
  unfold pfV at hf
  clear hcw ho
  go_wp2_with fail
  refine hf.mono ?_
  rintro e F ⟨fv, rfl, fo, qF⟩
  have HS : Hid (F.ownsRow w.heap.size 53 10 fv (plainS rs).length ((plainS rs).flatMap clW)) := own_mono fo q.size
  have HB : Hid (Below w.heap.size w F) := bel_up q qF q.size
  clear hf fo qF q
  go_wp2_with fail
  go_ret
  exact ⟨_, rfl, HS.out, HB.out⟩
set_option maxHeartbeats 8000000 in
set_option maxRecDepth 20000 in
theorem edge_own {ve vi : Value} {ex im : List RlD} (fr co : Nat) (hb : fr < 256 ∧ co < 256) (w : World) (h : WiS w ve vi ex im) :
    Calls Try.prog 10 #[wiV fr co ve vi] w fun e w' => ∃ x, e = .returned x ∧ EdIs w.heap.size fr (1 + (co : Int) % 3) (plainS ex) (plainS im) w' x ∧ Below w.heap.size w w' := by
  obtain ⟨ae, ce, ai, ci, rfl, rfl⟩ := h.form
  obtain ⟨U, hU⟩ : ∃ U, U = (w.alloc (.cells #[.int .u8 fr, .int .u8 co, .slice ae ex.length ce, .slice ai im.length ci] 24)).alloc (edB 0 0 (.slice none 0 0) (.slice none 0 0)) := ⟨_, rfl⟩
  have hwU : Below w.heap.size w U := by rw [hU]; exact bel_alloc2 _ _ _
  obtain ⟨b1, hb1⟩ : ∃ b, b = w.heap.size := ⟨_, rfl⟩
  obtain ⟨b2, hb2⟩ : ∃ b, b = w.heap.size + 1 := ⟨_, rfl⟩
  have h1 : U.heap[b1]? = some (.cells #[.int .u8 fr, .int .u8 co, .slice ae ex.length ce, .slice ai im.length ci] 24 (0, 0)) := by rw [hU]; exact pf_block (bel_alloc (Below.refl _ _) _) (pf_new _ _ _ hb1)
  have h2 : U.heap[b2]? = some (edB 0 0 (.slice none 0 0) (.slice none 0 0)) := by rw [hU]; exact pf_new _ _ _ (by rw [hb2]; simp)
  have HUP : Hid (w.heap.size ≤ b2 ∧ Below w.heap.size w U) := ⟨by omega, hwU⟩
  have HW : Hid (WiS U (.slice ae ex.length ce) (.slice ai im.length ci) ex im) := h.keep hwU
  have n0 : (0 : Int) ≤ fr := by omega
  have n1 : (fr : Int) < 256 := by omega
  have m0 : (0 : Int) ≤ co := by omega
  have m1 : (co : Int) < 256 := by omega
  unfold wiV
  unfold edB at hU
  clear h hb
  go_enter Try.func10, Try.ntmps10
  go_upto_region 1 with fail
  rw [← hU, ← hb2, ← hb1]
  clear hU hb2 hb1 hwU
  have hne := x_ne b2 U
  have l1 := (Array.getElem?_eq_some_iff.1 h1).1
  have hn : b1 ≠ b2 := by
    intro e
    rw [e] at h1
    have h3 := h1.symm.trans h2
    unfold edB at h3
    injection h3 with h3
    injection h3 with h3
    have h4 : (#[Value.int .u8 fr, .int .u8 co, .slice ae ex.length ce, .slice ai im.length ci])[0]? = (#[Value.int .i64 0, .int .i64 0, .slice none 0 0, .slice none 0 0])[0]? := by rw [h3]
    simp at h4
  obtain ⟨c0, c1, c2, c3⟩ := cells_four h1
  replace c0 := x_cell c0 l1 hn
  replace c1 := x_cell c1 l1 hn
  replace c2 := x_cell c2 l1 hn
  replace c3 := x_cell c3 l1 hn
  have hp := fun (X : World) (k : Below U.heap.size U X) => plain_own (HW.out.keep k).eo X (HW.out.keep k).e
  have hq := fun (X : World) (k : Below U.heap.size U X) => plain_own (HW.out.keep k).io X (HW.out.keep k).i
  clear l1 hn h1
  refine wp_region_plan (C := fun w' => ∃ p : XOf b2 U, w' = p.w) [([0, 1, 2, 3, 4, 5, 6, 7, 8, 9, 11, 12], 10), ([], 13), ([14], 15)] [] (by kernel_rfl) (by kernel_rfl) rfl ⟨⟨U.drew, (BelX.refl _ _).drew⟩, rfl⟩ (fun _ _ d _ _ h => by cases d <;> exact h) ?_
  refine plan_go rfl ?_
  simp only [pickL, List.getElem?_cons_zero, List.getElem?_cons_succ]
  repeat (go_big_quiet_step (fail))
  refine wpQuiet_nil ?_
  intro Q2 hQ2
  have hp1 := hp U.drew (Below.refl _ _).drew
  go_wp2_with fail
  refine hp1.mono ?_
  rintro e F ⟨xe, rfl, se, qF⟩
  have QF : Below U.heap.size U F := ((Below.refl U.heap.size U).drew).trans qF
  have hq1 := hq F QF
  clear hp hq hp1 qF
  go_wp2_with fail
  refine hQ2 _ _ ⟨⟨F, BelX.of _ QF⟩, rfl⟩ ?_
  clear hQ2 Q2
  refine plan_go rfl ?_
  simp only [pickL]
  refine wpQuiet_nil ?_
  intro Q2 hQ2
  go_wp2_with fail
  refine hq1.mono ?_
  rintro e G ⟨xi, rfl, si, qG⟩
  have QG : Below U.heap.size U G := bel_up QF qG QF.size
  have sG := own_mono (own_bel se qG) (B' := U.heap.size) (Nat.le_refl _)
  have sI := own_mono si (B' := U.heap.size) QF.size
  obtain ⟨ad, cd, rfl⟩ := own_form sG
  obtain ⟨aj, cj, rfl⟩ := own_form sI
  have HS : Hid (G.ownsRow U.heap.size 53 10 (.slice ad (plainS ex).length cd) (plainS ex).length ((plainS ex).flatMap clW) ∧ G.ownsRow U.heap.size 53 10 (.slice aj (plainS im).length cj) (plainS im).length ((plainS im).flatMap clW)) := ⟨sG, sI⟩
  clear hq1 qG QF se si sG sI
  go_wp2_with fail
  refine hQ2 _ _ ⟨⟨G, BelX.of _ QG⟩, rfl⟩ ?_
  clear hQ2 Q2
  refine plan_go rfl ?_
  simp only [pickL, List.getElem?_cons_zero, List.getElem?_cons_succ]
  repeat (go_big_quiet_step (fail))
  refine wpQuiet_nil ?_
  intro Q2 hQ2
  have hG := pf_block QG h2
  obtain ⟨m0, m1, m2, m3⟩ := ed_cells hG
  obtain ⟨f0, f1, f2, f3⟩ : G.frozen? ⟨b2, 0, none⟩ = false ∧ G.frozen? ⟨b2, 1, none⟩ = false ∧ G.frozen? ⟨b2, 2, none⟩ = false ∧ G.frozen? ⟨b2, 3, none⟩ = false := ⟨free_at hG 0, free_at hG 1, free_at hG 2, free_at hG 3⟩
  go_wp2_with fail
  have e0 : (G.setCell ⟨b2, 0, none⟩ (.int .i64 fr)).heap[b2]? = some (edB fr 0 (.slice none 0 0) (.slice none 0 0)) := set_at (i := 0) hG _
  have e1 : ((G.setCell ⟨b2, 0, none⟩ (.int .i64 fr)).setCell ⟨b2, 1, none⟩ (.int .i64 (1 + (co : Int) % 3))).heap[b2]? = some (edB fr (1 + (co : Int) % 3) (.slice none 0 0) (.slice none 0 0)) := set_at (i := 1) e0 _
  have e2 : (((G.setCell ⟨b2, 0, none⟩ (.int .i64 fr)).setCell ⟨b2, 1, none⟩ (.int .i64 (1 + (co : Int) % 3))).setCell ⟨b2, 2, none⟩ (.slice ad (plainS ex).length cd)).heap[b2]? = some (edB fr (1 + (co : Int) % 3) (.slice ad (plainS ex).length cd) (.slice none 0 0)) := set_at (i := 2) e1 _
  have e3 : ((((G.setCell ⟨b2, 0, none⟩ (.int .i64 fr)).setCell ⟨b2, 1, none⟩ (.int .i64 (1 + (co : Int) % 3))).setCell ⟨b2, 2, none⟩ (.slice ad (plainS ex).length cd)).setCell ⟨b2, 3, none⟩ (.slice aj (plainS im).length cj)).heap[b2]? = some (edB fr (1 + (co : Int) % 3) (.slice ad (plainS ex).length cd) (.slice aj (plainS im).length cj)) := set_at (i := 3) e2 _
  have hX := ((((BelX.refl b2 G).set (p := b2) (i := 0) (.inl rfl) (.int .i64 fr)).set (p := b2) (i := 1) (.inl rfl) (.int .i64 (1 + (co : Int) % 3))).set (p := b2) (i := 2) (.inl rfl) (.slice ad (plainS ex).length cd)).set (p := b2) (i := 3) (.inl rfl) (.slice aj (plainS im).length cj)
  obtain ⟨Y, hY⟩ : ∃ Y, Y = (((G.setCell ⟨b2, 0, none⟩ (.int .i64 fr)).setCell ⟨b2, 1, none⟩ (.int .i64 (1 + (co : Int) % 3))).setCell ⟨b2, 2, none⟩ (.slice ad (plainS ex).length cd)).setCell ⟨b2, 3, none⟩ (.slice aj (plainS im).length cj) := ⟨_, rfl⟩
  rw [← hY] at e3 hX ⊢
  have l2 := (Array.getElem?_eq_some_iff.1 h2).1
  have HSY : Hid (EdIs w.heap.size fr (1 + (co : Int) % 3) (plainS ex) (plainS im) Y (edV fr (1 + (co : Int) % 3) (.slice ad (plainS ex).length cd) (.slice aj (plainS im).length cj))) :=
    ⟨_, _, rfl, own_mono (hX.own HS.out.1 fun g hg => by have := own_ge HS.out.1 hg; omega) HUP.out.2.size, own_mono (hX.own HS.out.2 fun g hg => by have := own_ge HS.out.2 hg; omega) HUP.out.2.size⟩
  have HB : Hid (Below w.heap.size w Y) := (hX.bel (bel_up HUP.out.2 QG HUP.out.2.size) HUP.out.1)
  obtain ⟨k0, k1, k2, k3⟩ := ed_cells e3
  have hC : ∃ p : XOf b2 U, Y = p.w := ⟨⟨Y, (BelX.of b2 QG).trans hX⟩, rfl⟩
  clear hY e0 e1 e2 e3 hX m0 m1 m2 m3 f0 f1 f2 f3 hG QG HS c0 c1 c2 c3
  refine hQ2 _ _ hC (plan_end ?_)
  clear hQ2 Q2 hC
  go_wp2_with fail
  refine bodyPost_ret (v := edV fr (1 + (co : Int) % 3) (.slice ad (plainS ex).length cd) (.slice aj (plainS im).length cj)) (by unfold edV; simp [results, Try.results10, go_sem, k0, k1, k2, k3]) rfl ?_
  exact ⟨_, rfl, HSY.out, HB.out⟩
end Go.Proofs.Ytphhfjfdanlhiaa
