/- TextSame: what it walks, where Config is as said. -/
import Derived.Test.YthelllciciohiaaDoorU6A
namespace Go.Proofs.YthelllciciohiaaDoor
open Go.RowKit Go.Lib

def frS (n n2 : Nat) (lv mv nv tv wv lv2 mv2 nv2 tv2 wv2 : Value) (pl : Int) (b1 b2 : Nat) (v7 v8 v13 v14 v15 v16 : Value) : Array Value :=
  #[.agg #[.int .u8 n, lv, mv, nv, tv, wv], .agg #[.int .u8 n2, lv2, mv2, nv2, tv2, wv2], .int .i64 pl, .pointer (some ⟨b1, 0, none⟩), .pointer (some ⟨b2, 0, none⟩), undef, .bool false, v7, v8, undef, undef, .bool true, .bool false, v13, v14, v15, v16, undef, undef, undef, undef, undef, undef, undef, undef, undef, undef, undef, undef, undef, undef, undef, undef, undef, undef, undef, undef, undef, undef, undef, undef, undef, undef, undef, undef, undef]
set_option maxHeartbeats 8000000 in
set_option maxRecDepth 20000 in
theorem tsame_any (hsc : OwnSaid) (s t : ShD) (hok : s.ok) (hok2 : t.ok) (v v2 : Value) (pl : Int) (w : World) (hv : ShAt w w.heap.size v s) (hv2 : ShAt w w.heap.size v2 t) (ht : TabP w) :
    Calls Tryd.prog 6 #[v, v2, .int .i64 pl] w fun e w' => e = .returned (.bool true) ∧ Below w.heap.size w w' := by
  have HV : Hid (ShAt w w.heap.size v s) := hv
  have HV2 : Hid (ShAt w w.heap.size v2 t) := hv2
  obtain ⟨lv, mv, nv, tv, wv, rfl, _, _, _, _, _⟩ := hv
  obtain ⟨lv2, mv2, nv2, tv2, wv2, rfl, _, _, _, _, _⟩ := hv2
  have ha := fun w h => awake7_any w h
  obtain ⟨n, hn⟩ : ∃ n, n = s.n := ⟨_, rfl⟩
  obtain ⟨n2, hn2⟩ : ∃ n, n = t.n := ⟨_, rfl⟩
  rw [← hn] at HV ⊢
  rw [← hn2] at HV2 ⊢
  clear hn hn2
  go_enter Tryd.func6, Tryd.ntmps6
  go_wp2_with fail
  obtain ⟨b1, hb1⟩ : ∃ b, b = w.heap.size := ⟨_, rfl⟩
  obtain ⟨b2, hb2⟩ : ∃ b, b = w.heap.size + 1 := ⟨_, rfl⟩
  rw [← hb2, ← hb1]
  obtain ⟨U1, hU1⟩ : ∃ U, U = w.alloc (.cells #[.int .u8 n, lv, mv, nv, tv, wv] 36) := ⟨_, rfl⟩
  rw [← hU1]
  obtain ⟨U, hU⟩ : ∃ U, U = U1.alloc (.cells #[.int .u8 n2, lv2, mv2, nv2, tv2, wv2] 36) := ⟨_, rfl⟩
  rw [← hU]
  obtain ⟨q1, r1, _⟩ := box_at w _ hU1 hb1
  obtain ⟨q2, r2, _⟩ := box_at U1 _ hU (b := b2) (by rw [hU1, hb2]; simp)
  have qU := bel_up q1 q2 q1.size
  have htU := ht.below qU
  have r1U := pf_block q2 r1
  clear hU hU1 hb1 hb2 q1 q2 r1
  refine (ha _ htU).mono ?_
  rintro e V ⟨rfl, qV⟩
  have r1V := pf_block qV r1U
  have r2V := pf_block qV r2
  have QV : Hid (Below w.heap.size w V) := bel_up qU qV qU.size
  have htV := htU.below qV
  obtain ⟨C0, C1, C2, C3, C4, C5⟩ := cells_six' r1V
  obtain ⟨D0, D1, D2, D3, D4, D5⟩ := cells_six' r2V
  clear ha htU qV r1U r2 qU
  go_wp2_with fail
  have htV' := htV
  have l1 := (Array.getElem?_eq_some_iff.1 r1V).1
  have l2 := (Array.getElem?_eq_some_iff.1 r2V).1
  have E0 := fun p => bel_cell l1 C0 p
  have E1 := fun p => bel_cell l1 C1 p
  have E2 := fun p => bel_cell l1 C2 p
  have E3 := fun p => bel_cell l1 C3 p
  have E4 := fun p => bel_cell l1 C4 p
  have E5 := fun p => bel_cell l1 C5 p
  have F0 := fun p => bel_cell l2 D0 p
  have F1 := fun p => bel_cell l2 D1 p
  have F2 := fun p => bel_cell l2 D2 p
  have F3 := fun p => bel_cell l2 D3 p
  have F4 := fun p => bel_cell l2 D4 p
  have F5 := fun p => bel_cell l2 D5 p
  have hc1 := fun (p : BelOf V) => hsc s hok _ p.w (HV.out.keep (Nat.le_trans QV.out.size p.h.size) (cells_below (bel_up QV.out p.h QV.out.size) (Nat.le_refl _)))
  have hc2 := fun (p : BelOf V) => hsc t hok2 _ p.w (HV2.out.keep (Nat.le_trans QV.out.size p.h.size) (cells_below (bel_up QV.out p.h QV.out.size) (Nat.le_refl _)))
  clear C0 C1 C2 C3 C4 C5 D0 D1 D2 D3 D4 D5
  refine wp_region_noPanic ?_
  refine wp_region_held_drew (S := fun _ => True) (by kernel_rfl) trivial (fun _ => ?_)
  refine wpAnyH_inv (I := TwoI (frS n n2 lv mv nv tv wv lv2 mv2 nv2 tv2 wv2 pl b1 b2) (ConfIs V.heap.size (confS s)) (ConfIs V.heap.size (confS t)) 40 V (.agg #[.int .u8 n, lv, mv, nv, tv, wv]) (.agg #[.int .u8 n2, lv2, mv2, nv2, tv2, wv2])) (by kernel_rfl) ?hsz ?hS ?hstep ?hend _ _ _ _ ?hc ?hI
  case hc => decide
  case hI => exact ⟨false, false, false, false, false, false, false, false, undef, undef, undef, undef, 0, 0, undef, undef, undef, undef, rfl, rfl, ⟨by simp, by simp, by simp, by simp, by simp, by simp⟩, Two.start (Below.refl _ _).drew⟩
  case hsz =>
    rintro l a W ⟨l0, l1, l2, l3, l4, l5, l6, l7, x1, x2, v9, v11, ba, bb, v5, v6, v10, v12, rfl, _⟩
    rfl
  case hS => exact fun _ _ _ _ => trivial
  case hstep =>
    rintro l a W ⟨l0, l1, l2, l3, l4, l5, l6, l7, x1, x2, v9, v11, ba, bb, v5, v6, v10, v12, rfl, rfl, G, M⟩ i o h1 ho h2
    have hi : i < 8 := (Array.getElem?_eq_some_iff.1 ho).1
    obtain ⟨p, rfl⟩ : ∃ p : BelOf V, W = p.w := ⟨⟨W, M.b⟩, rfl⟩
    rcases (by omega : i = 0 ∨ i = 1 ∨ i = 2 ∨ i = 3 ∨ i = 4 ∨ i = 5 ∨ i = 6 ∨ i = 7) with rfl | rfl | rfl | rfl | rfl | rfl | rfl | rfl
    · simp only [List.getElem?_toArray, List.getElem?_cons_zero, Option.some.injEq] at ho
      subst ho
      refine wpOp_is rfl (by rfl) ?_
      clear h2 h1
      unfold frS
      go_simp
      exact ⟨true, l1, l2, l3, l4, l5, l6, l7, x1, x2, _, v11, ba, bb, v5, v6, v10, v12, rfl, rfl, ⟨fun _ => rfl, G.g2, G.g1, G.g3, G.g4, G.g5⟩, M⟩
    · simp only [List.getElem?_toArray, List.getElem?_cons_zero, List.getElem?_cons_succ, Option.some.injEq] at ho
      subst ho
      refine wpOp_is rfl (by rfl) ?_
      have q0 : l0 = true := by simpa using h2 ⟨0, .data⟩ (by simp) rfl
      obtain rfl : l1 = false := by simpa using h1
      clear h2 h1
      subst q0
      obtain rfl := G.g0 rfl
      unfold frS
      go_simp
      refine (hc1 p).mono ?_
      rintro e w2 ⟨y, rfl, hy, hq⟩
      exact ⟨true, true, l2, l3, l4, l5, l6, l7, y, x2, _, v11, ba, bb, v5, v6, y, v12, rfl, rfl, ⟨fun _ => rfl, G.g2, fun _ => rfl, G.g3, G.g4, G.g5⟩, M.call1 (ConfIs.stays _ _) (ConfIs.stays _ _) hq (hy.le p.h.size)⟩
    · simp only [List.getElem?_toArray, List.getElem?_cons_zero, List.getElem?_cons_succ, Option.some.injEq] at ho
      subst ho
      refine wpOp_is rfl (by rfl) ?_
      clear h2 h1
      unfold frS
      go_simp
      exact ⟨l0, l1, true, l3, l4, l5, l6, l7, x1, x2, v9, _, ba, bb, v5, v6, v10, v12, rfl, rfl, ⟨G.g0, fun _ => rfl, G.g1, G.g3, G.g4, G.g5⟩, M⟩
    · simp only [List.getElem?_toArray, List.getElem?_cons_zero, List.getElem?_cons_succ, Option.some.injEq] at ho
      subst ho
      refine wpOp_is rfl (by rfl) ?_
      have q2 : l2 = true := by simpa using h2 ⟨2, .data⟩ (by simp) rfl
      obtain rfl : l3 = false := by simpa using h1
      clear h2 h1
      subst q2
      obtain rfl := G.g2 rfl
      unfold frS
      go_simp
      refine (hc2 p).mono ?_
      rintro e w2 ⟨y, rfl, hy, hq⟩
      exact ⟨l0, l1, true, true, l4, l5, l6, l7, x1, y, v9, _, ba, bb, v5, v6, v10, y, rfl, rfl, ⟨G.g0, fun _ => rfl, G.g1, fun _ => rfl, G.g4, G.g5⟩, M.call2 (ConfIs.stays _ _) (ConfIs.stays _ _) hq (hy.le p.h.size)⟩
    · simp only [List.getElem?_toArray, List.getElem?_cons_zero, List.getElem?_cons_succ, Option.some.injEq] at ho
      subst ho
      refine wpOp_is rfl (by rfl) ?_
      clear h2
      obtain rfl : l4 = false := by simpa using h1
      clear h1
      unfold frS
      go_simp
      exact ⟨l0, l1, l2, l3, true, l5, l6, l7, x1, x2, v9, v11, _, bb, _, v6, v10, v12, rfl, rfl, ⟨G.g0, G.g2, G.g1, G.g3, fun _ => rfl, G.g5⟩, M.alloc1 (ConfIs.stays _ _) (ConfIs.stays _ _) _ _⟩
    · simp only [List.getElem?_toArray, List.getElem?_cons_zero, List.getElem?_cons_succ, Option.some.injEq] at ho
      subst ho
      refine wpOp_is rfl (by rfl) ?_
      clear h2
      obtain rfl : l5 = false := by simpa using h1
      clear h1
      unfold frS
      go_simp
      exact ⟨l0, l1, l2, l3, l4, true, l6, l7, x1, x2, v9, v11, ba, _, v5, _, v10, v12, rfl, rfl, ⟨G.g0, G.g2, G.g1, G.g3, G.g4, fun _ => rfl⟩, M.alloc2 (ConfIs.stays _ _) (ConfIs.stays _ _) _ _⟩
    · simp only [List.getElem?_toArray, List.getElem?_cons_zero, List.getElem?_cons_succ, Option.some.injEq] at ho
      subst ho
      refine wpOp_is rfl (by rfl) ?_
      have q4 : l4 = true := by simpa using h2 ⟨4, .data⟩ (by simp) rfl
      have q1 : l1 = true := by simpa using h2 ⟨1, .data⟩ (by simp) rfl
      clear h2 h1
      subst q4 q1
      obtain rfl := G.g1 rfl
      obtain rfl := G.g4 rfl
      obtain ⟨u, n3, p3, u2, n4, p4, rfl⟩ := (M.r1 rfl).form
      obtain ⟨_, k0, k1, hk, _⟩ := M.a rfl
      obtain ⟨K0, K1⟩ := cells_two hk
      have f0 := free_at hk 0
      have f1 := free_at hk 1
      unfold frS
      go_simp
      exact ⟨l0, true, l2, l3, true, l5, true, l7, _, x2, v9, v11, ba, bb, _, v6, _, v12, rfl, rfl, ⟨G.g0, G.g2, fun _ => rfl, G.g3, fun _ => rfl, G.g5⟩, M.store1 (ConfIs.stays _ _) (ConfIs.stays _ _)⟩
    · simp only [List.getElem?_toArray, List.getElem?_cons_zero, List.getElem?_cons_succ, Option.some.injEq] at ho
      subst ho
      refine wpOp_is rfl (by rfl) ?_
      have q5 : l5 = true := by simpa using h2 ⟨5, .data⟩ (by simp) rfl
      have q3 : l3 = true := by simpa using h2 ⟨3, .data⟩ (by simp) rfl
      clear h2 h1
      subst q5 q3
      obtain rfl := G.g3 rfl
      obtain rfl := G.g5 rfl
      obtain ⟨u, n3, p3, u2, n4, p4, rfl⟩ := (M.r2 rfl).form
      obtain ⟨_, k0, k1, hk, _⟩ := M.c rfl
      obtain ⟨K0, K1⟩ := cells_two hk
      have f0 := free_at hk 0
      have f1 := free_at hk 1
      unfold frS
      go_simp
      exact ⟨l0, l1, l2, true, l4, true, l6, true, x1, _, v9, v11, ba, bb, v5, _, v10, _, rfl, rfl, ⟨G.g0, G.g2, G.g1, fun _ => rfl, G.g4, fun _ => rfl⟩, M.store2 (ConfIs.stays _ _) (ConfIs.stays _ _)⟩
  case hend =>
    rintro l a W ⟨l0, l1, l2, l3, l4, l5, l6, l7, x1, x2, v9, v11, ba, bb, v5, v6, v10, v12, rfl, rfl, G, M⟩ hall
    have q0 : l0 = true := by simpa using hall 0
    have q1 : l1 = true := by simpa using hall 1
    have q2 : l2 = true := by simpa using hall 2
    have q3 : l3 = true := by simpa using hall 3
    have q4 : l4 = true := by simpa using hall 4
    have q5 : l5 = true := by simpa using hall 5
    have q6 : l6 = true := by simpa using hall 6
    have q7 : l7 = true := by simpa using hall 7
    subst q0 q1 q2 q3 q4 q5 q6 q7
    obtain rfl := G.g0 rfl
    obtain rfl := G.g2 rfl
    obtain rfl := G.g1 rfl
    obtain rfl := G.g3 rfl
    obtain rfl := G.g4 rfl
    obtain rfl := G.g5 rfl
    refine NoPanic.normal ?_
    unfold frS
    clear hall G hc1 hc2 E0 E1 E2 E3 E4 E5 F0 F1 F2 F3 F4 F5
    obtain ⟨_, c0, c1, ka, e1⟩ := M.a rfl
    obtain ⟨_, c2, c3, kb, e2⟩ := M.c rfl
    have cfa := (M.r1 rfl).at
    have cfb := (M.r2 rfl).at
    obtain ⟨am, m1, cm, ar, m2, cr, hx1⟩ := (M.r1 rfl).form
    obtain ⟨am2, m3, cm2, ar2, m4, cr2, hx2⟩ := (M.r2 rfl).form
    have e1' := e1 rfl
    have e2' := e2 rfl
    rw [hx1] at e1'
    rw [hx2] at e2'
    injection e1' with e1'
    injection e2' with e2'
    obtain ⟨rfl, rfl⟩ : c0 = _ ∧ c1 = _ := by simpa [eq_comm] using e1'
    obtain ⟨rfl, rfl⟩ : c2 = _ ∧ c3 = _ := by simpa [eq_comm] using e2'
    subst hx1 hx2
    have QW : Hid (Below w.heap.size w W) := bel_up QV.out M.b QV.out.size
    have htW : Hid (TabP W) := htV.below M.b
    have HAB : Hid (CfAt W W.heap.size (.agg #[.slice am m1 cm, .slice ar m2 cr]) (confS s) ∧ CfAt W W.heap.size (.agg #[.slice am2 m3 cm2, .slice ar2 m4 cr2]) (confS t)) := ⟨cfa, cfb⟩
    have HK : Hid (W.heap[ba]? = some (.cells #[.slice am m1 cm, .slice ar m2 cr] 40 (0, 0)) ∧ W.heap[bb]? = some (.cells #[.slice am2 m3 cm2, .slice ar2 m4 cr2] 40 (0, 0))) := ⟨ka, kb⟩
    have h3 := hsc s hok _ W (HV.out.keep QW.out.size (cells_below QW.out (Nat.le_refl _)))
    obtain ⟨C0, C1, C2, C3, C4, C5⟩ := cells_six' (pf_block M.b r1V)
    clear e1 e2 e1' e2' cfa cfb ka kb M ht htV htV'
    go_wp2_with fail
    refine h3.mono ?_
    rintro e Y ⟨x3, rfl, hx3, qY⟩
    clear C0 C1 C2 C3 C4 C5 h3
    obtain ⟨mv3, rv3, lm, lr, rfl, hown, hlm, hlr⟩ := hx3
    obtain ⟨am3, cm3, rfl⟩ := own_form hown.m
    obtain ⟨ar3, cr3, rfl⟩ := own_form hown.r
    obtain ⟨N1, hN1⟩ : ∃ n, n = lm.length := ⟨_, rfl⟩
    obtain ⟨N2, hN2⟩ : ∃ n, n = lr.length := ⟨_, rfl⟩
    rw [← hN1, ← hN2] at hown ⊢
    have HO : Hid (ConfOwn W.heap.size Y (.slice am3 N1 cm3) (.slice ar3 N2 cr3) lm lr ∧ lm.map (·.1) = (confS s).maps ∧ lr.map (·.1) = (confS s).ros ∧ N1 = lm.length ∧ N2 = lr.length) := ⟨hown, hlm, hlr, hN1, hN2⟩
    have HQY : Hid (Below W.heap.size W Y) := qY
    clear hown hlm hlr hN1 hN2 qY
    obtain ⟨b3, hb3⟩ : ∃ b, b = Y.heap.size := ⟨_, rfl⟩
    go_upto_region 5 with fail
    rw [← hb3]
    obtain ⟨X, hX⟩ : ∃ X, X = Y.alloc (.cells #[.slice am3 N1 cm3, .slice ar3 N2 cr3] 40) := ⟨_, rfl⟩
    rw [← hX]
    obtain ⟨qX, rX, lX⟩ := box_at Y _ hX hb3
    have HX : Hid (ConfOwn W.heap.size X (.slice am3 N1 cm3) (.slice ar3 N2 cr3) lm (mixR pl 0 lr) ∧ Below W.heap.size W X ∧ X.heap[b3]? = some (.cells #[.slice am3 N1 cm3, .slice ar3 N2 cr3] 40 (0, 0)) ∧ W.heap.size ≤ b3) := by
      refine ⟨?_, bel_up HQY.out qX HQY.out.size, rX, by rw [hb3]; exact HQY.out.size⟩
      rw [mix_zero]
      exact HO.out.1.kept qX
    obtain ⟨X0, X1⟩ := cells_two rX
    have n2s : N2 ≤ 100 := by
      have h1 := conf_small (Nat.mod_lt s.n (by decide)) HO.out.2.1 HO.out.2.2.1
      rw [HO.out.2.2.2.2]
      exact h1.1.2
    clear hX qX rX lX hb3
    go_wp2_with fail
    clear X0 X1
    go_loopg [22] N2 (fun g i wr => ∃ k : Nat, k + g = N2 ∧ i = .int .i64 k ∧ Hid (ConfOwn W.heap.size wr (.slice am3 N1 cm3) (.slice ar3 N2 cr3) lm (mixR pl k lr) ∧ Below W.heap.size W wr ∧ wr.heap[b3]? = some (.cells #[.slice am3 N1 cm3, .slice ar3 N2 cr3] 40 (0, 0))))
    case atStart => exact ⟨0, Nat.zero_add _, rfl, (⟨HX.out.1, HX.out.2.1, HX.out.2.2.1⟩ : _ ∧ _)⟩
    case round =>
      obtain ⟨k, hk, rfl, HW⟩ := hrel
      by_cases hlt : k < N2
      · have d4 : decide ((k : Int) < N2) = true := decide_eq_true (by omega)
        have d5 : decide (k < N2) = true := decide_eq_true hlt
        have c0 : (0 : Int) ≤ k := by omega
        have hr0 := HW.out.1.r
        rw [mix_len, ← HO.out.2.2.2.2] at hr0
        obtain ⟨g, cap, hf, hg0, hgl⟩ := hr0.form (by omega)
        injection hf with hf1 hf2 hf3
        subst hf1
        have f0 := hr0.frozenAt (k * 5 + 4)
        obtain ⟨old, hold⟩ : ∃ u, wr.cell? ⟨g, k * 5 + 4, none⟩ = some u := by
          have h1 := hr0.cellAt (k * 5 + 4) (by omega)
          have h2 : k * 5 + 4 < ((mixR pl k lr).flatMap roL).length := by rw [flat5_len, mix_len, ← HO.out.2.2.2.2]; omega
          rw [List.getElem?_eq_getElem h2] at h1
          exact ⟨_, h1⟩
        obtain ⟨Y0, Y1⟩ := cells_two HW.out.2.2
        have HP : Hid (ConfOwn W.heap.size (wr.setCell ⟨g, k * 5 + 4, none⟩ (.int .i64 pl)) (.slice am3 N1 cm3) (.slice (some ⟨g, 0, none⟩) N2 cr3) lm (mixR pl (k + 1) lr)) := HW.out.1.place HO.out.2.2.2.2 (by rw [← HO.out.2.2.2.2]; exact hlt)
        have HG : Hid (W.heap.size ≤ g ∧ g ≠ b3) := by
          exact ⟨hg0, fun h => own_off hr0 HW.out.2.2 (by decide) g rfl (List.mem_singleton.2 h)⟩
        clear hf3 hf2 hr0 hg0 hgl
        go_wp2_with fail
        go_roundg (N2 - (k + 1))
        case measure => omega
        case rel => exact ⟨k + 1, by omega, by go_num, (⟨HP.out, HW.out.2.1.setCell HG.out.1 _, set_off HW.out.2.2 (fun h => HG.out.2 h.symm) _⟩ : _ ∧ _)⟩
      · obtain rfl : N2 = k := by omega
        have d4 : decide ((N2 : Int) < N2) = false := decide_eq_false (by omega)
        have QR : Hid (Below w.heap.size w wr) := bel_up QW.out HW.out.2.1 QW.out.size
        have htR := htW.out.below HW.out.2.1
        have hC : CfAt wr wr.heap.size (.agg #[.slice am3 N1 cm3, .slice ar3 N2 cr3]) ⟨(confS s).maps, (lr.map (atR pl)).map (·.1)⟩ := by
          have h1 := HW.out.1
          rw [HO.out.2.2.2.2] at h1 ⊢
          exact h1.placed HO.out.2.1 HO.out.2.2.1
        have hA := HAB.out.1.keep HW.out.2.1.size (cells_below HW.out.2.1 (Nat.le_refl _))
        have hB := HAB.out.2.keep HW.out.2.1.size (cells_below HW.out.2.1 (Nat.le_refl _))
        obtain ⟨T1, hT1⟩ : ∃ T : ByteArray, T = ⟨(confT (confS s)).toArray⟩ := ⟨_, rfl⟩
        obtain ⟨T2, hT2⟩ : ∃ T : ByteArray, T = ⟨(confT (confS t)).toArray⟩ := ⟨_, rfl⟩
        have hT3 : T1 = ⟨(confT ⟨(confS s).maps, (lr.map (atR pl)).map (·.1)⟩).toArray⟩ := by
          rw [placed_text, HO.out.2.2.1, hT1]
        have bs := Nat.le_trans (confS_bulk s) (show 1000 ≤ 68719476736 by decide)
        have bt := Nat.le_trans (confS_bulk t) (show 1000 ≤ 68719476736 by decide)
        obtain ⟨bq, hbq⟩ : ∃ b : Bool, (T1.toList == T2.toList) = b := ⟨_, rfl⟩
        have k1 := fun (p : BelOf wr) => same_any (confS s) (confS t) (confS_ok hok).1 (confS_ok hok2).1 bs bt _ _ p.w (hA.keep p.h.size (cells_below p.h (Nat.le_refl _))) (hB.keep p.h.size (cells_below p.h (Nat.le_refl _))) (htR.below p.h) T1 T2 hT1 hT2
        have k2 := fun (p : BelOf wr) => ltextc_any (confS s) (confS_ok hok).1 (confS_ok hok).2 bs _ p.w (hA.keep p.h.size (cells_below p.h (Nat.le_refl _))) (htR.below p.h)
        have k3 := fun (p : BelOf wr) => ltextc_any (confS t) (confS_ok hok2).1 (confS_ok hok2).2 bt _ p.w (hB.keep p.h.size (cells_below p.h (Nat.le_refl _))) (htR.below p.h)
        have k4 := fun (p : BelOf wr) => same_any (confS s) ⟨(confS s).maps, (lr.map (atR pl)).map (·.1)⟩ (confS_ok hok).1 (placed_ok (confS_ok hok).1 HO.out.2.2.1) bs (by rw [placed_bulk HO.out.2.2.1]; exact bs) _ _ p.w (hA.keep p.h.size (cells_below p.h (Nat.le_refl _))) (hC.keep p.h.size (cells_below p.h (Nat.le_refl _))) (htR.below p.h) T1 T1 hT1 hT3
        rw [hbq] at k1
        rw [← hT1] at k2
        rw [← hT2] at k3
        rw [show (T1.toList == T1.toList) = true by simp] at k4
        have e5 : (bq == bq) = true := by cases bq <;> rfl
        have ka := pf_block HW.out.2.1 HK.out.1
        have kb := pf_block HW.out.2.1 HK.out.2
        have kc := HW.out.2.2
        have la := (Array.getElem?_eq_some_iff.1 ka).1
        have lb := (Array.getElem?_eq_some_iff.1 kb).1
        have lc := (Array.getElem?_eq_some_iff.1 kc).1
        have E0 := fun p => bel_cell la (cells_two ka).1 p
        have E1 := fun p => bel_cell la (cells_two ka).2 p
        have E2 := fun p => bel_cell lb (cells_two kb).1 p
        have E3 := fun p => bel_cell lb (cells_two kb).2 p
        have E4 := fun p => bel_cell lc (cells_two kc).1 p
        have E5 := fun p => bel_cell lc (cells_two kc).2 p
        have hne := bel_ne wr
        clear hT1 hT2 hT3 hA hB hC bs bt htR la lb lc ka kb kc
        go_wp2_with fail
        refine wp_region_bel (by kernel_rfl) (by kernel_rfl) ?_
        repeat (go_big_quiet_step (first
          | (go_at_call 16; with_reducible exact bel_of (k1 _))
          | (go_at_call 16; with_reducible exact bel_of (k4 _))
          | (go_at_call 15; with_reducible exact bel_of (k2 _))
          | (go_at_call 15; with_reducible exact bel_of (k3 _))))
        refine wpQuiet_nil ?_
        rintro Z ⟨⟨Z', hZ⟩, rfl⟩
        clear k1 k2 k3 k4 E0 E1 E2 E3 E4 E5 hne hbq
        go_wp2_with fail
        go_ret
        exact ⟨rfl, bel_up QR.out hZ QR.out.size⟩
end Go.Proofs.YthelllciciohiaaDoor
