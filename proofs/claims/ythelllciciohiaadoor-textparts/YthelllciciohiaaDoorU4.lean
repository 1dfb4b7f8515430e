/- TextParts: what it walks, where Config is as said. -/
import Derived.Test.YthelllciciohiaaDoorU3
namespace Go.Proofs.YthelllciciohiaaDoor
open Go.RowKit Go.Lib

def frP (n n2 : Nat) (lv mv nv tv wv lv2 mv2 nv2 tv2 wv2 : Value) (b1 b2 : Nat) (v5 v6 v9 v10 v11 v12 : Value) : Array Value :=
  #[.agg #[.int .u8 n, lv, mv, nv, tv, wv], .agg #[.int .u8 n2, lv2, mv2, nv2, tv2, wv2], .pointer (some ⟨b1, 0, none⟩), .pointer (some ⟨b2, 0, none⟩), .bool false, v5, v6, .bool true, .bool false, v9, v10, v11, v12, undef, undef, undef, undef, undef, undef, undef, undef, undef, undef, undef, undef, undef, undef, undef, undef]
set_option maxHeartbeats 8000000 in
set_option maxRecDepth 20000 in
theorem tparts_any (hsc : OwnSaid) (s t : ShD) (hok : s.ok) (hok2 : t.ok) (v v2 : Value) (w : World) (hv : ShAt w w.heap.size v s) (hv2 : ShAt w w.heap.size v2 t) (ht : TabP w) :
    Calls Tryd.prog 8 #[v, v2] w fun e w' => e = .returned (.bool true) ∧ Below w.heap.size w w' := by
  have HV : Hid (ShAt w w.heap.size v s) := hv
  have HV2 : Hid (ShAt w w.heap.size v2 t) := hv2
  obtain ⟨lv, mv, nv, tv, wv, rfl, _, _, _, _, _⟩ := hv
  obtain ⟨lv2, mv2, nv2, tv2, wv2, rfl, _, _, _, _, _⟩ := hv2
  have ha := fun w h => awake7_any w h
  obtain ⟨n, hn⟩ : ∃ n, n = s.n := ⟨_, rfl⟩
  obtain ⟨n2, hn2⟩ : ∃ n, n = t.n := ⟨_, rfl⟩
  rw [← hn] at HV ⊢
  rw [← hn2] at HV2 ⊢
  clear hn hn2
  go_enter Tryd.func8, Tryd.ntmps8
  go_wp2_with fail
  obtain ⟨b1, hb1⟩ : ∃ b, b = w.heap.size := ⟨_, rfl⟩
  obtain ⟨b2, hb2⟩ : ∃ b, b = w.heap.size + 1 := ⟨_, rfl⟩
  rw [← hb2, ← hb1]
  obtain ⟨U1, hU1⟩ : ∃ U, U = w.alloc (.cells #[.int .u8 n, lv, mv, nv, tv, wv] 36) := ⟨_, rfl⟩
  rw [← hU1]
  obtain ⟨U, hU⟩ : ∃ U, U = U1.alloc (.cells #[.int .u8 n2, lv2, mv2, nv2, tv2, wv2] 36) := ⟨_, rfl⟩
  rw [← hU]
  obtain ⟨q1, r1, _⟩ := box_at w _ hU1 hb1
  obtain ⟨q2, r2, _⟩ := box_at U1 _ hU (b := b2) (by rw [hU1, hb2]; simp)
  have qU := bel_up q1 q2 q1.size
  have htU := ht.below qU
  have r1U := pf_block q2 r1
  clear hU hU1 hb1 hb2 q1 q2 r1
  refine (ha _ htU).mono ?_
  rintro e V ⟨rfl, qV⟩
  have r1V := pf_block qV r1U
  have r2V := pf_block qV r2
  have QV : Hid (Below w.heap.size w V) := bel_up qU qV qU.size
  have htV := htU.below qV
  obtain ⟨C0, C1, C2, C3, C4, C5⟩ := cells_six' r1V
  obtain ⟨D0, D1, D2, D3, D4, D5⟩ := cells_six' r2V
  clear ha htU qV r1U r2 qU
  go_wp2_with fail
  have htV' := htV
  have l1 := (Array.getElem?_eq_some_iff.1 r1V).1
  have l2 := (Array.getElem?_eq_some_iff.1 r2V).1
  have E0 := fun p => bel_cell l1 C0 p
  have E1 := fun p => bel_cell l1 C1 p
  have E2 := fun p => bel_cell l1 C2 p
  have E3 := fun p => bel_cell l1 C3 p
  have E4 := fun p => bel_cell l1 C4 p
  have E5 := fun p => bel_cell l1 C5 p
  have F0 := fun p => bel_cell l2 D0 p
  have F1 := fun p => bel_cell l2 D1 p
  have F2 := fun p => bel_cell l2 D2 p
  have F3 := fun p => bel_cell l2 D3 p
  have F4 := fun p => bel_cell l2 D4 p
  have F5 := fun p => bel_cell l2 D5 p
  have hc1 := fun (p : BelOf V) => hsc s hok _ p.w (HV.out.keep (Nat.le_trans QV.out.size p.h.size) (cells_below (bel_up QV.out p.h QV.out.size) (Nat.le_refl _)))
  have hc2 := fun (p : BelOf V) => hsc t hok2 _ p.w (HV2.out.keep (Nat.le_trans QV.out.size p.h.size) (cells_below (bel_up QV.out p.h QV.out.size) (Nat.le_refl _)))
  clear C0 C1 C2 C3 C4 C5 D0 D1 D2 D3 D4 D5
  refine wp_region_noPanic ?_
  refine wp_region_held_drew (S := fun _ => True) (by kernel_rfl) trivial (fun _ => ?_)
  refine wpAnyH_inv (I := TwoI (frP n n2 lv mv nv tv wv lv2 mv2 nv2 tv2 wv2 b1 b2) (ConfIs V.heap.size (confS s)) (ConfIs V.heap.size (confS t)) 40 V (.agg #[.int .u8 n, lv, mv, nv, tv, wv]) (.agg #[.int .u8 n2, lv2, mv2, nv2, tv2, wv2])) (by kernel_rfl) ?hsz ?hS ?hstep ?hend _ _ _ _ ?hc ?hI
  case hc => decide
  case hI => exact ⟨false, false, false, false, false, false, false, false, undef, undef, undef, undef, 0, 0, undef, undef, undef, undef, rfl, rfl, ⟨by simp, by simp, by simp, by simp, by simp, by simp⟩, Two.start (Below.refl _ _).drew⟩
  case hsz =>
    rintro l a W ⟨l0, l1, l2, l3, l4, l5, l6, l7, x1, x2, v9, v11, ba, bb, v5, v6, v10, v12, rfl, _⟩
    rfl
  case hS => exact fun _ _ _ _ => trivial
  case hstep =>
    rintro l a W ⟨l0, l1, l2, l3, l4, l5, l6, l7, x1, x2, v9, v11, ba, bb, v5, v6, v10, v12, rfl, rfl, G, M⟩ i o h1 ho h2
    have hi : i < 8 := (Array.getElem?_eq_some_iff.1 ho).1
    obtain ⟨p, rfl⟩ : ∃ p : BelOf V, W = p.w := ⟨⟨W, M.b⟩, rfl⟩
    rcases (by omega : i = 0 ∨ i = 1 ∨ i = 2 ∨ i = 3 ∨ i = 4 ∨ i = 5 ∨ i = 6 ∨ i = 7) with rfl | rfl | rfl | rfl | rfl | rfl | rfl | rfl
    · simp only [List.getElem?_toArray, List.getElem?_cons_zero, Option.some.injEq] at ho
      subst ho
      refine wpOp_is rfl (by rfl) ?_
      clear h2 h1
      unfold frP
      go_simp
      exact ⟨true, l1, l2, l3, l4, l5, l6, l7, x1, x2, _, v11, ba, bb, v5, v6, v10, v12, rfl, rfl, ⟨fun _ => rfl, G.g2, G.g1, G.g3, G.g4, G.g5⟩, M⟩
    · simp only [List.getElem?_toArray, List.getElem?_cons_zero, List.getElem?_cons_succ, Option.some.injEq] at ho
      subst ho
      refine wpOp_is rfl (by rfl) ?_
      have q0 : l0 = true := by simpa using h2 ⟨0, .data⟩ (by simp) rfl
      obtain rfl : l1 = false := by simpa using h1
      clear h2 h1
      subst q0
      obtain rfl := G.g0 rfl
      unfold frP
      go_simp
      refine (hc1 p).mono ?_
      rintro e w2 ⟨y, rfl, hy, hq⟩
      exact ⟨true, true, l2, l3, l4, l5, l6, l7, y, x2, _, v11, ba, bb, v5, v6, y, v12, rfl, rfl, ⟨fun _ => rfl, G.g2, fun _ => rfl, G.g3, G.g4, G.g5⟩, M.call1 (ConfIs.stays _ _) (ConfIs.stays _ _) hq (hy.le p.h.size)⟩
    · simp only [List.getElem?_toArray, List.getElem?_cons_zero, List.getElem?_cons_succ, Option.some.injEq] at ho
      subst ho
      refine wpOp_is rfl (by rfl) ?_
      clear h2 h1
      unfold frP
      go_simp
      exact ⟨l0, l1, true, l3, l4, l5, l6, l7, x1, x2, v9, _, ba, bb, v5, v6, v10, v12, rfl, rfl, ⟨G.g0, fun _ => rfl, G.g1, G.g3, G.g4, G.g5⟩, M⟩
    · simp only [List.getElem?_toArray, List.getElem?_cons_zero, List.getElem?_cons_succ, Option.some.injEq] at ho
      subst ho
      refine wpOp_is rfl (by rfl) ?_
      have q2 : l2 = true := by simpa using h2 ⟨2, .data⟩ (by simp) rfl
      obtain rfl : l3 = false := by simpa using h1
      clear h2 h1
      subst q2
      obtain rfl := G.g2 rfl
      unfold frP
      go_simp
      refine (hc2 p).mono ?_
      rintro e w2 ⟨y, rfl, hy, hq⟩
      exact ⟨l0, l1, true, true, l4, l5, l6, l7, x1, y, v9, _, ba, bb, v5, v6, v10, y, rfl, rfl, ⟨G.g0, fun _ => rfl, G.g1, fun _ => rfl, G.g4, G.g5⟩, M.call2 (ConfIs.stays _ _) (ConfIs.stays _ _) hq (hy.le p.h.size)⟩
    · simp only [List.getElem?_toArray, List.getElem?_cons_zero, List.getElem?_cons_succ, Option.some.injEq] at ho
      subst ho
      refine wpOp_is rfl (by rfl) ?_
      clear h2
      obtain rfl : l4 = false := by simpa using h1
      clear h1
      unfold frP
      go_simp
      exact ⟨l0, l1, l2, l3, true, l5, l6, l7, x1, x2, v9, v11, _, bb, _, v6, v10, v12, rfl, rfl, ⟨G.g0, G.g2, G.g1, G.g3, fun _ => rfl, G.g5⟩, M.alloc1 (ConfIs.stays _ _) (ConfIs.stays _ _) _ _⟩
    · simp only [List.getElem?_toArray, List.getElem?_cons_zero, List.getElem?_cons_succ, Option.some.injEq] at ho
      subst ho
      refine wpOp_is rfl (by rfl) ?_
      clear h2
      obtain rfl : l5 = false := by simpa using h1
      clear h1
      unfold frP
      go_simp
      exact ⟨l0, l1, l2, l3, l4, true, l6, l7, x1, x2, v9, v11, ba, _, v5, _, v10, v12, rfl, rfl, ⟨G.g0, G.g2, G.g1, G.g3, G.g4, fun _ => rfl⟩, M.alloc2 (ConfIs.stays _ _) (ConfIs.stays _ _) _ _⟩
    · simp only [List.getElem?_toArray, List.getElem?_cons_zero, List.getElem?_cons_succ, Option.some.injEq] at ho
      subst ho
      refine wpOp_is rfl (by rfl) ?_
      have q4 : l4 = true := by simpa using h2 ⟨4, .data⟩ (by simp) rfl
      have q1 : l1 = true := by simpa using h2 ⟨1, .data⟩ (by simp) rfl
      clear h2 h1
      subst q4 q1
      obtain rfl := G.g1 rfl
      obtain rfl := G.g4 rfl
      obtain ⟨u, n3, p3, u2, n4, p4, rfl⟩ := (M.r1 rfl).form
      obtain ⟨_, k0, k1, hk, _⟩ := M.a rfl
      obtain ⟨K0, K1⟩ := cells_two hk
      have f0 := free_at hk 0
      have f1 := free_at hk 1
      unfold frP
      go_simp
      exact ⟨l0, true, l2, l3, true, l5, true, l7, _, x2, v9, v11, ba, bb, _, v6, _, v12, rfl, rfl, ⟨G.g0, G.g2, fun _ => rfl, G.g3, fun _ => rfl, G.g5⟩, M.store1 (ConfIs.stays _ _) (ConfIs.stays _ _)⟩
    · simp only [List.getElem?_toArray, List.getElem?_cons_zero, List.getElem?_cons_succ, Option.some.injEq] at ho
      subst ho
      refine wpOp_is rfl (by rfl) ?_
      have q5 : l5 = true := by simpa using h2 ⟨5, .data⟩ (by simp) rfl
      have q3 : l3 = true := by simpa using h2 ⟨3, .data⟩ (by simp) rfl
      clear h2 h1
      subst q5 q3
      obtain rfl := G.g3 rfl
      obtain rfl := G.g5 rfl
      obtain ⟨u, n3, p3, u2, n4, p4, rfl⟩ := (M.r2 rfl).form
      obtain ⟨_, k0, k1, hk, _⟩ := M.c rfl
      obtain ⟨K0, K1⟩ := cells_two hk
      have f0 := free_at hk 0
      have f1 := free_at hk 1
      unfold frP
      go_simp
      exact ⟨l0, l1, l2, true, l4, true, l6, true, x1, _, v9, v11, ba, bb, v5, _, v10, _, rfl, rfl, ⟨G.g0, G.g2, G.g1, fun _ => rfl, G.g4, fun _ => rfl⟩, M.store2 (ConfIs.stays _ _) (ConfIs.stays _ _)⟩
  case hend =>
    rintro l a W ⟨l0, l1, l2, l3, l4, l5, l6, l7, x1, x2, v9, v11, ba, bb, v5, v6, v10, v12, rfl, rfl, G, M⟩ hall
    have q0 : l0 = true := by simpa using hall 0
    have q1 : l1 = true := by simpa using hall 1
    have q2 : l2 = true := by simpa using hall 2
    have q3 : l3 = true := by simpa using hall 3
    have q4 : l4 = true := by simpa using hall 4
    have q5 : l5 = true := by simpa using hall 5
    have q6 : l6 = true := by simpa using hall 6
    have q7 : l7 = true := by simpa using hall 7
    subst q0 q1 q2 q3 q4 q5 q6 q7
    obtain rfl := G.g0 rfl
    obtain rfl := G.g2 rfl
    obtain rfl := G.g1 rfl
    obtain rfl := G.g3 rfl
    obtain rfl := G.g4 rfl
    obtain rfl := G.g5 rfl
    refine NoPanic.normal ?_
    unfold frP
    clear hall G hc1 hc2 E0 E1 E2 E3 E4 E5 F0 F1 F2 F3 F4 F5
    obtain ⟨_, c0, c1, ka, e1⟩ := M.a rfl
    obtain ⟨_, c2, c3, kb, e2⟩ := M.c rfl
    have cf1 := (M.r1 rfl).at
    have cf2 := (M.r2 rfl).at
    have QW : Hid (Below w.heap.size w W) := bel_up QV.out M.b QV.out.size
    have htW := htV.below M.b
    obtain ⟨_, _, rfl, ⟨am, cm, rfl, sm0, sm⟩, ⟨ar, cr, rfl, sr0, sr⟩⟩ := cf1
    obtain ⟨_, _, rfl, ⟨am2, cm2, rfl, sm02, sm2⟩, ⟨ar2, cr2, rfl, sr02, sr2⟩⟩ := cf2
    have e1' := e1 rfl
    have e2' := e2 rfl
    injection e1' with e1'
    injection e2' with e2'
    obtain ⟨rfl, rfl⟩ : c0 = _ ∧ c1 = _ := by simpa [eq_comm] using e1'
    obtain ⟨rfl, rfl⟩ : c2 = _ ∧ c3 = _ := by simpa [eq_comm] using e2'
    have hX : CfAt W W.heap.size (.agg #[.slice am (confS s).maps.length cm, .slice ar2 (confS t).ros.length cr2]) ⟨(confS s).maps, (confS t).ros⟩ := ⟨_, _, rfl, ⟨am, cm, rfl, sm0, sm⟩, ⟨ar2, cr2, rfl, sr02, sr2⟩⟩
    have hY : CfAt W W.heap.size (.agg #[.slice am (confS s).maps.length cm, .slice none 0 0]) ⟨(confS s).maps, []⟩ := ⟨_, _, rfl, ⟨am, cm, rfl, sm0, sm⟩, slice_nil _ _ _⟩
    have hZ : CfAt W W.heap.size (.agg #[.slice none 0 0, .slice ar2 (confS t).ros.length cr2]) ⟨[], (confS t).ros⟩ := ⟨_, _, rfl, slice_nil _ _ _, ⟨ar2, cr2, rfl, sr02, sr2⟩⟩
    have oks := (confS_ok hok).1
    have okt := (confS_ok hok2).1
    have bks := confS_bulk s
    have bkt := confS_bulk t
    unfold CfD.bulk at bks bkt
    have k1 := fun (p : BelOf W) => tconf_any ⟨(confS s).maps, (confS t).ros⟩ ⟨oks.m, okt.r⟩ (by unfold CfD.bulk; dsimp only; omega) _ p.w (hX.keep p.h.size (cells_below p.h (Nat.le_refl _))) (htW.below p.h)
    have k2 := fun (p : BelOf W) => tconf_any ⟨(confS s).maps, []⟩ ⟨oks.m, by simp⟩ (by unfold CfD.bulk; simp; omega) _ p.w (hY.keep p.h.size (cells_below p.h (Nat.le_refl _))) (htW.below p.h)
    have k3 := fun (p : BelOf W) => tconf_any ⟨[], (confS t).ros⟩ ⟨by simp, okt.r⟩ (by unfold CfD.bulk; simp; omega) _ p.w (hZ.keep p.h.size (cells_below p.h (Nat.le_refl _))) (htW.below p.h)
    obtain ⟨T2, hT2⟩ : ∃ T : ByteArray, T = ⟨(confT ⟨(confS s).maps, []⟩).toArray⟩ := ⟨_, rfl⟩
    obtain ⟨T3, hT3⟩ : ∃ T : ByteArray, T = ⟨(confT ⟨[], (confS t).ros⟩).toArray⟩ := ⟨_, rfl⟩
    have hT1 : (⟨(confT ⟨(confS s).maps, (confS t).ros⟩).toArray⟩ : ByteArray) = T2 ++ T3 := by
      rw [hT2, hT3, str_add]
      unfold confT
      simp
    have hs2 : T2.size ≤ 1000000 := by
      rw [hT2, str_size]
      have := conf_len (c := ⟨(confS s).maps, []⟩) ⟨oks.m, by simp⟩
      unfold CfD.bulk at this
      simp at this
      omega
    have hs3 : T3.size ≤ 1000000 := by
      rw [hT3, str_size]
      have := conf_len (c := ⟨[], (confS t).ros⟩) ⟨by simp, okt.r⟩
      unfold CfD.bulk at this
      simp at this
      omega
    rw [hT1] at k1
    rw [← hT2] at k2
    rw [← hT3] at k3
    have e3 : ((T2 ++ T3).toList == (T2 ++ T3).toList) = true := by simp
    generalize (confS s).maps.length = n3, (confS s).ros.length = n4, (confS t).maps.length = n5, (confS t).ros.length = n6 at k1 k2 k3 ka kb
    have lX := (Array.getElem?_eq_some_iff.1 ka).1
    have lY := (Array.getElem?_eq_some_iff.1 kb).1
    have E0 := fun p => bel_cell lX (cells_two ka).1 p
    have E1 := fun p => bel_cell lX (cells_two ka).2 p
    have E2 := fun p => bel_cell lY (cells_two kb).1 p
    have E3 := fun p => bel_cell lY (cells_two kb).2 p
    have hne := bel_ne W
    clear hT1 hT2 hT3 hX hY hZ oks okt bks bkt ka kb lX lY e1 e2 e1' e2' sm0 sm sr0 sr sm02 sm2 sr02 sr2 M htW ht
    go_wp2_with fail
    refine wp_region_bel (by kernel_rfl) (by kernel_rfl) ?_
    repeat (go_big_quiet_step (first
      | (go_at_call 14; with_reducible exact bel_of (k1 _))
      | (go_at_call 14; with_reducible exact bel_of (k2 _))
      | (go_at_call 14; with_reducible exact bel_of (k3 _))))
    refine wpQuiet_nil ?_
    rintro X ⟨⟨X', hX⟩, rfl⟩
    clear k1 k2 k3 E0 E1 E2 E3 hne
    go_wp2_with fail
    go_ret
    exact ⟨rfl, bel_up QW.out hX QW.out.size⟩
end Go.Proofs.YthelllciciohiaaDoor
