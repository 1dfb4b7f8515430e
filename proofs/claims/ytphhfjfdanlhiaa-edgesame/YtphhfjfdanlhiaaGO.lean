/- EdgeSame: the walk. -/
import Derived.Test.YtphhfjfdanlhiaaGN
import Derived.Test.YtphhfjfdanlhiaaGC
import Derived.Test.YtphhfjfdanlhiaaGG
import Derived.Test.YtphhfjfdanlhiaaGK0
namespace Go.Proofs.Ytphhfjfdanlhiaa
open Go.RowKit Go.Lib

def frE (y0 y2 : Value) (b1 b2 : Nat) (v5 v6 v9 v10 v11 v12 : Value) : Array Value :=
  #[y0, y2, .pointer (some ⟨b1, 0, none⟩), .pointer (some ⟨b2, 0, none⟩), .bool false, v5, v6, undef, undef, undef, .bool true, .bool false, v9, v10, v11, v12, undef, undef, undef, undef, undef, undef, undef, undef, undef, undef, undef, undef, undef, undef, undef, undef, undef, undef, undef, undef, undef, undef, undef, undef, undef, undef, undef, undef, undef, undef, undef, undef, undef, undef, undef, undef]
set_option maxHeartbeats 8000000 in
set_option maxRecDepth 20000 in
theorem legsame_walk {vr vs vr' vs' : Value} {rx ry rx' ry' : List RlD} (f0 c0 : Nat) (hb : f0 < 256 ∧ c0 < 256) (f1 c1 : Nat) (hb' : f1 < 256 ∧ c1 < 256) (w : World)
    (hs : WiS w vr vs rx ry) (hs' : WiS w vr' vs' rx' ry') :
    Calls Try.prog 6 #[wiV f0 c0 vr vs, wiV f1 c1 vr' vs'] w fun e w' => e = .returned (.bool true) ∧ Below w.heap.size w w' := by
  have hwk := awake12_any
  have HV : Hid (WiS w vr vs rx ry) := hs
  have HV2 : Hid (WiS w vr' vs' rx' ry') := hs'
  have HN : Hid (f0 < 256) := hb.1
  have h10 := fun (X : World) (q : Below w.heap.size w X) => edge_own f0 c0 hb X (hs.keep q)
  have h20 := fun (X : World) (q : Below w.heap.size w X) => edge_own f1 c1 hb' X (hs'.keep q)
  obtain ⟨ar, cr, at9, cs, rfl, rfl⟩ := hs.form
  obtain ⟨ar', cr', at9', cs', rfl, rfl⟩ := hs'.form
  obtain ⟨U, hU⟩ : ∃ U, U = (w.alloc (wiB f0 c0 (.slice ar rx.length cr) (.slice at9 ry.length cs))).alloc (wiB f1 c1 (.slice ar' rx'.length cr') (.slice at9' ry'.length cs')) := ⟨_, rfl⟩
  have hwU : Below w.heap.size w U := by rw [hU]; exact bel_alloc2 _ _ _
  obtain ⟨b1, hb1⟩ : ∃ b, b = w.heap.size := ⟨_, rfl⟩
  obtain ⟨b2, hb2⟩ : ∃ b, b = w.heap.size + 1 := ⟨_, rfl⟩
  have h3 : U.heap[b1]? = some (wiB f0 c0 (.slice ar rx.length cr) (.slice at9 ry.length cs)) := by rw [hU]; exact pf_block (bel_alloc (Below.refl _ _) _) (pf_new _ _ _ hb1)
  have h4 : U.heap[b2]? = some (wiB f1 c1 (.slice ar' rx'.length cr') (.slice at9' ry'.length cs')) := by rw [hU]; exact pf_new _ _ _ (by rw [hb2]; simp)
  unfold wiB at hU
  unfold wiV at h10 h20 ⊢
  obtain ⟨C0, hC0⟩ : ∃ C, C = 1 + (c0 : Int) % 3 := ⟨_, rfl⟩
  obtain ⟨C1, hC1⟩ : ∃ C, C = 1 + (c1 : Int) % 3 := ⟨_, rfl⟩
  rw [← hC0] at h10
  rw [← hC1] at h20
  clear hs hs' hb hb' hC0 hC1
  go_enter Try.func6, Try.ntmps6
  go_wp2_with fail
  rw [← hU, ← hb2, ← hb1]
  clear hU hb1 hb2
  refine (hwk _).mono ?_
  rintro e V ⟨rfl, qV⟩
  replace h3 := pf_block qV h3
  replace h4 := pf_block qV h4
  have QV : Hid (Below w.heap.size w V) := bel_up hwU qV hwU.size
  clear hwU qV U hwk
  go_wp2_with fail
  obtain ⟨E0, E1, E2, E3⟩ := wi_all h3
  obtain ⟨F0, F1, F2, F3⟩ := wi_all h4
  have hc1 := fun (p : BelOf V) => h10 p.w (bel_up QV.out p.h QV.out.size)
  have hc2 := fun (p : BelOf V) => h20 p.w (bel_up QV.out p.h QV.out.size)
  clear h10 h20 h3 h4
  refine wp_region_noPanic ?_
  refine wp_region_held_drew (S := fun _ => True) (by kernel_rfl) trivial (fun _ => ?_)
  refine wpAnyH_inv (I := TwoI (frE (.agg #[.int .u8 f0, .int .u8 c0, .slice ar rx.length cr, .slice at9 ry.length cs]) (.agg #[.int .u8 f1, .int .u8 c1, .slice ar' rx'.length cr', .slice at9' ry'.length cs']) b1 b2) (EdIs V.heap.size f0 C0 (plainS rx) (plainS ry)) (EdIs V.heap.size f1 C1 (plainS rx') (plainS ry')) 27 V (.agg #[.int .u8 f0, .int .u8 c0, .slice ar rx.length cr, .slice at9 ry.length cs]) (.agg #[.int .u8 f1, .int .u8 c1, .slice ar' rx'.length cr', .slice at9' ry'.length cs'])) (by kernel_rfl) ?hsz ?hS ?hstep ?hend _ _ _ _ ?hc ?hI
  case hc => decide
  case hI => exact ⟨false, false, false, false, false, false, false, false, undef, undef, undef, undef, 0, 0, undef, undef, undef, undef, rfl, rfl, ⟨by simp, by simp, by simp, by simp, by simp, by simp⟩, Two.start (Below.refl _ _).drew⟩
  case hsz =>
    rintro l a W ⟨l0, l1, l2, l3, l4, l5, l6, l7, x1, x2, v9, v11, ba, bb, v5, v6, v10, v12, rfl, _⟩
    rfl
  case hS => exact fun _ _ _ _ => trivial
  case hstep =>
    rintro l a W ⟨l0, l1, l2, l3, l4, l5, l6, l7, x1, x2, v9, v11, ba, bb, v5, v6, v10, v12, rfl, rfl, G, M⟩ i o h1 ho h2
    have hi : i < 8 := (Array.getElem?_eq_some_iff.1 ho).1
    obtain ⟨p, rfl⟩ : ∃ p : BelOf V, W = p.w := ⟨⟨W, M.b⟩, rfl⟩
    rcases (by omega : i = 0 ∨ i = 1 ∨ i = 2 ∨ i = 3 ∨ i = 4 ∨ i = 5 ∨ i = 6 ∨ i = 7) with rfl | rfl | rfl | rfl | rfl | rfl | rfl | rfl
    · simp only [List.getElem?_toArray, List.getElem?_cons_zero, Option.some.injEq] at ho
      subst ho
      refine wpOp_is rfl (by rfl) ?_
      clear h2 h1
      unfold frE
      go_simp
      exact ⟨true, l1, l2, l3, l4, l5, l6, l7, x1, x2, _, v11, ba, bb, v5, v6, v10, v12, rfl, rfl, ⟨fun _ => rfl, G.g2, G.g1, G.g3, G.g4, G.g5⟩, M⟩
    · simp only [List.getElem?_toArray, List.getElem?_cons_zero, List.getElem?_cons_succ, Option.some.injEq] at ho
      subst ho
      refine wpOp_is rfl (by rfl) ?_
      have q0 : l0 = true := by simpa using h2 ⟨0, .data⟩ (by simp) rfl
      obtain rfl : l1 = false := by simpa using h1
      clear h2 h1
      subst q0
      obtain rfl := G.g0 rfl
      unfold frE
      go_simp
      refine (hc1 p).mono ?_
      rintro e w2 ⟨y, rfl, hy, hq⟩
      exact ⟨true, true, l2, l3, l4, l5, l6, l7, y, x2, _, v11, ba, bb, v5, v6, y, v12, rfl, rfl, ⟨fun _ => rfl, G.g2, fun _ => rfl, G.g3, G.g4, G.g5⟩, M.call1 (EdIs.stays _ _ _ _ _) (EdIs.stays _ _ _ _ _) hq (hy.le p.h.size)⟩
    · simp only [List.getElem?_toArray, List.getElem?_cons_zero, List.getElem?_cons_succ, Option.some.injEq] at ho
      subst ho
      refine wpOp_is rfl (by rfl) ?_
      clear h2 h1
      unfold frE
      go_simp
      exact ⟨l0, l1, true, l3, l4, l5, l6, l7, x1, x2, v9, _, ba, bb, v5, v6, v10, v12, rfl, rfl, ⟨G.g0, fun _ => rfl, G.g1, G.g3, G.g4, G.g5⟩, M⟩
    · simp only [List.getElem?_toArray, List.getElem?_cons_zero, List.getElem?_cons_succ, Option.some.injEq] at ho
      subst ho
      refine wpOp_is rfl (by rfl) ?_
      have q2 : l2 = true := by simpa using h2 ⟨2, .data⟩ (by simp) rfl
      obtain rfl : l3 = false := by simpa using h1
      clear h2 h1
      subst q2
      obtain rfl := G.g2 rfl
      unfold frE
      go_simp
      refine (hc2 p).mono ?_
      rintro e w2 ⟨y, rfl, hy, hq⟩
      exact ⟨l0, l1, true, true, l4, l5, l6, l7, x1, y, v9, _, ba, bb, v5, v6, v10, y, rfl, rfl, ⟨G.g0, fun _ => rfl, G.g1, fun _ => rfl, G.g4, G.g5⟩, M.call2 (EdIs.stays _ _ _ _ _) (EdIs.stays _ _ _ _ _) hq (hy.le p.h.size)⟩
    · simp only [List.getElem?_toArray, List.getElem?_cons_zero, List.getElem?_cons_succ, Option.some.injEq] at ho
      subst ho
      refine wpOp_is rfl (by rfl) ?_
      clear h2
      obtain rfl : l4 = false := by simpa using h1
      clear h1
      unfold frE
      go_simp
      exact ⟨l0, l1, l2, l3, true, l5, l6, l7, x1, x2, v9, v11, _, bb, _, v6, v10, v12, rfl, rfl, ⟨G.g0, G.g2, G.g1, G.g3, fun _ => rfl, G.g5⟩, M.alloc1 (EdIs.stays _ _ _ _ _) (EdIs.stays _ _ _ _ _) _ _ _ _⟩
    · simp only [List.getElem?_toArray, List.getElem?_cons_zero, List.getElem?_cons_succ, Option.some.injEq] at ho
      subst ho
      refine wpOp_is rfl (by rfl) ?_
      clear h2
      obtain rfl : l5 = false := by simpa using h1
      clear h1
      unfold frE
      go_simp
      exact ⟨l0, l1, l2, l3, l4, true, l6, l7, x1, x2, v9, v11, ba, _, v5, _, v10, v12, rfl, rfl, ⟨G.g0, G.g2, G.g1, G.g3, G.g4, fun _ => rfl⟩, M.alloc2 (EdIs.stays _ _ _ _ _) (EdIs.stays _ _ _ _ _) _ _ _ _⟩
    · simp only [List.getElem?_toArray, List.getElem?_cons_zero, List.getElem?_cons_succ, Option.some.injEq] at ho
      subst ho
      refine wpOp_is rfl (by rfl) ?_
      have q4 : l4 = true := by simpa using h2 ⟨4, .data⟩ (by simp) rfl
      have q1 : l1 = true := by simpa using h2 ⟨1, .data⟩ (by simp) rfl
      clear h2 h1
      subst q4 q1
      obtain rfl := G.g1 rfl
      obtain rfl := G.g4 rfl
      obtain ⟨u, p3, u2, p4, rfl⟩ := (M.r1 rfl).form
      obtain ⟨_, k0, k1, k2, k3, hk, _⟩ := M.a rfl
      obtain ⟨K0, K1, K2, K3⟩ := cells_four hk
      have f0 := free_at hk 0
      have f1 := free_at hk 1
      have f2 := free_at hk 2
      have f3 := free_at hk 3
      unfold frE
      go_simp
      exact ⟨l0, true, l2, l3, true, l5, true, l7, _, x2, v9, v11, ba, bb, _, v6, _, v12, rfl, rfl, ⟨G.g0, G.g2, fun _ => rfl, G.g3, fun _ => rfl, G.g5⟩, M.store1 (EdIs.stays _ _ _ _ _) (EdIs.stays _ _ _ _ _)⟩
    · simp only [List.getElem?_toArray, List.getElem?_cons_zero, List.getElem?_cons_succ, Option.some.injEq] at ho
      subst ho
      refine wpOp_is rfl (by rfl) ?_
      have q5 : l5 = true := by simpa using h2 ⟨5, .data⟩ (by simp) rfl
      have q3 : l3 = true := by simpa using h2 ⟨3, .data⟩ (by simp) rfl
      clear h2 h1
      subst q5 q3
      obtain rfl := G.g3 rfl
      obtain rfl := G.g5 rfl
      obtain ⟨u, p3, u2, p4, rfl⟩ := (M.r2 rfl).form
      obtain ⟨_, k0, k1, k2, k3, hk, _⟩ := M.c rfl
      obtain ⟨K0, K1, K2, K3⟩ := cells_four hk
      have f0 := free_at hk 0
      have f1 := free_at hk 1
      have f2 := free_at hk 2
      have f3 := free_at hk 3
      unfold frE
      go_simp
      exact ⟨l0, l1, l2, true, l4, true, l6, true, x1, _, v9, v11, ba, bb, v5, _, v10, _, rfl, rfl, ⟨G.g0, G.g2, G.g1, fun _ => rfl, G.g4, fun _ => rfl⟩, M.store2 (EdIs.stays _ _ _ _ _) (EdIs.stays _ _ _ _ _)⟩
  case hend =>
    rintro l a W ⟨l0, l1, l2, l3, l4, l5, l6, l7, x1, x2, v9, v11, ba, bb, v5, v6, v10, v12, rfl, rfl, G, M⟩ hall
    have q0 : l0 = true := by simpa using hall 0
    have q1 : l1 = true := by simpa using hall 1
    have q2 : l2 = true := by simpa using hall 2
    have q3 : l3 = true := by simpa using hall 3
    have q4 : l4 = true := by simpa using hall 4
    have q5 : l5 = true := by simpa using hall 5
    have q6 : l6 = true := by simpa using hall 6
    have q7 : l7 = true := by simpa using hall 7
    subst q0 q1 q2 q3 q4 q5 q6 q7
    obtain rfl := G.g0 rfl
    obtain rfl := G.g2 rfl
    obtain rfl := G.g1 rfl
    obtain rfl := G.g3 rfl
    obtain rfl := G.g4 rfl
    obtain rfl := G.g5 rfl
    refine NoPanic.normal ?_
    unfold frE
    clear hall G hc1 hc2 E0 E1 E2 E3 F0 F1 F2 F3
    obtain ⟨_, c0', c1', c2', c3', ka, e1⟩ := M.a rfl
    obtain ⟨_, d0', d1', d2', d3', kb, e2⟩ := M.c rfl
    have cf1 := M.r1 rfl
    have cf2 := M.r2 rfl
    have QW : Hid (Below w.heap.size w W) := bel_up QV.out M.b QV.out.size
    have e1' := e1 rfl
    have e2' := e2 rfl
    obtain ⟨ae, ce, ai, ci, rfl⟩ := cf1.form
    obtain ⟨ae', ce', ai', ci', rfl⟩ := cf2.form
    injection e1' with e1'
    injection e2' with e2'
    obtain ⟨rfl, rfl, rfl, rfl⟩ : c0' = _ ∧ c1' = _ ∧ c2' = _ ∧ c3' = _ := by simpa [eq_comm] using e1'
    obtain ⟨rfl, rfl, rfl, rfl⟩ : d0' = _ ∧ d1' = _ ∧ d2' = _ ∧ d3' = _ := by simpa [eq_comm] using e2'
    have SA : Hid (EdS W (.slice ae (plainS rx).length ce) (.slice ai (plainS ry).length ci) (plainS rx) (plainS ry)) := cf1.at HV.out.eo HV.out.io
    have SB : Hid (EdS W (.slice ae' (plainS rx').length ce') (.slice ai' (plainS ry').length ci') (plainS rx') (plainS ry')) := cf2.at HV2.out.eo HV2.out.io
    clear e1 e2 e1' e2' cf1 cf2 M
    go_wp2_with fail
    go_loopw [7, 8] (fun iv kv wr => ∃ j : Nat, j ≤ 16 ∧ kv = .int .u8 j ∧ iv = .bool (sameE (plainS rx) (plainS ry) C0 (plainS rx') (plainS ry') C1 j) ∧ Below W.heap.size W wr) (fun _ kv _ => 16 - (RowKit.intOf kv).toNat)
    case atStart => exact ⟨0, by decide, rfl, rfl, Below.refl _ _⟩
    case round =>
      obtain ⟨j, hj, rfl, rfl, hw⟩ := hrel
      obtain ⟨B, hB⟩ : ∃ B, B = sameE (plainS rx) (plainS ry) C0 (plainS rx') (plainS ry') C1 j := ⟨_, rfl⟩
      have HB : Hid (B = sameE (plainS rx) (plainS ry) C0 (plainS rx') (plainS ry') C1 j) := hB
      rw [← hB]
      clear hB
      have HW : Hid (Below W.heap.size W wr) := hw
      replace ka := pf_block hw ka
      replace kb := pf_block hw kb
      have SA2 := SA.out.keep hw
      have SB2 := SB.out.keep hw
      clear hw
      by_cases hjl : j < 16
      · have d5 : decide ((j : Int) < 16) = true := decide_eq_true (by omega)
        have hA := fun p : BelOf wr => ltake_any f0 C0 ⟨true, 100, 0, (j : Int)⟩ (by show 0 ≤ (j : Int) ∧ (j : Int) < 256; omega) p.w (SA2.keep p.h)
        have hC := fun p : BelOf wr => ltake_any f1 C1 ⟨true, 100, 0, (j : Int)⟩ (by show 0 ≤ (j : Int) ∧ (j : Int) < 256; omega) p.w (SB2.keep p.h)
        have rA : takeP (plainS rx) (plainS ry) C0 ⟨true, 100, 0, (j : Int)⟩ = rowP (plainS rx) (plainS ry) C0 j := by
          unfold rowP
          rw [show j % 16 = j by omega]
        have rC : takeP (plainS rx') (plainS ry') C1 ⟨true, 100, 0, (j : Int)⟩ = rowP (plainS rx') (plainS ry') C1 j := by
          unfold rowP
          rw [show j % 16 = j by omega]
        obtain ⟨y, hy⟩ : ∃ y, y = rowP (plainS rx) (plainS ry) C0 j := ⟨_, rfl⟩
        obtain ⟨x, hx⟩ : ∃ x, x = rowP (plainS rx') (plainS ry') C1 j := ⟨_, rfl⟩
        have HY : Hid (sameE (plainS rx) (plainS ry) C0 (plainS rx') (plainS ry') C1 (j + 1) = (B && eqP y x)) := by
          show sameE _ _ _ _ _ _ (j + 1) = _
          rw [sameE, HB.out, hy, hx]
        rw [rA, ← hy] at hA
        rw [rC, ← hx] at hC
        clear hy hx rA rC SA2 SB2
        obtain ⟨yo, yp, yc, yt⟩ := y
        obtain ⟨xo, xp, xc, xt⟩ := x
        unfold edV atV at hA hC
        dsimp only at hA hC
        obtain ⟨E0, E1, E2, E3⟩ := at_cells ka
        obtain ⟨F0, F1, F2, F3⟩ := at_cells kb
        have hne := bel_ne wr
        clear ka kb
        go_upto_region 8 with fail
        cases B
        · refine wp_region_bel (by kernel_rfl) (by kernel_rfl) ?_
          repeat (go_big_quiet_step (fail))
          refine wpQuiet_nil ?_
          rintro V3 ⟨⟨V', hV⟩, rfl⟩
          have HV3 : Hid (Below W.heap.size W V3) := bel_up HW.out hV HW.out.size
          clear hA hC E0 E1 E2 E3 F0 F1 F2 F3 hne hV
          go_wp2_with fail
          go_roundw
          case rel => exact ⟨j + 1, by omega, by go_num, by rw [HY.out]; rfl, HV3.out⟩
          case measure => simp [RowKit.intOf]; omega
        · have hcs : (yo = xo ∧ yp = xp ∧ yc = xc ∧ yt = xt) ∨ ((true && eqP ⟨yo, yp, yc, yt⟩ ⟨xo, xp, xc, xt⟩) = false ∧ ((yo == xo) = false ∧ decide (yo = xo) = false ∨ (yo = xo ∧ (yp == xp) = false ∧ decide (yp = xp) = false) ∨ (yo = xo ∧ yp = xp ∧ (yc == xc) = false ∧ decide (yc = xc) = false) ∨ (yo = xo ∧ yp = xp ∧ yc = xc ∧ (yt == xt) = false ∧ decide (yt = xt) = false))) := by
            by_cases e0 : yo = xo
            · by_cases e1 : yp = xp
              · by_cases e2 : yc = xc
                · by_cases e3 : yt = xt
                  · exact .inl ⟨e0, e1, e2, e3⟩
                  · exact .inr ⟨by simp [eqP, e3], .inr (.inr (.inr ⟨e0, e1, e2, by simp [e3], by simp [e3]⟩))⟩
                · exact .inr ⟨by simp [eqP, e2], .inr (.inr (.inl ⟨e0, e1, by simp [e2], by simp [e2]⟩))⟩
              · exact .inr ⟨by simp [eqP, e1], .inr (.inl ⟨e0, by simp [e1], by simp [e1]⟩)⟩
            · exact .inr ⟨by simp [eqP, e0], .inl ⟨by simp [e0], by simp [e0]⟩⟩
          rcases hcs with ⟨rfl, rfl, rfl, rfl⟩ | ⟨hz, hcs⟩
          · refine wp_region_bel (by kernel_rfl) (by kernel_rfl) ?_
            repeat (go_big_quiet_step (first
              | (go_at_call_of 12 ae; exact bel_of (hA _))
              | (go_at_call_of 12 ae'; exact bel_of (hC _))))
            refine wpQuiet_nil ?_
            rintro V3 ⟨⟨V', hV⟩, rfl⟩
            have HV3 : Hid (Below W.heap.size W V3) := bel_up HW.out hV HW.out.size
            clear hA hC E0 E1 E2 E3 F0 F1 F2 F3 hne hV
            go_wp2_with fail
            go_roundw
            case rel => exact ⟨j + 1, by omega, by go_num, by rw [HY.out]; simp [eqP], HV3.out⟩
            case measure => simp [RowKit.intOf]; omega
          · have HZ : Hid _ := hz
            clear hz
            rcases hcs with ⟨d0, d1⟩ | ⟨rfl, d0, d1⟩ | ⟨rfl, rfl, d0, d1⟩ | ⟨rfl, rfl, rfl, d0, d1⟩
            all_goals
              refine wp_region_bel (by kernel_rfl) (by kernel_rfl) ?_
              repeat (go_big_quiet_step (first
                | (go_at_call_of 12 ae; exact bel_of (hA _))
                | (go_at_call_of 12 ae'; exact bel_of (hC _))))
              refine wpQuiet_nil ?_
              rintro V3 ⟨⟨V', hV⟩, rfl⟩
              have HV3 : Hid (Below W.heap.size W V3) := bel_up HW.out hV HW.out.size
              clear hA hC E0 E1 E2 E3 F0 F1 F2 F3 hne hV
              go_wp2_with fail
              go_roundw
              case rel => exact ⟨j + 1, by omega, by go_num, by rw [HY.out, HZ.out], HV3.out⟩
              case measure => simp [RowKit.intOf]; omega
      · obtain rfl : j = 16 := by omega
        have d5 : decide (((16 : Nat) : Int) < 16) = false := by decide
        obtain ⟨E0, E1, E2, E3⟩ := ed_cells ka
        obtain ⟨F0, F1, F2, F3⟩ := ed_cells kb
        have n0 : (0 : Int) ≤ f0 := by omega
        have n1 : (f0 : Int) < 256 := by have := HN.out; omega
        go_upto_region 10 with fail
        obtain ⟨bc, hbc⟩ : ∃ b, b = wr.heap.size := ⟨_, rfl⟩
        obtain ⟨X, hX⟩ : ∃ X, X = wr.alloc (edB f0 C0 (.slice ae (plainS rx).length ce) (.slice ai (plainS ry).length ci)) := ⟨_, rfl⟩
        have qX : Below wr.heap.size wr X := by rw [hX]; exact bel_alloc (Below.refl _ _) _
        have kc : X.heap[bc]? = some (edB f0 C0 (.slice ae (plainS rx).length ce) (.slice ai (plainS ry).length ci)) := by rw [hX]; exact pf_new _ _ _ hbc
        have na : ba ≠ bc := by have := (Array.getElem?_eq_some_iff.1 ka).1; omega
        have nb : bb ≠ bc := by have := (Array.getElem?_eq_some_iff.1 kb).1; omega
        have HQ : Hid (Below wr.heap.size wr X ∧ wr.heap.size ≤ bc) := ⟨qX, by omega⟩
        replace ka := pf_block qX ka
        replace kb := pf_block qX kb
        unfold edB at hX
        rw [← hX, ← hbc]
        clear E0 E1 E2 E3 F0 F1 F2 F3 hX hbc qX
        obtain ⟨G0, G1, G2, G3⟩ := ed_cells kc
        have fz := free_at kc 0
        go_upto_region 11 with fail
        obtain ⟨Y, hY⟩ : ∃ Y, Y = X.setCell ⟨bc, 0, none⟩ (.int .i64 ((f0 : Int) + 1)) := ⟨_, rfl⟩
        have HY : Hid (Below wr.heap.size wr Y) := by show Below _ _ _; rw [hY]; exact HQ.out.1.setCell HQ.out.2 _
        have kc2 : Y.heap[bc]? = some (edB ((f0 : Int) + 1) C0 (.slice ae (plainS rx).length ce) (.slice ai (plainS ry).length ci)) := by rw [hY]; exact set_at (i := 0) kc _
        have ka2 : Y.heap[ba]? = some (edB f0 C0 (.slice ae (plainS rx).length ce) (.slice ai (plainS ry).length ci)) := by rw [hY]; exact set_off ka na _
        have kb2 : Y.heap[bb]? = some (edB f1 C1 (.slice ae' (plainS rx').length ce') (.slice ai' (plainS ry').length ci')) := by rw [hY]; exact set_off kb nb _
        have SA3 := SA2.keep HY.out
        have SB3 := SB2.keep HY.out
        rw [← hY]
        clear hY G0 G1 G2 G3 fz ka kb kc na nb HQ SA2 SB2
        have HWY : Hid (Below w.heap.size w Y) := bel_up QW.out (bel_up HW.out HY.out HW.out.size) QW.out.size
        have s1 := same_any f0 C0 f1 C1 Y SA3 SB3
        have s2 := fun (Z : World) (q : Below Y.heap.size Y Z) => same_any f0 C0 ((f0 : Int) + 1) C0 Z (SA3.keep q) (SA3.keep q)
        have s3 := fun (Z : World) (q : Below Y.heap.size Y Z) => same_any f1 C1 f1 C1 Z (SB3.keep q) (SB3.keep q)
        rw [← HB.out] at s1
        simp only [same_self] at s2 s3
        unfold edV at s1 s2 s3
        obtain ⟨A0, A1, A2, A3⟩ := ed_cells ka2
        obtain ⟨B0, B1, B2, B3⟩ := ed_cells kb2
        clear SA3 SB3 HB n0 n1 hj hjl d5
        go_wp2_with fail
        refine s1.mono ?_
        rintro e Z ⟨rfl, q1⟩
        replace ka2 := pf_block q1 ka2
        replace kb2 := pf_block q1 kb2
        replace kc2 := pf_block q1 kc2
        have r2 := s2 Z q1
        have HZ : Hid (Below Y.heap.size Y Z) := q1
        clear s1 s2 q1 A0 A1 A2 A3 B0 B1 B2 B3
        obtain ⟨A0, A1, A2, A3⟩ := ed_cells ka2
        obtain ⟨D0, D1, D2, D3⟩ := ed_cells kc2
        go_wp2_with fail
        refine r2.mono ?_
        rintro e Z2 ⟨rfl, q2⟩
        have q3 := bel_up HZ.out q2 HZ.out.size
        replace kb2 := pf_block q2 kb2
        have r3 := s3 Z2 q3
        have HZ2 : Hid (Below Y.heap.size Y Z2) := q3
        clear r2 s3 q2 q3 A0 A1 A2 A3 D0 D1 D2 D3 ka2 kc2
        obtain ⟨B0, B1, B2, B3⟩ := ed_cells kb2
        go_wp2_with fail
        refine r3.mono ?_
        rintro e Z3 ⟨rfl, q4⟩
        have HF : Hid (Below w.heap.size w Z3) := bel_up HWY.out (bel_up HZ2.out q4 HZ2.out.size) HWY.out.size
        clear r3 q4 B0 B1 B2 B3 kb2
        go_wp2_with fail
        go_ret
        exact ⟨rfl, HF.out⟩
end Go.Proofs.Ytphhfjfdanlhiaa
