/- What a reader does with all. -/
import Derived.Test.YtejhgifadohbiaaDoorVJ
namespace Go.Proofs.YtejhgifadohbiaaDoor
open Go.RowKit Go.Lib

theorem own_slc {w : World} {B e z n : Nat} {v : Value} {xs : List Value} (h : w.ownsRow B e z v n xs) : ∃ ad m cap, v = .slice ad m cap := by
  obtain ⟨ad, cap, h⟩ := own_form h
  exact ⟨ad, n, cap, h⟩
section
variable {B b g cap : Nat} {ts : List Tk} {w : World} {s : Sta}
/-- How a configuration's reading ends. -/
def EndR (R : Sta × Option CfD) (c : CfD) (s9 : Sta) : Prop := (∃ r r', R = (.inl r', some c) ∧ s9 = .inl r) ∨ ∃ e, R = (.inr e, none) ∧ s9 = .inr e
theorem endR_yes {c : CfD} (h : holdsB 0 s = true) : EndR (stepS (fun r => andR (endR r) fun _ r => .inr (c, r)) s) c s := by
  obtain ⟨t, r, rfl, ht⟩ := holds_some h
  refine .inl ⟨t :: r, r, step_ok ?_, rfl⟩
  unfold endR
  dsimp only
  rw [if_pos ht]
  rfl
theorem endR_no {c : CfD} {w : World} (h : holdsB 0 s = false) (hr : RdS B b g cap ts s w) : EndR (stepS (fun r => andR (endR r) fun _ r => .inr (c, r)) s) c (failS 2 s) := by
  obtain ⟨n, t, ev, _, _, hh⟩ := hr.ex
  rcases hh with ⟨r, rfl, _⟩ | ⟨e, rfl, _⟩
  · refine .inr ⟨(2, t.pl), step_no ?_, rfl⟩
    unfold endR
    dsimp only
    rw [if_neg (holds_not h rfl)]
    rfl
  · exact .inr ⟨e, rfl, rfl⟩
set_option maxHeartbeats 32000000 in
set_option maxRecDepth 20000 in
theorem config_rd (h : RdS B b g cap ts s w) :
    Calls Tryd.prog 11 #[.pointer (some ⟨b, 0, none⟩)] w fun e w' => ∃ (mv rv : Value) (lm : List MpV) (lr : List RoV) (s9 : Sta), e = .returned (.agg #[mv, rv]) ∧ ConfOwn w.heap.size w' mv rv lm lr ∧
      (lm.length ≤ 64 ∧ lr.length ≤ 64) ∧ EndR (stepS cfgR s) ⟨lm.map (·.1), lr.map (·.1)⟩ s9 ∧ RdS B b g cap ts s9 w' ∧ BelX b w w' := by
  obtain ⟨R, hR⟩ : ∃ R, R = stepS cfgR s := ⟨_, rfl⟩
  rw [← hR]
  have HR0 : Hid (R = stepS cfgR s) := hR
  clear hR
  go_enter Tryd.func11, Tryd.ntmps11
  go_upto_region 2 with fail
  obtain ⟨br, hbr⟩ : ∃ b, b = w.heap.size := ⟨_, rfl⟩
  obtain ⟨bc, hbc⟩ : ∃ b, b = w.heap.size + 1 := ⟨_, rfl⟩
  rw [← hbc, ← hbr]
  obtain ⟨W, hW⟩ : ∃ W, W = w.alloc (.cells #[.slice none 0 0, .slice none 0 0] 28) := ⟨_, rfl⟩
  rw [← hW]
  obtain ⟨V, hV⟩ : ∃ W', W' = W.alloc (.cells #[.slice none 0 0, .slice none 0 0] 28) := ⟨_, rfl⟩
  rw [← hV]
  obtain ⟨q1, r1, _⟩ := box_at w _ hW hbr
  obtain ⟨q2, r2, _⟩ := box_at W _ hV (b := bc) (by rw [hW, hbc]; simp)
  have HO : Hid (b < w.heap.size ∧ g < w.heap.size ∧ w.heap.size ≤ br) := ⟨h.old.2, h.old.1, by omega⟩
  have HS : Hid (Sit w B b g cap ts br bc 28 #[.slice none 0 0, .slice none 0 0] #[.slice none 0 0, .slice none 0 0] s V) := by
    have := h.old
    exact ⟨(h.below q1).below q2, (BelX.of b q1).below q2, pf_block q2 r1, r2, by omega, by omega, by omega, by omega, by omega, by omega, by omega⟩
  clear hW hV q1 q2 r1 r2 hbr hbc
  obtain ⟨i0, hi0, hz0, hz1, hz2⟩ := info_parts infoMp
  go_loopg [] 64 (fun gm wr => ∃ (n1 : Nat) (lm : List MpV) (mv : Value) (s' : Sta), n1 + gm = 64 ∧ Hid (n1 = lm.length ∧ Sit w B b g cap ts br bc 28 #[.slice none 0 0, .slice none 0 0] #[mv, .slice none 0 0] s' wr ∧ (wr.ownsRow w.heap.size 69 3 (mv) n1 (lm.flatMap mpL) ∧ (∀ p ∈ lm, Row1 wr w.heap.size p)) ∧ R = stepS (fun r => andR (manyR [109, 97, 112] mapR (64 - n1) r) fun cs r => andR (manyR [114, 111, 117, 116, 101, 114] rouR 64 r) fun rs r => andR (endR r) fun _ r => .inr ((⟨((lm.map (·.1)) ++ cs), rs⟩ : CfD), r)) s'))
  case atStart => exact ⟨0, [], .slice none 0 0, _, by omega, (⟨rfl, HS.out, ⟨World.ownsRow_nil _ _ _ _, fun p hp => by cases hp⟩, HR0.out⟩ : _ ∧ _ ∧ _ ∧ _)⟩
  case round =>
    obtain ⟨n1, lm, mv, s', hn, HW⟩ := hrel
    obtain ⟨ca0, cc0, rfl⟩ := own_form (HW.out.2.2.1).1
    obtain ⟨c1, f1⟩ := HW.out.2.1.cell 0 rfl
    have hk := another_rd HW.out.2.1.r [109, 97, 112] n1 64
    obtain ⟨bo, hbo⟩ : ∃ x, x = (stepS (anoR [109, 97, 112] n1 64) s').2.getD false := ⟨_, rfl⟩
    obtain ⟨s4, hs4⟩ : ∃ z, z = (stepS (anoR [109, 97, 112] n1 64) s').1 := ⟨_, rfl⟩
    rw [← hbo, ← hs4] at hk
    have HE : Hid (bo = false → R = stepS (fun r => andR (manyR [114, 111, 117, 116, 101, 114] rouR 64 r) fun rs r => andR (endR r) fun _ r => .inr ((⟨(lm.map (·.1)), rs⟩ : CfD), r)) s4) := by
      intro hb
      rw [HW.out.2.2.2, hs4]
      have h9 := many_stop (n := n1) (m := 64 - n1) (s := s') (k := 64) (f := mapR) (G := fun cs r => andR (manyR [114, 111, 117, 116, 101, 114] rouR 64 r) fun rs r => andR (endR r) fun _ r => .inr ((⟨((lm.map (·.1)) ++ cs), rs⟩ : CfD), r)) (by omega) (by rw [← hbo]; exact hb)
      simpa only [List.append_nil] using h9
    have HG : Hid (∀ a : MpD, bo = true → Agr a (stepS (mapR) s4).2 → n1 < 64 ∧ R = stepS (fun r => andR (manyR [109, 97, 112] mapR (64 - (n1 + 1)) r) fun cs r => andR (manyR [114, 111, 117, 116, 101, 114] rouR 64 r) fun rs r => andR (endR r) fun _ r => .inr ((⟨(((lm.map (·.1)) ++ [a]) ++ cs), rs⟩ : CfD), r)) (stepS (mapR) s4).1) := by
      intro a hb ha
      rw [hs4] at ha ⊢
      have h9 := many_go (n := n1) (m := 64 - n1) (s := s') (k := 64) (f := mapR) (G := fun cs r => andR (manyR [114, 111, 117, 116, 101, 114] rouR 64 r) fun rs r => andR (endR r) fun _ r => .inr ((⟨((lm.map (·.1)) ++ cs), rs⟩ : CfD), r)) (a := a) (by omega) hbo hb ha
      refine ⟨by omega, ?_⟩
      rw [HW.out.2.2.2, show 64 - (n1 + 1) = 64 - n1 - 1 by omega]
      simp only [List.append_assoc, List.cons_append, List.nil_append]
      exact h9.2
    clear hbo hs4
    cases bo with
    | false =>
      replace HE : Hid (R = stepS (fun r => andR (manyR [114, 111, 117, 116, 101, 114] rouR 64 r) fun rs r => andR (endR r) fun _ r => .inr ((⟨(lm.map (·.1)), rs⟩ : CfD), r)) s4) := HE.out rfl
      go_wp2_with fail
      refine hk.mono ?_
      rintro e Y0 ⟨rfl, hY, qY⟩
      have HL : Hid (n1 = lm.length ∧ n1 ≤ 64) := ⟨HW.out.1, by omega⟩
      have HL0 : Hid (n1 = lm.length ∧ n1 ≤ 64) := HL
      have HS : Hid _ := HW.out.2.1.call hY qY
      have HRW : Hid (Y0.ownsRow w.heap.size 69 3 (.slice ca0 n1 cc0) n1 (lm.flatMap mpL) ∧ (∀ p ∈ lm, Row1 Y0 w.heap.size p)) := ⟨rowX (HW.out.2.2.1).1 HO.out.1 qY, fun p hp => rowX ((HW.out.2.2.1).2 p hp) HO.out.1 qY⟩
      clear hk hY qY c1 f1 HW HG HL hn
      go_upto_region 4 with fail
      obtain ⟨i0, hi0, hz0, hz1, hz2⟩ := info_parts infoRo
      go_loopg [] 64 (fun gm wr => ∃ (n2 : Nat) (lr : List RoV) (rv : Value) (s' : Sta), n2 + gm = 64 ∧ Hid (n2 = lr.length ∧ Sit w B b g cap ts br bc 28 #[.slice none 0 0, .slice none 0 0] #[.slice ca0 n1 cc0, rv] s' wr ∧ (wr.ownsRow w.heap.size 69 3 (.slice ca0 n1 cc0) n1 (lm.flatMap mpL) ∧ (∀ p ∈ lm, Row1 wr w.heap.size p) ∧ wr.ownsRow w.heap.size 42 5 (rv) n2 (lr.flatMap roL) ∧ (∀ p ∈ lr, Rows3 wr w.heap.size p)) ∧ R = stepS (fun r => andR (manyR [114, 111, 117, 116, 101, 114] rouR (64 - n2) r) fun cs r => andR (endR r) fun _ r => .inr ((⟨(lm.map (·.1)), ((lr.map (·.1)) ++ cs)⟩ : CfD), r)) s'))
      case atStart => exact ⟨0, [], .slice none 0 0, _, by omega, (⟨rfl, HS.out, ⟨HRW.out.1, HRW.out.2, World.ownsRow_nil _ _ _ _, fun p hp => by cases hp⟩, HE.out⟩ : _ ∧ _ ∧ _ ∧ _)⟩
      case round =>
        obtain ⟨n2, lr, rv, s', hn, HW⟩ := hrel
        obtain ⟨ca1, cc1, rfl⟩ := own_form (HW.out.2.2.1).2.2.1
        obtain ⟨c1, f1⟩ := HW.out.2.1.cell 1 rfl
        have hk := another_rd HW.out.2.1.r [114, 111, 117, 116, 101, 114] n2 64
        obtain ⟨bo, hbo⟩ : ∃ x, x = (stepS (anoR [114, 111, 117, 116, 101, 114] n2 64) s').2.getD false := ⟨_, rfl⟩
        obtain ⟨s4, hs4⟩ : ∃ z, z = (stepS (anoR [114, 111, 117, 116, 101, 114] n2 64) s').1 := ⟨_, rfl⟩
        rw [← hbo, ← hs4] at hk
        have HE : Hid (bo = false → R = stepS (fun r => andR (endR r) fun _ r => .inr ((⟨(lm.map (·.1)), (lr.map (·.1))⟩ : CfD), r)) s4) := by
          intro hb
          rw [HW.out.2.2.2, hs4]
          have h9 := many_stop (n := n2) (m := 64 - n2) (s := s') (k := 64) (f := rouR) (G := fun cs r => andR (endR r) fun _ r => .inr ((⟨(lm.map (·.1)), ((lr.map (·.1)) ++ cs)⟩ : CfD), r)) (by omega) (by rw [← hbo]; exact hb)
          simpa only [List.append_nil] using h9
        have HG : Hid (∀ a : RoD, bo = true → Agr a (stepS (rouR) s4).2 → n2 < 64 ∧ R = stepS (fun r => andR (manyR [114, 111, 117, 116, 101, 114] rouR (64 - (n2 + 1)) r) fun cs r => andR (endR r) fun _ r => .inr ((⟨(lm.map (·.1)), (((lr.map (·.1)) ++ [a]) ++ cs)⟩ : CfD), r)) (stepS (rouR) s4).1) := by
          intro a hb ha
          rw [hs4] at ha ⊢
          have h9 := many_go (n := n2) (m := 64 - n2) (s := s') (k := 64) (f := rouR) (G := fun cs r => andR (endR r) fun _ r => .inr ((⟨(lm.map (·.1)), ((lr.map (·.1)) ++ cs)⟩ : CfD), r)) (a := a) (by omega) hbo hb ha
          refine ⟨by omega, ?_⟩
          rw [HW.out.2.2.2, show 64 - (n2 + 1) = 64 - n2 - 1 by omega]
          simp only [List.append_assoc, List.cons_append, List.nil_append]
          exact h9.2
        clear hbo hs4
        cases bo with
        | false =>
          replace HE : Hid (R = stepS (fun r => andR (endR r) fun _ r => .inr ((⟨(lm.map (·.1)), (lr.map (·.1))⟩ : CfD), r)) s4) := HE.out rfl
          go_wp2_with fail
          refine hk.mono ?_
          rintro e Y1 ⟨rfl, hY, qY⟩
          have HL : Hid (n2 = lr.length ∧ n2 ≤ 64) := ⟨HW.out.1, by omega⟩
          have HL1 : Hid (n2 = lr.length ∧ n2 ≤ 64) := HL
          have HS : Hid _ := HW.out.2.1.call hY qY
          have HRW : Hid (Y1.ownsRow w.heap.size 69 3 (.slice ca0 n1 cc0) n1 (lm.flatMap mpL) ∧ (∀ p ∈ lm, Row1 Y1 w.heap.size p) ∧ Y1.ownsRow w.heap.size 42 5 (.slice ca1 n2 cc1) n2 (lr.flatMap roL) ∧ (∀ p ∈ lr, Rows3 Y1 w.heap.size p)) := ⟨rowX (HW.out.2.2.1).1 HO.out.1 qY, fun p hp => rowX ((HW.out.2.2.1).2.1 p hp) HO.out.1 qY, rowX (HW.out.2.2.1).2.2.1 HO.out.1 qY, fun p hp => ⟨rowX ((HW.out.2.2.1).2.2.2 p hp).1 HO.out.1 qY, rowX ((HW.out.2.2.1).2.2.2 p hp).2.1 HO.out.1 qY, rowX ((HW.out.2.2.1).2.2.2 p hp).2.2 HO.out.1 qY⟩⟩
          clear hk hY qY c1 f1 HW HG HL hn
          have hk := holds_any HS.out.r 0
          cases hb : holdsB 0 s4 with
          | true =>
            have HE2 : Hid (EndR R (⟨(lm.map (·.1)), (lr.map (·.1))⟩ : CfD) s4) := by rw [HE.out]; exact endR_yes hb
            rw [hb] at hk
            clear hb HE
            go_wp2_with fail
            refine hk.mono ?_
            rintro e U ⟨rfl, qU⟩
            replace HRW : Hid (U.ownsRow w.heap.size 69 3 (.slice ca0 n1 cc0) n1 (lm.flatMap mpL) ∧ (∀ p ∈ lm, Row1 U w.heap.size p) ∧ U.ownsRow w.heap.size 42 5 (.slice ca1 n2 cc1) n2 (lr.flatMap roL) ∧ (∀ p ∈ lr, Rows3 U w.heap.size p)) := ⟨rowX HRW.out.1 HO.out.1 (BelX.of b qU), fun p hp => rowX (HRW.out.2.1 p hp) HO.out.1 (BelX.of b qU), rowX HRW.out.2.2.1 HO.out.1 (BelX.of b qU), fun p hp => ⟨rowX (HRW.out.2.2.2 p hp).1 HO.out.1 (BelX.of b qU), rowX (HRW.out.2.2.2 p hp).2.1 HO.out.1 (BelX.of b qU), rowX (HRW.out.2.2.2 p hp).2.2 HO.out.1 (BelX.of b qU)⟩⟩
            replace HS : Hid _ := HS.out.below qU
            clear hk qU
            obtain ⟨C0, C1⟩ := cells_two HS.out.c
            obtain ⟨D0, D1⟩ := cells_two HS.out.z
            have F0 := free_at HS.out.z 0
            have F1 := free_at HS.out.z 1
            go_wp2_with fail
            obtain ⟨xs, hxs⟩ : ∃ xs : List Value, xs = [.slice ca0 n1 cc0, .slice ca1 n2 cc1] := ⟨_, rfl⟩
            obtain ⟨X, hX⟩ : ∃ X, X = putL U br 0 xs := ⟨_, rfl⟩
            have hf := HS.out.fin xs (by rw [hxs]; rfl)
            have hx0 : X.ownsRow w.heap.size 69 3 (.slice ca0 n1 cc0) n1 (lm.flatMap mpL) := by rw [hX]; exact row_put HRW.out.1 HS.out.z (by decide)
            have hx1 : (∀ p ∈ lm, Row1 X w.heap.size p) := by rw [hX]; exact fun p hp => row_put (HRW.out.2.1 p hp) HS.out.z (by decide)
            have hx2 : X.ownsRow w.heap.size 42 5 (.slice ca1 n2 cc1) n2 (lr.flatMap roL) := by rw [hX]; exact row_put HRW.out.2.2.1 HS.out.z (by decide)
            have hx3 : (∀ p ∈ lr, Rows3 X w.heap.size p) := by rw [hX]; exact fun p hp => ⟨row_put (HRW.out.2.2.2 p hp).1 HS.out.z (by decide), row_put (HRW.out.2.2.2 p hp).2.1 HS.out.z (by decide), row_put (HRW.out.2.2.2 p hp).2.2 HS.out.z (by decide)⟩
            rw [← hX] at hf
            rw [hxs] at hX hf
            show bodyPost _ _ _ _ _ (putL U br 0 [.slice ca0 n1 cc0, .slice ca1 n2 cc1])
            rw [← hX]
            clear hX hxs C0 C1 D0 D1 F0 F1
            obtain ⟨W0, W1⟩ := cells_two hf.1
            refine bodyPost_ret (v := .agg #[.slice ca0 n1 cc0, .slice ca1 n2 cc1]) (by simp [results, Tryd.results11, go_sem, W0, W1]) rfl ?_
            refine ⟨_, _, lm, lr, s4, rfl, ⟨?_, hx1, ?_, hx3⟩, ⟨by have := HL0.out; omega, by have := HL1.out; omega⟩, HE2.out, hf.2.1, hf.2.2⟩
            · rw [HL0.out.1] at hx0 ⊢; exact hx0
            · rw [HL1.out.1] at hx2 ⊢; exact hx2
          | false =>
            have HE2 : Hid (EndR R (⟨(lm.map (·.1)), (lr.map (·.1))⟩ : CfD) (failS 2 s4)) := by rw [HE.out]; exact endR_no hb HS.out.r
            rw [hb] at hk
            clear hb HE
            go_wp2_with fail
            refine hk.mono ?_
            rintro e U ⟨rfl, qU⟩
            replace HRW : Hid (U.ownsRow w.heap.size 69 3 (.slice ca0 n1 cc0) n1 (lm.flatMap mpL) ∧ (∀ p ∈ lm, Row1 U w.heap.size p) ∧ U.ownsRow w.heap.size 42 5 (.slice ca1 n2 cc1) n2 (lr.flatMap roL) ∧ (∀ p ∈ lr, Rows3 U w.heap.size p)) := ⟨rowX HRW.out.1 HO.out.1 (BelX.of b qU), fun p hp => rowX (HRW.out.2.1 p hp) HO.out.1 (BelX.of b qU), rowX HRW.out.2.2.1 HO.out.1 (BelX.of b qU), fun p hp => ⟨rowX (HRW.out.2.2.2 p hp).1 HO.out.1 (BelX.of b qU), rowX (HRW.out.2.2.2 p hp).2.1 HO.out.1 (BelX.of b qU), rowX (HRW.out.2.2.2 p hp).2.2 HO.out.1 (BelX.of b qU)⟩⟩
            replace HS : Hid _ := HS.out.below qU
            clear hk qU
            have hk := fail_any HS.out.r 2
            go_wp2_with fail
            refine hk.mono ?_
            rintro e U2 ⟨rfl, hU, qU⟩
            replace HRW : Hid (U2.ownsRow w.heap.size 69 3 (.slice ca0 n1 cc0) n1 (lm.flatMap mpL) ∧ (∀ p ∈ lm, Row1 U2 w.heap.size p) ∧ U2.ownsRow w.heap.size 42 5 (.slice ca1 n2 cc1) n2 (lr.flatMap roL) ∧ (∀ p ∈ lr, Rows3 U2 w.heap.size p)) := ⟨rowX HRW.out.1 HO.out.1 qU, fun p hp => rowX (HRW.out.2.1 p hp) HO.out.1 qU, rowX HRW.out.2.2.1 HO.out.1 qU, fun p hp => ⟨rowX (HRW.out.2.2.2 p hp).1 HO.out.1 qU, rowX (HRW.out.2.2.2 p hp).2.1 HO.out.1 qU, rowX (HRW.out.2.2.2 p hp).2.2 HO.out.1 qU⟩⟩
            replace HS : Hid _ := HS.out.call hU qU
            clear hk qU hU
            obtain ⟨C0, C1⟩ := cells_two HS.out.c
            obtain ⟨D0, D1⟩ := cells_two HS.out.z
            have F0 := free_at HS.out.z 0
            have F1 := free_at HS.out.z 1
            go_wp2_with fail
            obtain ⟨xs, hxs⟩ : ∃ xs : List Value, xs = [.slice ca0 n1 cc0, .slice ca1 n2 cc1] := ⟨_, rfl⟩
            obtain ⟨X, hX⟩ : ∃ X, X = putL U2 br 0 xs := ⟨_, rfl⟩
            have hf := HS.out.fin xs (by rw [hxs]; rfl)
            have hx0 : X.ownsRow w.heap.size 69 3 (.slice ca0 n1 cc0) n1 (lm.flatMap mpL) := by rw [hX]; exact row_put HRW.out.1 HS.out.z (by decide)
            have hx1 : (∀ p ∈ lm, Row1 X w.heap.size p) := by rw [hX]; exact fun p hp => row_put (HRW.out.2.1 p hp) HS.out.z (by decide)
            have hx2 : X.ownsRow w.heap.size 42 5 (.slice ca1 n2 cc1) n2 (lr.flatMap roL) := by rw [hX]; exact row_put HRW.out.2.2.1 HS.out.z (by decide)
            have hx3 : (∀ p ∈ lr, Rows3 X w.heap.size p) := by rw [hX]; exact fun p hp => ⟨row_put (HRW.out.2.2.2 p hp).1 HS.out.z (by decide), row_put (HRW.out.2.2.2 p hp).2.1 HS.out.z (by decide), row_put (HRW.out.2.2.2 p hp).2.2 HS.out.z (by decide)⟩
            rw [← hX] at hf
            rw [hxs] at hX hf
            show bodyPost _ _ _ _ _ (putL U2 br 0 [.slice ca0 n1 cc0, .slice ca1 n2 cc1])
            rw [← hX]
            clear hX hxs C0 C1 D0 D1 F0 F1
            obtain ⟨W0, W1⟩ := cells_two hf.1
            refine bodyPost_ret (v := .agg #[.slice ca0 n1 cc0, .slice ca1 n2 cc1]) (by simp [results, Tryd.results11, go_sem, W0, W1]) rfl ?_
            refine ⟨_, _, lm, lr, (failS 2 s4), rfl, ⟨?_, hx1, ?_, hx3⟩, ⟨by have := HL0.out; omega, by have := HL1.out; omega⟩, HE2.out, hf.2.1, hf.2.2⟩
            · rw [HL0.out.1] at hx0 ⊢; exact hx0
            · rw [HL1.out.1] at hx2 ⊢; exact hx2
        | true =>
          go_wp2_with fail
          refine hk.mono ?_
          rintro e Y ⟨rfl, hY, qY⟩
          have HS : Hid _ := HW.out.2.1.call hY qY
          have HRW : Hid (Y.ownsRow w.heap.size 69 3 (.slice ca0 n1 cc0) n1 (lm.flatMap mpL) ∧ (∀ p ∈ lm, Row1 Y w.heap.size p) ∧ Y.ownsRow w.heap.size 42 5 (.slice ca1 n2 cc1) n2 (lr.flatMap roL) ∧ (∀ p ∈ lr, Rows3 Y w.heap.size p)) := ⟨rowX (HW.out.2.2.1).1 HO.out.1 qY, fun p hp => rowX ((HW.out.2.2.1).2.1 p hp) HO.out.1 qY, rowX (HW.out.2.2.1).2.2.1 HO.out.1 qY, fun p hp => ⟨rowX ((HW.out.2.2.1).2.2.2 p hp).1 HO.out.1 qY, rowX ((HW.out.2.2.1).2.2.2 p hp).2.1 HO.out.1 qY, rowX ((HW.out.2.2.1).2.2.2 p hp).2.2 HO.out.1 qY⟩⟩
          have HL : Hid (n2 = lr.length) := HW.out.1
          have c2 := (HS.out.cell 1 rfl).1
          have E0 : ∀ p : XOf b Y, p.w.cell? ⟨bc, 1, none⟩ = some (.slice ca1 n2 cc1) := x_cell c2 (Array.getElem?_eq_some_iff.1 HS.out.c).1 HS.out.n.2.1
          have hne := x_ne b Y
          clear hk qY c1 f1 HW HE c2
          go_wp2_with fail
          refine wp_region_from (C := fun w' => ∃ p : XOf b Y, w' = p.w) [0, 1, 2] [3, 4] [5, 6, 7] (by kernel_rfl) (by kernel_rfl) rfl ⟨⟨Y.drew, (BelX.refl _ _).drew⟩, rfl⟩ (fun _ _ d _ _ h => by cases d <;> exact h) ?_
          simp only [pickL, List.getElem?_cons_zero, List.getElem?_cons_succ]
          repeat (go_big_quiet_step (fail))
          refine wpQuiet_nil ?_
          clear E0 hne
          refine chain_go rfl fun Q2 hQ2 => ?_
          have hk := router_rd (w := Y.drew) (hY.below (Below.refl _ _).drew)
          clear hY
          go_wp2_with fail
          refine hk.mono ?_
          rintro e Z ⟨c, rfl, ha, ⟨hrow, _⟩, hZ, qZ⟩
          obtain ⟨⟨nm, nets, lks, sts, pl⟩, nv, lv, sv⟩ := c
          obtain ⟨da, dn, dc, rfl⟩ := own_slc hrow.1
          obtain ⟨ea, en, ec, rfl⟩ := own_slc hrow.2.1
          obtain ⟨fa, fn, fc, rfl⟩ := own_slc hrow.2.2
          dsimp only at ha ⊢
          have QZ : BelX b Y Z := ((BelX.refl b Y).drew).trans qZ
          have QA : BelX b Y (Z.alloc (.cells #[.string ⟨nm.toArray⟩, .slice da dn dc, .slice ea en ec, .slice fa fn fc, .int .i64 pl] 42)) := QZ.alloc _
          have HSA : Hid _ := HS.out.call (hZ.below (bel_alloc (Below.refl _ _) (.cells #[.string ⟨nm.toArray⟩, .slice da dn dc, .slice ea en ec, .slice fa fn fc, .int .i64 pl] 42))) QA
          have HRA : Hid ((Z.alloc (.cells #[.string ⟨nm.toArray⟩, .slice da dn dc, .slice ea en ec, .slice fa fn fc, .int .i64 pl] 42)).ownsRow w.heap.size 69 3 (.slice ca0 n1 cc0) n1 (lm.flatMap mpL) ∧ (∀ p ∈ lm, Row1 (Z.alloc (.cells #[.string ⟨nm.toArray⟩, .slice da dn dc, .slice ea en ec, .slice fa fn fc, .int .i64 pl] 42)) w.heap.size p) ∧ (Z.alloc (.cells #[.string ⟨nm.toArray⟩, .slice da dn dc, .slice ea en ec, .slice fa fn fc, .int .i64 pl] 42)).ownsRow w.heap.size 42 5 (.slice ca1 n2 cc1) n2 (lr.flatMap roL) ∧ (∀ p ∈ lr, Rows3 (Z.alloc (.cells #[.string ⟨nm.toArray⟩, .slice da dn dc, .slice ea en ec, .slice fa fn fc, .int .i64 pl] 42)) w.heap.size p)) := ⟨rowX HRW.out.1 HO.out.1 QA, fun p hp => rowX (HRW.out.2.1 p hp) HO.out.1 QA, rowX HRW.out.2.2.1 HO.out.1 QA, fun p hp => ⟨rowX (HRW.out.2.2.2 p hp).1 HO.out.1 QA, rowX (HRW.out.2.2.2 p hp).2.1 HO.out.1 QA, rowX (HRW.out.2.2.2 p hp).2.2 HO.out.1 QA⟩⟩
          have HNR : Hid (Rows3 (Z.alloc (.cells #[.string ⟨nm.toArray⟩, .slice da dn dc, .slice ea en ec, .slice fa fn fc, .int .i64 pl] 42)) w.heap.size (((⟨nm, nets, lks, sts, pl⟩ : RoD), Value.slice da dn dc, Value.slice ea en ec, Value.slice fa fn fc) : RoV)) := ⟨own_le (own_bel hrow.1 (bel_alloc (Below.refl _ _) _)) HS.out.x.size, own_le (own_bel hrow.2.1 (bel_alloc (Below.refl _ _) _)) HS.out.x.size, own_le (own_bel hrow.2.2 (bel_alloc (Below.refl _ _) _)) HS.out.x.size⟩
          clear hrow
          replace HG : Hid _ := HG.out _ (by simp) ha
          clear hk ha hZ qZ HRW
          go_wp2_with fail
          refine hQ2 _ _ ⟨⟨Z, QZ⟩, rfl⟩ ?_
          clear hQ2 Q2
          refine chain_go rfl fun Q2 hQ2 => ?_
          go_wp2_with fail
          refine hQ2 _ _ ⟨⟨_, QA⟩, rfl⟩ (chain_end ?_)
          clear hQ2 Q2
          have hO := HRA.out.2.2.1
          have hsz : w.heap.size ≤ Z.heap.size := Nat.le_trans HS.out.x.size QZ.size
          have hnm : n2 < 64 := HG.out.1
          clear QA QZ HS
          go_wp2_with (at_builtin; refine wpList_append_lies _ rfl _ _ _ rfl w.heap.size 42 i0 _ 5 96 Tryd.underlying26 hi0 hz0 hz1 hz2 rfl (by omega) (.slice ca1 n2 cc1) n2 _ rfl hO ⟨Z.heap.size, 0, none⟩ 1 1 [.string ⟨nm.toArray⟩, .slice da dn dc, .slice ea en ec, .slice fa fn fc, .int .i64 pl] rfl rfl (World.news_of_block (cs := #[.string ⟨nm.toArray⟩, .slice da dn dc, .slice ea en ec, .slice fa fn fc, .int .i64 pl]) (t := 42) (fr := (0, 0)) (pf_new _ _ _ rfl)) (by simp [Value.oneCell']) (by omega) (by unfold maxLen; omega) (by omega) (by simp; omega) _ rfl ?_; intro g1 cap1 W1 hown1 hgrow hat hlt1; have HSB : Hid _ := HSA.out.grow hO hgrow (by decide) (by decide) (by decide); have hcb := HSB.out.c; obtain ⟨g0, f0⟩ := HSB.out.cell 1 rfl)
          have HX : Hid (Sit w B b g cap ts br bc 28 #[.slice none 0 0, .slice none 0 0] #[.slice ca0 n1 cc0, (.slice (some ⟨g1, 0, none⟩) (n2 + 1) cap1)] (stepS rouR s4).1 (W1.setCell ⟨bc, 1, none⟩ (.slice (some ⟨g1, 0, none⟩) (n2 + 1) cap1))) := HSB.out.put 1 _
          have HX0 : Hid ((W1.setCell ⟨bc, 1, none⟩ (.slice (some ⟨g1, 0, none⟩) (n2 + 1) cap1)).ownsRow w.heap.size 69 3 (.slice ca0 n1 cc0) n1 (lm.flatMap mpL)) := row_keep hO hgrow hcb (by decide) (by decide) (HRA.out.1)
          have HX1 : Hid ((∀ p ∈ lm, Row1 (W1.setCell ⟨bc, 1, none⟩ (.slice (some ⟨g1, 0, none⟩) (n2 + 1) cap1)) w.heap.size p)) := fun p hp => row_keep hO hgrow hcb (by decide) (by decide) (HRA.out.2.1 p hp)
          have HX2 : Hid ((W1.setCell ⟨bc, 1, none⟩ (.slice (some ⟨g1, 0, none⟩) (n2 + 1) cap1)).ownsRow w.heap.size 42 5 ((.slice (some ⟨g1, 0, none⟩) (n2 + 1) cap1)) (n2 + 1) ((lr ++ [(((⟨nm, nets, lks, sts, pl⟩ : RoD), Value.slice da dn dc, Value.slice ea en ec, Value.slice fa fn fc) : RoV)]).flatMap roL)) := by rw [List.flatMap_append, List.flatMap_singleton]; exact row_set hown1 hcb (by decide)
          have HX3 : Hid ((∀ p ∈ (lr ++ [(((⟨nm, nets, lks, sts, pl⟩ : RoD), Value.slice da dn dc, Value.slice ea en ec, Value.slice fa fn fc) : RoV)]), Rows3 (W1.setCell ⟨bc, 1, none⟩ (.slice (some ⟨g1, 0, none⟩) (n2 + 1) cap1)) w.heap.size p)) := by
            intro p hp
            rcases List.mem_append.1 hp with hp | hp
            · exact ⟨row_keep hO hgrow hcb (by decide) (by decide) (HRA.out.2.2.2 p hp).1, row_keep hO hgrow hcb (by decide) (by decide) (HRA.out.2.2.2 p hp).2.1, row_keep hO hgrow hcb (by decide) (by decide) (HRA.out.2.2.2 p hp).2.2⟩
            · rw [List.mem_singleton] at hp
              subst hp
              exact ⟨row_keep hO hgrow hcb (by decide) (by decide) HNR.out.1, row_keep hO hgrow hcb (by decide) (by decide) HNR.out.2.1, row_keep hO hgrow hcb (by decide) (by decide) HNR.out.2.2⟩
          have HLL : Hid (n2 + 1 = ((lr ++ [(((⟨nm, nets, lks, sts, pl⟩ : RoD), Value.slice da dn dc, Value.slice ea en ec, Value.slice fa fn fc) : RoV)])).length) := by show _ = _; rw [List.length_append, ← HL.out]; rfl
          clear hown1 hgrow hat hlt1 g0 f0 hcb hO hsz
          go_roundg (64 - (n2 + 1))
          case measure => omega
          case rel => exact ⟨n2 + 1, (lr ++ [(((⟨nm, nets, lks, sts, pl⟩ : RoD), Value.slice da dn dc, Value.slice ea en ec, Value.slice fa fn fc) : RoV)]), _, _, by omega, (⟨HLL.out, HX.out, ⟨HX0.out, HX1.out, HX2.out, HX3.out⟩, (by have h9 := HG.out.2; rw [List.map_append]; exact h9)⟩ : _ ∧ _ ∧ _ ∧ _)⟩
    | true =>
      go_wp2_with fail
      refine hk.mono ?_
      rintro e Y ⟨rfl, hY, qY⟩
      have HS : Hid _ := HW.out.2.1.call hY qY
      have HRW : Hid (Y.ownsRow w.heap.size 69 3 (.slice ca0 n1 cc0) n1 (lm.flatMap mpL) ∧ (∀ p ∈ lm, Row1 Y w.heap.size p)) := ⟨rowX (HW.out.2.2.1).1 HO.out.1 qY, fun p hp => rowX ((HW.out.2.2.1).2 p hp) HO.out.1 qY⟩
      have HL : Hid (n1 = lm.length) := HW.out.1
      have c2 := (HS.out.cell 0 rfl).1
      have E0 : ∀ p : XOf b Y, p.w.cell? ⟨bc, 0, none⟩ = some (.slice ca0 n1 cc0) := x_cell c2 (Array.getElem?_eq_some_iff.1 HS.out.c).1 HS.out.n.2.1
      have hne := x_ne b Y
      clear hk qY c1 f1 HW HE c2
      go_wp2_with fail
      refine wp_region_from (C := fun w' => ∃ p : XOf b Y, w' = p.w) [0, 1, 2] [3, 4] [5, 6, 7] (by kernel_rfl) (by kernel_rfl) rfl ⟨⟨Y.drew, (BelX.refl _ _).drew⟩, rfl⟩ (fun _ _ d _ _ h => by cases d <;> exact h) ?_
      simp only [pickL, List.getElem?_cons_zero, List.getElem?_cons_succ]
      repeat (go_big_quiet_step (fail))
      refine wpQuiet_nil ?_
      clear E0 hne
      refine chain_go rfl fun Q2 hQ2 => ?_
      have hk := map_rd (w := Y.drew) (hY.below (Below.refl _ _).drew)
      clear hY
      go_wp2_with fail
      refine hk.mono ?_
      rintro e Z ⟨c, rfl, ha, ⟨hrow, _⟩, hZ, qZ⟩
      obtain ⟨⟨nm, cls, pl⟩, cv⟩ := c
      obtain ⟨da, dn, dc, rfl⟩ := own_slc hrow
      dsimp only at ha ⊢
      have QZ : BelX b Y Z := ((BelX.refl b Y).drew).trans qZ
      have QA : BelX b Y (Z.alloc (.cells #[.string ⟨nm.toArray⟩, .slice da dn dc, .int .i64 pl] 69)) := QZ.alloc _
      have HSA : Hid _ := HS.out.call (hZ.below (bel_alloc (Below.refl _ _) (.cells #[.string ⟨nm.toArray⟩, .slice da dn dc, .int .i64 pl] 69))) QA
      have HRA : Hid ((Z.alloc (.cells #[.string ⟨nm.toArray⟩, .slice da dn dc, .int .i64 pl] 69)).ownsRow w.heap.size 69 3 (.slice ca0 n1 cc0) n1 (lm.flatMap mpL) ∧ (∀ p ∈ lm, Row1 (Z.alloc (.cells #[.string ⟨nm.toArray⟩, .slice da dn dc, .int .i64 pl] 69)) w.heap.size p)) := ⟨rowX HRW.out.1 HO.out.1 QA, fun p hp => rowX (HRW.out.2 p hp) HO.out.1 QA⟩
      have HNR : Hid (Row1 (Z.alloc (.cells #[.string ⟨nm.toArray⟩, .slice da dn dc, .int .i64 pl] 69)) w.heap.size (((⟨nm, cls, pl⟩ : MpD), Value.slice da dn dc) : MpV)) := own_le (own_bel hrow (bel_alloc (Below.refl _ _) _)) HS.out.x.size
      clear hrow
      replace HG : Hid _ := HG.out _ (by simp) ha
      clear hk ha hZ qZ HRW
      go_wp2_with fail
      refine hQ2 _ _ ⟨⟨Z, QZ⟩, rfl⟩ ?_
      clear hQ2 Q2
      refine chain_go rfl fun Q2 hQ2 => ?_
      go_wp2_with fail
      refine hQ2 _ _ ⟨⟨_, QA⟩, rfl⟩ (chain_end ?_)
      clear hQ2 Q2
      have hO := HRA.out.1
      have hsz : w.heap.size ≤ Z.heap.size := Nat.le_trans HS.out.x.size QZ.size
      have hnm : n1 < 64 := HG.out.1
      clear QA QZ HS
      go_wp2_with (at_builtin; refine wpList_append_lies _ rfl _ _ _ rfl w.heap.size 69 i0 _ 3 48 Tryd.underlying25 hi0 hz0 hz1 hz2 rfl (by omega) (.slice ca0 n1 cc0) n1 _ rfl hO ⟨Z.heap.size, 0, none⟩ 1 1 [.string ⟨nm.toArray⟩, .slice da dn dc, .int .i64 pl] rfl rfl (World.news_of_block (cs := #[.string ⟨nm.toArray⟩, .slice da dn dc, .int .i64 pl]) (t := 69) (fr := (0, 0)) (pf_new _ _ _ rfl)) (by simp [Value.oneCell']) (by omega) (by unfold maxLen; omega) (by omega) (by simp; omega) _ rfl ?_; intro g1 cap1 W1 hown1 hgrow hat hlt1; have HSB : Hid _ := HSA.out.grow hO hgrow (by decide) (by decide) (by decide); have hcb := HSB.out.c; obtain ⟨g0, f0⟩ := HSB.out.cell 0 rfl)
      have HX : Hid (Sit w B b g cap ts br bc 28 #[.slice none 0 0, .slice none 0 0] #[(.slice (some ⟨g1, 0, none⟩) (n1 + 1) cap1), .slice none 0 0] (stepS mapR s4).1 (W1.setCell ⟨bc, 0, none⟩ (.slice (some ⟨g1, 0, none⟩) (n1 + 1) cap1))) := HSB.out.put 0 _
      have HX0 : Hid ((W1.setCell ⟨bc, 0, none⟩ (.slice (some ⟨g1, 0, none⟩) (n1 + 1) cap1)).ownsRow w.heap.size 69 3 ((.slice (some ⟨g1, 0, none⟩) (n1 + 1) cap1)) (n1 + 1) ((lm ++ [(((⟨nm, cls, pl⟩ : MpD), Value.slice da dn dc) : MpV)]).flatMap mpL)) := by rw [List.flatMap_append, List.flatMap_singleton]; exact row_set hown1 hcb (by decide)
      have HX1 : Hid ((∀ p ∈ (lm ++ [(((⟨nm, cls, pl⟩ : MpD), Value.slice da dn dc) : MpV)]), Row1 (W1.setCell ⟨bc, 0, none⟩ (.slice (some ⟨g1, 0, none⟩) (n1 + 1) cap1)) w.heap.size p)) := by
        intro p hp
        rcases List.mem_append.1 hp with hp | hp
        · exact row_keep hO hgrow hcb (by decide) (by decide) (HRA.out.2 p hp)
        · rw [List.mem_singleton] at hp
          subst hp
          exact row_keep hO hgrow hcb (by decide) (by decide) HNR.out
      have HLL : Hid (n1 + 1 = ((lm ++ [(((⟨nm, cls, pl⟩ : MpD), Value.slice da dn dc) : MpV)])).length) := by show _ = _; rw [List.length_append, ← HL.out]; rfl
      clear hown1 hgrow hat hlt1 g0 f0 hcb hO hsz
      go_roundg (64 - (n1 + 1))
      case measure => omega
      case rel => exact ⟨n1 + 1, (lm ++ [(((⟨nm, cls, pl⟩ : MpD), Value.slice da dn dc) : MpV)]), _, _, by omega, (⟨HLL.out, HX.out, ⟨HX0.out, HX1.out⟩, (by have h9 := HG.out.2; rw [List.map_append]; exact h9)⟩ : _ ∧ _ ∧ _ ∧ _)⟩
end
end Go.Proofs.YtejhgifadohbiaaDoor
