/- What a reader does with routers. -/
import Derived.Test.YtejhgifadohbiaaDoorVI
namespace Go.Proofs.YtejhgifadohbiaaDoor
open Go.RowKit Go.Lib

section
variable {B b g cap : Nat} {ts : List Tk} {w : World} {s : Sta}
set_option maxHeartbeats 32000000 in
set_option maxRecDepth 20000 in
theorem router_rd (h : RdS B b g cap ts s w) :
    Calls Tryd.prog 19 #[.pointer (some ⟨b, 0, none⟩)] w fun e w' => ∃ c : RoV, e = .returned (.agg #[.string ⟨c.1.name.toArray⟩, c.2.1, c.2.2.1, c.2.2.2, .int .i64 c.1.pl]) ∧ Agr c.1 (stepS rouR s).2 ∧ (Rows3 w' w.heap.size c ∧ c.1.nets.length ≤ 8 ∧ c.1.lks.length ≤ 64 ∧ c.1.sts.length ≤ 8) ∧ RdS B b g cap ts (stepS rouR s).1 w' ∧ BelX b w w' := by
  obtain ⟨R, hR⟩ : ∃ R, R = stepS rouR s := ⟨_, rfl⟩
  rw [← hR]
  have HR0 : Hid (R = stepS rouR s) := hR
  clear hR
  obtain ⟨br, hbr⟩ : ∃ b, b = w.heap.size := ⟨_, rfl⟩
  obtain ⟨W, hW⟩ : ∃ W, W = w.alloc (.cells #[.string ⟨#[]⟩, .slice none 0 0, .slice none 0 0, .slice none 0 0, .int .i64 0] 42) := ⟨_, rfl⟩
  obtain ⟨q1, r1, _⟩ := box_at w _ hW hbr
  have HO : Hid (b < w.heap.size ∧ g < w.heap.size ∧ w.heap.size ≤ br) := ⟨h.old.2, h.old.1, by omega⟩
  have hw := h.below q1
  have HB : Hid (BelX b w W ∧ W.heap[br]? = some (.cells #[.string ⟨#[]⟩, .slice none 0 0, .slice none 0 0, .slice none 0 0, .int .i64 0] 42 (0, 0))) := ⟨BelX.of b q1, r1⟩
  go_enter Tryd.func19, Tryd.ntmps19
  go_upto_region 1 with fail
  rw [← hbr, ← hW]
  clear hW hbr q1 r1
  obtain ⟨t, htp, hk⟩ := here_rd hw
  unfold tkV at hk
  have f4 := tkf4 t.kind t.val t.a t.b t.pl ⟨t.text.toArray⟩
  go_wp2_with fail
  refine hk.mono ?_
  rintro e U ⟨rfl, qU⟩
  go_upto_region 2 with fail
  obtain ⟨bc, hbc⟩ : ∃ b, b = U.heap.size := ⟨_, rfl⟩
  rw [← hbc]
  obtain ⟨V, hV⟩ : ∃ V, V = U.alloc (.cells #[.string ⟨#[]⟩, .slice none 0 0, .slice none 0 0, .slice none 0 0, .int .i64 t.pl] 42) := ⟨_, rfl⟩
  rw [← hV]
  have HS : Hid (Sit w B b g cap ts br bc 42 #[.string ⟨#[]⟩, .slice none 0 0, .slice none 0 0, .slice none 0 0, .int .i64 0] #[.string ⟨#[]⟩, .slice none 0 0, .slice none 0 0, .slice none 0 0, .int .i64 t.pl] s V) := Sit.new (hw.below qU) (HB.out.1.below qU) (pf_block qU HB.out.2) hV hbc HO.out
  clear hk hw qU hV hbc f4
  have hp := word_pl (w := [114, 111, 117, 116, 101, 114]) htp
  have HR1 : Hid _ := HR0.out.trans (step_and (f := wordR [114, 111, 117, 116, 101, 114]) hp)
  have hk := take_any HS.out.r [114, 111, 117, 116, 101, 114] (by decide)
  obtain ⟨s1, hs⟩ : ∃ z, z = (stepS (wordR [114, 111, 117, 116, 101, 114]) s).1 := ⟨_, rfl⟩
  rw [← hs] at HR1 hk
  clear hs hp HR0 htp
  go_wp2_with fail
  refine hk.mono ?_
  rintro e Z1 ⟨rfl, hZ, qZ⟩
  replace HS : Hid _ := HS.out.call hZ qZ
  clear hk hZ qZ
  have hk := name_rd HS.out.r
  obtain ⟨nm, ha⟩ : ∃ a, a = (stepS (nameR) s1).2.getD [] := ⟨_, rfl⟩
  have hp : Agr nm (stepS (nameR) s1).2 := by rw [ha]; exact Agr.getD _ _
  rw [← ha] at hk
  clear ha
  have HR2 : Hid _ := HR1.out.trans (step_and (f := nameR) hp)
  obtain ⟨s2, hs⟩ : ∃ z, z = (stepS (nameR) s1).1 := ⟨_, rfl⟩
  rw [← hs] at HR2 hk
  clear hs hp HR1
  go_wp2_with fail
  refine hk.mono ?_
  rintro e Z2 ⟨rfl, hZ, qZ⟩
  replace HS : Hid _ := HS.out.call hZ qZ
  clear hk hZ qZ
  obtain ⟨c0, f0⟩ := HS.out.cell 0 rfl
  replace HS : Hid (Sit w B b g cap ts br bc 42 #[.string ⟨#[]⟩, .slice none 0 0, .slice none 0 0, .slice none 0 0, .int .i64 0] #[.string ⟨nm.toArray⟩, .slice none 0 0, .slice none 0 0, .slice none 0 0, .int .i64 t.pl] s2 (Z2.setCell ⟨bc, 0, none⟩ (.string ⟨nm.toArray⟩))) := HS.out.put 0 (.string ⟨nm.toArray⟩)
  obtain ⟨p2, hp⟩ := agr_any 0 (stepS (wordR [123]) s2).2
  have HR3 : Hid _ := HR2.out.trans (step_and (f := wordR [123]) hp)
  have hk := take_any HS.out.r [123] (by decide)
  obtain ⟨s3, hs⟩ : ∃ z, z = (stepS (wordR [123]) s2).1 := ⟨_, rfl⟩
  rw [← hs] at HR3 hk
  clear hs hp HR2
  go_wp2_with fail
  refine hk.mono ?_
  rintro e Z3 ⟨rfl, hZ, qZ⟩
  replace HS : Hid _ := HS.out.call hZ qZ
  clear hk hZ qZ
  go_upto_region 5 with fail
  obtain ⟨i0, hi0, hz0, hz1, hz2⟩ := info_parts infoPf
  go_loopg [] 8 (fun gm wr => ∃ (n1 : Nat) (ln : List (Nat × Int)) (nv : Value) (s' : Sta), n1 + gm = 8 ∧ Hid (n1 = ln.length ∧ Sit w B b g cap ts br bc 42 #[.string ⟨#[]⟩, .slice none 0 0, .slice none 0 0, .slice none 0 0, .int .i64 0] #[.string ⟨nm.toArray⟩, nv, .slice none 0 0, .slice none 0 0, .int .i64 t.pl] s' wr ∧ (wr.ownsRow w.heap.size 59 2 (nv) n1 (ln.flatMap pfL)) ∧ R = stepS (fun r => andR (manyR [110, 101, 116] netR (8 - n1) r) fun cs r => andR (manyR [108, 105, 110, 107] lnkR 64 r) fun ls r => andR (manyR [115, 116, 97, 116, 105, 99] staR 8 r) fun ss r => andR (wordR [125] r) fun _ r => .inr ((⟨nm, (ln ++ cs), ls, ss, (t.pl : Int)⟩ : RoD), r)) s'))
  case atStart => exact ⟨0, [], .slice none 0 0, _, by omega, (⟨rfl, HS.out, World.ownsRow_nil _ _ _ _, HR3.out⟩ : _ ∧ _ ∧ _ ∧ _)⟩
  case round =>
    obtain ⟨n1, ln, nv, s', hn, HW⟩ := hrel
    obtain ⟨ca0, cc0, rfl⟩ := own_form (HW.out.2.2.1)
    obtain ⟨c1, f1⟩ := HW.out.2.1.cell 1 rfl
    have hk := another_rd HW.out.2.1.r [110, 101, 116] n1 8
    obtain ⟨bo, hbo⟩ : ∃ x, x = (stepS (anoR [110, 101, 116] n1 8) s').2.getD false := ⟨_, rfl⟩
    obtain ⟨s4, hs4⟩ : ∃ z, z = (stepS (anoR [110, 101, 116] n1 8) s').1 := ⟨_, rfl⟩
    rw [← hbo, ← hs4] at hk
    have HE : Hid (bo = false → R = stepS (fun r => andR (manyR [108, 105, 110, 107] lnkR 64 r) fun ls r => andR (manyR [115, 116, 97, 116, 105, 99] staR 8 r) fun ss r => andR (wordR [125] r) fun _ r => .inr ((⟨nm, ln, ls, ss, (t.pl : Int)⟩ : RoD), r)) s4) := by
      intro hb
      rw [HW.out.2.2.2, hs4]
      have h9 := many_stop (n := n1) (m := 8 - n1) (s := s') (k := 8) (f := netR) (G := fun cs r => andR (manyR [108, 105, 110, 107] lnkR 64 r) fun ls r => andR (manyR [115, 116, 97, 116, 105, 99] staR 8 r) fun ss r => andR (wordR [125] r) fun _ r => .inr ((⟨nm, (ln ++ cs), ls, ss, (t.pl : Int)⟩ : RoD), r)) (by omega) (by rw [← hbo]; exact hb)
      simpa only [List.append_nil] using h9
    have HG : Hid (∀ a : (Nat × Int), bo = true → Agr a (stepS (netR) s4).2 → n1 < 8 ∧ R = stepS (fun r => andR (manyR [110, 101, 116] netR (8 - (n1 + 1)) r) fun cs r => andR (manyR [108, 105, 110, 107] lnkR 64 r) fun ls r => andR (manyR [115, 116, 97, 116, 105, 99] staR 8 r) fun ss r => andR (wordR [125] r) fun _ r => .inr ((⟨nm, ((ln ++ [a]) ++ cs), ls, ss, (t.pl : Int)⟩ : RoD), r)) (stepS (netR) s4).1) := by
      intro a hb ha
      rw [hs4] at ha ⊢
      have h9 := many_go (n := n1) (m := 8 - n1) (s := s') (k := 8) (f := netR) (G := fun cs r => andR (manyR [108, 105, 110, 107] lnkR 64 r) fun ls r => andR (manyR [115, 116, 97, 116, 105, 99] staR 8 r) fun ss r => andR (wordR [125] r) fun _ r => .inr ((⟨nm, (ln ++ cs), ls, ss, (t.pl : Int)⟩ : RoD), r)) (a := a) (by omega) hbo hb ha
      refine ⟨by omega, ?_⟩
      rw [HW.out.2.2.2, show 8 - (n1 + 1) = 8 - n1 - 1 by omega]
      simp only [List.append_assoc, List.cons_append, List.nil_append]
      exact h9.2
    clear hbo hs4
    cases bo with
    | false =>
      replace HE : Hid (R = stepS (fun r => andR (manyR [108, 105, 110, 107] lnkR 64 r) fun ls r => andR (manyR [115, 116, 97, 116, 105, 99] staR 8 r) fun ss r => andR (wordR [125] r) fun _ r => .inr ((⟨nm, ln, ls, ss, (t.pl : Int)⟩ : RoD), r)) s4) := HE.out rfl
      go_wp2_with fail
      refine hk.mono ?_
      rintro e Y0 ⟨rfl, hY, qY⟩
      have HL : Hid (n1 = ln.length ∧ n1 ≤ 8) := ⟨HW.out.1, by omega⟩
      have HL0 : Hid (n1 = ln.length ∧ n1 ≤ 8) := HL
      have HS : Hid _ := HW.out.2.1.call hY qY
      have HRW : Hid (Y0.ownsRow w.heap.size 59 2 (.slice ca0 n1 cc0) n1 (ln.flatMap pfL)) := rowX (HW.out.2.2.1) HO.out.1 qY
      clear hk hY qY c1 f1 HW HG HL hn
      go_upto_region 7 with fail
      obtain ⟨i0, hi0, hz0, hz1, hz2⟩ := info_parts infoLk
      go_loopg [] 64 (fun gm wr => ∃ (n2 : Nat) (ll : List (LkD)) (lv : Value) (s' : Sta), n2 + gm = 64 ∧ Hid (n2 = ll.length ∧ Sit w B b g cap ts br bc 42 #[.string ⟨#[]⟩, .slice none 0 0, .slice none 0 0, .slice none 0 0, .int .i64 0] #[.string ⟨nm.toArray⟩, .slice ca0 n1 cc0, lv, .slice none 0 0, .int .i64 t.pl] s' wr ∧ (wr.ownsRow w.heap.size 59 2 (.slice ca0 n1 cc0) n1 (ln.flatMap pfL) ∧ wr.ownsRow w.heap.size 101 5 (lv) n2 (ll.flatMap lkL)) ∧ R = stepS (fun r => andR (manyR [108, 105, 110, 107] lnkR (64 - n2) r) fun cs r => andR (manyR [115, 116, 97, 116, 105, 99] staR 8 r) fun ss r => andR (wordR [125] r) fun _ r => .inr ((⟨nm, ln, (ll ++ cs), ss, (t.pl : Int)⟩ : RoD), r)) s'))
      case atStart => exact ⟨0, [], .slice none 0 0, _, by omega, (⟨rfl, HS.out, ⟨HRW.out, World.ownsRow_nil _ _ _ _⟩, HE.out⟩ : _ ∧ _ ∧ _ ∧ _)⟩
      case round =>
        obtain ⟨n2, ll, lv, s', hn, HW⟩ := hrel
        obtain ⟨ca1, cc1, rfl⟩ := own_form (HW.out.2.2.1).2
        obtain ⟨c1, f1⟩ := HW.out.2.1.cell 2 rfl
        have hk := another_rd HW.out.2.1.r [108, 105, 110, 107] n2 64
        obtain ⟨bo, hbo⟩ : ∃ x, x = (stepS (anoR [108, 105, 110, 107] n2 64) s').2.getD false := ⟨_, rfl⟩
        obtain ⟨s4, hs4⟩ : ∃ z, z = (stepS (anoR [108, 105, 110, 107] n2 64) s').1 := ⟨_, rfl⟩
        rw [← hbo, ← hs4] at hk
        have HE : Hid (bo = false → R = stepS (fun r => andR (manyR [115, 116, 97, 116, 105, 99] staR 8 r) fun ss r => andR (wordR [125] r) fun _ r => .inr ((⟨nm, ln, ll, ss, (t.pl : Int)⟩ : RoD), r)) s4) := by
          intro hb
          rw [HW.out.2.2.2, hs4]
          have h9 := many_stop (n := n2) (m := 64 - n2) (s := s') (k := 64) (f := lnkR) (G := fun cs r => andR (manyR [115, 116, 97, 116, 105, 99] staR 8 r) fun ss r => andR (wordR [125] r) fun _ r => .inr ((⟨nm, ln, (ll ++ cs), ss, (t.pl : Int)⟩ : RoD), r)) (by omega) (by rw [← hbo]; exact hb)
          simpa only [List.append_nil] using h9
        have HG : Hid (∀ a : (LkD), bo = true → Agr a (stepS (lnkR) s4).2 → n2 < 64 ∧ R = stepS (fun r => andR (manyR [108, 105, 110, 107] lnkR (64 - (n2 + 1)) r) fun cs r => andR (manyR [115, 116, 97, 116, 105, 99] staR 8 r) fun ss r => andR (wordR [125] r) fun _ r => .inr ((⟨nm, ln, ((ll ++ [a]) ++ cs), ss, (t.pl : Int)⟩ : RoD), r)) (stepS (lnkR) s4).1) := by
          intro a hb ha
          rw [hs4] at ha ⊢
          have h9 := many_go (n := n2) (m := 64 - n2) (s := s') (k := 64) (f := lnkR) (G := fun cs r => andR (manyR [115, 116, 97, 116, 105, 99] staR 8 r) fun ss r => andR (wordR [125] r) fun _ r => .inr ((⟨nm, ln, (ll ++ cs), ss, (t.pl : Int)⟩ : RoD), r)) (a := a) (by omega) hbo hb ha
          refine ⟨by omega, ?_⟩
          rw [HW.out.2.2.2, show 64 - (n2 + 1) = 64 - n2 - 1 by omega]
          simp only [List.append_assoc, List.cons_append, List.nil_append]
          exact h9.2
        clear hbo hs4
        cases bo with
        | false =>
          replace HE : Hid (R = stepS (fun r => andR (manyR [115, 116, 97, 116, 105, 99] staR 8 r) fun ss r => andR (wordR [125] r) fun _ r => .inr ((⟨nm, ln, ll, ss, (t.pl : Int)⟩ : RoD), r)) s4) := HE.out rfl
          go_wp2_with fail
          refine hk.mono ?_
          rintro e Y1 ⟨rfl, hY, qY⟩
          have HL : Hid (n2 = ll.length ∧ n2 ≤ 64) := ⟨HW.out.1, by omega⟩
          have HL1 : Hid (n2 = ll.length ∧ n2 ≤ 64) := HL
          have HS : Hid _ := HW.out.2.1.call hY qY
          have HRW : Hid (Y1.ownsRow w.heap.size 59 2 (.slice ca0 n1 cc0) n1 (ln.flatMap pfL) ∧ Y1.ownsRow w.heap.size 101 5 (.slice ca1 n2 cc1) n2 (ll.flatMap lkL)) := ⟨rowX (HW.out.2.2.1).1 HO.out.1 qY, rowX (HW.out.2.2.1).2 HO.out.1 qY⟩
          clear hk hY qY c1 f1 HW HG HL hn
          go_upto_region 9 with fail
          obtain ⟨i0, hi0, hz0, hz1, hz2⟩ := info_parts infoSt
          go_loopg [] 8 (fun gm wr => ∃ (n3 : Nat) (lt : List (StD)) (sv : Value) (s' : Sta), n3 + gm = 8 ∧ Hid (n3 = lt.length ∧ Sit w B b g cap ts br bc 42 #[.string ⟨#[]⟩, .slice none 0 0, .slice none 0 0, .slice none 0 0, .int .i64 0] #[.string ⟨nm.toArray⟩, .slice ca0 n1 cc0, .slice ca1 n2 cc1, sv, .int .i64 t.pl] s' wr ∧ (wr.ownsRow w.heap.size 59 2 (.slice ca0 n1 cc0) n1 (ln.flatMap pfL) ∧ wr.ownsRow w.heap.size 101 5 (.slice ca1 n2 cc1) n2 (ll.flatMap lkL) ∧ wr.ownsRow w.heap.size 104 4 (sv) n3 (lt.flatMap stL)) ∧ R = stepS (fun r => andR (manyR [115, 116, 97, 116, 105, 99] staR (8 - n3) r) fun cs r => andR (wordR [125] r) fun _ r => .inr ((⟨nm, ln, ll, (lt ++ cs), (t.pl : Int)⟩ : RoD), r)) s'))
          case atStart => exact ⟨0, [], .slice none 0 0, _, by omega, (⟨rfl, HS.out, ⟨HRW.out.1, HRW.out.2, World.ownsRow_nil _ _ _ _⟩, HE.out⟩ : _ ∧ _ ∧ _ ∧ _)⟩
          case round =>
            obtain ⟨n3, lt, sv, s', hn, HW⟩ := hrel
            obtain ⟨ca2, cc2, rfl⟩ := own_form (HW.out.2.2.1).2.2
            obtain ⟨c1, f1⟩ := HW.out.2.1.cell 3 rfl
            have hk := another_rd HW.out.2.1.r [115, 116, 97, 116, 105, 99] n3 8
            obtain ⟨bo, hbo⟩ : ∃ x, x = (stepS (anoR [115, 116, 97, 116, 105, 99] n3 8) s').2.getD false := ⟨_, rfl⟩
            obtain ⟨s4, hs4⟩ : ∃ z, z = (stepS (anoR [115, 116, 97, 116, 105, 99] n3 8) s').1 := ⟨_, rfl⟩
            rw [← hbo, ← hs4] at hk
            have HE : Hid (bo = false → R = stepS (fun r => andR (wordR [125] r) fun _ r => .inr ((⟨nm, ln, ll, lt, (t.pl : Int)⟩ : RoD), r)) s4) := by
              intro hb
              rw [HW.out.2.2.2, hs4]
              have h9 := many_stop (n := n3) (m := 8 - n3) (s := s') (k := 8) (f := staR) (G := fun cs r => andR (wordR [125] r) fun _ r => .inr ((⟨nm, ln, ll, (lt ++ cs), (t.pl : Int)⟩ : RoD), r)) (by omega) (by rw [← hbo]; exact hb)
              simpa only [List.append_nil] using h9
            have HG : Hid (∀ a : (StD), bo = true → Agr a (stepS (staR) s4).2 → n3 < 8 ∧ R = stepS (fun r => andR (manyR [115, 116, 97, 116, 105, 99] staR (8 - (n3 + 1)) r) fun cs r => andR (wordR [125] r) fun _ r => .inr ((⟨nm, ln, ll, ((lt ++ [a]) ++ cs), (t.pl : Int)⟩ : RoD), r)) (stepS (staR) s4).1) := by
              intro a hb ha
              rw [hs4] at ha ⊢
              have h9 := many_go (n := n3) (m := 8 - n3) (s := s') (k := 8) (f := staR) (G := fun cs r => andR (wordR [125] r) fun _ r => .inr ((⟨nm, ln, ll, (lt ++ cs), (t.pl : Int)⟩ : RoD), r)) (a := a) (by omega) hbo hb ha
              refine ⟨by omega, ?_⟩
              rw [HW.out.2.2.2, show 8 - (n3 + 1) = 8 - n3 - 1 by omega]
              simp only [List.append_assoc, List.cons_append, List.nil_append]
              exact h9.2
            clear hbo hs4
            cases bo with
            | false =>
              replace HE : Hid (R = stepS (fun r => andR (wordR [125] r) fun _ r => .inr ((⟨nm, ln, ll, lt, (t.pl : Int)⟩ : RoD), r)) s4) := HE.out rfl
              go_wp2_with fail
              refine hk.mono ?_
              rintro e Y2 ⟨rfl, hY, qY⟩
              have HL : Hid (n3 = lt.length ∧ n3 ≤ 8) := ⟨HW.out.1, by omega⟩
              have HL2 : Hid (n3 = lt.length ∧ n3 ≤ 8) := HL
              have HS : Hid _ := HW.out.2.1.call hY qY
              have HRW : Hid (Y2.ownsRow w.heap.size 59 2 (.slice ca0 n1 cc0) n1 (ln.flatMap pfL) ∧ Y2.ownsRow w.heap.size 101 5 (.slice ca1 n2 cc1) n2 (ll.flatMap lkL) ∧ Y2.ownsRow w.heap.size 104 4 (.slice ca2 n3 cc2) n3 (lt.flatMap stL)) := ⟨rowX (HW.out.2.2.1).1 HO.out.1 qY, rowX (HW.out.2.2.1).2.1 HO.out.1 qY, rowX (HW.out.2.2.1).2.2 HO.out.1 qY⟩
              clear hk hY qY c1 f1 HW HG HL hn
              have HR4 : Hid _ := HE.out
              clear HE
              obtain ⟨p4, hp⟩ := agr_any 0 (stepS (wordR [125]) s4).2
              have HR5 : Hid _ := HR4.out.trans (step_and (f := wordR [125]) hp)
              have hk := take_any HS.out.r [125] (by decide)
              obtain ⟨s5, hs⟩ : ∃ z, z = (stepS (wordR [125]) s4).1 := ⟨_, rfl⟩
              rw [← hs] at HR5 hk
              clear hs hp HR4
              go_wp2_with fail
              refine hk.mono ?_
              rintro e Z5 ⟨rfl, hZ, qZ⟩
              replace HRW : Hid (Z5.ownsRow w.heap.size 59 2 (.slice ca0 n1 cc0) n1 (ln.flatMap pfL) ∧ Z5.ownsRow w.heap.size 101 5 (.slice ca1 n2 cc1) n2 (ll.flatMap lkL) ∧ Z5.ownsRow w.heap.size 104 4 (.slice ca2 n3 cc2) n3 (lt.flatMap stL)) := ⟨rowX HRW.out.1 HO.out.1 qZ, rowX HRW.out.2.1 HO.out.1 qZ, rowX HRW.out.2.2 HO.out.1 qZ⟩
              replace HS : Hid _ := HS.out.call hZ qZ
              clear hk hZ qZ
              obtain ⟨C0, C1, C2, C3, C4⟩ := cells_five HS.out.c
              obtain ⟨D0, D1, D2, D3, D4⟩ := cells_five HS.out.z
              have F0 := free_at HS.out.z 0
              have F1 := free_at HS.out.z 1
              have F2 := free_at HS.out.z 2
              have F3 := free_at HS.out.z 3
              have F4 := free_at HS.out.z 4
              go_wp2_with fail
              obtain ⟨xs, hxs⟩ : ∃ xs : List Value, xs = [.string ⟨nm.toArray⟩, .slice ca0 n1 cc0, .slice ca1 n2 cc1, .slice ca2 n3 cc2, .int .i64 t.pl] := ⟨_, rfl⟩
              obtain ⟨X, hX⟩ : ∃ X, X = putL Z5 br 0 xs := ⟨_, rfl⟩
              have hf := HS.out.fin xs (by rw [hxs]; rfl)
              have hx0 : X.ownsRow w.heap.size 59 2 (.slice ca0 n1 cc0) n1 (ln.flatMap pfL) := by rw [hX]; exact row_put HRW.out.1 HS.out.z (by decide)
              have hx1 : X.ownsRow w.heap.size 101 5 (.slice ca1 n2 cc1) n2 (ll.flatMap lkL) := by rw [hX]; exact row_put HRW.out.2.1 HS.out.z (by decide)
              have hx2 : X.ownsRow w.heap.size 104 4 (.slice ca2 n3 cc2) n3 (lt.flatMap stL) := by rw [hX]; exact row_put HRW.out.2.2 HS.out.z (by decide)
              rw [← hX] at hf
              rw [hxs] at hX hf
              show bodyPost _ _ _ _ _ (putL Z5 br 0 [.string ⟨nm.toArray⟩, .slice ca0 n1 cc0, .slice ca1 n2 cc1, .slice ca2 n3 cc2, .int .i64 t.pl])
              rw [← hX]
              clear hX hxs C0 D0 F0 C1 D1 F1 C2 D2 F2 C3 D3 F3 C4 D4 F4
              obtain ⟨W0, W1, W2, W3, W4⟩ := cells_five hf.1
              have hret := step_ret ((⟨nm, ln, ll, lt, (t.pl : Int)⟩ : RoD)) s5
              have HE : R = stepS (fun r => .inr (((⟨nm, ln, ll, lt, (t.pl : Int)⟩ : RoD)), r)) s5 := HR5.out
              refine bodyPost_ret (v := .agg #[.string ⟨nm.toArray⟩, .slice ca0 n1 cc0, .slice ca1 n2 cc1, .slice ca2 n3 cc2, .int .i64 t.pl]) (by simp [results, Tryd.results19, go_sem, W0, W1, W2, W3, W4]) rfl ?_
              exact ⟨((⟨nm, ln, ll, lt, (t.pl : Int)⟩ : RoD), .slice ca0 n1 cc0, .slice ca1 n2 cc1, .slice ca2 n3 cc2), rfl, by rw [HE]; exact hret.2, ⟨⟨by have h9 := hx0; show X.ownsRow _ _ _ (.slice ca0 n1 cc0) _ _; rw [HL0.out.1] at h9 ⊢; exact h9, by have h9 := hx1; show X.ownsRow _ _ _ (.slice ca1 n2 cc1) _ _; rw [HL1.out.1] at h9 ⊢; exact h9, by have h9 := hx2; show X.ownsRow _ _ _ (.slice ca2 n3 cc2) _ _; rw [HL2.out.1] at h9 ⊢; exact h9⟩, by have := HL0.out; show ln.length ≤ 8; omega, by have := HL1.out; show ll.length ≤ 64; omega, by have := HL2.out; show lt.length ≤ 8; omega⟩, by rw [HE, hret.1]; exact hf.2.1, hf.2.2⟩
            | true =>
              go_wp2_with fail
              refine hk.mono ?_
              rintro e Y ⟨rfl, hY, qY⟩
              have HS : Hid _ := HW.out.2.1.call hY qY
              have HRW : Hid (Y.ownsRow w.heap.size 59 2 (.slice ca0 n1 cc0) n1 (ln.flatMap pfL) ∧ Y.ownsRow w.heap.size 101 5 (.slice ca1 n2 cc1) n2 (ll.flatMap lkL) ∧ Y.ownsRow w.heap.size 104 4 (.slice ca2 n3 cc2) n3 (lt.flatMap stL)) := ⟨rowX (HW.out.2.2.1).1 HO.out.1 qY, rowX (HW.out.2.2.1).2.1 HO.out.1 qY, rowX (HW.out.2.2.1).2.2 HO.out.1 qY⟩
              have HL : Hid (n3 = lt.length) := HW.out.1
              have c2 := (HS.out.cell 3 rfl).1
              have E0 : ∀ p : XOf b Y, p.w.cell? ⟨bc, 3, none⟩ = some (.slice ca2 n3 cc2) := x_cell c2 (Array.getElem?_eq_some_iff.1 HS.out.c).1 HS.out.n.2.1
              have hne := x_ne b Y
              clear hk qY c1 f1 HW HE c2
              go_wp2_with fail
              refine wp_region_from (C := fun w' => ∃ p : XOf b Y, w' = p.w) [0, 1, 2] [3, 4] [5, 6, 7] (by kernel_rfl) (by kernel_rfl) rfl ⟨⟨Y.drew, (BelX.refl _ _).drew⟩, rfl⟩ (fun _ _ d _ _ h => by cases d <;> exact h) ?_
              simp only [pickL, List.getElem?_cons_zero, List.getElem?_cons_succ]
              repeat (go_big_quiet_step (fail))
              refine wpQuiet_nil ?_
              clear E0 hne
              refine chain_go rfl fun Q2 hQ2 => ?_
              have hk := static_rd (w := Y.drew) (hY.below (Below.refl _ _).drew)
              clear hY
              go_wp2_with fail
              refine hk.mono ?_
              rintro e Z ⟨c, rfl, ha, hZ, qZ⟩
              obtain ⟨a, bb, vi, pl⟩ := c
              unfold stV2
              have QZ : BelX b Y Z := ((BelX.refl b Y).drew).trans qZ
              have QA : BelX b Y (Z.alloc (.cells #[.int .u32 a, .int .i64 bb, .string ⟨vi.toArray⟩, .int .i64 pl] 104)) := QZ.alloc _
              have HSA : Hid _ := HS.out.call (hZ.below (bel_alloc (Below.refl _ _) (.cells #[.int .u32 a, .int .i64 bb, .string ⟨vi.toArray⟩, .int .i64 pl] 104))) QA
              have HRA : Hid ((Z.alloc (.cells #[.int .u32 a, .int .i64 bb, .string ⟨vi.toArray⟩, .int .i64 pl] 104)).ownsRow w.heap.size 59 2 (.slice ca0 n1 cc0) n1 (ln.flatMap pfL) ∧ (Z.alloc (.cells #[.int .u32 a, .int .i64 bb, .string ⟨vi.toArray⟩, .int .i64 pl] 104)).ownsRow w.heap.size 101 5 (.slice ca1 n2 cc1) n2 (ll.flatMap lkL) ∧ (Z.alloc (.cells #[.int .u32 a, .int .i64 bb, .string ⟨vi.toArray⟩, .int .i64 pl] 104)).ownsRow w.heap.size 104 4 (.slice ca2 n3 cc2) n3 (lt.flatMap stL)) := ⟨rowX HRW.out.1 HO.out.1 QA, rowX HRW.out.2.1 HO.out.1 QA, rowX HRW.out.2.2 HO.out.1 QA⟩
              replace HG : Hid _ := HG.out _ (by simp) ha
              clear hk ha hZ qZ HRW
              go_wp2_with fail
              refine hQ2 _ _ ⟨⟨Z, QZ⟩, rfl⟩ ?_
              clear hQ2 Q2
              refine chain_go rfl fun Q2 hQ2 => ?_
              go_wp2_with fail
              refine hQ2 _ _ ⟨⟨_, QA⟩, rfl⟩ (chain_end ?_)
              clear hQ2 Q2
              have hO := HRA.out.2.2
              have hsz : w.heap.size ≤ Z.heap.size := Nat.le_trans HS.out.x.size QZ.size
              have hnm : n3 < 8 := HG.out.1
              clear QA QZ HS
              go_wp2_with (at_builtin; refine wpList_append_lies _ rfl _ _ _ rfl w.heap.size 104 i0 _ 4 40 Tryd.underlying40 hi0 hz0 hz1 hz2 rfl (by omega) (.slice ca2 n3 cc2) n3 _ rfl hO ⟨Z.heap.size, 0, none⟩ 1 1 [.int .u32 a, .int .i64 bb, .string ⟨vi.toArray⟩, .int .i64 pl] rfl rfl (World.news_of_block (cs := #[.int .u32 a, .int .i64 bb, .string ⟨vi.toArray⟩, .int .i64 pl]) (t := 104) (fr := (0, 0)) (pf_new _ _ _ rfl)) (by simp [Value.oneCell']) (by omega) (by unfold maxLen; omega) (by omega) (by simp; omega) _ rfl ?_; intro g1 cap1 W1 hown1 hgrow hat hlt1; have HSB : Hid _ := HSA.out.grow hO hgrow (by decide) (by decide) (by decide); have hcb := HSB.out.c; obtain ⟨g0, f0⟩ := HSB.out.cell 3 rfl)
              have HX : Hid (Sit w B b g cap ts br bc 42 #[.string ⟨#[]⟩, .slice none 0 0, .slice none 0 0, .slice none 0 0, .int .i64 0] #[.string ⟨nm.toArray⟩, .slice ca0 n1 cc0, .slice ca1 n2 cc1, (.slice (some ⟨g1, 0, none⟩) (n3 + 1) cap1), .int .i64 t.pl] (stepS staR s4).1 (W1.setCell ⟨bc, 3, none⟩ (.slice (some ⟨g1, 0, none⟩) (n3 + 1) cap1))) := HSB.out.put 3 _
              have HX0 : Hid ((W1.setCell ⟨bc, 3, none⟩ (.slice (some ⟨g1, 0, none⟩) (n3 + 1) cap1)).ownsRow w.heap.size 59 2 (.slice ca0 n1 cc0) n1 (ln.flatMap pfL)) := row_keep hO hgrow hcb (by decide) (by decide) (HRA.out.1)
              have HX1 : Hid ((W1.setCell ⟨bc, 3, none⟩ (.slice (some ⟨g1, 0, none⟩) (n3 + 1) cap1)).ownsRow w.heap.size 101 5 (.slice ca1 n2 cc1) n2 (ll.flatMap lkL)) := row_keep hO hgrow hcb (by decide) (by decide) (HRA.out.2.1)
              have HX2 : Hid ((W1.setCell ⟨bc, 3, none⟩ (.slice (some ⟨g1, 0, none⟩) (n3 + 1) cap1)).ownsRow w.heap.size 104 4 ((.slice (some ⟨g1, 0, none⟩) (n3 + 1) cap1)) (n3 + 1) ((lt ++ [(⟨a, bb, vi, pl⟩ : StD)]).flatMap stL)) := by rw [List.flatMap_append, List.flatMap_singleton]; exact row_set hown1 hcb (by decide)
              have HLL : Hid (n3 + 1 = ((lt ++ [(⟨a, bb, vi, pl⟩ : StD)])).length) := by show _ = _; rw [List.length_append, ← HL.out]; rfl
              clear hown1 hgrow hat hlt1 g0 f0 hcb hO hsz
              go_roundg (8 - (n3 + 1))
              case measure => omega
              case rel => exact ⟨n3 + 1, (lt ++ [(⟨a, bb, vi, pl⟩ : StD)]), _, _, by omega, (⟨HLL.out, HX.out, ⟨HX0.out, HX1.out, HX2.out⟩, HG.out.2⟩ : _ ∧ _ ∧ _ ∧ _)⟩
        | true =>
          go_wp2_with fail
          refine hk.mono ?_
          rintro e Y ⟨rfl, hY, qY⟩
          have HS : Hid _ := HW.out.2.1.call hY qY
          have HRW : Hid (Y.ownsRow w.heap.size 59 2 (.slice ca0 n1 cc0) n1 (ln.flatMap pfL) ∧ Y.ownsRow w.heap.size 101 5 (.slice ca1 n2 cc1) n2 (ll.flatMap lkL)) := ⟨rowX (HW.out.2.2.1).1 HO.out.1 qY, rowX (HW.out.2.2.1).2 HO.out.1 qY⟩
          have HL : Hid (n2 = ll.length) := HW.out.1
          have c2 := (HS.out.cell 2 rfl).1
          have E0 : ∀ p : XOf b Y, p.w.cell? ⟨bc, 2, none⟩ = some (.slice ca1 n2 cc1) := x_cell c2 (Array.getElem?_eq_some_iff.1 HS.out.c).1 HS.out.n.2.1
          have hne := x_ne b Y
          clear hk qY c1 f1 HW HE c2
          go_wp2_with fail
          refine wp_region_from (C := fun w' => ∃ p : XOf b Y, w' = p.w) [0, 1, 2] [3, 4] [5, 6, 7] (by kernel_rfl) (by kernel_rfl) rfl ⟨⟨Y.drew, (BelX.refl _ _).drew⟩, rfl⟩ (fun _ _ d _ _ h => by cases d <;> exact h) ?_
          simp only [pickL, List.getElem?_cons_zero, List.getElem?_cons_succ]
          repeat (go_big_quiet_step (fail))
          refine wpQuiet_nil ?_
          clear E0 hne
          refine chain_go rfl fun Q2 hQ2 => ?_
          have hk := link_rd (w := Y.drew) (hY.below (Below.refl _ _).drew)
          clear hY
          go_wp2_with fail
          refine hk.mono ?_
          rintro e Z ⟨c, rfl, ha, hZ, qZ⟩
          obtain ⟨pe, co, im, ex, pl⟩ := c
          unfold lkV2
          have QZ : BelX b Y Z := ((BelX.refl b Y).drew).trans qZ
          have QA : BelX b Y (Z.alloc (.cells #[.string ⟨pe.toArray⟩, .int .i64 co, .string ⟨im.toArray⟩, .string ⟨ex.toArray⟩, .int .i64 pl] 101)) := QZ.alloc _
          have HSA : Hid _ := HS.out.call (hZ.below (bel_alloc (Below.refl _ _) (.cells #[.string ⟨pe.toArray⟩, .int .i64 co, .string ⟨im.toArray⟩, .string ⟨ex.toArray⟩, .int .i64 pl] 101))) QA
          have HRA : Hid ((Z.alloc (.cells #[.string ⟨pe.toArray⟩, .int .i64 co, .string ⟨im.toArray⟩, .string ⟨ex.toArray⟩, .int .i64 pl] 101)).ownsRow w.heap.size 59 2 (.slice ca0 n1 cc0) n1 (ln.flatMap pfL) ∧ (Z.alloc (.cells #[.string ⟨pe.toArray⟩, .int .i64 co, .string ⟨im.toArray⟩, .string ⟨ex.toArray⟩, .int .i64 pl] 101)).ownsRow w.heap.size 101 5 (.slice ca1 n2 cc1) n2 (ll.flatMap lkL)) := ⟨rowX HRW.out.1 HO.out.1 QA, rowX HRW.out.2 HO.out.1 QA⟩
          replace HG : Hid _ := HG.out _ (by simp) ha
          clear hk ha hZ qZ HRW
          go_wp2_with fail
          refine hQ2 _ _ ⟨⟨Z, QZ⟩, rfl⟩ ?_
          clear hQ2 Q2
          refine chain_go rfl fun Q2 hQ2 => ?_
          go_wp2_with fail
          refine hQ2 _ _ ⟨⟨_, QA⟩, rfl⟩ (chain_end ?_)
          clear hQ2 Q2
          have hO := HRA.out.2
          have hsz : w.heap.size ≤ Z.heap.size := Nat.le_trans HS.out.x.size QZ.size
          have hnm : n2 < 64 := HG.out.1
          clear QA QZ HS
          go_wp2_with (at_builtin; refine wpList_append_lies _ rfl _ _ _ rfl w.heap.size 101 i0 _ 5 64 Tryd.underlying39 hi0 hz0 hz1 hz2 rfl (by omega) (.slice ca1 n2 cc1) n2 _ rfl hO ⟨Z.heap.size, 0, none⟩ 1 1 [.string ⟨pe.toArray⟩, .int .i64 co, .string ⟨im.toArray⟩, .string ⟨ex.toArray⟩, .int .i64 pl] rfl rfl (World.news_of_block (cs := #[.string ⟨pe.toArray⟩, .int .i64 co, .string ⟨im.toArray⟩, .string ⟨ex.toArray⟩, .int .i64 pl]) (t := 101) (fr := (0, 0)) (pf_new _ _ _ rfl)) (by simp [Value.oneCell']) (by omega) (by unfold maxLen; omega) (by omega) (by simp; omega) _ rfl ?_; intro g1 cap1 W1 hown1 hgrow hat hlt1; have HSB : Hid _ := HSA.out.grow hO hgrow (by decide) (by decide) (by decide); have hcb := HSB.out.c; obtain ⟨g0, f0⟩ := HSB.out.cell 2 rfl)
          have HX : Hid (Sit w B b g cap ts br bc 42 #[.string ⟨#[]⟩, .slice none 0 0, .slice none 0 0, .slice none 0 0, .int .i64 0] #[.string ⟨nm.toArray⟩, .slice ca0 n1 cc0, (.slice (some ⟨g1, 0, none⟩) (n2 + 1) cap1), .slice none 0 0, .int .i64 t.pl] (stepS lnkR s4).1 (W1.setCell ⟨bc, 2, none⟩ (.slice (some ⟨g1, 0, none⟩) (n2 + 1) cap1))) := HSB.out.put 2 _
          have HX0 : Hid ((W1.setCell ⟨bc, 2, none⟩ (.slice (some ⟨g1, 0, none⟩) (n2 + 1) cap1)).ownsRow w.heap.size 59 2 (.slice ca0 n1 cc0) n1 (ln.flatMap pfL)) := row_keep hO hgrow hcb (by decide) (by decide) (HRA.out.1)
          have HX1 : Hid ((W1.setCell ⟨bc, 2, none⟩ (.slice (some ⟨g1, 0, none⟩) (n2 + 1) cap1)).ownsRow w.heap.size 101 5 ((.slice (some ⟨g1, 0, none⟩) (n2 + 1) cap1)) (n2 + 1) ((ll ++ [(⟨pe, co, im, ex, pl⟩ : LkD)]).flatMap lkL)) := by rw [List.flatMap_append, List.flatMap_singleton]; exact row_set hown1 hcb (by decide)
          have HLL : Hid (n2 + 1 = ((ll ++ [(⟨pe, co, im, ex, pl⟩ : LkD)])).length) := by show _ = _; rw [List.length_append, ← HL.out]; rfl
          clear hown1 hgrow hat hlt1 g0 f0 hcb hO hsz
          go_roundg (64 - (n2 + 1))
          case measure => omega
          case rel => exact ⟨n2 + 1, (ll ++ [(⟨pe, co, im, ex, pl⟩ : LkD)]), _, _, by omega, (⟨HLL.out, HX.out, ⟨HX0.out, HX1.out⟩, HG.out.2⟩ : _ ∧ _ ∧ _ ∧ _)⟩
    | true =>
      go_wp2_with fail
      refine hk.mono ?_
      rintro e Y ⟨rfl, hY, qY⟩
      have HS : Hid _ := HW.out.2.1.call hY qY
      have HRW : Hid (Y.ownsRow w.heap.size 59 2 (.slice ca0 n1 cc0) n1 (ln.flatMap pfL)) := rowX (HW.out.2.2.1) HO.out.1 qY
      have HL : Hid (n1 = ln.length) := HW.out.1
      have c2 := (HS.out.cell 1 rfl).1
      have E0 : ∀ p : XOf b Y, p.w.cell? ⟨bc, 1, none⟩ = some (.slice ca0 n1 cc0) := x_cell c2 (Array.getElem?_eq_some_iff.1 HS.out.c).1 HS.out.n.2.1
      have hne := x_ne b Y
      clear hk qY c1 f1 HW HE c2
      go_wp2_with fail
      refine wp_region_from (C := fun w' => ∃ p : XOf b Y, w' = p.w) [0, 1, 2] [3, 4] [5, 6, 7] (by kernel_rfl) (by kernel_rfl) rfl ⟨⟨Y.drew, (BelX.refl _ _).drew⟩, rfl⟩ (fun _ _ d _ _ h => by cases d <;> exact h) ?_
      simp only [pickL, List.getElem?_cons_zero, List.getElem?_cons_succ]
      repeat (go_big_quiet_step (fail))
      refine wpQuiet_nil ?_
      clear E0 hne
      refine chain_go rfl fun Q2 hQ2 => ?_
      have hk := net_rd (w := Y.drew) (hY.below (Below.refl _ _).drew)
      clear hY
      go_wp2_with fail
      refine hk.mono ?_
      rintro e Z ⟨c, rfl, ha, hZ, qZ⟩
      obtain ⟨a, bb⟩ := c
      unfold pfV2
      have QZ : BelX b Y Z := ((BelX.refl b Y).drew).trans qZ
      have QA : BelX b Y (Z.alloc (.cells #[.int .u32 a, .int .i64 bb] 59)) := QZ.alloc _
      have HSA : Hid _ := HS.out.call (hZ.below (bel_alloc (Below.refl _ _) (.cells #[.int .u32 a, .int .i64 bb] 59))) QA
      have HRA : Hid ((Z.alloc (.cells #[.int .u32 a, .int .i64 bb] 59)).ownsRow w.heap.size 59 2 (.slice ca0 n1 cc0) n1 (ln.flatMap pfL)) := rowX HRW.out HO.out.1 QA
      replace HG : Hid _ := HG.out _ (by simp) ha
      clear hk ha hZ qZ HRW
      go_wp2_with fail
      refine hQ2 _ _ ⟨⟨Z, QZ⟩, rfl⟩ ?_
      clear hQ2 Q2
      refine chain_go rfl fun Q2 hQ2 => ?_
      go_wp2_with fail
      refine hQ2 _ _ ⟨⟨_, QA⟩, rfl⟩ (chain_end ?_)
      clear hQ2 Q2
      have hO := HRA.out
      have hsz : w.heap.size ≤ Z.heap.size := Nat.le_trans HS.out.x.size QZ.size
      have hnm : n1 < 8 := HG.out.1
      clear QA QZ HS
      go_wp2_with (at_builtin; refine wpList_append_lies _ rfl _ _ _ rfl w.heap.size 59 i0 _ 2 16 Tryd.underlying38 hi0 hz0 hz1 hz2 rfl (by omega) (.slice ca0 n1 cc0) n1 _ rfl hO ⟨Z.heap.size, 0, none⟩ 1 1 [.int .u32 a, .int .i64 bb] rfl rfl (World.news_of_block (cs := #[.int .u32 a, .int .i64 bb]) (t := 59) (fr := (0, 0)) (pf_new _ _ _ rfl)) (by simp [Value.oneCell']) (by omega) (by unfold maxLen; omega) (by omega) (by simp; omega) _ rfl ?_; intro g1 cap1 W1 hown1 hgrow hat hlt1; have HSB : Hid _ := HSA.out.grow hO hgrow (by decide) (by decide) (by decide); have hcb := HSB.out.c; obtain ⟨g0, f0⟩ := HSB.out.cell 1 rfl)
      have HX : Hid (Sit w B b g cap ts br bc 42 #[.string ⟨#[]⟩, .slice none 0 0, .slice none 0 0, .slice none 0 0, .int .i64 0] #[.string ⟨nm.toArray⟩, (.slice (some ⟨g1, 0, none⟩) (n1 + 1) cap1), .slice none 0 0, .slice none 0 0, .int .i64 t.pl] (stepS netR s4).1 (W1.setCell ⟨bc, 1, none⟩ (.slice (some ⟨g1, 0, none⟩) (n1 + 1) cap1))) := HSB.out.put 1 _
      have HX0 : Hid ((W1.setCell ⟨bc, 1, none⟩ (.slice (some ⟨g1, 0, none⟩) (n1 + 1) cap1)).ownsRow w.heap.size 59 2 ((.slice (some ⟨g1, 0, none⟩) (n1 + 1) cap1)) (n1 + 1) ((ln ++ [((a, bb) : Nat × Int)]).flatMap pfL)) := by rw [List.flatMap_append, List.flatMap_singleton]; exact row_set hown1 hcb (by decide)
      have HLL : Hid (n1 + 1 = ((ln ++ [((a, bb) : Nat × Int)])).length) := by show _ = _; rw [List.length_append, ← HL.out]; rfl
      clear hown1 hgrow hat hlt1 g0 f0 hcb hO hsz
      go_roundg (8 - (n1 + 1))
      case measure => omega
      case rel => exact ⟨n1 + 1, (ln ++ [((a, bb) : Nat × Int)]), _, _, by omega, (⟨HLL.out, HX.out, HX0.out, HG.out.2⟩ : _ ∧ _ ∧ _ ∧ _)⟩
end
end Go.Proofs.YtejhgifadohbiaaDoor
