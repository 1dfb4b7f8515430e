/- CheckLess: what it walks. -/
import Derived.Test.YtcjdjifooaeomaaDoorDWl
namespace Go.Proofs.YtcjdjifooaeomaaDoor
open Go.RowKit Go.Lib

set_option maxHeartbeats 16000000 in
set_option maxRecDepth 20000 in
theorem checkLess_walk (s : ShD) (hok : s.ok) (v : Value) (q : Nat) (hq : q < 256) (w : World) (hv : ShAt w w.heap.size v s) (hl : Laid w) :
    Calls Tryd.prog 7 #[v, .int .u8 q] w fun e w' => e = .returned (.bool true) ∧ Below w.heap.size w w' := by
  have HV : Hid (ShAt w w.heap.size v s) := hv
  obtain ⟨lv, mv, nv, tv, wv, rfl, _, _, _, _, _⟩ := hv
  have HL : Hid (Laid w) := hl
  have HOK : Hid s.ok := hok
  have HQB : Hid (q < 256) := hq
  have q0 : (0 : Int) ≤ q := by omega
  have q1 : (q : Int) < 256 := by omega
  obtain ⟨n, hn⟩ : ∃ n, n = s.n := ⟨_, rfl⟩
  rw [← hn] at HV ⊢
  clear hn hl hok hq
  go_enter Tryd.func7, Tryd.ntmps7
  go_upto_region 1 with fail
  obtain ⟨b1, hb1⟩ : ∃ b, b = w.heap.size := ⟨_, rfl⟩
  rw [← hb1]
  obtain ⟨U, hU⟩ : ∃ U, U = w.alloc (.cells #[.int .u8 n, lv, mv, nv, tv, wv] 25) := ⟨_, rfl⟩
  rw [← hU]
  obtain ⟨q1', r1, _⟩ := box_at w _ hU hb1
  have QU : Hid (Below w.heap.size w U ∧ U.heap[b1]? = some (.cells #[.int .u8 n, lv, mv, nv, tv, wv] 25 (0, 0))) := ⟨q1', r1⟩
  have h1 := awake9_any U (laid_below HL.out q1')
  clear hU hb1 q1' r1
  go_wp2_with fail
  refine h1.mono ?_
  rintro e V ⟨rfl, qV⟩
  have QV : Hid (Below w.heap.size w V) := bel_up QU.out.1 qV QU.out.1.size
  obtain ⟨C0, C1, C2, C3, C4, C5⟩ := cells_six' (pf_block qV QU.out.2)
  have h2 := sconf_own s HOK.out _ V (HV.out.keep QV.out.size (cells_below QV.out (Nat.le_refl _)))
  clear h1 qV
  go_wp2_with fail
  refine h2.mono ?_
  rintro e Y ⟨mv, rv, lm, lr, rfl, ho, hm1, hr1, qY⟩
  have QY : Hid (Below w.heap.size w Y) := bel_up QV.out qY QV.out.size
  have HO : Hid (ConfOwn w.heap.size Y mv rv lm lr) := by
    have hB := QV.out.size
    exact ⟨own_le ho.m hB, fun p hp => own_le (ho.mc p hp) hB, own_le ho.r hB, fun p hp => ⟨own_le (ho.rc p hp).1 hB, own_le (ho.rc p hp).2.1 hB, own_le (ho.rc p hp).2.2 hB⟩⟩
  have HMR : Hid (lm.map (·.1) = (confS s).maps ∧ lr.map (·.1) = (confS s).ros) := ⟨hm1, hr1⟩
  obtain ⟨am, cm, rfl⟩ := own_form HO.out.m
  obtain ⟨ar, cr, rfl⟩ := own_form HO.out.r
  obtain ⟨n1, hn1⟩ : ∃ n, n = lm.length := ⟨_, rfl⟩
  obtain ⟨n2, hn2⟩ : ∃ n, n = lr.length := ⟨_, rfl⟩
  have HN : Hid (n1 = lm.length ∧ n2 = lr.length ∧ n1 ≤ 100 ∧ n2 ≤ 100) := by
    have hs := conf_small (Nat.mod_lt s.n (by decide)) hm1 hr1
    exact ⟨hn1, hn2, by omega, by omega⟩
  rw [← hn1, ← hn2] at HO ⊢
  clear h2 qY C0 C1 C2 C3 C4 C5 ho hm1 hr1 hn1 hn2
  go_upto_region 5 with fail
  obtain ⟨b5, hb5⟩ : ∃ b, b = Y.heap.size := ⟨_, rfl⟩
  obtain ⟨b6, hb6⟩ : ∃ b, b = Y.heap.size + 1 := ⟨_, rfl⟩
  rw [← hb6, ← hb5]
  obtain ⟨Y1, hY1⟩ : ∃ W, W = Y.alloc (.cells #[.slice am n1 cm, .slice ar n2 cr] 33) := ⟨_, rfl⟩
  rw [← hY1]
  obtain ⟨Y2, hY2⟩ : ∃ W, W = Y1.alloc (.cells #[.slice none 0 0, .slice none 0 0] 33) := ⟨_, rfl⟩
  rw [← hY2]
  obtain ⟨p1, r1, _⟩ := box_at Y _ hY1 hb5
  obtain ⟨p2, r2, _⟩ := box_at Y1 _ hY2 (b := b6) (by rw [hY1, hb6]; simp)
  have HC1 : Hid (Below w.heap.size w Y1 ∧ Y1.heap[b5]? = some (.cells #[.slice am n1 cm, .slice ar n2 cr] 33 (0, 0)) ∧ ConfOwn w.heap.size Y1 (.slice am n1 cm) (.slice ar n2 cr) lm lr ∧ b5 < Y1.heap.size) := ⟨bel_up QY.out p1 QY.out.size, r1, HO.out.kept p1, (Array.getElem?_eq_some_iff.1 r1).1⟩
  have HW0 : Hid (WS Y1 b6 (.slice none 0 0) (.slice none 0 0) lr 0 Y2) := ⟨r2, World.ownsRow_nil _ _ _ _, p2, by rw [hb6, hY1]; simp⟩
  clear hY1 hY2 p1 p2 r1 r2 hb5 hb6 HO
  obtain ⟨C0, C1⟩ := cells_two (pf_block HW0.out.b HC1.out.2.1)
  obtain ⟨D0, D1⟩ := cells_two HW0.out.c
  have F0 := free_at HW0.out.c 0
  go_upto_region 6 with fail
  obtain ⟨Y3, hY3⟩ : ∃ W, W = Y2.setCell ⟨b6, 0, none⟩ (.slice am n1 cm) := ⟨_, rfl⟩
  rw [← hY3]
  have HW1 : Hid (WS Y1 b6 (.slice am n1 cm) (.slice none 0 0) lr 0 Y3) := by
    rw [hY3]
    exact ⟨set_at (i := 0) HW0.out.c _, World.ownsRow_nil _ _ _ _, HW0.out.b.setCell HW0.out.o _, HW0.out.o⟩
  clear hY3 C0 C1 D0 D1 F0 HW0
  obtain ⟨C0, C1⟩ := cells_two (pf_block HW1.out.b HC1.out.2.1)
  go_upto_region 7 with fail
  clear C0 C1
  obtain ⟨k0, hk0, hl0, hl1, hl2⟩ := info_parts infoRo
  have HIR : Hid (Tryd.prog.info? 48 = some k0 ∧ k0.zero = some (.agg #[.string ⟨#[]⟩, .slice none 0 0, .slice none 0 0, .slice none 0 0, .int .i64 0]) ∧ k0.size = 5 ∧ k0.bytes = 96) := ⟨hk0, hl0, hl1, hl2⟩
  have hrs : SliceAt Y1.heap.size 5 (RowAt Y1 roL) (.slice ar n2 cr) lr := slice_of_own2 roL (fun _ => rfl) (fun b o p _ _ hcl => hcl) (by have := HN.out; omega) HC1.out.2.2.1.r
  have HRS : Hid (∀ i p, lr[i]? = some p → ∃ b off, ar = some ⟨b, off, none⟩ ∧ b < Y1.heap.size ∧ RowAt Y1 roL b (off + i * 5) p) := by
    obtain ⟨ad, cap, e, _, h⟩ := hrs
    injection e with e _ _
    rw [e]
    exact h
  clear hk0 hl0 hl1 hl2 hrs
  have n2100 : n2 ≤ 100 := HN.out.2.2.2
  go_loopg [27] n2 (fun g i wr => ∃ (k : Nat) (rv : Value), k + g = n2 ∧ i = .int .i64 k ∧ Hid (WS Y1 b6 (.slice am n1 cm) rv lr k wr))
  case atStart => exact ⟨0, _, Nat.zero_add _, rfl, HW1⟩
  case round =>
    obtain ⟨k, rv, hk, rfl, HW⟩ := hrel
    by_cases hlt : k < n2
    · obtain ⟨p, hp⟩ : ∃ x, lr[k]? = some x := ⟨lr[k]'(by have := HN.out.2.1; omega), List.getElem?_eq_getElem _⟩
      obtain ⟨bx, ox, rfl, hbx, hrow⟩ := HRS.out k p hp
      have hcell : ∀ j u, (roL p)[j]? = some u → wr.cell? ⟨bx, ox + k * 5 + j, none⟩ = some u := fun j u hu => cells_below HW.out.b (Nat.le_refl _) _ _ _ hbx (hrow j u hu)
      obtain ⟨⟨pn, pnets, plks, psts, ppl⟩, pnv, plv, psv⟩ := p
      have M0 : wr.cell? ⟨bx, ox + k * 5, none⟩ = some (.string ⟨pn.toArray⟩) := hcell 0 _ rfl
      have M1 : wr.cell? ⟨bx, ox + k * 5 + 1, none⟩ = some pnv := hcell 1 _ rfl
      have M2 : wr.cell? ⟨bx, ox + k * 5 + 2, none⟩ = some plv := hcell 2 _ rfl
      have M3 : wr.cell? ⟨bx, ox + k * 5 + 3, none⟩ = some psv := hcell 3 _ rfl
      have M4 : wr.cell? ⟨bx, ox + k * 5 + 4, none⟩ = some (.int .i64 ppl) := hcell 4 _ rfl
      have hrc := HC1.out.2.2.1.rc _ (List.mem_of_getElem? hp)
      obtain ⟨na, nc, e1⟩ := own_form hrc.1
      obtain ⟨la, lc, e2⟩ := own_form hrc.2.1
      obtain ⟨sa, sc, e3⟩ := own_form hrc.2.2
      dsimp only at e1 e2 e3
      subst e1
      subst e2
      subst e3
      obtain ⟨nn, hnn⟩ : ∃ n, n = pnets.length := ⟨_, rfl⟩
      obtain ⟨nl, hnl⟩ : ∃ n, n = plks.length := ⟨_, rfl⟩
      obtain ⟨ns, hns⟩ : ∃ n, n = psts.length := ⟨_, rfl⟩
      obtain ⟨nm, hnm⟩ : ∃ x : ByteArray, x = ⟨pn.toArray⟩ := ⟨_, rfl⟩
      rw [← hnm] at M0
      rw [← hnn] at M1
      rw [← hnl] at M2
      rw [← hns] at M3
      have HP : Hid (nn = pnets.length ∧ nm = ⟨pn.toArray⟩) := ⟨hnn, hnm⟩
      have HPL : Hid (lr[k]? = some ((⟨pn, pnets, plks, psts, ppl⟩ : RoD), .slice na pnets.length nc, .slice la plks.length lc, .slice sa psts.length sc)) := hp
      have d4 : decide ((k : Int) < n2) = true := decide_eq_true (by omega)
      have c0 : (0 : Int) ≤ k := by omega
      have c1 : (k : Int) ≤ 100 := by omega
      clear hp hrow hcell hrc hbx hnn hnl hns hnm
      go_upto_region 9 with fail
      obtain ⟨b8, hb8⟩ : ∃ b, b = wr.heap.size := ⟨_, rfl⟩
      rw [← hb8]
      obtain ⟨X, hX⟩ : ∃ X, X = wr.alloc (.cells #[.string nm, .slice na nn nc, .slice la nl lc, .slice sa ns sc, .int .i64 ppl] 48) := ⟨_, rfl⟩
      rw [← hX]
      obtain ⟨qX, rX, _⟩ := box_at wr _ hX hb8
      have HX : Hid (WS Y1 b6 (.slice am n1 cm) rv lr k X) := ⟨pf_block qX HW.out.c, own_bel HW.out.r qX, bel_up HW.out.b qX HW.out.b.size, HW.out.o⟩
      obtain ⟨Z0, Z1, Z2, Z3, Z4⟩ := cells_five rX
      obtain ⟨ra, rc, rfl⟩ := own_form HX.out.r
      obtain ⟨D0, D1⟩ := cells_two HX.out.c
      obtain ⟨hk0, hl0, hl1, hl2⟩ := HIR.out
      have HNW : Hid (∀ (i : Nat) (u : Value), [Value.string nm, .slice na nn nc, .slice none 0 0, .slice none 0 0, .int .i64 0][i]? = some u → ∃ b off, some (⟨X.heap.size, 0, none⟩ : Addr) = some ⟨b, off, none⟩ ∧ (X.alloc (.cells #[.string nm, .slice na nn nc, .slice none 0 0, .slice none 0 0, .int .i64 0] 48)).cell? ⟨b, off + i, none⟩ = some u) := by
        intro i u hu
        refine ⟨_, _, rfl, ?_⟩
        rw [Nat.zero_add]
        exact cell_at (pf_new X (.cells #[.string nm, .slice na nn nc, .slice none 0 0, .slice none 0 0, .int .i64 0] 48) _ rfl) hu
      have hB2 : Y1.heap.size ≤ (X.alloc (.cells #[.string nm, .slice na nn nc, .slice none 0 0, .slice none 0 0, .int .i64 0] 48)).heap.size := by have := HX.out.b.size; simp; omega
      clear M0 M1 M2 M3 M4 hX hb8 qX rX HW
      go_upto_region 10 with (at_builtin; refine wpList_append_sl rfl _ _ _ rfl Y1.heap.size 48 k0 _ 5 96 Tryd.underlying31 hk0 hl0 hl1 hl2 rfl (by omega) (.slice ra k rc) k (((lr.take k).map bareV).flatMap roL) rfl (HX.out.r.alloc _) (some ⟨X.heap.size, 0, none⟩) 1 1 [.string nm, .slice na nn nc, .slice none 0 0, .slice none 0 0, .int .i64 0] rfl rfl HNW.out (by simp [Value.oneCell']) (by unfold maxLen; omega) (by omega) hB2 ?_; intro v1 W3 hown1 hgrow hat; obtain ⟨qa, qc, rfl⟩ := own_form hown1; have c1 := (KeptT.grown (E := [48]) (L := []) (HX.out.r.alloc _) hgrow (List.mem_singleton.2 rfl)).2 _ _ _ _ (pf_block (bel_alloc (Below.refl _ _) _) HX.out.c) (by decide) (by simp); obtain ⟨D0, D1⟩ := cells_two c1; have F1 := free_at c1 1; have HC3 : Hid (W3.heap[b6]? = some (.cells #[.slice am n1 cm, .slice ra k rc] 33 (0, 0))) := c1; clear c1)
      obtain ⟨X6, hX6⟩ : ∃ W, W = W3.setCell ⟨b6, 1, none⟩ (.slice qa (k + 1) qc) := ⟨_, rfl⟩
      rw [← hX6]
      have HZ : Hid (WS Y1 b6 (.slice am n1 cm) (.slice qa (k + 1) qc) lr (k + 1) X6) := by
        rw [hX6]
        have hb := own_up (HX.out.r.alloc _) hgrow (bel_alloc HX.out.b _)
        refine ⟨set_at (i := 1) HC3.out _, ?_, hb.setCell HX.out.o _, HX.out.o⟩
        have h := (KeptT.setCell (E := []) (List.mem_singleton.2 rfl) (.slice qa (k + 1) qc)).own hown1 (by simp) (own_off hown1 HC3.out (by decide)) (w' := W3.setCell ⟨b6, 1, none⟩ (.slice qa (k + 1) qc))
        rw [take_map HPL.out]
        rw [HP.out.1, HP.out.2] at h
        exact h
      clear hX6 hown1 hgrow hat D0 D1 F1 HNW hB2 Z0 Z1 Z2 Z3 Z4 hk0 hl0 hl1 hl2 HC3 HX
      go_wp2_with fail
      go_roundg (n2 - (k + 1))
      case measure => omega
      case rel => exact ⟨k + 1, _, by omega, by go_num, HZ⟩
    · obtain rfl : n2 = k := by omega
      have d4 : decide ((n2 : Int) < n2) = false := decide_eq_false (by omega)
      have HWE : Hid (WS Y1 b6 (.slice am n1 cm) rv lr lr.length wr) := by
        have h := HW.out
        rw [HN.out.2.1] at h
        exact h
      obtain ⟨rb, cb, rfl⟩ := own_form HW.out.r
      have h3 := config_any (bare_fit (confS_fit HOK.out)) (HWE.out.conf HC1.out.2.2.1 HC1.out.1.size HMR.out.1 HMR.out.2)
      rw [bare_right (confS_right s)] at h3
      unfold errV at h3
      dsimp only at h3
      have HE : Hid (Below Y1.heap.size Y1 wr) := HWE.out.b
      obtain ⟨D0, D1⟩ := cells_two HWE.out.c
      obtain ⟨W0, hW0⟩ : ∃ W, W = wr := ⟨_, rfl⟩
      rw [← hW0] at h3 HE D0 D1 ⊢
      clear hW0 HW HWE HW1
      go_wp2_with fail
      refine h3.mono ?_
      rintro e Z ⟨rfl, qZ⟩
      have QZ : Hid (Below Y1.heap.size Y1 Z) := bel_up HE.out qZ HE.out.size
      clear h3 qZ D0 D1 HE
      obtain ⟨C0, C1⟩ := cells_two (pf_block QZ.out HC1.out.2.1)
      by_cases hn1 : n1 = 0
      · subst hn1
        go_wp2_with fail
        go_ret
        exact ⟨rfl, bel_up HC1.out.1 QZ.out HC1.out.1.size⟩
      · have hz0 : ¬ (n1 : Int) = 0 := by omega
        have hz1 : ¬ (n1 : Int) = -1 := by omega
        obtain ⟨i, hi⟩ : ∃ i, i = q % n1 := ⟨_, rfl⟩
        have hik : i < n1 := by rw [hi]; exact Nat.mod_lt _ (by omega)
        have fi : ((q : Int) % (n1 : Int)) = (i : Int) := by rw [hi, Int.natCast_emod]
        have i0 : (0 : Int) ≤ i := by omega
        have i1 : (i : Int) < n1 := by omega
        have di : decide (i < n1) = true := decide_eq_true hik
        have n1100 : n1 ≤ 100 := HN.out.2.2.1
        clear hi
        have HI : Hid (i < n1) := hik
        obtain ⟨pm, hpm⟩ : ∃ x, lm[i]? = some x := ⟨lm[i]'(by have := HN.out.1; omega), List.getElem?_eq_getElem _⟩
        have hms : SliceAt Y1.heap.size 3 (RowAt Y1 mpL) (.slice am n1 cm) lm := slice_of_own2 mpL (fun _ => rfl) (fun b o p _ _ hcl => hcl) (by have := HN.out; omega) HC1.out.2.2.1.m
        obtain ⟨bm, om, rfl, hbm, hrm⟩ : ∃ b off, am = some ⟨b, off, none⟩ ∧ b < Y1.heap.size ∧ RowAt Y1 mpL b (off + i * 3) pm := by
          obtain ⟨ad, cap, e, _, h⟩ := hms
          injection e with e _ _
          rw [e]
          exact h i pm hpm
        obtain ⟨MN, hMN⟩ : ∃ x : ByteArray, x = ⟨pm.1.name.toArray⟩ := ⟨_, rfl⟩
        have hmc := hrm 0 _ rfl
        have HMN : Hid (Y1.cell? ⟨bm, om + i * 3, none⟩ = some (.string MN) ∧ bm < Y1.heap.size) := by
          rw [hMN]
          exact ⟨hmc, hbm⟩
        have HPM : Hid (MN = ⟨pm.1.name.toArray⟩ ∧ lm[i]? = some pm) := ⟨hMN, hpm⟩
        clear hpm hms hrm hbm hmc hMN hik
        go_upto_region 18 with fail
        clear C0 C1
        have HZ0 : Hid (Below Y1.heap.size Y1 Z) := QZ.out
        go_loopg [58, 10] n2 (fun g ii iv wr => ∃ (k : Nat) (nd : Bool), k + g = n2 ∧ ii = .int .i64 k ∧ iv = .bool nd ∧ Hid (Below Y1.heap.size Y1 wr ∧ nd = ((lr.take k).any fun r => r.1.lks.any (namesL pm.1.name))))
        case atStart => exact ⟨0, false, Nat.zero_add _, rfl, rfl, HZ0.out, rfl⟩
        case round =>
          obtain ⟨k, nd, hk, rfl, rfl, HW⟩ := hrel
          by_cases hlt : k < n2
          · obtain ⟨p, hp⟩ : ∃ x, lr[k]? = some x := ⟨lr[k]'(by have := HN.out.2.1; omega), List.getElem?_eq_getElem _⟩
            obtain ⟨bx, ox, rfl, hbx, hrow⟩ := HRS.out k p hp
            have hcell : ∀ j u, (roL p)[j]? = some u → wr.cell? ⟨bx, ox + k * 5 + j, none⟩ = some u := fun j u hu => cells_below HW.out.1 (Nat.le_refl _) _ _ _ hbx (hrow j u hu)
            obtain ⟨⟨pn, pnets, plks, psts, ppl⟩, pnv, plv, psv⟩ := p
            have M0 : wr.cell? ⟨bx, ox + k * 5, none⟩ = some (.string ⟨pn.toArray⟩) := hcell 0 _ rfl
            have M1 : wr.cell? ⟨bx, ox + k * 5 + 1, none⟩ = some pnv := hcell 1 _ rfl
            have M2 : wr.cell? ⟨bx, ox + k * 5 + 2, none⟩ = some plv := hcell 2 _ rfl
            have M3 : wr.cell? ⟨bx, ox + k * 5 + 3, none⟩ = some psv := hcell 3 _ rfl
            have M4 : wr.cell? ⟨bx, ox + k * 5 + 4, none⟩ = some (.int .i64 ppl) := hcell 4 _ rfl
            have hrc := HC1.out.2.2.1.rc _ (List.mem_of_getElem? hp)
            have hs := (conf_small (Nat.mod_lt s.n (by decide)) HMR.out.1 HMR.out.2).2.2 _ (List.mem_of_getElem? hp)
            obtain ⟨na, nc, e1⟩ := own_form hrc.1
            obtain ⟨la, lc, e2⟩ := own_form hrc.2.1
            obtain ⟨sa, sc, e3⟩ := own_form hrc.2.2
            dsimp only at e1 e2 e3
            subst e1
            subst e2
            subst e3
            have hls : SliceAt Y1.heap.size 5 (RowAt Y1 lkL) (.slice la plks.length lc) plks := slice_of_own2 lkL (fun _ => rfl) (fun b o p _ _ hcl => hcl) (by have := hs.2.1; dsimp only at this; omega) hrc.2.1
            obtain ⟨nn, hnn⟩ : ∃ n, n = pnets.length := ⟨_, rfl⟩
            obtain ⟨nl, hnl⟩ : ∃ n, n = plks.length := ⟨_, rfl⟩
            obtain ⟨ns, hns⟩ : ∃ n, n = psts.length := ⟨_, rfl⟩
            obtain ⟨nm, hnm⟩ : ∃ x : ByteArray, x = ⟨pn.toArray⟩ := ⟨_, rfl⟩
            have nl100 : nl ≤ 100 := by rw [hnl]; exact hs.2.1
            rw [← hnm] at M0
            rw [← hnn] at M1
            rw [← hnl] at M2 hls
            rw [← hns] at M3
            have HLS : Hid (∀ i x, plks[i]? = some x → ∃ b off, la = some ⟨b, off, none⟩ ∧ b < Y1.heap.size ∧ RowAt Y1 lkL b (off + i * 5) x) := by
              obtain ⟨ad, cap, e, _, h⟩ := hls
              injection e with e _ _
              rw [e]
              exact h
            have HNL : Hid (nl = plks.length) := hnl
            have htk : ((lr.take (k + 1)).any fun r => r.1.lks.any (namesL pm.1.name)) = (((lr.take k).any fun r => r.1.lks.any (namesL pm.1.name)) || plks.any (namesL pm.1.name)) := by
              rw [List.take_add_one, hp, List.any_append]
              simp
            have HTK : Hid (((lr.take (k + 1)).any fun r => r.1.lks.any (namesL pm.1.name)) = (((lr.take k).any fun r => r.1.lks.any (namesL pm.1.name)) || plks.any (namesL pm.1.name))) := htk
            have d4 : decide ((k : Int) < n2) = true := decide_eq_true (by omega)
            have c0 : (0 : Int) ≤ k := by omega
            have c1 : (k : Int) ≤ 100 := by omega
            clear hp hrow hcell hrc hbx hnn hnl hns hnm hls hs htk
            go_upto_region 20 with fail
            obtain ⟨b8, hb8⟩ : ∃ b, b = wr.heap.size := ⟨_, rfl⟩
            rw [← hb8]
            obtain ⟨X, hX⟩ : ∃ X, X = wr.alloc (.cells #[.string nm, .slice na nn nc, .slice la nl lc, .slice sa ns sc, .int .i64 ppl] 48) := ⟨_, rfl⟩
            rw [← hX]
            obtain ⟨qX, rX, _⟩ := box_at wr _ hX hb8
            obtain ⟨Z0, Z1, Z2, Z3, Z4⟩ := cells_five rX
            have HBX : Hid (Below Y1.heap.size Y1 X ∧ nd = ((lr.take k).any fun r => r.1.lks.any (namesL pm.1.name))) := ⟨bel_up HW.out.1 qX HW.out.1.size, HW.out.2⟩
            clear M0 M1 M2 M3 M4 hX hb8 qX rX HW
            go_upto_region 21 with fail
            clear Z0 Z1 Z2 Z3 Z4
            have HI3 : Hid (Below Y1.heap.size Y1 X ∧ nd = (((lr.take k).any fun r => r.1.lks.any (namesL pm.1.name)) || (plks.take 0).any (namesL pm.1.name))) := ⟨HBX.out.1, by rw [HBX.out.2]; simp⟩
            go_loopg [65, 10] nl (fun g ii iv wy => ∃ (j : Nat) (nb : Bool), j + g = nl ∧ ii = .int .i64 j ∧ iv = .bool nb ∧ Hid (Below Y1.heap.size Y1 wy ∧ nb = (((lr.take k).any fun r => r.1.lks.any (namesL pm.1.name)) || (plks.take j).any (namesL pm.1.name))))
            case atStart => exact ⟨0, nd, Nat.zero_add _, rfl, rfl, HI3⟩
            case round =>
              obtain ⟨j, nb, hj, rfl, rfl, HJ⟩ := hrel
              by_cases hjl : j < nl
              · obtain ⟨x, hx⟩ : ∃ x, plks[j]? = some x := ⟨plks[j]'(by have := HNL.out; omega), List.getElem?_eq_getElem _⟩
                obtain ⟨bl, ol, rfl, hbl, hrow⟩ := HLS.out j x hx
                have hcell : ∀ i u, (lkL x)[i]? = some u → wr.cell? ⟨bl, ol + j * 5 + i, none⟩ = some u := fun i u hu => cells_below HJ.out.1 (Nat.le_refl _) _ _ _ hbl (hrow i u hu)
                have M0 : wr.cell? ⟨bl, ol + j * 5, none⟩ = some (.string ⟨x.peer.toArray⟩) := hcell 0 _ rfl
                have M1 : wr.cell? ⟨bl, ol + j * 5 + 1, none⟩ = some (.int .i64 x.cost) := hcell 1 _ rfl
                have M2 : wr.cell? ⟨bl, ol + j * 5 + 2, none⟩ = some (.string ⟨x.imp.toArray⟩) := hcell 2 _ rfl
                have M3 : wr.cell? ⟨bl, ol + j * 5 + 3, none⟩ = some (.string ⟨x.exp.toArray⟩) := hcell 3 _ rfl
                have M4 : wr.cell? ⟨bl, ol + j * 5 + 4, none⟩ = some (.int .i64 x.pl) := hcell 4 _ rfl
                have e1 := beq_str x.imp pm.1.name
                have e2 := beq_str x.exp pm.1.name
                rw [← HPM.out.1] at e1 e2
                obtain ⟨t1, ht1⟩ : ∃ t : Bool, t = decide (x.imp = pm.1.name) := ⟨_, rfl⟩
                obtain ⟨t2, ht2⟩ : ∃ t : Bool, t = decide (x.exp = pm.1.name) := ⟨_, rfl⟩
                rw [← ht1] at e1
                rw [← ht2] at e2
                have HF : Hid (((plks.take (j + 1)).any (namesL pm.1.name)) = ((plks.take j).any (namesL pm.1.name) || (t1 || t2))) := by
                  show _ = _
                  rw [any_take hx, ht1, ht2]
                  rfl
                obtain ⟨pe, hpe⟩ : ∃ p : ByteArray, p = ⟨x.peer.toArray⟩ := ⟨_, rfl⟩
                obtain ⟨im, him⟩ : ∃ p : ByteArray, p = ⟨x.imp.toArray⟩ := ⟨_, rfl⟩
                obtain ⟨ex, hex⟩ : ∃ p : ByteArray, p = ⟨x.exp.toArray⟩ := ⟨_, rfl⟩
                rw [← hpe] at M0
                rw [← him] at M2 e1
                rw [← hex] at M3 e2
                have d6 : decide ((j : Int) < nl) = true := decide_eq_true (by omega)
                have c2 : (0 : Int) ≤ j := by omega
                have c3 : (j : Int) ≤ 100 := by omega
                clear hx hrow hcell hbl ht1 ht2 hpe him hex
                go_upto_region 23 with fail
                obtain ⟨b14, hb14⟩ : ∃ b, b = wr.heap.size := ⟨_, rfl⟩
                rw [← hb14]
                obtain ⟨T, hT⟩ : ∃ T, T = wr.alloc (.cells #[.string pe, .int .i64 x.cost, .string im, .string ex, .int .i64 x.pl] 50) := ⟨_, rfl⟩
                rw [← hT]
                obtain ⟨qT, rT, _⟩ := box_at wr _ hT hb14
                have HT : Hid (Below Y1.heap.size Y1 T) := bel_up HJ.out.1 qT HJ.out.1.size
                have HNB : Hid (nb = (((lr.take k).any fun r => r.1.lks.any (namesL pm.1.name)) || (plks.take j).any (namesL pm.1.name))) := HJ.out.2
                obtain ⟨Z0, Z1, Z2, Z3, Z4⟩ := cells_five rT
                obtain ⟨C0, C1⟩ := cells_two (pf_block HT.out HC1.out.2.1)
                have MC : T.cell? ⟨bm, om + i * 3, none⟩ = some (.string MN) := cells_below HT.out (Nat.le_refl _) _ _ _ HMN.out.2 HMN.out.1
                clear M0 M1 M2 M3 M4 hT hb14 qT rT HJ
                have HZ : Hid (∀ (m : Nat), Below Y1.heap.size Y1 (T.drewN m) ∧ (nb || (t1 || t2)) = (((lr.take k).any fun r => r.1.lks.any (namesL pm.1.name)) || (plks.take (j + 1)).any (namesL pm.1.name))) := fun m => ⟨bel_drewN HT.out m, by rw [HF.out, HNB.out, Bool.or_assoc]⟩
                clear HF HNB HT
                cases nb
                · cases t1
                  · cases t2
                    · go_quiet (fail)
                      go_wp2_with fail
                      go_roundg (nl - (j + 1))
                      case measure => omega
                      case rel => exact ⟨j + 1, false, by omega, by go_num, rfl, HZ.out _⟩
                    · go_quiet (fail)
                      go_wp2_with fail
                      go_roundg (nl - (j + 1))
                      case measure => omega
                      case rel => exact ⟨j + 1, true, by omega, by go_num, rfl, HZ.out _⟩
                  · go_quiet (fail)
                    go_wp2_with fail
                    go_roundg (nl - (j + 1))
                    case measure => omega
                    case rel => exact ⟨j + 1, true, by omega, by go_num, rfl, HZ.out _⟩
                · go_quiet (fail)
                  go_wp2_with fail
                  go_roundg (nl - (j + 1))
                  case measure => omega
                  case rel => exact ⟨j + 1, true, by omega, by go_num, rfl, HZ.out _⟩
              · obtain rfl : nl = j := by omega
                have d6 : decide ((nl : Int) < nl) = false := decide_eq_false (by omega)
                have HZ : Hid (Below Y1.heap.size Y1 wr ∧ nb = ((lr.take (k + 1)).any fun r => r.1.lks.any (namesL pm.1.name))) := by
                  refine ⟨HJ.out.1, ?_⟩
                  have h := HJ.out.2
                  rw [HNL.out, List.take_length] at h
                  rw [HTK.out]
                  exact h
                clear HJ HI3 HBX
                go_wp2_with fail
                go_roundg (n2 - (k + 1))
                case measure => omega
                case rel => exact ⟨k + 1, nb, by omega, by go_num, rfl, HZ⟩
          · obtain rfl : k = n2 := by omega
            have d4 : decide ((k : Int) < k) = false := decide_eq_false (by omega)
            have HND : Hid (Below Y1.heap.size Y1 wr ∧ nd = namesC (confS s) pm.1.name) := by
              refine ⟨HW.out.1, ?_⟩
              have h := HW.out.2
              rw [HN.out.2.1, List.take_length] at h
              show _ = (confS s).ros.any _
              rw [← HMR.out.2, List.any_map]
              exact h
            have hcm : n1 ≤ cm := by
              have h := own_capV HC1.out.2.2.1.m
              rw [← HN.out.1] at h
              exact h.le
            obtain ⟨W0, hW0⟩ : ∃ W, W = wr := ⟨_, rfl⟩
            rw [← hW0] at HND ⊢
            clear hW0 HW HZ0
            obtain ⟨C0, C1⟩ := cells_two (pf_block HND.out.1 HC1.out.2.1)
            have hlt5 : b5 < W0.heap.size := Nat.lt_of_lt_of_le HC1.out.2.2.2 HND.out.1.size
            go_upto_region 26 with fail
            have E0 := fun p => bel_cell hlt5 C0 p
            have E1 := fun p => bel_cell hlt5 C1 p
            have hne := bel_ne W0
            clear C0 C1
            have i2 : (i : Int) ≤ cm := by omega
            have i3 : (i : Int) + 1 ≤ n1 := by omega
            have i4 : (n1 : Int) ≤ cm := by omega
            obtain ⟨k1, hk0, hl0, hl1, hl2⟩ := info_parts infoMp
            have HIM : Hid (Tryd.prog.info? 57 = some k1 ∧ k1.zero = some (.agg #[.string ⟨#[]⟩, .slice none 0 0, .int .i64 0]) ∧ k1.size = 3 ∧ k1.bytes = 48) := ⟨hk0, hl0, hl1, hl2⟩
            obtain ⟨A2, hA2⟩ : ∃ a, a = (if cm = i + 1 then some (⟨bm, om, none⟩ : Addr) else some ⟨bm, om + (i + 1) * 3, none⟩) := ⟨_, rfl⟩
            have HA2 : Hid (A2 = (if cm = i + 1 then some (⟨bm, om, none⟩ : Addr) else some ⟨bm, om + (i + 1) * 3, none⟩)) := hA2
            clear hA2
            have HNT : Hid (∀ W, Below W0.heap.size W0 W → (∀ j u, ((lm.take i).flatMap mpL)[j]? = some u → ∃ b off, some (⟨bm, om, none⟩ : Addr) = some ⟨b, off, none⟩ ∧ W.cell? ⟨b, off + j, none⟩ = some u) ∧ ∀ j u, ((lm.drop (i + 1)).flatMap mpL)[j]? = some u → ∃ b off, A2 = some ⟨b, off, none⟩ ∧ W.cell? ⟨b, off + j, none⟩ = some u) := by
              intro W hq
              have hm := (HC1.out.2.2.1.kept (bel_up HND.out.1 hq HND.out.1.size)).m
              refine ⟨news_take hm i, ?_⟩
              have h1 := HN.out.1
              have h2 := HI.out
              rw [HA2.out]
              by_cases hci : cm = i + 1
              · rw [if_pos hci]
                intro j u hu
                rw [List.drop_eq_nil_of_le (by omega)] at hu
                simp at hu
              · rw [if_neg hci]
                exact news_drop (f := mpL) (z := 3) (fun _ => rfl) hm (i + 1) (by omega)
            have HLL : Hid (((lm.take i).flatMap mpL).length = i * 3 ∧ ((lm.drop (i + 1)).flatMap mpL).length = (n1 - (i + 1)) * 3 ∧ i + (n1 - (i + 1)) = (lm.take i ++ lm.drop (i + 1)).length) := by
              have h1 := HN.out.1
              have h2 := HI.out
              refine ⟨?_, ?_, ?_⟩
              · rw [flat_len3 mpL 3 (fun _ => rfl), List.length_take, show min i lm.length = i by omega]
              · rw [flat_len3 mpL 3 (fun _ => rfl), List.length_drop, h1]
              · rw [List.length_append, List.length_take, List.length_drop]
                omega
            have HON : Hid ((∀ u ∈ (lm.take i).flatMap mpL, u.oneCell' = true) ∧ ∀ u ∈ (lm.drop (i + 1)).flatMap mpL, u.oneCell' = true) :=
              ⟨mp_one fun p hp => own_one (HC1.out.2.2.1.mc p (List.mem_of_mem_take hp)), mp_one fun p hp => own_one (HC1.out.2.2.1.mc p (List.mem_of_mem_drop hp))⟩
            have HKM : Hid ((confS s).maps[i]? = some pm.1) := by
              show _ = _
              rw [← HMR.out.1, List.getElem?_map, HPM.out.2]
              rfl
            clear hk0 hl0 hl1 hl2
            refine wp_region_planF (C := fun w' => ∃ p : BelOf W0, w' = p.w) 14 [([0, 1, 2, 3, 4, 5, 7, 8, 9, 10, 11], 6), ([], 12), ([], 13)] [([], 15)] [] (by kernel_rfl) (by kernel_rfl) rfl ⟨⟨W0.drew, (Below.refl _ _).drew⟩, rfl⟩ (fun _ _ d _ _ h => by cases d <;> exact h) ?_
            obtain ⟨UD, hUD⟩ : ∃ W, W = W0.drew := ⟨_, rfl⟩
            have QD : Hid (Below W0.heap.size W0 UD) := by rw [hUD]; exact (Below.refl _ _).drew
            rw [← hUD]
            clear hUD
            refine planF_go rfl rfl ?_
            simp only [pickL, List.getElem?_cons_zero, List.getElem?_cons_succ]
            repeat (go_big_quiet_step (fail))
            refine wpQuiet_nil ?_
            clear E0 E1 hne
            rw [← HA2.out]
            refine ⟨fun Q2 hQ2 => ?_, fun Q2 hQ2 => ?_⟩
            · obtain ⟨hk0, hl0, hl1, hl2⟩ := HIM.out
              refine wpList_append_sl rfl _ _ _ rfl W0.heap.size 57 k1 _ 3 48 Tryd.underlying30 hk0 hl0 hl1 hl2 rfl (by omega) (.slice none 0 0) 0 [] rfl (World.ownsRow_nil _ _ _ _) (some ⟨bm, om, none⟩) i cm ((lm.take i).flatMap mpL) rfl HLL.out.1 (HNT.out UD QD.out).1 HON.out.1 (by unfold maxLen; omega) (by omega) QD.out.size ?_
              intro v1 T1 hown1 hgrow _
              clear hk0 hl0 hl1 hl2
              have QT1 : Hid (Below W0.heap.size W0 T1) := own_up (World.ownsRow_nil UD W0.heap.size 57 3) hgrow QD.out
              rw [Nat.zero_add, List.nil_append] at hown1
              obtain ⟨qa, qc, rfl⟩ := own_form hown1
              have HR1 : Hid (T1.ownsRow W0.heap.size 57 3 (.slice qa i qc) i ((lm.take i).flatMap mpL)) := hown1
              clear hown1 hgrow
              go_wp2_with fail
              refine hQ2 _ _ ⟨⟨T1, QT1.out⟩, rfl⟩ ?_
              clear hQ2 Q2
              refine planF_go rfl rfl ?_
              simp only [pickL, List.cons_append, List.nil_append]
              refine wpQuiet_nil ?_
              refine ⟨fun Q2 hQ2 => ?_, fun Q2 hQ2 => ?_⟩
              · obtain ⟨hk0, hl0, hl1, hl2⟩ := HIM.out
                refine wpList_append_sl rfl _ _ _ rfl W0.heap.size 57 k1 _ 3 48 Tryd.underlying30 hk0 hl0 hl1 hl2 rfl (by omega) (.slice qa i qc) i ((lm.take i).flatMap mpL) rfl HR1.out A2 (n1 - (i + 1)) (cm - (i + 1)) ((lm.drop (i + 1)).flatMap mpL) rfl HLL.out.2.1 (HNT.out T1 QT1.out).2 HON.out.2 (by unfold maxLen; omega) (by omega) QT1.out.size ?_
                intro v2 T2 hown2 hgrow _
                clear hk0 hl0 hl1 hl2
                have QT2 : Hid (Below W0.heap.size W0 T2) := own_up HR1.out hgrow QT1.out
                obtain ⟨fn, hfn⟩ : ∃ n, n = i + (n1 - (i + 1)) := ⟨_, rfl⟩
                rw [← hfn] at hown2
                obtain ⟨fa, fc, rfl⟩ := own_form hown2
                have HR2 : Hid (T2.ownsRow W0.heap.size 57 3 (.slice fa fn fc) fn ((lm.take i).flatMap mpL ++ (lm.drop (i + 1)).flatMap mpL) ∧ fn = (lm.take i ++ lm.drop (i + 1)).length) := ⟨hown2, hfn.trans HLL.out.2.2⟩
                clear hown2 hgrow HR1 hfn
                go_wp2_with fail
                refine hQ2 _ _ ⟨⟨T2, QT2.out⟩, rfl⟩ ?_
                clear hQ2 Q2
                refine planF_go rfl rfl ?_
                simp only [pickL, List.nil_append]
                refine wpQuiet_nil ?_
                refine ⟨fun Q2 hQ2 => ?_, fun Q2 hQ2 => ?_⟩
                · go_wp2_with fail
                  refine hQ2 _ _ ⟨⟨T2, QT2.out⟩, rfl⟩ ?_
                  clear hQ2 Q2
                  refine planF_last rfl ?_
                  intro Q2 hQ2
                  go_wp2_with fail
                  obtain ⟨b15, hb15⟩ : ∃ b, b = T2.heap.size := ⟨_, rfl⟩
                  rw [← hb15]
                  obtain ⟨T3, hT3⟩ : ∃ Y, Y = T2.alloc (.cells #[.slice none 0 0, .slice none 0 0] 33) := ⟨_, rfl⟩
                  rw [← hT3]
                  obtain ⟨qY, rY, lY⟩ := box_at T2 _ hT3 hb15
                  have HB15 : Hid (W0.heap.size ≤ b15) := by have := QT2.out.size; show _ ≤ _; omega
                  have QT3 : Hid (Below W0.heap.size W0 T3) := bel_up QT2.out qY QT2.out.size
                  have RY : Hid (T3.heap[b15]? = some (.cells #[.slice none 0 0, .slice none 0 0] 33 (0, 0))) := rY
                  replace HR2 : Hid (T3.ownsRow W0.heap.size 57 3 (.slice fa fn fc) fn ((lm.take i).flatMap mpL ++ (lm.drop (i + 1)).flatMap mpL) ∧ fn = (lm.take i ++ lm.drop (i + 1)).length) := ⟨own_bel HR2.out.1 qY, HR2.out.2⟩
                  clear hT3 qY rY lY hb15
                  refine hQ2 _ _ ⟨⟨T3, QT3.out⟩, rfl⟩ ?_
                  clear hQ2 Q2
                  refine planY_go rfl ?_
                  simp only [pickL]
                  refine wpQuiet_nil ?_
                  intro Q2 hQ2
                  obtain ⟨D0, D1⟩ := cells_two RY.out
                  have F0 := free_at RY.out 0
                  have F1 := free_at RY.out 1
                  go_wp2_with fail
                  obtain ⟨Wf, hWf⟩ : ∃ W, W = (T3.setCell ⟨b15, 0, none⟩ (.slice fa fn fc)).setCell ⟨b15, 1, none⟩ (.slice ar k cr) := ⟨_, rfl⟩
                  rw [← hWf]
                  obtain ⟨QF, RF, HCF⟩ := less_conf HC1.out.2.2.1 HMR.out.1 HMR.out.2 HC1.out.1.size (bel_up HND.out.1 QT3.out HND.out.1.size) (own_le HR2.out.1 HND.out.1.size) HR2.out.2 RY.out (Nat.le_trans HND.out.1.size HB15.out) hWf
                  have HWf : Hid (Below W0.heap.size W0 Wf) := by
                    rw [hWf]
                    exact (QT3.out.setCell HB15.out _).setCell HB15.out _
                  clear hWf D0 D1 F0 F1
                  refine hQ2 _ _ ⟨⟨Wf, HWf.out⟩, rfl⟩ ?_
                  clear hQ2 Q2
                  refine planY_end ?_
                  have h3 := config_any (less_fit (confS_fit HOK.out) i) HCF
                  have HQF : Hid (Below Y1.heap.size Y1 Wf) := QF
                  obtain ⟨X0, X1⟩ := cells_two RF
                  clear QF RF HCF HR2 RY HB15 HNT HLL HON HIM
                  rcases less_said HKM.out with ⟨g1, g2⟩ | ⟨g1, p, g2⟩
                  · have hnd : nd = false := HND.out.2.trans g1
                    subst hnd
                    rw [g2] at h3
                    unfold errV at h3
                    dsimp only at h3
                    clear g1 g2
                    go_wp2_with fail
                    refine h3.mono ?_
                    rintro e Z2 ⟨rfl, qZ2⟩
                    have QZ2 : Hid (Below w.heap.size w Z2) := bel_up HC1.out.1 (bel_up HQF.out qZ2 HQF.out.size) HC1.out.1.size
                    clear h3 qZ2 X0 X1
                    go_wp2_with fail
                    go_ret
                    exact ⟨rfl, QZ2.out⟩
                  · have hnd : nd = true := HND.out.2.trans g1
                    subst hnd
                    rw [g2] at h3
                    unfold errV at h3
                    dsimp only at h3
                    clear g1 g2
                    go_wp2_with fail
                    refine h3.mono ?_
                    rintro e Z2 ⟨rfl, qZ2⟩
                    have QZ2 : Hid (Below w.heap.size w Z2) := bel_up HC1.out.1 (bel_up HQF.out qZ2 HQF.out.size) HC1.out.1.size
                    have h4 := number_fault 3 p Z2 (laid_below HL.out QZ2.out)
                    clear h3 qZ2 X0 X1
                    go_wp2_with fail
                    refine h4.mono ?_
                    rintro e Z4 ⟨rfl, qZ4⟩
                    have QZ4 : Hid (Below w.heap.size w Z4) := bel_up QZ2.out qZ4 QZ2.out.size
                    clear h4 qZ4
                    go_wp2_with fail
                    go_ret
                    exact ⟨rfl, QZ4.out⟩
                · go_wp2_with fail
                  obtain ⟨b15, hb15⟩ : ∃ b, b = T2.heap.size := ⟨_, rfl⟩
                  rw [← hb15]
                  obtain ⟨T3, hT3⟩ : ∃ Y, Y = T2.alloc (.cells #[.slice none 0 0, .slice none 0 0] 33) := ⟨_, rfl⟩
                  rw [← hT3]
                  obtain ⟨qY, rY, lY⟩ := box_at T2 _ hT3 hb15
                  have HB15 : Hid (W0.heap.size ≤ b15) := by have := QT2.out.size; show _ ≤ _; omega
                  have QT3 : Hid (Below W0.heap.size W0 T3) := bel_up QT2.out qY QT2.out.size
                  have RY : Hid (T3.heap[b15]? = some (.cells #[.slice none 0 0, .slice none 0 0] 33 (0, 0))) := rY
                  replace HR2 : Hid (T3.ownsRow W0.heap.size 57 3 (.slice fa fn fc) fn ((lm.take i).flatMap mpL ++ (lm.drop (i + 1)).flatMap mpL) ∧ fn = (lm.take i ++ lm.drop (i + 1)).length) := ⟨own_bel HR2.out.1 qY, HR2.out.2⟩
                  clear hT3 qY rY lY hb15
                  refine hQ2 _ _ ⟨⟨T3, QT3.out⟩, rfl⟩ ?_
                  clear hQ2 Q2
                  refine planY_go rfl ?_
                  simp only [pickL]
                  refine wpQuiet_nil ?_
                  intro Q2 hQ2
                  go_wp2_with fail
                  refine hQ2 _ _ ⟨⟨T3, QT3.out⟩, rfl⟩ ?_
                  clear hQ2 Q2
                  refine planY_go rfl ?_
                  simp only [pickL]
                  refine wpQuiet_nil ?_
                  intro Q2 hQ2
                  obtain ⟨D0, D1⟩ := cells_two RY.out
                  have F0 := free_at RY.out 0
                  have F1 := free_at RY.out 1
                  go_wp2_with fail
                  obtain ⟨Wf, hWf⟩ : ∃ W, W = (T3.setCell ⟨b15, 0, none⟩ (.slice fa fn fc)).setCell ⟨b15, 1, none⟩ (.slice ar k cr) := ⟨_, rfl⟩
                  rw [← hWf]
                  obtain ⟨QF, RF, HCF⟩ := less_conf HC1.out.2.2.1 HMR.out.1 HMR.out.2 HC1.out.1.size (bel_up HND.out.1 QT3.out HND.out.1.size) (own_le HR2.out.1 HND.out.1.size) HR2.out.2 RY.out (Nat.le_trans HND.out.1.size HB15.out) hWf
                  have HWf : Hid (Below W0.heap.size W0 Wf) := by
                    rw [hWf]
                    exact (QT3.out.setCell HB15.out _).setCell HB15.out _
                  clear hWf D0 D1 F0 F1
                  refine hQ2 _ _ ⟨⟨Wf, HWf.out⟩, rfl⟩ ?_
                  clear hQ2 Q2
                  refine planY_end ?_
                  have h3 := config_any (less_fit (confS_fit HOK.out) i) HCF
                  have HQF : Hid (Below Y1.heap.size Y1 Wf) := QF
                  obtain ⟨X0, X1⟩ := cells_two RF
                  clear QF RF HCF HR2 RY HB15 HNT HLL HON HIM
                  rcases less_said HKM.out with ⟨g1, g2⟩ | ⟨g1, p, g2⟩
                  · have hnd : nd = false := HND.out.2.trans g1
                    subst hnd
                    rw [g2] at h3
                    unfold errV at h3
                    dsimp only at h3
                    clear g1 g2
                    go_wp2_with fail
                    refine h3.mono ?_
                    rintro e Z2 ⟨rfl, qZ2⟩
                    have QZ2 : Hid (Below w.heap.size w Z2) := bel_up HC1.out.1 (bel_up HQF.out qZ2 HQF.out.size) HC1.out.1.size
                    clear h3 qZ2 X0 X1
                    go_wp2_with fail
                    go_ret
                    exact ⟨rfl, QZ2.out⟩
                  · have hnd : nd = true := HND.out.2.trans g1
                    subst hnd
                    rw [g2] at h3
                    unfold errV at h3
                    dsimp only at h3
                    clear g1 g2
                    go_wp2_with fail
                    refine h3.mono ?_
                    rintro e Z2 ⟨rfl, qZ2⟩
                    have QZ2 : Hid (Below w.heap.size w Z2) := bel_up HC1.out.1 (bel_up HQF.out qZ2 HQF.out.size) HC1.out.1.size
                    have h4 := number_fault 3 p Z2 (laid_below HL.out QZ2.out)
                    clear h3 qZ2 X0 X1
                    go_wp2_with fail
                    refine h4.mono ?_
                    rintro e Z4 ⟨rfl, qZ4⟩
                    have QZ4 : Hid (Below w.heap.size w Z4) := bel_up QZ2.out qZ4 QZ2.out.size
                    clear h4 qZ4
                    go_wp2_with fail
                    go_ret
                    exact ⟨rfl, QZ4.out⟩
              · go_wp2_with fail
                obtain ⟨b15, hb15⟩ : ∃ b, b = T1.heap.size := ⟨_, rfl⟩
                rw [← hb15]
                obtain ⟨T2, hT2⟩ : ∃ Y, Y = T1.alloc (.cells #[.slice none 0 0, .slice none 0 0] 33) := ⟨_, rfl⟩
                rw [← hT2]
                obtain ⟨qY, rY, lY⟩ := box_at T1 _ hT2 hb15
                have HB15 : Hid (W0.heap.size ≤ b15) := by have := QT1.out.size; show _ ≤ _; omega
                have QT2 : Hid (Below W0.heap.size W0 T2) := bel_up QT1.out qY QT1.out.size
                have RY : Hid (T2.heap[b15]? = some (.cells #[.slice none 0 0, .slice none 0 0] 33 (0, 0))) := rY
                replace HR1 : Hid (T2.ownsRow W0.heap.size 57 3 (.slice qa i qc) i ((lm.take i).flatMap mpL)) := own_bel HR1.out qY
                clear hT2 qY rY lY hb15
                refine hQ2 _ _ ⟨⟨T2, QT2.out⟩, rfl⟩ ?_
                clear hQ2 Q2
                refine planY_go rfl ?_
                simp only [pickL]
                refine wpQuiet_nil ?_
                intro Q2 hQ2
                obtain ⟨hk0, hl0, hl1, hl2⟩ := HIM.out
                refine wpList_append_sl rfl _ _ _ rfl W0.heap.size 57 k1 _ 3 48 Tryd.underlying30 hk0 hl0 hl1 hl2 rfl (by omega) (.slice qa i qc) i ((lm.take i).flatMap mpL) rfl HR1.out A2 (n1 - (i + 1)) (cm - (i + 1)) ((lm.drop (i + 1)).flatMap mpL) rfl HLL.out.2.1 (HNT.out T2 QT2.out).2 HON.out.2 (by unfold maxLen; omega) (by omega) QT2.out.size ?_
                intro v2 T3 hown2 hgrow _
                clear hk0 hl0 hl1 hl2
                have QT3 : Hid (Below W0.heap.size W0 T3) := own_up HR1.out hgrow QT2.out
                replace RY : Hid (T3.heap[b15]? = some (.cells #[.slice none 0 0, .slice none 0 0] 33 (0, 0))) := (KeptT.grown (E := [57]) (L := []) HR1.out hgrow (List.mem_singleton.2 rfl)).2 _ _ _ _ RY.out (by decide) (by simp)
                obtain ⟨fn, hfn⟩ : ∃ n, n = i + (n1 - (i + 1)) := ⟨_, rfl⟩
                rw [← hfn] at hown2
                obtain ⟨fa, fc, rfl⟩ := own_form hown2
                have HR2 : Hid (T3.ownsRow W0.heap.size 57 3 (.slice fa fn fc) fn ((lm.take i).flatMap mpL ++ (lm.drop (i + 1)).flatMap mpL) ∧ fn = (lm.take i ++ lm.drop (i + 1)).length) := ⟨hown2, hfn.trans HLL.out.2.2⟩
                clear hown2 hgrow HR1 hfn
                go_wp2_with fail
                refine hQ2 _ _ ⟨⟨T3, QT3.out⟩, rfl⟩ ?_
                clear hQ2 Q2
                refine planY_go rfl ?_
                simp only [pickL]
                refine wpQuiet_nil ?_
                intro Q2 hQ2
                go_wp2_with fail
                refine hQ2 _ _ ⟨⟨T3, QT3.out⟩, rfl⟩ ?_
                clear hQ2 Q2
                refine planY_go rfl ?_
                simp only [pickL]
                refine wpQuiet_nil ?_
                intro Q2 hQ2
                obtain ⟨D0, D1⟩ := cells_two RY.out
                have F0 := free_at RY.out 0
                have F1 := free_at RY.out 1
                go_wp2_with fail
                obtain ⟨Wf, hWf⟩ : ∃ W, W = (T3.setCell ⟨b15, 0, none⟩ (.slice fa fn fc)).setCell ⟨b15, 1, none⟩ (.slice ar k cr) := ⟨_, rfl⟩
                rw [← hWf]
                obtain ⟨QF, RF, HCF⟩ := less_conf HC1.out.2.2.1 HMR.out.1 HMR.out.2 HC1.out.1.size (bel_up HND.out.1 QT3.out HND.out.1.size) (own_le HR2.out.1 HND.out.1.size) HR2.out.2 RY.out (Nat.le_trans HND.out.1.size HB15.out) hWf
                have HWf : Hid (Below W0.heap.size W0 Wf) := by
                  rw [hWf]
                  exact (QT3.out.setCell HB15.out _).setCell HB15.out _
                clear hWf D0 D1 F0 F1
                refine hQ2 _ _ ⟨⟨Wf, HWf.out⟩, rfl⟩ ?_
                clear hQ2 Q2
                refine planY_end ?_
                have h3 := config_any (less_fit (confS_fit HOK.out) i) HCF
                have HQF : Hid (Below Y1.heap.size Y1 Wf) := QF
                obtain ⟨X0, X1⟩ := cells_two RF
                clear QF RF HCF HR2 RY HB15 HNT HLL HON HIM
                rcases less_said HKM.out with ⟨g1, g2⟩ | ⟨g1, p, g2⟩
                · have hnd : nd = false := HND.out.2.trans g1
                  subst hnd
                  rw [g2] at h3
                  unfold errV at h3
                  dsimp only at h3
                  clear g1 g2
                  go_wp2_with fail
                  refine h3.mono ?_
                  rintro e Z2 ⟨rfl, qZ2⟩
                  have QZ2 : Hid (Below w.heap.size w Z2) := bel_up HC1.out.1 (bel_up HQF.out qZ2 HQF.out.size) HC1.out.1.size
                  clear h3 qZ2 X0 X1
                  go_wp2_with fail
                  go_ret
                  exact ⟨rfl, QZ2.out⟩
                · have hnd : nd = true := HND.out.2.trans g1
                  subst hnd
                  rw [g2] at h3
                  unfold errV at h3
                  dsimp only at h3
                  clear g1 g2
                  go_wp2_with fail
                  refine h3.mono ?_
                  rintro e Z2 ⟨rfl, qZ2⟩
                  have QZ2 : Hid (Below w.heap.size w Z2) := bel_up HC1.out.1 (bel_up HQF.out qZ2 HQF.out.size) HC1.out.1.size
                  have h4 := number_fault 3 p Z2 (laid_below HL.out QZ2.out)
                  clear h3 qZ2 X0 X1
                  go_wp2_with fail
                  refine h4.mono ?_
                  rintro e Z4 ⟨rfl, qZ4⟩
                  have QZ4 : Hid (Below w.heap.size w Z4) := bel_up QZ2.out qZ4 QZ2.out.size
                  clear h4 qZ4
                  go_wp2_with fail
                  go_ret
                  exact ⟨rfl, QZ4.out⟩
            · go_wp2_with fail
              obtain ⟨b15, hb15⟩ : ∃ b, b = UD.heap.size := ⟨_, rfl⟩
              rw [← hb15]
              obtain ⟨T1, hT1⟩ : ∃ Y, Y = UD.alloc (.cells #[.slice none 0 0, .slice none 0 0] 33) := ⟨_, rfl⟩
              rw [← hT1]
              obtain ⟨qY, rY, lY⟩ := box_at UD _ hT1 hb15
              have HB15 : Hid (W0.heap.size ≤ b15) := by have := QD.out.size; show _ ≤ _; omega
              have QT1 : Hid (Below W0.heap.size W0 T1) := bel_up QD.out qY QD.out.size
              have RY : Hid (T1.heap[b15]? = some (.cells #[.slice none 0 0, .slice none 0 0] 33 (0, 0))) := rY
              clear hT1 qY rY lY hb15
              refine hQ2 _ _ ⟨⟨T1, QT1.out⟩, rfl⟩ ?_
              clear hQ2 Q2
              refine planY_go rfl ?_
              simp only [pickL, List.cons_append, List.nil_append]
              refine wpQuiet_nil ?_
              intro Q2 hQ2
              obtain ⟨hk0, hl0, hl1, hl2⟩ := HIM.out
              refine wpList_append_sl rfl _ _ _ rfl W0.heap.size 57 k1 _ 3 48 Tryd.underlying30 hk0 hl0 hl1 hl2 rfl (by omega) (.slice none 0 0) 0 [] rfl (World.ownsRow_nil _ _ _ _) (some ⟨bm, om, none⟩) i cm ((lm.take i).flatMap mpL) rfl HLL.out.1 (HNT.out T1 QT1.out).1 HON.out.1 (by unfold maxLen; omega) (by omega) QT1.out.size ?_
              intro v1 T2 hown1 hgrow _
              clear hk0 hl0 hl1 hl2
              have QT2 : Hid (Below W0.heap.size W0 T2) := own_up (World.ownsRow_nil T1 W0.heap.size 57 3) hgrow QT1.out
              replace RY : Hid (T2.heap[b15]? = some (.cells #[.slice none 0 0, .slice none 0 0] 33 (0, 0))) := (KeptT.grown (E := [57]) (L := []) (World.ownsRow_nil T1 W0.heap.size 57 3) hgrow (List.mem_singleton.2 rfl)).2 _ _ _ _ RY.out (by decide) (by simp)
              rw [Nat.zero_add, List.nil_append] at hown1
              obtain ⟨qa, qc, rfl⟩ := own_form hown1
              have HR1 : Hid (T2.ownsRow W0.heap.size 57 3 (.slice qa i qc) i ((lm.take i).flatMap mpL)) := hown1
              clear hown1 hgrow
              go_wp2_with fail
              refine hQ2 _ _ ⟨⟨T2, QT2.out⟩, rfl⟩ ?_
              clear hQ2 Q2
              refine planY_go rfl ?_
              simp only [pickL]
              refine wpQuiet_nil ?_
              intro Q2 hQ2
              obtain ⟨hk0, hl0, hl1, hl2⟩ := HIM.out
              refine wpList_append_sl rfl _ _ _ rfl W0.heap.size 57 k1 _ 3 48 Tryd.underlying30 hk0 hl0 hl1 hl2 rfl (by omega) (.slice qa i qc) i ((lm.take i).flatMap mpL) rfl HR1.out A2 (n1 - (i + 1)) (cm - (i + 1)) ((lm.drop (i + 1)).flatMap mpL) rfl HLL.out.2.1 (HNT.out T2 QT2.out).2 HON.out.2 (by unfold maxLen; omega) (by omega) QT2.out.size ?_
              intro v2 T3 hown2 hgrow _
              clear hk0 hl0 hl1 hl2
              have QT3 : Hid (Below W0.heap.size W0 T3) := own_up HR1.out hgrow QT2.out
              replace RY : Hid (T3.heap[b15]? = some (.cells #[.slice none 0 0, .slice none 0 0] 33 (0, 0))) := (KeptT.grown (E := [57]) (L := []) HR1.out hgrow (List.mem_singleton.2 rfl)).2 _ _ _ _ RY.out (by decide) (by simp)
              obtain ⟨fn, hfn⟩ : ∃ n, n = i + (n1 - (i + 1)) := ⟨_, rfl⟩
              rw [← hfn] at hown2
              obtain ⟨fa, fc, rfl⟩ := own_form hown2
              have HR2 : Hid (T3.ownsRow W0.heap.size 57 3 (.slice fa fn fc) fn ((lm.take i).flatMap mpL ++ (lm.drop (i + 1)).flatMap mpL) ∧ fn = (lm.take i ++ lm.drop (i + 1)).length) := ⟨hown2, hfn.trans HLL.out.2.2⟩
              clear hown2 hgrow HR1 hfn
              go_wp2_with fail
              refine hQ2 _ _ ⟨⟨T3, QT3.out⟩, rfl⟩ ?_
              clear hQ2 Q2
              refine planY_go rfl ?_
              simp only [pickL]
              refine wpQuiet_nil ?_
              intro Q2 hQ2
              go_wp2_with fail
              refine hQ2 _ _ ⟨⟨T3, QT3.out⟩, rfl⟩ ?_
              clear hQ2 Q2
              refine planY_go rfl ?_
              simp only [pickL]
              refine wpQuiet_nil ?_
              intro Q2 hQ2
              obtain ⟨D0, D1⟩ := cells_two RY.out
              have F0 := free_at RY.out 0
              have F1 := free_at RY.out 1
              go_wp2_with fail
              obtain ⟨Wf, hWf⟩ : ∃ W, W = (T3.setCell ⟨b15, 0, none⟩ (.slice fa fn fc)).setCell ⟨b15, 1, none⟩ (.slice ar k cr) := ⟨_, rfl⟩
              rw [← hWf]
              obtain ⟨QF, RF, HCF⟩ := less_conf HC1.out.2.2.1 HMR.out.1 HMR.out.2 HC1.out.1.size (bel_up HND.out.1 QT3.out HND.out.1.size) (own_le HR2.out.1 HND.out.1.size) HR2.out.2 RY.out (Nat.le_trans HND.out.1.size HB15.out) hWf
              have HWf : Hid (Below W0.heap.size W0 Wf) := by
                rw [hWf]
                exact (QT3.out.setCell HB15.out _).setCell HB15.out _
              clear hWf D0 D1 F0 F1
              refine hQ2 _ _ ⟨⟨Wf, HWf.out⟩, rfl⟩ ?_
              clear hQ2 Q2
              refine planY_end ?_
              have h3 := config_any (less_fit (confS_fit HOK.out) i) HCF
              have HQF : Hid (Below Y1.heap.size Y1 Wf) := QF
              obtain ⟨X0, X1⟩ := cells_two RF
              clear QF RF HCF HR2 RY HB15 HNT HLL HON HIM
              rcases less_said HKM.out with ⟨g1, g2⟩ | ⟨g1, p, g2⟩
              · have hnd : nd = false := HND.out.2.trans g1
                subst hnd
                rw [g2] at h3
                unfold errV at h3
                dsimp only at h3
                clear g1 g2
                go_wp2_with fail
                refine h3.mono ?_
                rintro e Z2 ⟨rfl, qZ2⟩
                have QZ2 : Hid (Below w.heap.size w Z2) := bel_up HC1.out.1 (bel_up HQF.out qZ2 HQF.out.size) HC1.out.1.size
                clear h3 qZ2 X0 X1
                go_wp2_with fail
                go_ret
                exact ⟨rfl, QZ2.out⟩
              · have hnd : nd = true := HND.out.2.trans g1
                subst hnd
                rw [g2] at h3
                unfold errV at h3
                dsimp only at h3
                clear g1 g2
                go_wp2_with fail
                refine h3.mono ?_
                rintro e Z2 ⟨rfl, qZ2⟩
                have QZ2 : Hid (Below w.heap.size w Z2) := bel_up HC1.out.1 (bel_up HQF.out qZ2 HQF.out.size) HC1.out.1.size
                have h4 := number_fault 3 p Z2 (laid_below HL.out QZ2.out)
                clear h3 qZ2 X0 X1
                go_wp2_with fail
                refine h4.mono ?_
                rintro e Z4 ⟨rfl, qZ4⟩
                have QZ4 : Hid (Below w.heap.size w Z4) := bel_up QZ2.out qZ4 QZ2.out.size
                clear h4 qZ4
                go_wp2_with fail
                go_ret
                exact ⟨rfl, QZ4.out⟩
end Go.Proofs.YtcjdjifooaeomaaDoor
