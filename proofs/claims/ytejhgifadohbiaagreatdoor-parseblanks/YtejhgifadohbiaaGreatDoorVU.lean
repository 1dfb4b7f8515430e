/- ParseBlanks. -/
import Derived.Test.YtejhgifadohbiaaGreatDoorVR
import Derived.Test.YtejhgifadohbiaaGreatDoorVQ
import Derived.Test.YtejhgifadohbiaaGreatDoorUV
import Derived.Test.YtejhgifadohbiaaGreatDoorPW
import Derived.Test.YtejhgifadohbiaaGreatDoorVUa
namespace Go.Proofs.YtejhgifadohbiaaGreatDoor
open Go.RowKit Go.Lib

set_option maxHeartbeats 32000000 in
set_option maxRecDepth 20000 in
theorem parseBlanks_walk (s : ShD) (hok : s.ok) (v : Value) (a : Nat) (ha : a < 256) (w : World) (hv : ShAt w w.heap.size v s) (hw : Laid w) (ht : TabP w) :
    Calls Tryz.prog 5 #[v, .int .u8 a] w fun e w' => e = .returned (.bool true) ∧ Below w.heap.size w w' := by
  have HSH : Hid (ShAt w w.heap.size v s) := hv
  have HW : Hid (Laid w ∧ TabP w) := ⟨hw, ht⟩
  have HOK : Hid s.ok := hok
  have hsnd := conf_sound hok
  have hlen := confS_text hok
  obtain ⟨l, hl⟩ : ∃ l, l = confT (confS s) := ⟨_, rfl⟩
  rw [← hl] at hlen
  obtain ⟨j, hj⟩ : ∃ j, j = a % 4 := ⟨_, rfl⟩
  have hj4 : j < 4 := by omega
  have rj : ((a : Int) % 4) = (j : Int) := by omega
  obtain ⟨F, hF⟩ : ∃ F, F = fillB j := ⟨_, rfl⟩
  have hFl : F.length ≤ 5 := by rw [hF]; exact fill_len j
  have hsm := blow_small (W := F) (l := l) (k := l.length) hFl hlen
  rw [blow_all] at hsm
  obtain ⟨d, hd1, hd2⟩ := read_blown (c := confS s) hsnd (W := F) (V := F) (by rw [hF]; exact fill_void j) (by rw [hF]; exact fill_void j) (by rw [← hl]; omega)
  rw [← hl] at hd1 hd2
  have hpa := fun W => paconfig_any (F ++ blow F l) (by omega) W
  rw [hd1] at hpa
  obtain ⟨T, hT⟩ : ∃ T : ByteArray, T = ⟨l.toArray⟩ := ⟨_, rfl⟩
  obtain ⟨X, hX⟩ : ∃ T : ByteArray, T = ⟨F.toArray⟩ := ⟨_, rfl⟩
  obtain ⟨R, hR⟩ : ∃ T : ByteArray, T = ⟨(F ++ blow F l).toArray⟩ := ⟨_, rfl⟩
  rw [← hR] at hpa
  have hsz : T.size = l.length := by rw [hT, str_size]
  have tz : T.size ≤ 7000 := by omega
  have xz : X.size ≤ 5 := by rw [hX, str_size]; exact hFl
  have HIX : Hid (∀ j (h : j < T.size), T[j] = l.getD j 0) := idx_at (by rw [hT])
  have HT : Hid (T = ⟨l.toArray⟩ ∧ l = confT (confS s) ∧ T.size = l.length ∧ l.length ≤ 7000) := ⟨hT, hl, hsz, hlen⟩
  have HX : Hid (X = ⟨F.toArray⟩ ∧ F.length ≤ 5) := ⟨hX, hFl⟩
  have HR : Hid (R = ⟨(F ++ blow F l).toArray⟩) := hR
  have HD : Hid ((confS s).sound ∧ d.sound ∧ confT d = l) := ⟨hsnd, (read_ok hd1).1, hd2⟩
  have HK : Hid (∀ W, Calls Tryz.prog 10 #[.string R] W (PaOut W (.inr d))) := hpa
  have HJ : Hid (∀ (W : World), (W.alloc (.cells #[.string ⟨#[32, 35, 32, 120, 10]⟩, .string ⟨#[10, 10]⟩, .string ⟨#[9]⟩, .string ⟨#[32, 32]⟩] 9)).cell? ⟨W.heap.size, j, none⟩ = some (.string X)) := by
    intro W
    have h1 := pf_new W (.cells #[.string ⟨#[32, 35, 32, 120, 10]⟩, .string ⟨#[10, 10]⟩, .string ⟨#[9]⟩, .string ⟨#[32, 32]⟩] 9) _ rfl
    rw [hX, hF, cell_of_row _ _ j _ _ _ h1]
    rcases (show j = 0 ∨ j = 1 ∨ j = 2 ∨ j = 3 by omega) with rfl | rfl | rfl | rfl <;> rfl
  obtain ⟨lv, mv, nv, tv, wv, rfl, ⟨la, lc, hlv, _⟩, ⟨ma, mc, hmv, _⟩, ⟨na, nc, hnv, _⟩, ⟨ta, tc, htv, _⟩, ⟨wa, wc, hwv, _⟩⟩ := hv
  subst hlv hmv hnv htv hwv
  obtain ⟨sn, hsn⟩ : ∃ n, n = s.n := ⟨_, rfl⟩
  obtain ⟨l1, hl1⟩ : ∃ n, n = s.links.length := ⟨_, rfl⟩
  obtain ⟨l2, hl2⟩ : ∃ n, n = s.maps.length := ⟨_, rfl⟩
  obtain ⟨l3, hl3⟩ : ∃ n, n = s.names.length := ⟨_, rfl⟩
  obtain ⟨l4, hl4⟩ : ∃ n, n = s.nets.length := ⟨_, rfl⟩
  obtain ⟨l5, hl5⟩ : ∃ n, n = s.ways.length := ⟨_, rfl⟩
  rw [← hsn, ← hl1, ← hl2, ← hl3, ← hl4, ← hl5] at HSH ⊢
  clear hT hX hR hF hj hl hsnd hw ht hok hsn hl1 hl2 hl3 hl4 hl5 hpa hsz hd1 hd2 hsm hFl hlen
  go_enter Tryz.func5, Tryz.ntmps5
  go_upto_region 1 with fail
  obtain ⟨b1, hb1⟩ : ∃ b, b = w.heap.size := ⟨_, rfl⟩
  rw [← hb1]
  obtain ⟨W, hW⟩ : ∃ Z, Z = w.alloc (.cells #[.int .u8 sn, .slice la l1 lc, .slice ma l2 mc, .slice na l3 nc, .slice ta l4 tc, .slice wa l5 wc] 25) := ⟨_, rfl⟩
  rw [← hW]
  obtain ⟨q1, r1, _⟩ := box_at w _ hW hb1
  have h0 := awake8_any W (laid_below HW.out.1 q1)
  clear hW hb1
  go_wp2_with fail
  refine h0.mono ?_
  rintro e U ⟨rfl, qU⟩
  have HU : Hid (Below w.heap.size w U ∧ U.heap[b1]? = some (.cells #[.int .u8 sn, .slice la l1 lc, .slice ma l2 mc, .slice na l3 nc, .slice ta l4 tc, .slice wa l5 wc] 25 (0, 0))) := ⟨bel_up q1 qU q1.size, pf_block qU r1⟩
  obtain ⟨S0, S1, S2, S3, S4, S5⟩ := cells_six' HU.out.2
  have hc := sconf_own s HOK.out _ U (HSH.out.keep HU.out.1.size (cells_below HU.out.1 (Nat.le_refl _)))
  clear h0 qU q1 r1
  go_wp2_with fail
  refine hc.mono ?_
  rintro e V ⟨cm, cr, lm, lr, rfl, ho, hm1, hm2, qV⟩
  have HV : Hid (Below w.heap.size w V ∧ V.heap[b1]? = some (.cells #[.int .u8 sn, .slice la l1 lc, .slice ma l2 mc, .slice na l3 nc, .slice ta l4 tc, .slice wa l5 wc] 25 (0, 0))) := ⟨bel_up HU.out.1 qV HU.out.1.size, pf_block qV HU.out.2⟩
  have htc := tconf_any (confS s) HD.out.1.ok HD.out.1.bulk _ V (ho.at hm1 hm2) (HW.out.2.below HV.out.1)
  rw [← HT.out.2.1, ← HT.out.1] at htc
  clear hc ho hm1 hm2 qV HU S0 S1 S2 S3 S4 S5
  go_wp2_with fail
  refine htc.mono ?_
  rintro e Z ⟨rfl, qZ⟩
  have HZ : Hid (Below w.heap.size w Z ∧ Z.heap[b1]? = some (.cells #[.int .u8 sn, .slice la l1 lc, .slice ma l2 mc, .slice na l3 nc, .slice ta l4 tc, .slice wa l5 wc] 25 (0, 0))) := ⟨bel_up HV.out.1 qZ HV.out.1.size, pf_block qZ HV.out.2⟩
  have hcell := HJ.out Z
  clear htc qZ HV
  have HZ0 : Hid (Below w.heap.size w Z ∧ Z.heap[b1]? = some (.cells #[.int .u8 sn, .slice la l1 lc, .slice ma l2 mc, .slice na l3 nc, .slice ta l4 tc, .slice wa l5 wc] 25 (0, 0))) := HZ
  go_upto_region 6 with fail
  obtain ⟨Z2, hZ2⟩ : ∃ Z2, Z2 = Z.alloc (.cells #[.string ⟨#[32, 35, 32, 120, 10]⟩, .string ⟨#[10, 10]⟩, .string ⟨#[9]⟩, .string ⟨#[32, 32]⟩] 9) := ⟨_, rfl⟩
  rw [← hZ2]
  have qz : Below Z.heap.size Z Z2 := by rw [hZ2]; exact bel_alloc (Below.refl _ _) _
  have HZ2 : Hid (Below w.heap.size w Z2 ∧ Z2.heap[b1]? = some (.cells #[.int .u8 sn, .slice la l1 lc, .slice ma l2 mc, .slice na l3 nc, .slice ta l4 tc, .slice wa l5 wc] 25 (0, 0))) := ⟨bel_up HZ0.out.1 qz HZ0.out.1.size, pf_block qz HZ0.out.2⟩
  clear hZ2 qz hcell HZ HZ0
  go_wp2_with fail
  go_loopg [7, 8] T.size (fun gm vu vk wr => ∃ (k : Nat) (S : ByteArray), k + gm = T.size ∧ vu = .string S ∧ vk = .int .i64 k ∧ Hid (S = ⟨(F ++ blow F (l.take k)).toArray⟩) ∧ Hid (Below w.heap.size w wr ∧ wr.heap[b1]? = some (.cells #[.int .u8 sn, .slice la l1 lc, .slice ma l2 mc, .slice na l3 nc, .slice ta l4 tc, .slice wa l5 wc] 25 (0, 0))))
  case atStart =>
    refine ⟨0, X, Nat.zero_add _, rfl, rfl, ?_, HZ2⟩
    show X = _
    rw [HX.out.1]
    simp [blow]
  case round =>
    obtain ⟨k, S, hk, rfl, rfl, HS, HU⟩ := hrel
    by_cases hlt : k < T.size
    · have d1 : decide ((k : Int) < T.size) = true := decide_eq_true (by omega)
      have hkl : k < l.length := by have := HT.out; omega
      have hsmall := blow_small (W := F) (l := l) (k := k) HX.out.2 HT.out.2.2.2
      have zS : S.size ≤ 50000 := by rw [HS.out, str_size]; exact hsmall
      obtain ⟨x, hx⟩ : ∃ x : Nat, x = (l.getD k 0).toNat := ⟨_, rfl⟩
      have hi2 : T[k].toNat = x := by rw [HIX.out k hlt, hx]
      obtain ⟨P, hP⟩ : ∃ P, P = T.extract k (k + 1) := ⟨_, rfl⟩
      have eP : T.extract k (k + 1) = P := hP.symm
      have hPl : P = ⟨[l.getD k 0].toArray⟩ := by rw [hP]; exact sub_one (by rw [HT.out.1]) hkl
      have zP : P.size ≤ 1 := by rw [hPl]; exact Nat.le_refl 1
      obtain ⟨S1, hS1⟩ : ∃ S1, S1 = S ++ P := ⟨_, rfl⟩
      have e1 : S ++ P = S1 := hS1.symm
      have hS1l : S1 = ⟨(F ++ blow F (l.take k) ++ [l.getD k 0]).toArray⟩ := by rw [hS1, HS.out, hPl, str_add]
      have zS1 : S1.size ≤ 50001 := by rw [hS1l, str_size, List.length_append, List.length_singleton]; omega
      have k0 : (0 : Int) ≤ k := by omega
      have kk : (k : Int) + 1 ≤ T.size := by omega
      have kk2 : (k : Int) ≤ (k : Int) + 1 := by omega
      have hnx := blow_next (W := F) (l := l) hkl
      by_cases hg : x = 32 ∨ x = 59 ∨ x = 10
      · obtain ⟨S2, hS2⟩ : ∃ S2, S2 = S1 ++ X := ⟨_, rfl⟩
        have e2 : S1 ++ X = S2 := hS2.symm
        have H2 : Hid (S2 = ⟨(F ++ blow F (l.take (k + 1))).toArray⟩) := by
          show S2 = _
          rw [hS2, hS1l, HX.out.1, str_add, hnx, if_pos (by unfold gapP; rw [← hx]; simp; omega)]
          simp
        clear hS2 hS1 hS1l hnx hPl hP hx hsmall hkl
        rcases hg with rfl | rfl | rfl
        all_goals
          go_wp2_with fail
          go_roundg (T.size - (k + 1))
          case measure => omega
          case rel => exact ⟨k + 1, S2, by omega, rfl, by go_num, H2, HU⟩
      · have n32 : ((x : Int) == 32) = false := by rw [beq_eq_false_iff_ne]; omega
        have n59 : ((x : Int) == 59) = false := by rw [beq_eq_false_iff_ne]; omega
        have n10 : ((x : Int) == 10) = false := by rw [beq_eq_false_iff_ne]; omega
        have H2 : Hid (S1 = ⟨(F ++ blow F (l.take (k + 1))).toArray⟩) := by
          show S1 = _
          rw [hS1l, hnx, if_neg (by unfold gapP; rw [← hx]; simp; omega)]
          simp
        clear hS1 hS1l hnx hPl hP hx hsmall hkl hg
        go_wp2_with fail
        go_roundg (T.size - (k + 1))
        case measure => omega
        case rel => exact ⟨k + 1, S1, by omega, rfl, by go_num, H2, HU⟩
    · obtain rfl : T.size = k := by omega
      have d1 : decide ((T.size : Int) < T.size) = false := decide_eq_false (by omega)
      have eS : S = R := by rw [HS.out, HR.out, HT.out.2.2.1, List.take_length]
      subst eS
      have hk := HK.out wr
      unfold PaOut at hk
      go_wp2_with fail
      refine hk.mono ?_
      rintro e Y ⟨mv2, rv2, lm2, lr2, rfl, ho2, _, hm2, qY⟩
      obtain ⟨ma2, mn2, mc2, rfl⟩ := own_slc ho2.m
      obtain ⟨ra2, rn2, rc2, rfl⟩ := own_slc ho2.r
      go_upto_region 13 with fail
      obtain ⟨b4, hb4⟩ : ∃ b, b = Y.heap.size := ⟨_, rfl⟩
      rw [← hb4]
      obtain ⟨V5, hV5⟩ : ∃ Z, Z = Y.alloc (.cells #[.slice ma2 mn2 mc2, .slice ra2 rn2 rc2] 31) := ⟨_, rfl⟩
      rw [← hV5]
      obtain ⟨q3, r3, _⟩ := box_at Y _ hV5 hb4
      have HV5 : Hid (Below w.heap.size w V5 ∧ V5.heap[b1]? = some (.cells #[.int .u8 sn, .slice la l1 lc, .slice ma l2 mc, .slice na l3 nc, .slice ta l4 tc, .slice wa l5 wc] 25 (0, 0)) ∧ V5.heap[b4]? = some (.cells #[.slice ma2 mn2 mc2, .slice ra2 rn2 rc2] 31 (0, 0)) ∧ CfAt V5 V5.heap.size (.agg #[.slice ma2 mn2 mc2, .slice ra2 rn2 rc2]) d) :=
        ⟨bel_up (bel_up HU.out.1 qY HU.out.1.size) q3 (Nat.le_trans HU.out.1.size qY.size), pf_block q3 (pf_block qY HU.out.2), r3, read_at (ho2.kept q3) hm2 HD.out.2.1⟩
      clear hV5 hb4 q3 r3 ho2 hm2 qY hk HU HS
      obtain ⟨S0, S1, S2, S3, S4, S5⟩ := cells_six' HV5.out.2.1
      obtain ⟨D0, D1⟩ := cells_two HV5.out.2.2.1
      have l1' := (Array.getElem?_eq_some_iff.1 HV5.out.2.1).1
      have l4' := (Array.getElem?_eq_some_iff.1 HV5.out.2.2.1).1
      have A0 : ∀ p : BelOf V5, p.w.cell? ⟨b1, 0, none⟩ = some _ := bel_cell l1' S0
      have A1 : ∀ p : BelOf V5, p.w.cell? ⟨b1, 1, none⟩ = some _ := bel_cell l1' S1
      have A2 : ∀ p : BelOf V5, p.w.cell? ⟨b1, 2, none⟩ = some _ := bel_cell l1' S2
      have A3 : ∀ p : BelOf V5, p.w.cell? ⟨b1, 3, none⟩ = some _ := bel_cell l1' S3
      have A4 : ∀ p : BelOf V5, p.w.cell? ⟨b1, 4, none⟩ = some _ := bel_cell l1' S4
      have A5 : ∀ p : BelOf V5, p.w.cell? ⟨b1, 5, none⟩ = some _ := bel_cell l1' S5
      have B0 : ∀ p : BelOf V5, p.w.cell? ⟨b4, 0, none⟩ = some _ := bel_cell l4' D0
      have B1 : ∀ p : BelOf V5, p.w.cell? ⟨b4, 1, none⟩ = some _ := bel_cell l4' D1
      have hne := bel_ne V5
      clear S0 S1 S2 S3 S4 S5 D0 D1 l1' l4'
      refine wp_region_plan (C := fun w' => ∃ p : BelOf V5, w' = p.w) [([0, 1, 2, 3, 4], 5), ([], 6), ([], 7), ([], 8)] [] (by kernel_rfl) (by kernel_rfl) rfl ⟨⟨V5.drew, (Below.refl _ _).drew⟩, rfl⟩ (fun _ _ d _ _ h => by cases d <;> exact h) ?_
      refine plan_go rfl ?_
      simp only [pickL, List.getElem?_cons_zero, List.getElem?_cons_succ]
      repeat (go_big_quiet_step (fail))
      refine wpQuiet_nil ?_
      intro Q2 hQ2
      have hc := sconf_own s HOK.out _ V5.drew (HSH.out.keep HV5.out.1.drew.size (cells_below HV5.out.1.drew (Nat.le_refl _)))
      go_wp2_with fail
      refine hc.mono ?_
      rintro e A ⟨cm, cr, lm, lr, rfl, ho, hm1, hm2, qA⟩
      obtain ⟨ma3, mn3, mc3, rfl⟩ := own_slc ho.m
      obtain ⟨ra3, rn3, rc3, rfl⟩ := own_slc ho.r
      have QA : Below V5.heap.size V5 A := ((Below.refl V5.heap.size V5).drew).trans qA
      have hsm := same_any d (confS s) HD.out.2.1.ok HD.out.1.ok HD.out.2.1.bulk HD.out.1.bulk (.agg #[.slice ma2 mn2 mc2, .slice ra2 rn2 rc2]) (.agg #[.slice ma3 mn3 mc3, .slice ra3 rn3 rc3]) A (HV5.out.2.2.2.keep QA.size (cells_below QA (Nat.le_refl _))) (ho.at hm1 hm2) (HW.out.2.below (bel_up HV5.out.1 QA HV5.out.1.size)) T T (by rw [HD.out.2.2]; exact HT.out.1) (by rw [← HT.out.2.1]; exact HT.out.1)
      rw [show (T.toList == T.toList) = true by simp] at hsm
      clear hc ho hm1 hm2 qA
      go_wp2_with fail
      refine hQ2 _ _ ⟨⟨A, QA⟩, rfl⟩ ?_
      clear hQ2 Q2
      refine plan_go rfl ?_
      simp only [pickL]
      refine wpQuiet_nil ?_
      intro Q2 hQ2
      go_wp2_with fail
      refine hsm.mono ?_
      rintro e D ⟨rfl, qD⟩
      have QD : Below V5.heap.size V5 D := bel_up QA qD QA.size
      clear hsm qD
      go_wp2_with fail
      refine hQ2 _ _ ⟨⟨D, QD⟩, rfl⟩ ?_
      clear hQ2 Q2 QA
      refine plan_go rfl ?_
      simp only [pickL]
      refine wpQuiet_nil ?_
      intro Q2 hQ2
      go_wp2_with fail
      refine hQ2 _ _ ⟨⟨D, QD⟩, rfl⟩ ?_
      clear hQ2 Q2
      refine plan_go rfl ?_
      simp only [pickL]
      refine wpQuiet_nil ?_
      intro Q2 hQ2
      go_wp2_with fail
      refine hQ2 _ _ ⟨⟨D, QD⟩, rfl⟩ (plan_end ?_)
      clear hQ2 Q2
      go_wp2_with fail
      go_ret
      exact ⟨rfl, bel_up HV5.out.1 QD HV5.out.1.size⟩
end Go.Proofs.YtejhgifadohbiaaGreatDoor
