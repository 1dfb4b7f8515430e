/- ParseBack. -/
import Derived.Test.YtejhgifadohbiaaGreatDoorVR
import Derived.Test.YtejhgifadohbiaaGreatDoorVQ
import Derived.Test.YtejhgifadohbiaaGreatDoorUV
import Derived.Test.YtejhgifadohbiaaGreatDoorPW
namespace Go.Proofs.YtejhgifadohbiaaGreatDoor
open Go.RowKit Go.Lib

set_option maxHeartbeats 32000000 in
set_option maxRecDepth 20000 in
theorem parseBack_walk (s : ShD) (hok : s.ok) (v : Value) (w : World) (hv : ShAt w w.heap.size v s) (hw : Laid w) (ht : TabP w) :
    Calls Tryz.prog 3 #[v] w fun e w' => e = .returned (.bool true) ∧ Below w.heap.size w w' := by
  have HSH : Hid (ShAt w w.heap.size v s) := hv
  have HW : Hid (Laid w ∧ TabP w) := ⟨hw, ht⟩
  have HOK : Hid s.ok := hok
  have hsnd := conf_sound hok
  have hlen : (confT (confS s)).length ≤ 65536 := Nat.le_trans (confS_text hok) (by decide)
  obtain ⟨d, hd1, hd2⟩ := read_back hsnd hlen
  have HD : Hid ((confS s).sound ∧ d.sound ∧ confT d = confT (confS s)) := ⟨hsnd, (read_ok hd1).1, hd2⟩
  have hk := fun W => paconfig_any (confT (confS s)) hlen W
  rw [hd1] at hk
  obtain ⟨T, hT⟩ : ∃ T : ByteArray, T = ⟨(confT (confS s)).toArray⟩ := ⟨_, rfl⟩
  rw [← hT] at hk
  have HT : Hid (T = ⟨(confT (confS s)).toArray⟩) := hT
  have HK : Hid (∀ W, Calls Tryz.prog 10 #[.string T] W (PaOut W (.inr d))) := hk
  obtain ⟨lv, mv, nv, tv, wv, rfl, ⟨la, lc, hlv, _⟩, ⟨ma, mc, hmv, _⟩, ⟨na, nc, hnv, _⟩, ⟨ta, tc, htv, _⟩, ⟨wa, wc, hwv, _⟩⟩ := hv
  subst hlv hmv hnv htv hwv
  obtain ⟨sn, hsn⟩ : ∃ n, n = s.n := ⟨_, rfl⟩
  obtain ⟨l1, hl1⟩ : ∃ n, n = s.links.length := ⟨_, rfl⟩
  obtain ⟨l2, hl2⟩ : ∃ n, n = s.maps.length := ⟨_, rfl⟩
  obtain ⟨l3, hl3⟩ : ∃ n, n = s.names.length := ⟨_, rfl⟩
  obtain ⟨l4, hl4⟩ : ∃ n, n = s.nets.length := ⟨_, rfl⟩
  obtain ⟨l5, hl5⟩ : ∃ n, n = s.ways.length := ⟨_, rfl⟩
  rw [← hsn, ← hl1, ← hl2, ← hl3, ← hl4, ← hl5] at HSH ⊢
  clear hT hk hd1 hd2 hlen hsnd hw ht hok hsn hl1 hl2 hl3 hl4 hl5
  go_enter Tryz.func3, Tryz.ntmps3
  go_upto_region 1 with fail
  obtain ⟨b1, hb1⟩ : ∃ b, b = w.heap.size := ⟨_, rfl⟩
  rw [← hb1]
  obtain ⟨W, hW⟩ : ∃ Z, Z = w.alloc (.cells #[.int .u8 sn, .slice la l1 lc, .slice ma l2 mc, .slice na l3 nc, .slice ta l4 tc, .slice wa l5 wc] 25) := ⟨_, rfl⟩
  rw [← hW]
  obtain ⟨q1, r1, _⟩ := box_at w _ hW hb1
  have h0 := awake8_any W (laid_below HW.out.1 q1)
  clear hW hb1
  go_wp2_with fail
  refine h0.mono ?_
  rintro e U ⟨rfl, qU⟩
  have HU : Hid (Below w.heap.size w U ∧ U.heap[b1]? = some (.cells #[.int .u8 sn, .slice la l1 lc, .slice ma l2 mc, .slice na l3 nc, .slice ta l4 tc, .slice wa l5 wc] 25 (0, 0))) := ⟨bel_up q1 qU q1.size, pf_block qU r1⟩
  obtain ⟨S0, S1, S2, S3, S4, S5⟩ := cells_six' HU.out.2
  have hc := sconf_own s HOK.out _ U (HSH.out.keep HU.out.1.size (cells_below HU.out.1 (Nat.le_refl _)))
  clear h0 qU q1 r1
  go_wp2_with fail
  refine hc.mono ?_
  rintro e V ⟨cm, cr, lm, lr, rfl, ho, hm1, hm2, qV⟩
  have HV : Hid (Below w.heap.size w V ∧ V.heap[b1]? = some (.cells #[.int .u8 sn, .slice la l1 lc, .slice ma l2 mc, .slice na l3 nc, .slice ta l4 tc, .slice wa l5 wc] 25 (0, 0))) := ⟨bel_up HU.out.1 qV HU.out.1.size, pf_block qV HU.out.2⟩
  have htc := tconf_any (confS s) HD.out.1.ok HD.out.1.bulk _ V (ho.at hm1 hm2) (HW.out.2.below HV.out.1)
  rw [← HT.out] at htc
  clear hc ho hm1 hm2 qV HU S0 S1 S2 S3 S4 S5
  go_wp2_with fail
  refine htc.mono ?_
  rintro e Z ⟨rfl, qZ⟩
  have HZ : Hid (Below w.heap.size w Z ∧ Z.heap[b1]? = some (.cells #[.int .u8 sn, .slice la l1 lc, .slice ma l2 mc, .slice na l3 nc, .slice ta l4 tc, .slice wa l5 wc] 25 (0, 0))) := ⟨bel_up HV.out.1 qZ HV.out.1.size, pf_block qZ HV.out.2⟩
  have hk := HK.out Z
  unfold PaOut at hk
  clear htc qZ HV
  go_wp2_with fail
  refine hk.mono ?_
  rintro e Y ⟨mv2, rv2, lm2, lr2, rfl, ho2, _, hm2, qY⟩
  obtain ⟨ma2, mn2, mc2, rfl⟩ := own_slc ho2.m
  obtain ⟨ra2, rn2, rc2, rfl⟩ := own_slc ho2.r
  go_upto_region 5 with fail
  obtain ⟨b4, hb4⟩ : ∃ b, b = Y.heap.size := ⟨_, rfl⟩
  rw [← hb4]
  obtain ⟨X, hX⟩ : ∃ Z, Z = Y.alloc (.cells #[.slice ma2 mn2 mc2, .slice ra2 rn2 rc2] 31) := ⟨_, rfl⟩
  rw [← hX]
  obtain ⟨q3, r3, _⟩ := box_at Y _ hX hb4
  have HX : Hid (Below w.heap.size w X ∧ X.heap[b1]? = some (.cells #[.int .u8 sn, .slice la l1 lc, .slice ma l2 mc, .slice na l3 nc, .slice ta l4 tc, .slice wa l5 wc] 25 (0, 0)) ∧ X.heap[b4]? = some (.cells #[.slice ma2 mn2 mc2, .slice ra2 rn2 rc2] 31 (0, 0)) ∧ CfAt X X.heap.size (.agg #[.slice ma2 mn2 mc2, .slice ra2 rn2 rc2]) d) :=
    ⟨bel_up (bel_up HZ.out.1 qY HZ.out.1.size) q3 (Nat.le_trans HZ.out.1.size qY.size), pf_block q3 (pf_block qY HZ.out.2), r3, read_at (ho2.kept q3) hm2 HD.out.2.1⟩
  clear hX hb4 q3 r3 ho2 hm2 qY hk HZ
  obtain ⟨S0, S1, S2, S3, S4, S5⟩ := cells_six' HX.out.2.1
  obtain ⟨D0, D1⟩ := cells_two HX.out.2.2.1
  have l1' := (Array.getElem?_eq_some_iff.1 HX.out.2.1).1
  have l4' := (Array.getElem?_eq_some_iff.1 HX.out.2.2.1).1
  have A0 : ∀ p : BelOf X, p.w.cell? ⟨b1, 0, none⟩ = some _ := bel_cell l1' S0
  have A1 : ∀ p : BelOf X, p.w.cell? ⟨b1, 1, none⟩ = some _ := bel_cell l1' S1
  have A2 : ∀ p : BelOf X, p.w.cell? ⟨b1, 2, none⟩ = some _ := bel_cell l1' S2
  have A3 : ∀ p : BelOf X, p.w.cell? ⟨b1, 3, none⟩ = some _ := bel_cell l1' S3
  have A4 : ∀ p : BelOf X, p.w.cell? ⟨b1, 4, none⟩ = some _ := bel_cell l1' S4
  have A5 : ∀ p : BelOf X, p.w.cell? ⟨b1, 5, none⟩ = some _ := bel_cell l1' S5
  have B0 : ∀ p : BelOf X, p.w.cell? ⟨b4, 0, none⟩ = some _ := bel_cell l4' D0
  have B1 : ∀ p : BelOf X, p.w.cell? ⟨b4, 1, none⟩ = some _ := bel_cell l4' D1
  have hne := bel_ne X
  clear S0 S1 S2 S3 S4 S5 D0 D1 l1' l4'
  refine wp_region_plan (C := fun w' => ∃ p : BelOf X, w' = p.w) [([0, 1, 2, 3, 4], 5), ([], 6), ([], 7), ([], 8), ([9, 11], 10), ([], 12), ([], 13), ([], 14)] [] (by kernel_rfl) (by kernel_rfl) rfl ⟨⟨X.drew, (Below.refl _ _).drew⟩, rfl⟩ (fun _ _ d _ _ h => by cases d <;> exact h) ?_
  refine plan_go rfl ?_
  simp only [pickL, List.getElem?_cons_zero, List.getElem?_cons_succ]
  repeat (go_big_quiet_step (fail))
  refine wpQuiet_nil ?_
  intro Q2 hQ2
  have hc := sconf_own s HOK.out _ X.drew (HSH.out.keep HX.out.1.drew.size (cells_below HX.out.1.drew (Nat.le_refl _)))
  go_wp2_with fail
  refine hc.mono ?_
  rintro e A ⟨cm, cr, lm, lr, rfl, ho, hm1, hm2, qA⟩
  obtain ⟨ma3, mn3, mc3, rfl⟩ := own_slc ho.m
  obtain ⟨ra3, rn3, rc3, rfl⟩ := own_slc ho.r
  have QA : Below X.heap.size X A := ((Below.refl X.heap.size X).drew).trans qA
  have hsm := same_any d (confS s) HD.out.2.1.ok HD.out.1.ok HD.out.2.1.bulk HD.out.1.bulk (.agg #[.slice ma2 mn2 mc2, .slice ra2 rn2 rc2]) (.agg #[.slice ma3 mn3 mc3, .slice ra3 rn3 rc3]) A (HX.out.2.2.2.keep QA.size (cells_below QA (Nat.le_refl _))) (ho.at hm1 hm2) (HW.out.2.below (bel_up HX.out.1 QA HX.out.1.size)) T T (by rw [HD.out.2.2]; exact HT.out) HT.out
  rw [show (T.toList == T.toList) = true by simp] at hsm
  clear hc ho hm1 hm2 qA
  go_wp2_with fail
  refine hQ2 _ _ ⟨⟨A, QA⟩, rfl⟩ ?_
  clear hQ2 Q2
  refine plan_go rfl ?_
  simp only [pickL]
  refine wpQuiet_nil ?_
  intro Q2 hQ2
  go_wp2_with fail
  refine hsm.mono ?_
  rintro e D ⟨rfl, qD⟩
  have QD : Below X.heap.size X D := bel_up QA qD QA.size
  clear hsm qD
  go_wp2_with fail
  refine hQ2 _ _ ⟨⟨D, QD⟩, rfl⟩ ?_
  clear hQ2 Q2 QA
  refine plan_go rfl ?_
  simp only [pickL]
  refine wpQuiet_nil ?_
  intro Q2 hQ2
  go_wp2_with fail
  refine hQ2 _ _ ⟨⟨D, QD⟩, rfl⟩ ?_
  clear hQ2 Q2
  refine plan_go rfl ?_
  simp only [pickL]
  refine wpQuiet_nil ?_
  intro Q2 hQ2
  go_wp2_with fail
  refine hQ2 _ _ ⟨⟨D, QD⟩, rfl⟩ ?_
  clear hQ2 Q2
  refine plan_go rfl ?_
  simp only [pickL, List.getElem?_cons_zero, List.getElem?_cons_succ]
  repeat (go_big_quiet_step (fail))
  refine wpQuiet_nil ?_
  intro Q2 hQ2
  have htc := tconf_any d HD.out.2.1.ok HD.out.2.1.bulk (.agg #[.slice ma2 mn2 mc2, .slice ra2 rn2 rc2]) D (HX.out.2.2.2.keep QD.size (cells_below QD (Nat.le_refl _))) (HW.out.2.below (bel_up HX.out.1 QD HX.out.1.size))
  rw [HD.out.2.2, ← HT.out] at htc
  go_wp2_with fail
  refine htc.mono ?_
  rintro e E ⟨rfl, qE⟩
  have QE : Below X.heap.size X E := bel_up QD qE QD.size
  clear htc qE
  go_wp2_with fail
  refine hQ2 _ _ ⟨⟨E, QE⟩, rfl⟩ ?_
  clear hQ2 Q2 QD
  have htt : (T.toList == T.toList) = true := by simp
  refine plan_go rfl ?_
  simp only [pickL]
  refine wpQuiet_nil ?_
  intro Q2 hQ2
  go_wp2_with fail
  refine hQ2 _ _ ⟨⟨E, QE⟩, rfl⟩ ?_
  clear hQ2 Q2
  refine plan_go rfl ?_
  simp only [pickL]
  refine wpQuiet_nil ?_
  intro Q2 hQ2
  go_wp2_with fail
  refine hQ2 _ _ ⟨⟨E, QE⟩, rfl⟩ ?_
  clear hQ2 Q2
  refine plan_go rfl ?_
  simp only [pickL]
  refine wpQuiet_nil ?_
  intro Q2 hQ2
  go_wp2_with fail
  refine hQ2 _ _ ⟨⟨E, QE⟩, rfl⟩ (plan_end ?_)
  clear hQ2 Q2
  go_wp2_with fail
  go_ret
  exact ⟨rfl, bel_up HX.out.1 QE HX.out.1.size⟩
end Go.Proofs.YtejhgifadohbiaaGreatDoor
