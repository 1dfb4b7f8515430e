/- ParseCut. -/
import Derived.Test.YtejhgifadohbiaaGreatDoorVR
import Derived.Test.YtejhgifadohbiaaGreatDoorVQ
import Derived.Test.YtejhgifadohbiaaGreatDoorUV
import Derived.Test.YtejhgifadohbiaaGreatDoorPW
import Derived.Test.YtejhgifadohbiaaGreatDoorVTa
namespace Go.Proofs.YtejhgifadohbiaaGreatDoor
open Go.RowKit Go.Lib

set_option maxHeartbeats 32000000 in
set_option maxRecDepth 20000 in
theorem parseCut_walk (s : ShD) (hok : s.ok) (v : Value) (a : Nat) (ha : a < 65536) (w : World) (hv : ShAt w w.heap.size v s) (hw : Laid w) (ht : TabP w) :
    Calls Tryz.prog 6 #[v, .int .u16 a] w fun e w' => e = .returned (.bool true) ∧ Below w.heap.size w w' := by
  have HSH : Hid (ShAt w w.heap.size v s) := hv
  have HW : Hid (Laid w ∧ TabP w) := ⟨hw, ht⟩
  have HOK : Hid s.ok := hok
  have hsnd := conf_sound hok
  have hlen : (confT (confS s)).length ≤ 65536 := Nat.le_trans (confS_text hok) (by decide)
  obtain ⟨l, hl⟩ : ∃ l, l = confT (confS s) := ⟨_, rfl⟩
  obtain ⟨k, hk⟩ : ∃ k, k = a % (l.length + 1) := ⟨_, rfl⟩
  have hkl : k ≤ l.length := by
    have := Nat.mod_lt a (show 0 < l.length + 1 by omega)
    omega
  have hcut := cut_read hsnd hlen (k := k) (by rw [← hl]; exact hkl)
  rw [← hl] at hcut hlen
  have HD : Hid ((confS s).sound ∧ l = confT (confS s)) := ⟨hsnd, hl⟩
  have hpa := fun W => paconfig_any (l.take k) (by rw [List.length_take]; omega) W
  obtain ⟨T, hT⟩ : ∃ T : ByteArray, T = ⟨l.toArray⟩ := ⟨_, rfl⟩
  obtain ⟨R, hR⟩ : ∃ T : ByteArray, T = ⟨(l.take k).toArray⟩ := ⟨_, rfl⟩
  rw [← hR] at hpa
  have hsz : T.size = l.length := by rw [hT, str_size]
  have eR : T.extract 0 k = R := by rw [hR, extract_eq, hT]; simp
  have rk : ((a : Int) % ((T.size : Int) + 1)) = (k : Int) := by rw [hsz, hk]; exact (Int.natCast_emod a (l.length + 1)).symm
  have HIX : Hid (∀ j (h : j < T.size), T[j] = l.getD j 0) := idx_at (by rw [hT])
  have HX2 : Hid (1 < k → (T.extract (k - 2) k).toList = [l.getD (k - 2) 0, l.getD (k - 1) 0]) := fun h1 => by
    rw [extract_eq, hT, ByteArray.toList_eq, show k - (k - 2) = 2 by omega]
    exact two_at h1 hkl
  have HT : Hid (T = ⟨l.toArray⟩) := hT
  have HK : Hid (∀ W, Calls Tryz.prog 10 #[.string R] W (PaOut W (readP (l.take k)))) := hpa
  have HC : Hid ((∃ d, readP (l.take k) = .inr d) ↔ wholeP (l.take k)) := hcut
  have k1 : (k : Int) ≤ T.size := by omega
  have tz : T.size ≤ 65536 := by omega
  have t0 : ¬ ((T.size : Int) + 1 = 0) := by omega
  have HKL : Hid (k ≤ l.length ∧ T.size = l.length) := ⟨hkl, hsz⟩
  obtain ⟨lv, mv, nv, tv, wv, rfl, ⟨la, lc, hlv, _⟩, ⟨ma, mc, hmv, _⟩, ⟨na, nc, hnv, _⟩, ⟨ta, tc, htv, _⟩, ⟨wa, wc, hwv, _⟩⟩ := hv
  subst hlv hmv hnv htv hwv
  obtain ⟨sn, hsn⟩ : ∃ n, n = s.n := ⟨_, rfl⟩
  obtain ⟨l1, hl1⟩ : ∃ n, n = s.links.length := ⟨_, rfl⟩
  obtain ⟨l2, hl2⟩ : ∃ n, n = s.maps.length := ⟨_, rfl⟩
  obtain ⟨l3, hl3⟩ : ∃ n, n = s.names.length := ⟨_, rfl⟩
  obtain ⟨l4, hl4⟩ : ∃ n, n = s.nets.length := ⟨_, rfl⟩
  obtain ⟨l5, hl5⟩ : ∃ n, n = s.ways.length := ⟨_, rfl⟩
  rw [← hsn, ← hl1, ← hl2, ← hl3, ← hl4, ← hl5] at HSH ⊢
  clear hT hk hl hkl hcut hlen hsnd hw ht hok hsn hl1 hl2 hl3 hl4 hl5 hpa hR hsz
  go_enter Tryz.func6, Tryz.ntmps6
  go_upto_region 1 with fail
  obtain ⟨b1, hb1⟩ : ∃ b, b = w.heap.size := ⟨_, rfl⟩
  rw [← hb1]
  obtain ⟨W, hW⟩ : ∃ Z, Z = w.alloc (.cells #[.int .u8 sn, .slice la l1 lc, .slice ma l2 mc, .slice na l3 nc, .slice ta l4 tc, .slice wa l5 wc] 25) := ⟨_, rfl⟩
  rw [← hW]
  obtain ⟨q1, r1, _⟩ := box_at w _ hW hb1
  have h0 := awake8_any W (laid_below HW.out.1 q1)
  clear hW hb1
  go_wp2_with fail
  refine h0.mono ?_
  rintro e U ⟨rfl, qU⟩
  have HU : Hid (Below w.heap.size w U) := bel_up q1 qU q1.size
  obtain ⟨S0, S1, S2, S3, S4, S5⟩ := cells_six' (pf_block qU r1)
  have hc := sconf_own s HOK.out _ U (HSH.out.keep HU.out.size (cells_below HU.out (Nat.le_refl _)))
  clear h0 qU q1 r1
  go_wp2_with fail
  refine hc.mono ?_
  rintro e V ⟨cm, cr, lm, lr, rfl, ho, hm1, hm2, qV⟩
  have HV : Hid (Below w.heap.size w V) := bel_up HU.out qV HU.out.size
  have htc := tconf_any (confS s) HD.out.1.ok HD.out.1.bulk _ V (ho.at hm1 hm2) (HW.out.2.below HV.out)
  rw [← HD.out.2, ← HT.out] at htc
  clear hc ho hm1 hm2 qV HU S0 S1 S2 S3 S4 S5
  go_wp2_with fail
  refine htc.mono ?_
  rintro e Z ⟨rfl, qZ⟩
  have HZ : Hid (Below w.heap.size w Z) := bel_up HV.out qZ HV.out.size
  have hk := HK.out Z
  clear htc qZ HV
  go_wp2_with fail
  rw [rk]
  clear eR rk t0
  cases hr : readP (l.take k) with
  | inl kp =>
    rw [hr] at hk
    unfold PaOut faV at hk
    dsimp only at hk
    have HWP : Hid (¬ wholeP (l.take k)) := by
      intro h
      obtain ⟨d, hd⟩ := HC.out.2 h
      rw [hr] at hd
      cases hd
    clear hr
    refine hk.mono ?_
    rintro e Y ⟨rfl, qY⟩
    have HY : Hid (Below w.heap.size w Y) := bel_up HZ.out qY HZ.out.size
    clear hk qY
    go_upto_region 6 with fail
    obtain ⟨X, hX⟩ : ∃ Z, Z = Y.alloc (.cells #[.slice none 0 0, .slice none 0 0] 31) := ⟨_, rfl⟩
    rw [← hX]
    have HX : Hid (Below w.heap.size w X) := bel_up HY.out (by rw [hX]; exact bel_alloc (Below.refl _ _) _) HY.out.size
    clear hX
    have hk0 : 0 < k := by
      rcases Nat.eq_zero_or_pos k with h | h
      · exact absurd (by rw [h]; exact whole_nil l) HWP.out
      · exact h
    have c0 : ((k : Int) == 0) = false := by rw [beq_eq_false_iff_ne]; omega
    obtain ⟨m, hm⟩ : ∃ m, m = k - 1 := ⟨_, rfl⟩
    have rm : (k : Int) - 1 = (m : Int) := by omega
    have hmt : m < T.size := by have := HKL.out; omega
    obtain ⟨x, hx⟩ : ∃ x : Nat, x = (l.getD (k - 1) 0).toNat := ⟨_, rfl⟩
    have hi2 : T[m].toNat = x := by rw [HIX.out m hmt, hm, hx]
    have m0 : (0 : Int) ≤ m := by omega
    have m9 : (m : Int) < T.size := by omega
    have h125 : l.getD (k - 1) 0 ≠ 125 := fun h => HWP.out (whole_brace hk0 HKL.out.1 h)
    have c1 : ((x : Int) == 125) = false := by
      rw [beq_eq_false_iff_ne, hx]
      intro h
      exact h125 (UInt8.toNat_inj.1 (by rw [show (l.getD (k - 1) 0).toNat = 125 by omega]; rfl))
    have HNW : Hid _ := whole_not hk0 HKL.out.1 h125
    clear hx hm h125
    by_cases h1 : 1 < k
    · skip
      obtain ⟨m2, hm2⟩ : ∃ m, m = k - 2 := ⟨_, rfl⟩
      have rm2 : (k : Int) - 2 = (m2 : Int) := by omega
      have mm : (m2 : Int) ≤ k := by omega
      have mm0 : (0 : Int) ≤ m2 := by omega
      obtain ⟨R2, hR2⟩ : ∃ r, r = T.extract m2 k := ⟨_, rfl⟩
      have e2 : T.extract m2 k = R2 := hR2.symm
      have e3 : (R2.toList == [125, 10]) = false := by
        rw [hR2, hm2, HX2.out h1]
        rw [beq_eq_false_iff_ne]
        intro h
        injection h with ha hb
        injection hb with hb _
        exact HWP.out (HNW.out.2 ⟨h1, ha, hb⟩)
      have e4 : (R2.toList == (⟨#[125, 10]⟩ : ByteArray).toList) = false := by rw [ByteArray.toList_eq (bs := ⟨#[125, 10]⟩)]; exact e3
      have d1 : decide ((1 : Int) < k) = true := decide_eq_true (by omega)
      clear hR2 hm2
      go_wp2_with fail
      go_ret
      exact ⟨rfl, HX.out⟩
    · have d1 : decide ((1 : Int) < k) = false := decide_eq_false (by omega)
      go_wp2_with fail
      go_ret
      exact ⟨rfl, HX.out⟩
  | inr d =>
    rw [hr] at hk
    unfold PaOut at hk
    have HWP : Hid (wholeP (l.take k)) := HC.out.1 ⟨d, hr⟩
    clear hr
    refine hk.mono ?_
    rintro e Y ⟨mv, rv, _, _, rfl, ho, _, _, qY⟩
    obtain ⟨ma3, mn3, mc3, rfl⟩ := own_slc ho.m
    obtain ⟨ra3, rn3, rc3, rfl⟩ := own_slc ho.r
    clear ho
    have HY : Hid (Below w.heap.size w Y) := bel_up HZ.out qY HZ.out.size
    clear hk qY
    go_upto_region 6 with fail
    obtain ⟨X, hX⟩ : ∃ Z, Z = Y.alloc (.cells #[.slice ma3 mn3 mc3, .slice ra3 rn3 rc3] 31) := ⟨_, rfl⟩
    rw [← hX]
    have HX : Hid (Below w.heap.size w X) := bel_up HY.out (by rw [hX]; exact bel_alloc (Below.refl _ _) _) HY.out.size
    clear hX
    by_cases hk0 : k = 0
    · have c0 : ((k : Int) == 0) = true := by rw [beq_iff_eq]; omega
      have e0 : (k : Int) = 0 := by omega
      go_wp2_with fail
      go_ret
      exact ⟨rfl, HX.out⟩
    have hkp : 0 < k := by omega
    have c0 : ((k : Int) == 0) = false := by rw [beq_eq_false_iff_ne]; omega
    obtain ⟨m, hm⟩ : ∃ m, m = k - 1 := ⟨_, rfl⟩
    have rm : (k : Int) - 1 = (m : Int) := by omega
    have hmt : m < T.size := by have := HKL.out; omega
    obtain ⟨x, hx⟩ : ∃ x : Nat, x = (l.getD (k - 1) 0).toNat := ⟨_, rfl⟩
    have hi2 : T[m].toNat = x := by rw [HIX.out m hmt, hm, hx]
    have m0 : (0 : Int) ≤ m := by omega
    have m9 : (m : Int) < T.size := by omega
    by_cases h125 : l.getD (k - 1) 0 = 125
    · have c1 : ((x : Int) == 125) = true := by rw [beq_iff_eq, hx, h125]; rfl
      clear hx hm h125
      go_wp2_with fail
      go_ret
      exact ⟨rfl, HX.out⟩
    have c1 : ((x : Int) == 125) = false := by
      rw [beq_eq_false_iff_ne, hx]
      intro h
      exact h125 (UInt8.toNat_inj.1 (by rw [show (l.getD (k - 1) 0).toNat = 125 by omega]; rfl))
    have HNW := (whole_not hkp HKL.out.1 h125).1 HWP.out
    have h1 := HNW.1
    have HN2 : Hid (l.getD (k - 2) 0 = 125 ∧ l.getD (k - 1) 0 = 10) := HNW.2
    clear hx hm h125 HNW
    obtain ⟨m2, hm2⟩ : ∃ m, m = k - 2 := ⟨_, rfl⟩
    have rm2 : (k : Int) - 2 = (m2 : Int) := by omega
    have mm : (m2 : Int) ≤ k := by omega
    have mm0 : (0 : Int) ≤ m2 := by omega
    obtain ⟨R2, hR2⟩ : ∃ r, r = T.extract m2 k := ⟨_, rfl⟩
    have e2 : T.extract m2 k = R2 := hR2.symm
    have e3 : (R2.toList == [125, 10]) = true := by
      rw [hR2, hm2, HX2.out h1]
      rw [HN2.out.1, HN2.out.2]
      rfl
    have e4 : (R2.toList == (⟨#[125, 10]⟩ : ByteArray).toList) = true := by rw [ByteArray.toList_eq (bs := ⟨#[125, 10]⟩)]; exact e3
    have d1 : decide ((1 : Int) < k) = true := decide_eq_true (by omega)
    clear hR2 hm2
    go_wp2_with fail
    go_ret
    exact ⟨rfl, HX.out⟩
end Go.Proofs.YtejhgifadohbiaaGreatDoor
