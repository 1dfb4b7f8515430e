/- ParseAgain. -/
import Derived.Test.YtejhgifadohbiaaGreatDoorVW
import Derived.Test.YtejhgifadohbiaaGreatDoorPX
import Derived.Test.YtejhgifadohbiaaGreatDoorUZ
namespace Go.Proofs.YtejhgifadohbiaaGreatDoor
open Go.RowKit Go.Lib

/-- What was read, as it lies. -/
theorem read_at {B : Nat} {W : World} {mv rv : Value} {lm : List MpV} {lr : List RoV} {c : CfD} (h : ConfOwn B W mv rv lm lr) (hm : lm.map (·.1) = c.maps ∧ lr.map (·.1) = c.ros) (hs : c.sound) : CfAt W W.heap.size (.agg #[mv, rv]) c := by
  have h1 : lm.length = c.maps.length := by rw [← hm.1, List.length_map]
  have h2 : lr.length = c.ros.length := by rw [← hm.2, List.length_map]
  have := conf_rows h.m h.mc h.r h.rc ⟨by have := hs.ml; omega, by have := hs.rl; omega⟩ (fun p hp => by
    have : p.1 ∈ c.maps := by rw [← hm.1]; exact List.mem_map_of_mem hp
    have := (hs.m _ this).l
    omega) (fun p hp => by
    have : p.1 ∈ c.ros := by rw [← hm.2]; exact List.mem_map_of_mem hp
    have h5 := hs.r _ this
    have := h5.tn
    have := h5.ln
    have := h5.sn
    omega)
  rw [hm.1, hm.2] at this
  exact this
set_option maxHeartbeats 16000000 in
set_option maxRecDepth 20000 in
theorem parseAgain_walk (s : ByteArray) (w : World) (hw : Laid w) (ht : TabP w) :
    Calls Tryz.prog 4 #[.string s] w fun e w' => e = .returned (.bool true) ∧ Below w.heap.size w w' := by
  have h0 := awake8_any w hw
  have HW : Hid (Laid w ∧ TabP w) := ⟨hw, ht⟩
  clear hw ht
  by_cases hlen : 3000 < s.size
  · have d1 : decide ((3000 : Int) < s.size) = true := decide_eq_true (by omega)
    go_enter Tryz.func4, Tryz.ntmps4
    go_wp2_with fail
    refine h0.mono ?_
    rintro e U ⟨rfl, qU⟩
    clear h0
    go_wp2_with fail
    go_ret
    exact ⟨rfl, qU⟩
  · have d1 : decide ((3000 : Int) < s.size) = false := decide_eq_false (by omega)
    obtain ⟨l, hl⟩ : ∃ l, l = s.data.toList := ⟨_, rfl⟩
    have es : s = ⟨l.toArray⟩ := by rw [hl]
    have hsz : s.size = l.length := by rw [es, str_size]
    have hk := fun W => paconfig_any l (by omega) W
    rw [← es] at hk
    clear es hl
    have n0 : (s.size : Int) ≤ 3000 := by omega
    go_enter Tryz.func4, Tryz.ntmps4
    go_wp2_with fail
    refine h0.mono ?_
    rintro e U ⟨rfl, qU⟩
    clear h0
    have HU : Hid (Below w.heap.size w U) := qU
    have hk2 := hk U
    clear qU hk
    cases hr : readP l with
    | inl kp =>
      obtain ⟨k, p⟩ := kp
      have HE : Hid _ := read_err hr
      have HSZ : Hid (s.size = l.length) := hsz
      rw [hr] at hk2
      unfold PaOut faV at hk2
      dsimp only at hk2
      clear hr hsz
      go_wp2_with fail
      refine hk2.mono ?_
      rintro e V ⟨rfl, qV⟩
      have HV : Hid (Below w.heap.size w V) := bel_up HU.out qV HU.out.size
      clear hk2 qV HU
      go_upto_region 6 with fail
      obtain ⟨b1, hb1⟩ : ∃ b, b = V.heap.size := ⟨_, rfl⟩
      rw [← hb1]
      obtain ⟨V2, hV2⟩ : ∃ Z, Z = V.alloc (.cells #[.slice none 0 0, .slice none 0 0] 31) := ⟨_, rfl⟩
      rw [← hV2]
      obtain ⟨q2, r2, _⟩ := box_at V _ hV2 hb1
      have HV2 : Hid (Below w.heap.size w V2) := bel_up HV.out q2 HV.out.size
      clear hV2 q2 hb1 HV
      go_wp2_with fail
      refine (number_fault k p _ (laid_below HW.out.1 HV2.out)).mono ?_
      rintro e Z1 ⟨rfl, q1⟩
      have HZ : Hid (Below w.heap.size w Z1) := bel_up HV2.out q1 HV2.out.size
      have r3 := pf_block q1 r2
      clear q1 r2 HV2
      go_wp2_with fail
      refine (place_fault k p _ (laid_below HW.out.1 HZ.out)).mono ?_
      rintro e Z2 ⟨rfl, q2⟩
      have HZ2 : Hid (Below w.heap.size w Z2) := bel_up HZ.out q2 HZ.out.size
      obtain ⟨C0, C1⟩ := cells_two (pf_block q2 r3)
      clear q2 r3 HZ
      have p0 : decide ((0 : Int) ≤ p) = true := decide_eq_true (by omega)
      have p1 : decide ((p : Int) ≤ s.size) = true := decide_eq_true (by have := HE.out.2; have := HSZ.out; omega)
      have p2 : decide (p ≤ s.size) = true := decide_eq_true (by have := HE.out.2; have := HSZ.out; omega)
      rcases HE.out.1 with h | h | h | h | h
      all_goals
        subst h
        go_wp2_with fail
        go_ret
        exact ⟨rfl, HZ2.out⟩
    | inr c =>
      have hs := (read_ok hr).1
      obtain ⟨d, hd1, hd2⟩ := read_again hr (by omega)
      have hds := (read_ok hd1).1
      have hdl := (read_ok hd1).2.1
      have HC : Hid (c.sound ∧ d.sound ∧ confT d = confT c) := ⟨hs, hds, hd2⟩
      have hk3 := fun W => paconfig_any (confT c) hdl W
      rw [hd1] at hk3
      obtain ⟨T, hT⟩ : ∃ T : ByteArray, T = ⟨(confT c).toArray⟩ := ⟨_, rfl⟩
      rw [← hT] at hk3
      have HT : Hid (T = ⟨(confT c).toArray⟩) := hT
      have HK : Hid (∀ W, Calls Tryz.prog 10 #[.string T] W (PaOut W (.inr d))) := hk3
      rw [hr] at hk2
      unfold PaOut at hk2
      clear hr hsz hs hds hd1 hd2 hdl hT hk3
      go_wp2_with fail
      refine hk2.mono ?_
      rintro e V ⟨mv, rv, lm, lr, rfl, ho, _, hm, qV⟩
      obtain ⟨ma, mn, mc, rfl⟩ := own_slc ho.m
      obtain ⟨ra, rn, rc, rfl⟩ := own_slc ho.r
      have HV : Hid (Below w.heap.size w V) := bel_up HU.out qV HU.out.size
      clear hk2 qV HU
      go_upto_region 6 with fail
      obtain ⟨b1, hb1⟩ : ∃ b, b = V.heap.size := ⟨_, rfl⟩
      rw [← hb1]
      obtain ⟨V2, hV2⟩ : ∃ Z, Z = V.alloc (.cells #[.slice ma mn mc, .slice ra rn rc] 31) := ⟨_, rfl⟩
      rw [← hV2]
      obtain ⟨q2, r2, _⟩ := box_at V _ hV2 hb1
      have HV2 : Hid (Below w.heap.size w V2 ∧ V2.heap[b1]? = some (.cells #[.slice ma mn mc, .slice ra rn rc] 31 (0, 0)) ∧ CfAt V2 V2.heap.size (.agg #[.slice ma mn mc, .slice ra rn rc]) c) := ⟨bel_up HV.out q2 HV.out.size, r2, read_at (ho.kept q2) hm HC.out.1⟩
      obtain ⟨C0, C1⟩ := cells_two r2
      have ht := tconf_any c HC.out.1.ok HC.out.1.bulk (.agg #[.slice ma mn mc, .slice ra rn rc]) V2 HV2.out.2.2 (HW.out.2.below HV2.out.1)
      rw [← HT.out] at ht
      clear hV2 q2 hb1 HV r2 ho hm
      go_wp2_with fail
      refine ht.mono ?_
      rintro e Z ⟨rfl, qZ⟩
      have HZ : Hid (Below w.heap.size w Z ∧ Z.heap[b1]? = some (.cells #[.slice ma mn mc, .slice ra rn rc] 31 (0, 0)) ∧ CfAt Z Z.heap.size (.agg #[.slice ma mn mc, .slice ra rn rc]) c) := ⟨bel_up HV2.out.1 qZ HV2.out.1.size, pf_block qZ HV2.out.2.1, HV2.out.2.2.keep qZ.size (cells_below qZ (Nat.le_refl _))⟩
      have hk := HK.out Z
      unfold PaOut at hk
      clear ht qZ HV2 C0 C1
      go_wp2_with fail
      refine hk.mono ?_
      rintro e Y ⟨mv2, rv2, lm2, lr2, rfl, ho2, _, hm2, qY⟩
      obtain ⟨ma2, mn2, mc2, rfl⟩ := own_slc ho2.m
      obtain ⟨ra2, rn2, rc2, rfl⟩ := own_slc ho2.r
      have HY : Hid (Below w.heap.size w Y ∧ Y.heap[b1]? = some (.cells #[.slice ma mn mc, .slice ra rn rc] 31 (0, 0)) ∧ CfAt Y Y.heap.size (.agg #[.slice ma mn mc, .slice ra rn rc]) c) := ⟨bel_up HZ.out.1 qY HZ.out.1.size, pf_block qY HZ.out.2.1, HZ.out.2.2.keep qY.size (cells_below qY (Nat.le_refl _))⟩
      clear hk qY HZ
      go_upto_region 10 with fail
      obtain ⟨b2, hb2⟩ : ∃ b, b = Y.heap.size := ⟨_, rfl⟩
      rw [← hb2]
      obtain ⟨X, hX⟩ : ∃ Z, Z = Y.alloc (.cells #[.slice ma2 mn2 mc2, .slice ra2 rn2 rc2] 31) := ⟨_, rfl⟩
      rw [← hX]
      obtain ⟨q3, r3, _⟩ := box_at Y _ hX hb2
      obtain ⟨C0, C1⟩ := cells_two (pf_block q3 HY.out.2.1)
      obtain ⟨D0, D1⟩ := cells_two r3
      have HX : Hid (Below w.heap.size w X) := bel_up HY.out.1 q3 HY.out.1.size
      have hsm := same_any c d HC.out.1.ok HC.out.2.1.ok HC.out.1.bulk HC.out.2.1.bulk _ _ X (HY.out.2.2.keep q3.size (cells_below q3 (Nat.le_refl _))) (read_at (ho2.kept q3) hm2 HC.out.2.1) (HW.out.2.below HX.out) T T HT.out (by rw [HC.out.2.2]; exact HT.out)
      rw [show (T.toList == T.toList) = true by simp] at hsm
      clear hX hb2 q3 r3 ho2 hm2 HY
      go_wp2_with fail
      refine hsm.mono ?_
      rintro e F ⟨rfl, qF⟩
      clear hsm
      go_wp2_with fail
      go_ret
      exact ⟨rfl, bel_up HX.out qF HX.out.size⟩
end Go.Proofs.YtejhgifadohbiaaGreatDoor
