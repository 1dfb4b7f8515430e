/- TextLines: what it walks, where Config is as said. -/
import Derived.Test.YthelllciciohiaaDoorU2
import Derived.Test.YthelllciciohiaaDoorU5A
namespace Go.Proofs.YthelllciciohiaaDoor
open Go.RowKit Go.Lib

theorem idx_str {l : Bs} (k : Nat) (h : k < (⟨l.toArray⟩ : ByteArray).size) : (⟨l.toArray⟩ : ByteArray)[k] = l.getD k 0 := by
  have h' : k < l.length := by rw [str_size] at h; exact h
  rw [List.getD_eq_getElem?_getD, List.getElem?_eq_getElem h']
  rfl
set_option maxHeartbeats 8000000 in
set_option maxRecDepth 20000 in
theorem tlines_any (hsc : ConfSaid) (s : ShD) (hok : s.ok) (v : Value) (w : World) (hv : ShAt w w.heap.size v s) (ht : TabP w) :
    Calls Tryd.prog 7 #[v] w fun e w' => e = .returned (.bool true) ∧ Below w.heap.size w w' := by
  have HV : Hid (ShAt w w.heap.size v s) := hv
  obtain ⟨lv, mv, nv, tv, wv, rfl, _, _, _, _, _⟩ := hv
  have ha := fun w h => awake7_any w h
  obtain ⟨n, hn⟩ : ∃ n, n = s.n := ⟨_, rfl⟩
  rw [← hn] at HV ⊢
  clear hn
  go_enter Tryd.func7, Tryd.ntmps7
  go_wp2_with fail
  obtain ⟨b1, hb1⟩ : ∃ b, b = w.heap.size := ⟨_, rfl⟩
  rw [← hb1]
  obtain ⟨U, hU⟩ : ∃ U, U = w.alloc (.cells #[.int .u8 n, lv, mv, nv, tv, wv] 36) := ⟨_, rfl⟩
  rw [← hU]
  obtain ⟨q1, r1, _⟩ := box_at w _ hU hb1
  have htU := ht.below q1
  clear hU hb1
  refine (ha _ htU).mono ?_
  rintro e V ⟨rfl, qV⟩
  have r1V := pf_block qV r1
  have QV : Hid (Below w.heap.size w V) := bel_up q1 qV q1.size
  have htV := htU.below qV
  have hcc := hsc s hok _ V (HV.out.keep QV.out.size (cells_below QV.out (Nat.le_refl _)))
  obtain ⟨C0, C1, C2, C3, C4, C5⟩ := cells_six' r1V
  clear ha htU qV r1 q1 r1V
  go_wp2_with fail
  refine hcc.mono ?_
  rintro e Y ⟨cv, rfl, hcf, qY⟩
  have QY : Hid (Below w.heap.size w Y) := bel_up QV.out qY QV.out.size
  have HTY : Hid (TabP Y) := htV.below qY
  obtain ⟨c, hc⟩ : ∃ c, c = confS s := ⟨_, rfl⟩
  rw [← hc] at hcf
  have HCF : Hid (CfAt Y Y.heap.size cv c) := hcf
  obtain ⟨m2, r2, rfl, ⟨am, cm, rfl, hm0, hms⟩, ⟨ar, cr, rfl, hr0, hrs⟩⟩ := hcf
  have HMS : Hid (∀ i x, c.maps[i]? = some x → ∃ b off, am = some ⟨b, off, none⟩ ∧ b < Y.heap.size ∧ MpAt Y Y.heap.size b (off + i * 3) x) := hms
  have HRS : Hid (∀ i x, c.ros[i]? = some x → ∃ b off, ar = some ⟨b, off, none⟩ ∧ b < Y.heap.size ∧ RoAt Y Y.heap.size b (off + i * 5) x) := hrs
  have HOK : Hid (c.ok ∧ c.bulk ≤ 1000) := by rw [hc]; exact ⟨(confS_ok hok).1, confS_bulk s⟩
  have HLF : Hid (lf (confT c) = 2 * c.maps.length + 2 * c.ros.length + (c.maps.map fun m => m.cls.length).sum + (c.ros.map RoD.parts).sum ∧ (confT c ≠ [] → (confT c).getLast? = some 10)) := by
    rw [hc]
    exact ⟨conf_lf (conf_flat s).1 (conf_flat s).2, conf_last _⟩
  obtain ⟨n1, hn1⟩ : ∃ n, n = c.maps.length := ⟨_, rfl⟩
  obtain ⟨n2, hn2⟩ : ∃ n, n = c.ros.length := ⟨_, rfl⟩
  rw [← hn1, ← hn2] at HCF
  rw [← hn1] at hm0 ⊢
  rw [← hn2] at hr0 ⊢
  have HN : Hid (n1 = c.maps.length ∧ n2 = c.ros.length) := ⟨hn1, hn2⟩
  have b1' : n1 ≤ 1000 := by
    have h := HOK.out.2
    have h3 : c.maps.length ≤ (c.maps.map MpD.bulk).sum := by
      rw [← sum_one c.maps]
      exact sum_mono _ _ _ fun m _ => by unfold MpD.bulk; omega
    unfold CfD.bulk at h
    omega
  have b2' : n2 ≤ 1000 := by
    have h := HOK.out.2
    have h3 : c.ros.length ≤ (c.ros.map RoD.bulk).sum := by
      rw [← sum_one c.ros]
      exact sum_mono _ _ _ fun m _ => by unfold RoD.bulk; omega
    unfold CfD.bulk at h
    omega
  clear hcc htV hn1 hn2 C0 C1 C2 C3 C4 C5 qY hms hrs hc ht hok
  go_upto_region 4 with fail
  obtain ⟨b3, hb3⟩ : ∃ b, b = Y.heap.size := ⟨_, rfl⟩
  rw [← hb3]
  obtain ⟨X, hX⟩ : ∃ X, X = Y.alloc (.cells #[.slice am n1 cm, .slice ar n2 cr] 40) := ⟨_, rfl⟩
  rw [← hX]
  obtain ⟨qX, rX, _⟩ := box_at Y _ hX hb3
  have HX : Hid (Below w.heap.size w X ∧ Below Y.heap.size Y X ∧ X.heap[b3]? = some (.cells #[.slice am n1 cm, .slice ar n2 cr] 40 (0, 0))) := ⟨bel_up QY.out qX QY.out.size, qX, rX⟩
  obtain ⟨X0, X1⟩ := cells_two rX
  clear hX hb3 qX rX
  go_wp2_with fail
  clear X0 X1
  have HSM : Hid (∀ (k : Nat) (m : MpD), c.maps[k]? = some m → m.cls.length ≤ 1000) := by
    intro k m hm
    have h1 := sum_ge MpD.bulk (List.mem_of_getElem? hm)
    have h2 := HOK.out.2
    unfold CfD.bulk at h2
    unfold MpD.bulk at h1 h2
    omega
  have HSR : Hid (∀ (k : Nat) (r : RoD), c.ros[k]? = some r → r.nets.length ≤ 1000 ∧ r.lks.length ≤ 1000 ∧ r.sts.length ≤ 1000) := by
    intro k r hm
    have h1 := sum_ge RoD.bulk (List.mem_of_getElem? hm)
    have h2 := HOK.out.2
    have h3 : r.lks.length ≤ (r.lks.map LkD.bulk).sum := by
      rw [← sum_one r.lks]
      exact sum_mono _ _ _ fun m _ => by unfold LkD.bulk; omega
    have h4 : r.sts.length ≤ (r.sts.map StD.bulk).sum := by
      rw [← sum_one r.sts]
      exact sum_mono _ _ _ fun m _ => by unfold StD.bulk; omega
    unfold CfD.bulk at h2
    unfold RoD.bulk at h1 h2
    omega
  have HS1 : Hid (∀ k : Nat, ((c.maps.take k).map fun m : MpD => m.cls.length).sum ≤ 1000) := by
    intro k
    have h1 : ((c.maps.take k).map fun m : MpD => m.cls.length).sum ≤ ((c.maps.take k).map MpD.bulk).sum := sum_mono _ _ _ fun m _ => by unfold MpD.bulk; omega
    have h2 : ((c.maps.take k).map MpD.bulk).sum ≤ (c.maps.map MpD.bulk).sum := by
      rw [← List.take_append_drop k c.maps, List.map_append, List.sum_append, List.take_append_drop]
      omega
    have h3 := HOK.out.2
    unfold CfD.bulk at h3
    omega
  have HS2 : Hid (∀ k : Nat, ((c.ros.take k).map RoD.parts).sum ≤ 1000) := by
    intro k
    have h1 : ((c.ros.take k).map RoD.parts).sum ≤ ((c.ros.take k).map RoD.bulk).sum := sum_mono _ _ _ fun r _ => by
      have h3 : r.lks.length ≤ (r.lks.map LkD.bulk).sum := by
        rw [← sum_one r.lks]
        exact sum_mono _ _ _ fun m _ => by unfold LkD.bulk; omega
      have h4 : r.sts.length ≤ (r.sts.map StD.bulk).sum := by
        rw [← sum_one r.sts]
        exact sum_mono _ _ _ fun m _ => by unfold StD.bulk; omega
      unfold RoD.parts RoD.bulk
      omega
    have h2 : ((c.ros.take k).map RoD.bulk).sum ≤ (c.ros.map RoD.bulk).sum := by
      rw [← List.take_append_drop k c.ros, List.map_append, List.sum_append, List.take_append_drop]
      omega
    have h3 := HOK.out.2
    unfold CfD.bulk at h3
    omega
  go_loopg [28, 4] n1 (fun g i a wr => ∃ k S : Nat, k + g = n1 ∧ i = .int .i64 k ∧ a = .int .i64 S ∧ Hid (S = 2 * n1 + 2 * n2 + ((c.maps.take k).map fun m : MpD => m.cls.length).sum ∧ Below X.heap.size X wr))
  case atStart => exact ⟨0, 2 * n1 + 2 * n2, Nat.zero_add _, rfl, by go_num, (⟨rfl, Below.refl _ _⟩ : _ ∧ _)⟩
  case round =>
    obtain ⟨k, S, hk, rfl, rfl, HW⟩ := hrel
    by_cases hlt : k < n1
    · obtain ⟨m, hm⟩ : ∃ m, c.maps[k]? = some m := ⟨c.maps[k]'(by have := HN.out.1; omega), List.getElem?_eq_getElem _⟩
      obtain ⟨b, off, rfl, hb, hmp⟩ := HMS.out k m hm
      obtain ⟨cv, N0, N1, N2, ⟨adc, capc, rfl, hnc, hcs⟩⟩ := hmp
      have HBW : Hid (Below Y.heap.size Y wr) := bel_up HX.out.2.1 HW.out.2 HX.out.2.1.size
      have M0 := cells_below HBW.out (Nat.le_refl _) b _ _ hb N0
      have M1 := cells_below HBW.out (Nat.le_refl _) b _ _ hb N1
      have M2 := cells_below HBW.out (Nat.le_refl _) b _ _ hb N2
      have d4 : decide ((k : Int) < n1) = true := decide_eq_true (by omega)
      have hnc1 := HSM.out k m hm
      have hS : S ≤ 10000 := by
        have h1 := HS1.out k
        have h2 := HW.out.1
        omega
      obtain ⟨N, hN⟩ : ∃ N : ByteArray, N = ⟨m.name.toArray⟩ := ⟨_, rfl⟩
      rw [← hN] at M0
      have HS : Hid (S + m.cls.length = 2 * n1 + 2 * n2 + ((c.maps.take (k + 1)).map fun m => m.cls.length).sum) := by
        show _ = _
        rw [sum_next _ hm, HW.out.1]
        omega
      obtain ⟨nc, hnc2⟩ : ∃ x, x = m.cls.length := ⟨_, rfl⟩
      rw [← hnc2] at M1 HS hnc1
      obtain ⟨pl, hpl⟩ : ∃ x, x = m.pl := ⟨_, rfl⟩
      rw [← hpl] at M2
      have c0 : (0 : Int) ≤ k := by omega
      clear hm hcs hnc hnc2 hN N0 N1 N2 hpl
      go_wp2_with fail
      go_roundg (n1 - (k + 1))
      case measure => omega
      case rel => exact ⟨k + 1, S + nc, by omega, by go_num, by go_num, (⟨HS.out, bel_up HW.out.2 (bel_alloc (Below.refl _ _) _) HW.out.2.size⟩ : _ ∧ _)⟩
    · obtain rfl : n1 = k := by omega
      have d4 : decide ((n1 : Int) < n1) = false := decide_eq_false (by omega)
      have HSF : Hid (S = 2 * n1 + 2 * n2 + (c.maps.map fun m => m.cls.length).sum) := by
        have := HW.out.1
        rw [HN.out.1, List.take_length, ← HN.out.1] at this
        exact this
      obtain ⟨Y0, Y1⟩ := cells_two (pf_block HW.out.2 HX.out.2.2)
      go_wp2_with fail
      clear Y0 Y1
      go_loopg [41, 4] n2 (fun g i a wz => ∃ k S2 : Nat, k + g = n2 ∧ i = .int .i64 k ∧ a = .int .i64 S2 ∧ Hid (S2 = S + ((c.ros.take k).map RoD.parts).sum ∧ Below X.heap.size X wz))
      case atStart => exact ⟨0, S, Nat.zero_add _, rfl, rfl, (⟨rfl, HW.out.2⟩ : _ ∧ _)⟩
      case round =>
        obtain ⟨k2, S2, hk2, rfl, rfl, HV2⟩ := hrel
        have HBW : Hid (Below Y.heap.size Y wr) := bel_up HX.out.2.1 HV2.out.2 HX.out.2.1.size
        have hS2 : S2 ≤ 20000 := by
          have h1 := HS2.out k2
          have h2 := HS1.out c.maps.length
          rw [List.take_length] at h2
          have h3 := HSF.out
          have h4 := HV2.out.1
          omega
        by_cases hlt2 : k2 < n2
        · obtain ⟨r, hr⟩ : ∃ r, c.ros[k2]? = some r := ⟨c.ros[k2]'(by have := HN.out.2; omega), List.getElem?_eq_getElem _⟩
          obtain ⟨b, off, rfl, hb, nv2, lv2, sv2, N0, N1, N2, N3, N4, ⟨adn, capn, rfl, _, _⟩, ⟨adl, capl, rfl, _, _⟩, ⟨ads, caps, rfl, _, _⟩⟩ := HRS.out k2 r hr
          have M0 := cells_below HBW.out (Nat.le_refl _) b _ _ hb N0
          have M1 := cells_below HBW.out (Nat.le_refl _) b _ _ hb N1
          have M2 := cells_below HBW.out (Nat.le_refl _) b _ _ hb N2
          have M3 := cells_below HBW.out (Nat.le_refl _) b _ _ hb N3
          have M4 := cells_below HBW.out (Nat.le_refl _) b _ _ hb N4
          have d4 : decide ((k2 : Int) < n2) = true := decide_eq_true (by omega)
          obtain ⟨p1, p2, p3⟩ := HSR.out k2 r hr
          obtain ⟨N, hN⟩ : ∃ N : ByteArray, N = ⟨r.name.toArray⟩ := ⟨_, rfl⟩
          rw [← hN] at M0
          have HS : Hid (S2 + (r.nets.length + r.lks.length + r.sts.length) = S + ((c.ros.take (k2 + 1)).map RoD.parts).sum) := by
            show _ = _
            rw [sum_next _ hr, HV2.out.1]
            unfold RoD.parts
            omega
          obtain ⟨x1, hx1⟩ : ∃ x, x = r.nets.length := ⟨_, rfl⟩
          obtain ⟨x2, hx2⟩ : ∃ x, x = r.lks.length := ⟨_, rfl⟩
          obtain ⟨x3, hx3⟩ : ∃ x, x = r.sts.length := ⟨_, rfl⟩
          rw [← hx1] at M1 HS p1
          rw [← hx2] at M2 HS p2
          rw [← hx3] at M3 HS p3
          obtain ⟨pl, hpl⟩ : ∃ x, x = r.pl := ⟨_, rfl⟩
          rw [← hpl] at M4
          have c0 : (0 : Int) ≤ k2 := by omega
          clear hr hx1 hx2 hx3 hN N0 N1 N2 N3 N4 hpl
          go_wp2_with fail
          go_roundg (n2 - (k2 + 1))
          case measure => omega
          case rel => exact ⟨k2 + 1, S2 + (x1 + x2 + x3), by omega, by go_num, by go_num, (⟨HS.out, bel_up HV2.out.2 (bel_alloc (Below.refl _ _) _) HV2.out.2.size⟩ : _ ∧ _)⟩
        · obtain rfl : n2 = k2 := by omega
          have d4 : decide ((n2 : Int) < n2) = false := decide_eq_false (by omega)
          obtain ⟨T, hT⟩ : ∃ T, T = confT c := ⟨_, rfl⟩
          have HTT : Hid (S2 = lf T ∧ (T ≠ [] → T.getLast? = some 10)) := by
            refine ⟨?_, ?_⟩
            · have h1 := HV2.out.1
              have h2 := HSF.out
              have h3 := HLF.out.1
              rw [HN.out.2, List.take_length] at h1
              rw [hT]
              rw [← HN.out.1, ← HN.out.2] at h3
              omega
            · rw [hT]
              exact HLF.out.2
          have htx := tconf_any c HOK.out.1 (Nat.le_trans HOK.out.2 (by decide)) _ wr (HCF.out.keep HBW.out.size (cells_below HBW.out (Nat.le_refl _))) (HTY.out.below HBW.out)
          obtain ⟨TB, hTB⟩ : ∃ TB : ByteArray, TB = ⟨T.toArray⟩ := ⟨_, rfl⟩
          have hsz : TB.size = T.length := by rw [hTB, str_size]
          have hsz2 : TB.size ≤ 200000 := by
            have h1 := conf_len HOK.out.1
            have h2 := HOK.out.2
            rw [← hT] at h1
            omega
          have HIDX : Hid (∀ k (h : k < TB.size), TB[k] = T.getD k 0) := by subst hTB; exact fun k h => idx_str k h
          have HSZ : Hid (TB.size = T.length) := hsz
          rw [← hT, ← hTB] at htx
          obtain ⟨Y0, Y1⟩ := cells_two (pf_block HV2.out.2 HX.out.2.2)
          clear hT hTB hsz
          go_wp2_with fail
          refine htx.mono ?_
          rintro e Z ⟨rfl, qZ⟩
          have QZ : Hid (Below w.heap.size w Z) := bel_up (bel_up HX.out.1 HV2.out.2 HX.out.1.size) qZ (Nat.le_trans HX.out.1.size HV2.out.2.size)
          clear htx qZ Y0 Y1
          go_wp2_with fail
          go_loopg [11, 10] TB.size (fun g i a wz => ∃ k q : Nat, k + g = TB.size ∧ i = .int .i64 k ∧ a = .int .i64 q ∧ Hid (q = lf (T.take k)) ∧ wz = Z)
          case atStart => exact ⟨0, 0, Nat.zero_add _, rfl, rfl, (rfl : _ = _), rfl⟩
          case round =>
            obtain ⟨k3, q, hk3, rfl, rfl, HQ, rfl⟩ := hrel
            by_cases hlt3 : k3 < TB.size
            · have d4 : decide ((k3 : Int) < TB.size) = true := decide_eq_true (by omega)
              have hi := HIDX.out k3 hlt3
              have hq : q ≤ k3 := by
                rw [HQ.out]
                have := lf_le (T.take k3)
                rw [List.length_take] at this
                omega
              have HQN : Hid (lf (T.take (k3 + 1)) = q + if T.getD k3 0 = 10 then 1 else 0) := by
                show _ = _
                rw [lf_next (by rw [← HSZ.out]; exact hlt3), HQ.out]
              obtain ⟨x, hx⟩ : ∃ x : Nat, x = (T.getD k3 0).toNat := ⟨_, rfl⟩
              have hi2 : TB[k3].toNat = x := by rw [hi, hx]
              have c0 : (0 : Int) ≤ k3 := by omega
              by_cases hx10 : T.getD k3 0 = 10
              · have hx2 : x = 10 := by rw [hx, hx10]; rfl
                have HQ1 : Hid (q + 1 = lf (T.take (k3 + 1))) := by
                  show _ = _
                  rw [HQN.out, if_pos hx10]
                clear hx hi hx10 HQN
                subst hx2
                go_wp2_with fail
                go_roundg (TB.size - (k3 + 1))
                case measure => omega
                case rel => exact ⟨k3 + 1, q + 1, by omega, by go_num, by go_num, HQ1, rfl⟩
              · have hx2 : ((x : Int) == 10) = false := by
                  rw [beq_eq_false_iff_ne]
                  intro h
                  refine hx10 (UInt8.toNat_inj.1 ?_)
                  rw [← hx]
                  simp
                  omega
                have HQ1 : Hid (q = lf (T.take (k3 + 1))) := by
                  show _ = _
                  rw [HQN.out, if_neg hx10]
                  rfl
                clear hx hi hx10 HQN
                go_wp2_with fail
                go_roundg (TB.size - (k3 + 1))
                case measure => omega
                case rel => exact ⟨k3 + 1, q, by omega, by go_num, by go_num, HQ1, rfl⟩
            · have hk4 : TB.size = k3 := by omega
              have d4 : decide ((TB.size : Int) < TB.size) = false := decide_eq_false (by omega)
              obtain rfl : S2 = q := by
                rw [HQ.out, ← hk4, HSZ.out, List.take_length]
                exact HTT.out.1
              subst hk4
              by_cases h0 : TB.size = 0
              · have e0 : ((TB.size : Int) == 0) = true := by rw [beq_iff_eq]; omega
                go_wp2_with fail
                go_ret
                exact ⟨rfl, QZ.out⟩
              · have e0 : ((TB.size : Int) == 0) = false := by rw [beq_eq_false_iff_ne]; omega
                obtain ⟨m, hm⟩ : ∃ m, m = TB.size - 1 := ⟨_, rfl⟩
                have hml : m < TB.size := by omega
                have hmi : (TB.size : Int) - 1 = m := by omega
                have hm0 : (0 : Int) ≤ m := by omega
                have h10 : TB[m].toNat = 10 := by
                  have hne : T ≠ [] := by
                    intro h
                    have := HSZ.out
                    rw [h] at this
                    exact h0 this
                  have := (last_at (HTT.out.2 hne)).2
                  rw [HIDX.out m hml, hm, HSZ.out, this]
                  rfl
                have d5 : decide ((m : Int) < TB.size) = true := decide_eq_true (by omega)
                clear hm
                go_wp2_with fail
                go_ret
                exact ⟨rfl, QZ.out⟩
end Go.Proofs.YthelllciciohiaaDoor
