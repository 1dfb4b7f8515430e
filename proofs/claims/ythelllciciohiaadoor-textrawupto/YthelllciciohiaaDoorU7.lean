/- TextRaw: what it walks. -/
import Derived.Test.YthelllciciohiaaDoorUL
namespace Go.Proofs.YthelllciciohiaaDoor
open Go.RowKit Go.Lib

/-- Its numbers are not far below 0. -/
def ClD.tame (c : ClD) : Prop := -999999 ≤ c.more ∧ -999999 ≤ c.pref
def MpD.tame (m : MpD) : Prop := ∀ c ∈ m.cls, c.tame
def RoD.tame (r : RoD) : Prop := ∀ l ∈ r.lks, -999999 ≤ l.cost
set_option maxHeartbeats 8000000 in
set_option maxRecDepth 20000 in
theorem traw_any (c : CfD) (hok : c.ok) (hbk : c.bulk ≤ 68719476736) (v : Value) (w : World) (hv : CfAt w w.heap.size v c) (ht : TabP w) :
    Calls Tryd.prog 5 #[v] w fun e w' => e = .returned (.bool true) ∧ Below w.heap.size w w' := by
  have HC : Hid (CfAt w w.heap.size v c) := hv
  have ha := fun w h => awake7_any w h
  obtain ⟨m2, r2, rfl, ⟨am, cm, rfl, hm0, hms⟩, ⟨ar, cr, rfl, hr0, hrs⟩⟩ := hv
  have HMS : Hid (∀ i x, c.maps[i]? = some x → ∃ b off, am = some ⟨b, off, none⟩ ∧ b < w.heap.size ∧ MpAt w w.heap.size b (off + i * 3) x) := hms
  have HRS : Hid (∀ i x, c.ros[i]? = some x → ∃ b off, ar = some ⟨b, off, none⟩ ∧ b < w.heap.size ∧ RoAt w w.heap.size b (off + i * 5) x) := hrs
  have HOK : Hid (c.ok ∧ c.bulk ≤ 68719476736) := ⟨hok, hbk⟩
  have HT : Hid (TabP w) := ht
  obtain ⟨n1, hn1⟩ : ∃ n, n = c.maps.length := ⟨_, rfl⟩
  obtain ⟨n2, hn2⟩ : ∃ n, n = c.ros.length := ⟨_, rfl⟩
  rw [← hn1, ← hn2] at HC
  rw [← hn1] at hm0 ⊢
  rw [← hn2] at hr0 ⊢
  have HN : Hid (n1 = c.maps.length ∧ n2 = c.ros.length) := ⟨hn1, hn2⟩
  clear hn1 hn2 hms hrs hok hbk
  go_enter Tryd.func5, Tryd.ntmps5
  go_wp2_with fail
  obtain ⟨b1, hb1⟩ : ∃ b, b = w.heap.size := ⟨_, rfl⟩
  rw [← hb1]
  obtain ⟨U, hU⟩ : ∃ U, U = w.alloc (.cells #[.slice am n1 cm, .slice ar n2 cr] 40) := ⟨_, rfl⟩
  rw [← hU]
  obtain ⟨q1, r1, _⟩ := box_at w _ hU hb1
  have htU := ht.below q1
  clear hU hb1
  refine (ha _ htU).mono ?_
  rintro e V ⟨rfl, qV⟩
  have HV : Hid (Below w.heap.size w V ∧ V.heap[b1]? = some (.cells #[.slice am n1 cm, .slice ar n2 cr] 40 (0, 0))) := ⟨bel_up q1 qV q1.size, pf_block qV r1⟩
  obtain ⟨C0, C1⟩ := cells_two HV.out.2
  clear ha htU qV r1 q1 ht
  go_wp2_with fail
  clear C0 C1
  go_loopg [16] n1 (fun g i wr => ∃ k : Nat, k + g = n1 ∧ i = .int .i64 k ∧ Hid (Below V.heap.size V wr ∧ ∀ i m, i < k → c.maps[i]? = some m → m.tame))
  case atStart => exact ⟨0, Nat.zero_add _, rfl, (⟨Below.refl _ _, fun _ _ h => absurd h (Nat.not_lt_zero _)⟩ : _ ∧ _)⟩
  case round =>
    obtain ⟨k, hk, rfl, HW⟩ := hrel
    have HBW : Hid (Below w.heap.size w wr) := bel_up HV.out.1 HW.out.1 HV.out.1.size
    by_cases hlt : k < n1
    · obtain ⟨m, hm⟩ : ∃ m, c.maps[k]? = some m := ⟨c.maps[k]'(by have := HN.out.1; omega), List.getElem?_eq_getElem _⟩
      obtain ⟨b, off, rfl, hb, hmp⟩ := HMS.out k m hm
      obtain ⟨cv, N0, N1, N2, ⟨adc, capc, rfl, hnc, hcs⟩⟩ := hmp
      have M0 := cells_below HBW.out (Nat.le_refl _) b _ _ hb N0
      have M1 := cells_below HBW.out (Nat.le_refl _) b _ _ hb N1
      have M2 := cells_below HBW.out (Nat.le_refl _) b _ _ hb N2
      have d4 : decide ((k : Int) < n1) = true := decide_eq_true (by omega)
      have HM : Hid (c.maps[k]? = some m) := hm
      have HCS : Hid (∀ i x, m.cls[i]? = some x → ∃ b off, adc = some ⟨b, off, none⟩ ∧ b < w.heap.size ∧ ClAt w b (off + i * 10) x) := hcs
      obtain ⟨nc, hnc2⟩ : ∃ x, x = m.cls.length := ⟨_, rfl⟩
      rw [← hnc2] at hnc M1
      have HNC : Hid (nc = m.cls.length) := hnc2
      obtain ⟨N, hN⟩ : ∃ N : ByteArray, N = ⟨m.name.toArray⟩ := ⟨_, rfl⟩
      rw [← hN] at M0
      obtain ⟨pl, hpl⟩ : ∃ x, x = m.pl := ⟨_, rfl⟩
      rw [← hpl] at M2
      have c0 : (0 : Int) ≤ k := by omega
      clear hm hcs hnc2 hN hpl N0 N1 N2
      go_wp2_with fail
      obtain ⟨b3, hb3⟩ : ∃ b, b = wr.heap.size := ⟨_, rfl⟩
      rw [← hb3]
      obtain ⟨X, hX⟩ : ∃ X, X = wr.alloc (.cells #[.string N, .slice adc nc capc, .int .i64 pl] 46) := ⟨_, rfl⟩
      rw [← hX]
      obtain ⟨qX, hcX, _⟩ := box_at wr _ hX hb3
      have HX : Hid (Below V.heap.size V X) := bel_up HW.out.1 qX HW.out.1.size
      clear hX hb3 M0 M1 M2 qX hcX
      go_loopg [23] nc (fun g i wy => ∃ j : Nat, j + g = nc ∧ i = .int .i64 j ∧ Hid (Below V.heap.size V wy ∧ ∀ i x, i < j → m.cls[i]? = some x → x.tame))
      case atStart => exact ⟨0, Nat.zero_add _, rfl, (⟨HX.out, fun _ _ h => absurd h (Nat.not_lt_zero _)⟩ : _ ∧ _)⟩
      case round =>
        obtain ⟨j, hj, rfl, HY⟩ := hrel
        have HBV : Hid (Below w.heap.size w wr) := bel_up HV.out.1 HY.out.1 HV.out.1.size
        by_cases hjl : j < nc
        · obtain ⟨x, hx⟩ : ∃ x, m.cls[j]? = some x := ⟨m.cls[j]'(by have := HNC.out; omega), List.getElem?_eq_getElem _⟩
          obtain ⟨bc, offc, rfl, hbc, hcl⟩ := HCS.out j x hx
          obtain ⟨C0, C1, C2, C3, C4, C5, C6, C7, C8, C9⟩ := hcl.keep hbc (cells_below HBV.out (Nat.le_refl _))
          have d5 : decide ((j : Int) < nc) = true := decide_eq_true (by omega)
          have c1 : (0 : Int) ≤ j := by omega
          have HXX : Hid (m.cls[j]? = some x) := hx
          have HTM : Hid (x.tame ↔ -999999 ≤ x.more ∧ -999999 ≤ x.pref) := Iff.rfl
          obtain ⟨xany, xa, xb, xwi, xou, xdrop, xse, xcl, xmore, xpref⟩ := x
          dsimp only at C0 C1 C2 C3 C4 C5 C6 C7 C8 C9
          clear hx hcl
          by_cases h1 : xmore < -999999
          · have d1 : decide (xmore < -999999) = true := decide_eq_true h1
            go_wp2_with fail
            go_ret
            exact ⟨rfl, HBV.out.alloc HBV.out.size _⟩
          · have d1 : decide (xmore < -999999) = false := decide_eq_false h1
            by_cases h2 : xpref < -999999
            · have d2 : decide (xpref < -999999) = true := decide_eq_true h2
              go_wp2_with fail
              go_ret
              exact ⟨rfl, HBV.out.alloc HBV.out.size _⟩
            · have d2 : decide (xpref < -999999) = false := decide_eq_false h2
              have HT2 : Hid (∀ i x, i < j + 1 → m.cls[i]? = some x → x.tame) := by
                intro i x hi hx
                by_cases e : i = j
                · subst e
                  rw [HXX.out] at hx
                  obtain rfl := Option.some.inj hx
                  exact HTM.out.2 ⟨by dsimp only; omega, by dsimp only; omega⟩
                · exact HY.out.2 i x (by omega) hx
              go_wp2_with fail
              go_roundg (nc - (j + 1))
              case measure => omega
              case rel => exact ⟨j + 1, by omega, by go_num, (⟨HY.out.1.alloc HY.out.1.size _, HT2.out⟩ : _ ∧ _)⟩
        · obtain rfl : nc = j := by omega
          have d5 : decide ((nc : Int) < nc) = false := decide_eq_false (by omega)
          have HT2 : Hid (∀ i m, i < k + 1 → c.maps[i]? = some m → m.tame) := by
            intro i m' hi hm'
            by_cases e : i = k
            · subst e
              rw [HM.out] at hm'
              obtain rfl := Option.some.inj hm'
              intro x hx
              obtain ⟨j, hj⟩ := List.getElem?_of_mem hx
              exact HY.out.2 j x (by rw [HNC.out]; exact (List.getElem?_eq_some_iff.1 hj).1) hj
            · exact HW.out.2 i m' (by omega) hm'
          go_wp2_with fail
          go_roundg (n1 - (k + 1))
          case measure => omega
          case rel => exact ⟨k + 1, by omega, by go_num, (⟨HY.out.1, HT2.out⟩ : _ ∧ _)⟩
    · obtain rfl : n1 = k := by omega
      have d4 : decide ((n1 : Int) < n1) = false := decide_eq_false (by omega)
      have HT1 : Hid (∀ m ∈ c.maps, m.tame) := by
        intro m hm
        obtain ⟨j, hj⟩ := List.getElem?_of_mem hm
        exact HW.out.2 j m (by rw [HN.out.1]; exact (List.getElem?_eq_some_iff.1 hj).1) hj
      obtain ⟨C0, C1⟩ := cells_two (pf_block HW.out.1 HV.out.2)
      go_wp2_with fail
      clear C0 C1
      have HWR : Hid (Below V.heap.size V wr) := HW.out.1
      go_loopg [40] n2 (fun g i wz => ∃ k : Nat, k + g = n2 ∧ i = .int .i64 k ∧ Hid (Below V.heap.size V wz ∧ ∀ i r, i < k → c.ros[i]? = some r → r.tame))
      case atStart => exact ⟨0, Nat.zero_add _, rfl, (⟨HWR.out, fun _ _ h => absurd h (Nat.not_lt_zero _)⟩ : _ ∧ _)⟩
      case round =>
        obtain ⟨k2, hk2, rfl, HW2⟩ := hrel
        have HBW : Hid (Below w.heap.size w wr) := bel_up HV.out.1 HW2.out.1 HV.out.1.size
        by_cases hlt2 : k2 < n2
        · obtain ⟨r, hr⟩ : ∃ r, c.ros[k2]? = some r := ⟨c.ros[k2]'(by have := HN.out.2; omega), List.getElem?_eq_getElem _⟩
          obtain ⟨b, off, rfl, hb, nv2, lv2, sv2, N0, N1, N2, N3, N4, ⟨adn, capn, rfl, _, _⟩, ⟨adl, capl, rfl, hnl, hls⟩, ⟨ads, caps, rfl, _, _⟩⟩ := HRS.out k2 r hr
          have M0 := cells_below HBW.out (Nat.le_refl _) b _ _ hb N0
          have M1 := cells_below HBW.out (Nat.le_refl _) b _ _ hb N1
          have M2 := cells_below HBW.out (Nat.le_refl _) b _ _ hb N2
          have M3 := cells_below HBW.out (Nat.le_refl _) b _ _ hb N3
          have M4 := cells_below HBW.out (Nat.le_refl _) b _ _ hb N4
          have d4 : decide ((k2 : Int) < n2) = true := decide_eq_true (by omega)
          have HR : Hid (c.ros[k2]? = some r) := hr
          have HLS : Hid (∀ i x, r.lks[i]? = some x → ∃ b off, adl = some ⟨b, off, none⟩ ∧ b < w.heap.size ∧ LkAt w b (off + i * 5) x) := hls
          obtain ⟨nl, hnl2⟩ : ∃ x, x = r.lks.length := ⟨_, rfl⟩
          rw [← hnl2] at hnl M2
          have HNL : Hid (nl = r.lks.length) := hnl2
          obtain ⟨N, hN⟩ : ∃ N : ByteArray, N = ⟨r.name.toArray⟩ := ⟨_, rfl⟩
          rw [← hN] at M0
          obtain ⟨pl, hpl⟩ : ∃ x, x = r.pl := ⟨_, rfl⟩
          rw [← hpl] at M4
          obtain ⟨x1, hx1⟩ : ∃ x, x = r.nets.length := ⟨_, rfl⟩
          obtain ⟨x3, hx3⟩ : ∃ x, x = r.sts.length := ⟨_, rfl⟩
          rw [← hx1] at M1
          rw [← hx3] at M3
          have c0 : (0 : Int) ≤ k2 := by omega
          clear hr hls hnl2 hN hpl hx1 hx3 N0 N1 N2 N3 N4
          go_wp2_with fail
          obtain ⟨b3, hb3⟩ : ∃ b, b = wr.heap.size := ⟨_, rfl⟩
          rw [← hb3]
          obtain ⟨X, hX⟩ : ∃ X, X = wr.alloc (.cells #[.string N, .slice adn x1 capn, .slice adl nl capl, .slice ads x3 caps, .int .i64 pl] 51) := ⟨_, rfl⟩
          rw [← hX]
          obtain ⟨qX, hcX, _⟩ := box_at wr _ hX hb3
          have HX : Hid (Below V.heap.size V X) := bel_up HW2.out.1 qX HW2.out.1.size
          clear hX hb3 M0 M1 M2 M3 M4 qX hcX
          go_loopg [47] nl (fun g i wy => ∃ j : Nat, j + g = nl ∧ i = .int .i64 j ∧ Hid (Below V.heap.size V wy ∧ ∀ i x, i < j → r.lks[i]? = some x → -999999 ≤ x.cost))
          case atStart => exact ⟨0, Nat.zero_add _, rfl, (⟨HX.out, fun _ _ h => absurd h (Nat.not_lt_zero _)⟩ : _ ∧ _)⟩
          case round =>
            obtain ⟨j, hj, rfl, HY⟩ := hrel
            have HBV : Hid (Below w.heap.size w wr) := bel_up HV.out.1 HY.out.1 HV.out.1.size
            by_cases hjl : j < nl
            · obtain ⟨x, hx⟩ : ∃ x, r.lks[j]? = some x := ⟨r.lks[j]'(by have := HNL.out; omega), List.getElem?_eq_getElem _⟩
              obtain ⟨bc, offc, rfl, hbc, hcl⟩ := HLS.out j x hx
              obtain ⟨C0, C1, C2, C3, C4⟩ := hcl.keep hbc (cells_below HBV.out (Nat.le_refl _))
              have d5 : decide ((j : Int) < nl) = true := decide_eq_true (by omega)
              have c1 : (0 : Int) ≤ j := by omega
              have HXX : Hid (r.lks[j]? = some x) := hx
              obtain ⟨xc, hxc⟩ : ∃ y, y = x.cost := ⟨_, rfl⟩
              rw [← hxc] at C1
              have HXC : Hid (xc = x.cost) := hxc
              obtain ⟨P1, hP1⟩ : ∃ N : ByteArray, N = ⟨x.peer.toArray⟩ := ⟨_, rfl⟩
              obtain ⟨P2, hP2⟩ : ∃ N : ByteArray, N = ⟨x.imp.toArray⟩ := ⟨_, rfl⟩
              obtain ⟨P3, hP3⟩ : ∃ N : ByteArray, N = ⟨x.exp.toArray⟩ := ⟨_, rfl⟩
              rw [← hP1] at C0
              rw [← hP2] at C2
              rw [← hP3] at C3
              clear hx hcl hxc hP1 hP2 hP3
              by_cases h1 : xc < -999999
              · have d1 : decide (xc < -999999) = true := decide_eq_true h1
                go_wp2_with fail
                go_ret
                exact ⟨rfl, HBV.out.alloc HBV.out.size _⟩
              · have d1 : decide (xc < -999999) = false := decide_eq_false h1
                have HT2 : Hid (∀ i x, i < j + 1 → r.lks[i]? = some x → -999999 ≤ x.cost) := by
                  intro i x hi hx
                  by_cases e : i = j
                  · subst e
                    rw [HXX.out] at hx
                    obtain rfl := Option.some.inj hx
                    rw [← HXC.out]
                    omega
                  · exact HY.out.2 i x (by omega) hx
                go_wp2_with fail
                go_roundg (nl - (j + 1))
                case measure => omega
                case rel => exact ⟨j + 1, by omega, by go_num, (⟨HY.out.1.alloc HY.out.1.size _, HT2.out⟩ : _ ∧ _)⟩
            · obtain rfl : nl = j := by omega
              have d5 : decide ((nl : Int) < nl) = false := decide_eq_false (by omega)
              have HT2 : Hid (∀ i m, i < k2 + 1 → c.ros[i]? = some m → m.tame) := by
                intro i m' hi hm'
                by_cases e : i = k2
                · subst e
                  rw [HR.out] at hm'
                  obtain rfl := Option.some.inj hm'
                  intro x hx
                  obtain ⟨j, hj⟩ := List.getElem?_of_mem hx
                  exact HY.out.2 j x (by rw [HNL.out]; exact (List.getElem?_eq_some_iff.1 hj).1) hj
                · exact HW2.out.2 i m' (by omega) hm'
              go_wp2_with fail
              go_roundg (n2 - (k2 + 1))
              case measure => omega
              case rel => exact ⟨k2 + 1, by omega, by go_num, (⟨HY.out.1, HT2.out⟩ : _ ∧ _)⟩
        · obtain rfl : n2 = k2 := by omega
          have d4 : decide ((n2 : Int) < n2) = false := decide_eq_false (by omega)
          have HFAR : Hid c.far := by
            refine ⟨fun m hm x hx => ?_, fun r hr l hl => ?_⟩
            · have := HT1.out m hm x hx
              exact ⟨by have := this.1; omega, by have := this.2; omega⟩
            · obtain ⟨j, hj⟩ := List.getElem?_of_mem hr
              have := HW2.out.2 j r (by rw [HN.out.2]; exact (List.getElem?_eq_some_iff.1 hj).1) hj l hl
              omega
          obtain ⟨T, hT⟩ : ∃ T : ByteArray, T = ⟨(confT c).toArray⟩ := ⟨_, rfl⟩
          have e1 : (T.toList == T.toList) = true := by simp
          have hc := HC.out.keep HBW.out.size (cells_below HBW.out (Nat.le_refl _))
          have htX := HT.out.below HBW.out
          have k1 := fun (p : BelOf wr) => tconf_any c HOK.out.1 HOK.out.2 _ p.w (hc.keep p.h.size (cells_below p.h (Nat.le_refl _))) (htX.below p.h)
          have k3 := fun (p : BelOf wr) => ltextc_any c HOK.out.1 HFAR.out HOK.out.2 _ p.w (hc.keep p.h.size (cells_below p.h (Nat.le_refl _))) (htX.below p.h)
          rw [← hT] at k1 k3
          have rX := pf_block HW2.out.1 HV.out.2
          have lX := (Array.getElem?_eq_some_iff.1 rX).1
          have E0 := fun p => bel_cell lX (cells_two rX).1 p
          have E1 := fun p => bel_cell lX (cells_two rX).2 p
          have hne := bel_ne wr
          clear hT hc htX rX lX
          go_wp2_with fail
          refine wp_region_bel (by kernel_rfl) (by kernel_rfl) ?_
          repeat (go_big_quiet_step (first
            | (go_at_call 14; with_reducible exact bel_of (k1 _))
            | (go_at_call 15; with_reducible exact bel_of (k3 _))))
          refine wpQuiet_nil ?_
          rintro W ⟨⟨W', hW⟩, rfl⟩
          clear k1 k3 E0 E1 hne
          go_wp2_with fail
          go_ret
          exact ⟨rfl, bel_up HBW.out hW HBW.out.size⟩
end Go.Proofs.YthelllciciohiaaDoor
