/- What the law's own wrong says. -/
import Derived.Test.YtcjdjifooaeomaaDoorDH
namespace Go.Proofs.YtcjdjifooaeomaaDoor
open Go.RowKit Go.Maps Go.Lib

/-- A row's room is no less than its length. -/
def CapV (v : Value) (n : Nat) : Prop := ∃ ad cap, v = .slice ad n cap ∧ n ≤ cap
theorem CapV.le {ad : Option Addr} {n cap : Nat} (h : CapV (.slice ad n cap) n) : n ≤ cap := by
  obtain ⟨a, c, e, h⟩ := h
  injection e with _ _ e
  rw [e]
  exact h
/-- A router, a configuration, with room for their rows. -/
def RoC (W : World) (B b o : Nat) (r : RoD) : Prop :=
  ∃ nv lv sv, W.cell? ⟨b, o, none⟩ = some (.string ⟨r.name.toArray⟩) ∧ W.cell? ⟨b, o + 1, none⟩ = some nv ∧ W.cell? ⟨b, o + 2, none⟩ = some lv ∧ W.cell? ⟨b, o + 3, none⟩ = some sv ∧ W.cell? ⟨b, o + 4, none⟩ = some (.int .i64 r.pl) ∧
    SliceAt B 2 (PfAt W) nv r.nets ∧ SliceAt B 5 (LkAt W) lv r.lks ∧ SliceAt B 4 (StAt W) sv r.sts ∧ CapV nv r.nets.length ∧ CapV lv r.lks.length ∧ CapV sv r.sts.length
theorem RoC.at {W : World} {B b o : Nat} {r : RoD} (h : RoC W B b o r) : RoAt W B b o r := by
  obtain ⟨nv, lv, sv, h1, h2, h3, h4, h5, h6, h7, h8, _⟩ := h
  exact ⟨nv, lv, sv, h1, h2, h3, h4, h5, h6, h7, h8⟩
theorem RoC.keep {W W' : World} {B B' b o : Nat} {r : RoD} (h : RoC W B b o r) (hb : b < B) (hB : B ≤ B') (k : Cells B W W') : RoC W' B' b o r := by
  obtain ⟨nv, lv, sv, h1, h2, h3, h4, h5, h6, h7, h8, h9⟩ := h
  exact ⟨nv, lv, sv, k _ _ _ hb h1, k _ _ _ hb h2, k _ _ _ hb h3, k _ _ _ hb h4, k _ _ _ hb h5, h6.mono hB fun _ _ _ hb h => h.keep hb k, h7.mono hB fun _ _ _ hb h => h.keep hb k, h8.mono hB fun _ _ _ hb h => h.keep hb k, h9⟩
def CfC (W : World) (B : Nat) (v : Value) (c : CfD) : Prop := ∃ mv rv, v = .agg #[mv, rv] ∧ SliceAt B 3 (MpAt W B) mv c.maps ∧ SliceAt B 5 (RoC W B) rv c.ros ∧ CapV mv c.maps.length ∧ CapV rv c.ros.length
theorem CfC.at {W : World} {B : Nat} {v : Value} {c : CfD} (h : CfC W B v c) : CfAt W B v c := by
  obtain ⟨mv, rv, h1, h2, h3, _⟩ := h
  exact ⟨mv, rv, h1, h2, h3.mono (Nat.le_refl _) fun _ _ _ _ h => h.at⟩
theorem CfC.keep {W W' : World} {B B' : Nat} {v : Value} {c : CfD} (h : CfC W B v c) (hB : B ≤ B') (k : Cells B W W') : CfC W' B' v c := by
  obtain ⟨mv, rv, h1, h2, h3, h4⟩ := h
  exact ⟨mv, rv, h1, h2.mono hB fun _ _ _ hb h => h.keep hb hB k, h3.mono hB fun _ _ _ hb h => h.keep hb hB k, h4⟩
def wrV : Option (Nat × Int) → Value
  | none => .tuple #[.int .i64 0, .int .i64 (-1)]
  | some e => .tuple #[.int .i64 e.1, .int .i64 e.2]
theorem any_take {α : Type} {p : α → Bool} {l : List α} {j : Nat} {y : α} (hy : l[j]? = some y) : (l.take (j + 1)).any p = ((l.take j).any p || p y) := by
  rw [List.take_add_one, hy, List.any_append]
  simp
theorem rout_twice {c : CfD} {r : RoD} {x : Nat × Int} (h : dupR id [] r.nets = some x) : routR c r = some (4, r.pl) := by
  unfold routR
  rw [h]
theorem rout_link {c : CfD} {r : RoD} {e : Nat × Int} (h : dupR id [] r.nets = none) (h2 : linksR c r [] r.lks = some e) : routR c r = some e := by
  unfold routR
  rw [h, h2]
theorem rout_stat {c : CfD} {r : RoD} (h : dupR id [] r.nets = none) (h2 : linksR c r [] r.lks = none) : routR c r = statsR r [] r.sts := by
  unfold routR
  rw [h, h2]
theorem links_tell {c : CfD} {r : RoD} {k : Nat} {l : LkD} {e : Nat × Int} (hx : r.lks[k]? = some l) (hd : linksR c r ((r.lks.take k).map LkD.peer) (r.lks.drop k) = linksR c r [] r.lks) (h : linkR c r ((r.lks.take k).map LkD.peer) l = some e) : linksR c r [] r.lks = some e := by
  rw [← hd, links_at c r r.lks k l hx, h]
theorem links_go {c : CfD} {r : RoD} {k : Nat} {l : LkD} (hx : r.lks[k]? = some l) (hd : linksR c r ((r.lks.take k).map LkD.peer) (r.lks.drop k) = linksR c r [] r.lks) (h : linkR c r ((r.lks.take k).map LkD.peer) l = none) : linksR c r ((r.lks.take (k + 1)).map LkD.peer) (r.lks.drop (k + 1)) = linksR c r [] r.lks := by
  rw [← hd, links_at c r r.lks k l hx, h]
theorem stats_tell {r : RoD} {k : Nat} {s : StD} {e : Nat × Int} (hx : r.sts[k]? = some s) (hd : statsR r ((r.sts.take k).map fun s => (s.a, s.b)) (r.sts.drop k) = statsR r [] r.sts) (h : statR r ((r.sts.take k).map fun s => (s.a, s.b)) s = some e) : statsR r [] r.sts = some e := by
  rw [← hd, stats_at r r.sts k s hx, h]
theorem stats_go {r : RoD} {k : Nat} {s : StD} (hx : r.sts[k]? = some s) (hd : statsR r ((r.sts.take k).map fun s => (s.a, s.b)) (r.sts.drop k) = statsR r [] r.sts) (h : statR r ((r.sts.take k).map fun s => (s.a, s.b)) s = none) : statsR r ((r.sts.take (k + 1)).map fun s => (s.a, s.b)) (r.sts.drop (k + 1)) = statsR r [] r.sts := by
  rw [← hd, stats_at r r.sts k s hx, h]
theorem first_tell {c : CfD} {k : Nat} {r : RoD} {e : Nat × Int} (hx : c.ros[k]? = some r) (hd : firstR (routR c) (c.ros.drop k) = firstR (routR c) c.ros) (h : routR c r = some e) : firstR (routR c) c.ros = some e := by
  rw [← hd, first_at (routR c) c.ros k r hx, h]
theorem first_go {c : CfD} {k : Nat} {r : RoD} (hx : c.ros[k]? = some r) (hd : firstR (routR c) (c.ros.drop k) = firstR (routR c) c.ros) (h : routR c r = none) : firstR (routR c) (c.ros.drop (k + 1)) = firstR (routR c) c.ros := by
  rw [← hd, first_at (routR c) c.ros k r hx, h]
theorem map_mem {α β : Type} {key : α → β} {l : List α} {j k : Nat} {y : α} (hy : l[j]? = some y) (hjk : j < k) : key y ∈ (l.take k).map key :=
  List.mem_map_of_mem (List.mem_iff_getElem?.2 ⟨j, by rw [List.getElem?_take_of_lt hjk]; exact hy⟩)
set_option maxHeartbeats 64000000 in
set_option maxRecDepth 20000 in
theorem wrong9_any {c : CfD} {v : Value} {w : World} (hv : CfC w w.heap.size v c) :
    Calls Tryd.prog 12 #[v] w fun e w' => e = .returned (wrV (wrongR c)) ∧ Below w.heap.size w w' := by
  have HCF : Hid (CfC w w.heap.size v c) := hv
  obtain ⟨mv, rv, rfl, ⟨am, cm, rfl, hm0, hms⟩, ⟨ar, cr, rfl, hr0, hrs⟩, k1, k2⟩ := hv
  have HK : Hid (c.maps.length ≤ cm ∧ c.ros.length ≤ cr) := ⟨k1.le, k2.le⟩
  obtain ⟨n, hn⟩ : ∃ n, n = c.maps.length := ⟨_, rfl⟩
  obtain ⟨n2, hn2⟩ : ∃ n, n = c.ros.length := ⟨_, rfl⟩
  rw [← hn] at hm0 HK HCF ⊢
  rw [← hn2] at hr0 HK HCF ⊢
  have HN : Hid (n = c.maps.length ∧ n2 = c.ros.length) := ⟨hn, hn2⟩
  have HMS : Hid (∀ i x, c.maps[i]? = some x → ∃ b off, am = some ⟨b, off, none⟩ ∧ b < w.heap.size ∧ MpAt w w.heap.size b (off + i * 3) x) := hms
  have HRS : Hid (∀ i x, c.ros[i]? = some x → ∃ b off, ar = some ⟨b, off, none⟩ ∧ b < w.heap.size ∧ RoC w w.heap.size b (off + i * 5) x) := hrs
  obtain ⟨res, hres⟩ : ∃ x, x = wrongR c := ⟨_, rfl⟩
  rw [← hres]
  have HR : Hid (res = wrongR c) := hres
  clear hms hrs hn hn2 hres k1 k2
  go_enter Tryd.func12, Tryd.ntmps12
  go_upto_region 1 with fail
  obtain ⟨b1, hb1⟩ : ∃ b, b = w.heap.size := ⟨_, rfl⟩
  rw [← hb1]
  obtain ⟨U, hU⟩ : ∃ U, U = w.alloc (.cells #[.slice am n cm, .slice ar n2 cr] 33) := ⟨_, rfl⟩
  rw [← hU]
  obtain ⟨q1, r1, _⟩ := box_at w _ hU hb1
  have QU : Hid (Below w.heap.size w U ∧ U.heap[b1]? = some (.cells #[.slice am n cm, .slice ar n2 cr] 33 (0, 0))) := ⟨q1, r1⟩
  obtain ⟨X0, X1⟩ := cells_two r1
  clear hU hb1 q1 r1
  go_upto_region 2 with fail
  clear X0 X1
  have H0 : Hid (Below U.heap.size U U ∧ dupR MpD.name ((c.maps.take 0).map MpD.name) (c.maps.drop 0) = dupR MpD.name [] c.maps) := ⟨Below.refl _ _, rfl⟩
  go_loopg [37] n (fun g i wr => ∃ k : Nat, k + g = n ∧ i = .int .i64 k ∧ Hid (Below U.heap.size U wr ∧ dupR MpD.name ((c.maps.take k).map MpD.name) (c.maps.drop k) = dupR MpD.name [] c.maps))
  case atStart => exact ⟨0, Nat.zero_add _, rfl, H0⟩
  case round =>
    obtain ⟨k, hk, rfl, HW⟩ := hrel
    have HBW : Hid (Below w.heap.size w wr) := bel_up QU.out.1 HW.out.1 QU.out.1.size
    by_cases hlt : k < n
    · obtain ⟨xm, hxm⟩ : ∃ x, c.maps[k]? = some x := ⟨c.maps[k]'(by have := HN.out.1; omega), List.getElem?_eq_getElem _⟩
      obtain ⟨bam, oam, rfl, hbm, hpm⟩ := HMS.out k xm hxm
      obtain ⟨cvm, Pm0, Pm1, Pm2, ⟨adcm, capcm, rfl, _, _⟩⟩ := hpm.keep hbm (Nat.le_refl _) (cells_below HBW.out (Nat.le_refl _))
      obtain ⟨ncm, hnc⟩ : ∃ n, n = xm.cls.length := ⟨_, rfl⟩
      rw [← hnc] at Pm1
      clear hnc
      obtain ⟨pem, hpem⟩ : ∃ p : ByteArray, p = ⟨xm.name.toArray⟩ := ⟨_, rfl⟩
      rw [← hpem] at Pm0
      have HPm : Hid (pem = ⟨xm.name.toArray⟩) := hpem
      clear hpem
      have d4 : decide ((k : Int) < n) = true := decide_eq_true (by omega)
      have c0 : (0 : Int) ≤ k := by omega
      have HX : Hid (c.maps[k]? = some xm) := hxm
      clear hpm
      go_upto_region 4 with fail
      obtain ⟨bm, hbmx⟩ : ∃ b, b = wr.heap.size := ⟨_, rfl⟩
      rw [← hbmx]
      obtain ⟨X, hX⟩ : ∃ X, X = wr.alloc (.cells #[.string pem, .slice adcm ncm capcm, .int .i64 xm.pl] 57) := ⟨_, rfl⟩
      rw [← hX]
      obtain ⟨qX, rX, _⟩ := box_at wr _ hX hbmx
      have QX : Hid (Below wr.heap.size wr X ∧ Below w.heap.size w X ∧ X.heap[bm]? = some (.cells #[.string pem, .slice adcm ncm capcm, .int .i64 xm.pl] 57 (0, 0))) := ⟨qX, bel_up HBW.out qX HBW.out.size, rX⟩
      clear hX hbmx qX rX Pm0 Pm1 Pm2 hxm
      have HU1 : Hid (Below U.heap.size U X) := bel_up HW.out.1 QX.out.1 HW.out.1.size
      obtain ⟨C0, C1⟩ := cells_two (pf_block HU1.out QU.out.2)
      have ck : k ≤ cm := by have := HK.out.1; omega
      go_upto_region 5 with fail
      clear C0 C1
      have HI0 : Hid (Below X.heap.size X X ∧ (MpD.name xm) ∉ (c.maps.take 0).map (MpD.name)) := ⟨Below.refl _ _, by simp⟩
      go_loopg [47] k (fun g i wy => ∃ j : Nat, j + g = k ∧ i = .int .i64 j ∧ Hid (Below X.heap.size X wy ∧ (MpD.name xm) ∉ (c.maps.take j).map (MpD.name)))
      case atStart => exact ⟨0, Nat.zero_add _, rfl, HI0⟩
      case round =>
        obtain ⟨j, hj, rfl, HJ⟩ := hrel
        have HBJ : Hid (Below w.heap.size w wr) := bel_up QX.out.2.1 HJ.out.1 QX.out.2.1.size
        by_cases hjl : j < k
        · obtain ⟨xmi, hxmi⟩ : ∃ x, c.maps[j]? = some x := ⟨c.maps[j]'(by have := HN.out.1; omega), List.getElem?_eq_getElem _⟩
          obtain ⟨bb, oo, ee, hbmi, hpmi⟩ := HMS.out j xmi hxmi
          injection ee with ee
          injection ee with e3 e4 _
          subst e3 e4
          obtain ⟨cvmi, Pmi0, Pmi1, Pmi2, ⟨adcmi, capcmi, rfl, _, _⟩⟩ := hpmi.keep hbmi (Nat.le_refl _) (cells_below HBJ.out (Nat.le_refl _))
          obtain ⟨ncmi, hnc⟩ : ∃ n, n = xmi.cls.length := ⟨_, rfl⟩
          rw [← hnc] at Pmi1
          clear hnc
          obtain ⟨pemi, hpemi⟩ : ∃ p : ByteArray, p = ⟨xmi.name.toArray⟩ := ⟨_, rfl⟩
          rw [← hpemi] at Pmi0
          have HPmi : Hid (pemi = ⟨xmi.name.toArray⟩) := hpemi
          clear hpemi
          have d7 : decide ((j : Int) < k) = true := decide_eq_true (by omega)
          have c7 : (0 : Int) ≤ j := by omega
          obtain ⟨t, ht⟩ := told (Classical.em (MpD.name xmi = MpD.name xm))
          have HH : Hid (t = true → (MpD.name xm) ∈ (c.maps.take k).map (MpD.name)) := fun h => by
            rw [← ht.1 h]
            exact map_mem hxmi hjl
          have HG : Hid (t = false → (MpD.name xm) ∉ (c.maps.take (j + 1)).map (MpD.name)) := fun h => no_take HJ.out.2 hxmi fun e => by rw [ht.2 e] at h; cases h
          have e1 := beq_str xmi.name xm.name
          rw [← HPmi.out, ← HPm.out] at e1
          have e1' : (pemi.toList == pem.toList) = t := by
            rw [e1, Bool.eq_iff_iff, decide_eq_true_iff]
            exact ht.symm
          clear e1 HPmi
          clear hxmi ht
          clear hpmi
          go_upto_region 7 with fail
          obtain ⟨bmi, hbmix⟩ : ∃ b, b = wr.heap.size := ⟨_, rfl⟩
          rw [← hbmix]
          obtain ⟨I9, hX⟩ : ∃ X, X = wr.alloc (.cells #[.string pemi, .slice adcmi ncmi capcmi, .int .i64 xmi.pl] 57) := ⟨_, rfl⟩
          rw [← hX]
          obtain ⟨qX, rX, _⟩ := box_at wr _ hX hbmix
          have QI9 : Hid (Below wr.heap.size wr I9 ∧ Below w.heap.size w I9 ∧ I9.heap[bmi]? = some (.cells #[.string pemi, .slice adcmi ncmi capcmi, .int .i64 xmi.pl] 57 (0, 0))) := ⟨qX, bel_up HBJ.out qX HBJ.out.size, rX⟩
          clear hX hbmix qX rX Pmi0 Pmi1 Pmi2 
          obtain ⟨Y0, Y1, Y2⟩ := cells_three (QI9.out.2.2)
          have hpl := pf_block (bel_up HJ.out.1 QI9.out.1 HJ.out.1.size) QX.out.2.2
          obtain ⟨L0, L1, L2⟩ := cells_three (hpl)
          clear hpl
          cases t with
          | true =>
            obtain rfl : res = some (4, xm.pl) := by
              rw [HR.out]
              exact wrong_maps (HW.out.2.symm.trans (dup_hit HX.out (HH.out (by first | rfl | trivial))))
            go_wp2_with fail
            go_region
            go_wp2_with fail
            go_ret2
            exact ⟨rfl, QI9.out.2.1.drew⟩
          | false =>
            have HZ : Hid (Below X.heap.size X I9 ∧ (MpD.name xm) ∉ (c.maps.take (j + 1)).map (MpD.name)) := ⟨bel_up HJ.out.1 QI9.out.1 HJ.out.1.size, HG.out (by first | rfl | trivial)⟩
            clear HH HG
            go_wp2_with fail
            clear L0 L1 L2 Y0 Y1 Y2
            go_roundg (k - (j + 1))
            case measure => omega
            case rel => exact ⟨j + 1, by omega, by go_num, HZ⟩
        · obtain rfl : j = k := by omega
          have d7 : decide ((j : Int) < j) = false := decide_eq_false (by omega)
          have HZ : Hid (Below U.heap.size U wr ∧ dupR MpD.name ((c.maps.take (j + 1)).map MpD.name) (c.maps.drop (j + 1)) = dupR MpD.name [] c.maps) :=
            ⟨bel_up HU1.out HJ.out.1 HU1.out.size, (dup_miss HX.out HJ.out.2).symm.trans HW.out.2⟩
          go_wp2_with fail
          go_roundg (n - (j + 1))
          case measure => omega
          case rel => exact ⟨j + 1, by omega, by go_num, HZ⟩
    · obtain rfl : k = n := by omega
      have d4 : decide ((k : Int) < k) = false := decide_eq_false (by omega)
      have HD1 : Hid (dupR MpD.name [] c.maps = none) := by
        show _ = _
        rw [← HW.out.2, HN.out.1, dup_end]
      have QV : Hid (Below w.heap.size w wr ∧ wr.heap[b1]? = some (.cells #[.slice am k cm, .slice ar n2 cr] 33 (0, 0))) := ⟨HBW.out, pf_block HW.out.1 QU.out.2⟩
      obtain ⟨V, hV⟩ : ∃ V, V = wr := ⟨_, rfl⟩
      rw [← hV] at QV
      rw [← hV]
      obtain ⟨C0, C1⟩ := cells_two QV.out.2
      clear hV HW HBW
      go_upto_region 12 with fail
      clear C0 C1
      have H0 : Hid (Below V.heap.size V V ∧ dupR RoD.name ((c.ros.take 0).map RoD.name) (c.ros.drop 0) = dupR RoD.name [] c.ros) := ⟨Below.refl _ _, rfl⟩
      go_loopg [63] n2 (fun g i wr => ∃ k : Nat, k + g = n2 ∧ i = .int .i64 k ∧ Hid (Below V.heap.size V wr ∧ dupR RoD.name ((c.ros.take k).map RoD.name) (c.ros.drop k) = dupR RoD.name [] c.ros))
      case atStart => exact ⟨0, Nat.zero_add _, rfl, H0⟩
      case round =>
        obtain ⟨l, hl, rfl, HW⟩ := hrel
        have HBW : Hid (Below w.heap.size w wr) := bel_up QV.out.1 HW.out.1 QV.out.1.size
        by_cases hlt : l < n2
        · obtain ⟨xr, hxr⟩ : ∃ x, c.ros[l]? = some x := ⟨c.ros[l]'(by have := HN.out.2; omega), List.getElem?_eq_getElem _⟩
          obtain ⟨bar, oar, rfl, hbr, hpr⟩ := HRS.out l xr hxr
          obtain ⟨nvr, lvr, svr, N0, N1, N2, N3, N4, s1, s2, s3, k1, k2, k3⟩ := hpr
          obtain ⟨anr, cnr, rfl, z1r, hnsr⟩ := s1
          obtain ⟨alr, clr, rfl, z2r, hlsr⟩ := s2
          obtain ⟨astr, csr, rfl, z3r, hssr⟩ := s3
          have Pr0 := cells_below HBW.out (Nat.le_refl _) _ _ _ hbr N0
          have Pr1 := cells_below HBW.out (Nat.le_refl _) _ _ _ hbr N1
          have Pr2 := cells_below HBW.out (Nat.le_refl _) _ _ _ hbr N2
          have Pr3 := cells_below HBW.out (Nat.le_refl _) _ _ _ hbr N3
          have Pr4 := cells_below HBW.out (Nat.le_refl _) _ _ _ hbr N4
          have HKr : Hid (xr.nets.length ≤ cnr ∧ xr.lks.length ≤ clr ∧ xr.sts.length ≤ csr) := ⟨k1.le, k2.le, k3.le⟩
          obtain ⟨nnr, hnn⟩ : ∃ n, n = xr.nets.length := ⟨_, rfl⟩
          obtain ⟨nlr, hnl⟩ : ∃ n, n = xr.lks.length := ⟨_, rfl⟩
          obtain ⟨nsr, hnst⟩ : ∃ n, n = xr.sts.length := ⟨_, rfl⟩
          have HLr : Hid (nnr = xr.nets.length ∧ nlr = xr.lks.length ∧ nsr = xr.sts.length) := ⟨hnn, hnl, hnst⟩
          rw [← hnn] at Pr1 z1r HKr
          rw [← hnl] at Pr2 z2r HKr
          rw [← hnst] at Pr3 z3r HKr
          clear hnn hnl hnst k1 k2 k3 N0 N1 N2 N3 N4
          obtain ⟨per, hper⟩ : ∃ p : ByteArray, p = ⟨xr.name.toArray⟩ := ⟨_, rfl⟩
          rw [← hper] at Pr0
          have HPr : Hid (per = ⟨xr.name.toArray⟩) := hper
          clear hper
          have d5 : decide ((l : Int) < n2) = true := decide_eq_true (by omega)
          have c1 : (0 : Int) ≤ l := by omega
          have HX : Hid (c.ros[l]? = some xr) := hxr
          go_upto_region 14 with fail
          obtain ⟨br, hbrx⟩ : ∃ b, b = wr.heap.size := ⟨_, rfl⟩
          rw [← hbrx]
          obtain ⟨X, hX⟩ : ∃ X, X = wr.alloc (.cells #[.string per, .slice anr nnr cnr, .slice alr nlr clr, .slice astr nsr csr, .int .i64 xr.pl] 48) := ⟨_, rfl⟩
          rw [← hX]
          obtain ⟨qX, rX, _⟩ := box_at wr _ hX hbrx
          have QX : Hid (Below wr.heap.size wr X ∧ Below w.heap.size w X ∧ X.heap[br]? = some (.cells #[.string per, .slice anr nnr cnr, .slice alr nlr clr, .slice astr nsr csr, .int .i64 xr.pl] 48 (0, 0))) := ⟨qX, bel_up HBW.out qX HBW.out.size, rX⟩
          clear hX hbrx qX rX Pr0 Pr1 Pr2 Pr3 Pr4 hxr hnsr hlsr hssr z1r z2r z3r HKr HLr
          have HU1 : Hid (Below V.heap.size V X) := bel_up HW.out.1 QX.out.1 HW.out.1.size
          obtain ⟨C0, C1⟩ := cells_two (pf_block HU1.out QV.out.2)
          have ck : l ≤ cr := by have := HK.out.2; omega
          go_upto_region 15 with fail
          clear C0 C1
          have HI0 : Hid (Below X.heap.size X X ∧ (RoD.name xr) ∉ (c.ros.take 0).map (RoD.name)) := ⟨Below.refl _ _, by simp⟩
          go_loopg [73] l (fun g i wy => ∃ j : Nat, j + g = l ∧ i = .int .i64 j ∧ Hid (Below X.heap.size X wy ∧ (RoD.name xr) ∉ (c.ros.take j).map (RoD.name)))
          case atStart => exact ⟨0, Nat.zero_add _, rfl, HI0⟩
          case round =>
            obtain ⟨j, hj, rfl, HJ⟩ := hrel
            have HBJ : Hid (Below w.heap.size w wr) := bel_up QX.out.2.1 HJ.out.1 QX.out.2.1.size
            by_cases hjl : j < l
            · obtain ⟨xri, hxri⟩ : ∃ x, c.ros[j]? = some x := ⟨c.ros[j]'(by have := HN.out.2; omega), List.getElem?_eq_getElem _⟩
              obtain ⟨bb, oo, ee, hbri, hpri⟩ := HRS.out j xri hxri
              injection ee with ee
              injection ee with e3 e4 _
              subst e3 e4
              obtain ⟨nvri, lvri, svri, N0, N1, N2, N3, N4, s1, s2, s3, k1, k2, k3⟩ := hpri
              obtain ⟨anri, cnri, rfl, z1ri, hnsri⟩ := s1
              obtain ⟨alri, clri, rfl, z2ri, hlsri⟩ := s2
              obtain ⟨astri, csri, rfl, z3ri, hssri⟩ := s3
              have Pri0 := cells_below HBJ.out (Nat.le_refl _) _ _ _ hbri N0
              have Pri1 := cells_below HBJ.out (Nat.le_refl _) _ _ _ hbri N1
              have Pri2 := cells_below HBJ.out (Nat.le_refl _) _ _ _ hbri N2
              have Pri3 := cells_below HBJ.out (Nat.le_refl _) _ _ _ hbri N3
              have Pri4 := cells_below HBJ.out (Nat.le_refl _) _ _ _ hbri N4
              have HKri : Hid (xri.nets.length ≤ cnri ∧ xri.lks.length ≤ clri ∧ xri.sts.length ≤ csri) := ⟨k1.le, k2.le, k3.le⟩
              obtain ⟨nnri, hnn⟩ : ∃ n, n = xri.nets.length := ⟨_, rfl⟩
              obtain ⟨nlri, hnl⟩ : ∃ n, n = xri.lks.length := ⟨_, rfl⟩
              obtain ⟨nsri, hnst⟩ : ∃ n, n = xri.sts.length := ⟨_, rfl⟩
              have HLri : Hid (nnri = xri.nets.length ∧ nlri = xri.lks.length ∧ nsri = xri.sts.length) := ⟨hnn, hnl, hnst⟩
              rw [← hnn] at Pri1 z1ri HKri
              rw [← hnl] at Pri2 z2ri HKri
              rw [← hnst] at Pri3 z3ri HKri
              clear hnn hnl hnst k1 k2 k3 N0 N1 N2 N3 N4
              obtain ⟨peri, hperi⟩ : ∃ p : ByteArray, p = ⟨xri.name.toArray⟩ := ⟨_, rfl⟩
              rw [← hperi] at Pri0
              have HPri : Hid (peri = ⟨xri.name.toArray⟩) := hperi
              clear hperi
              have d7 : decide ((j : Int) < l) = true := decide_eq_true (by omega)
              have c7 : (0 : Int) ≤ j := by omega
              obtain ⟨t, ht⟩ := told (Classical.em (RoD.name xri = RoD.name xr))
              have HH : Hid (t = true → (RoD.name xr) ∈ (c.ros.take l).map (RoD.name)) := fun h => by
                rw [← ht.1 h]
                exact map_mem hxri hjl
              have HG : Hid (t = false → (RoD.name xr) ∉ (c.ros.take (j + 1)).map (RoD.name)) := fun h => no_take HJ.out.2 hxri fun e => by rw [ht.2 e] at h; cases h
              have e1 := beq_str xri.name xr.name
              rw [← HPri.out, ← HPr.out] at e1
              have e1' : (peri.toList == per.toList) = t := by
                rw [e1, Bool.eq_iff_iff, decide_eq_true_iff]
                exact ht.symm
              clear e1 HPri
              clear hxri ht
              clear hnsri hlsri hssri z1ri z2ri z3ri HKri HLri
              go_upto_region 17 with fail
              obtain ⟨bri, hbrix⟩ : ∃ b, b = wr.heap.size := ⟨_, rfl⟩
              rw [← hbrix]
              obtain ⟨I9, hX⟩ : ∃ X, X = wr.alloc (.cells #[.string peri, .slice anri nnri cnri, .slice alri nlri clri, .slice astri nsri csri, .int .i64 xri.pl] 48) := ⟨_, rfl⟩
              rw [← hX]
              obtain ⟨qX, rX, _⟩ := box_at wr _ hX hbrix
              have QI9 : Hid (Below wr.heap.size wr I9 ∧ Below w.heap.size w I9 ∧ I9.heap[bri]? = some (.cells #[.string peri, .slice anri nnri cnri, .slice alri nlri clri, .slice astri nsri csri, .int .i64 xri.pl] 48 (0, 0))) := ⟨qX, bel_up HBJ.out qX HBJ.out.size, rX⟩
              clear hX hbrix qX rX Pri0 Pri1 Pri2 Pri3 Pri4 
              obtain ⟨Y0, Y1, Y2, Y3, Y4⟩ := cells_five (QI9.out.2.2)
              have hpl := pf_block (bel_up HJ.out.1 QI9.out.1 HJ.out.1.size) QX.out.2.2
              obtain ⟨L0, L1, L2, L3, L4⟩ := cells_five (hpl)
              clear hpl
              cases t with
              | true =>
                obtain rfl : res = some (4, xr.pl) := by
                  rw [HR.out]
                  exact wrong_ros HD1.out (HW.out.2.symm.trans (dup_hit HX.out (HH.out (by first | rfl | trivial))))
                go_wp2_with fail
                go_region
                go_wp2_with fail
                go_ret2
                exact ⟨rfl, QI9.out.2.1.drew⟩
              | false =>
                have HZ : Hid (Below X.heap.size X I9 ∧ (RoD.name xr) ∉ (c.ros.take (j + 1)).map (RoD.name)) := ⟨bel_up HJ.out.1 QI9.out.1 HJ.out.1.size, HG.out (by first | rfl | trivial)⟩
                clear HH HG
                go_wp2_with fail
                clear L0 L1 L2 L3 L4 Y0 Y1 Y2 Y3 Y4
                go_roundg (l - (j + 1))
                case measure => omega
                case rel => exact ⟨j + 1, by omega, by go_num, HZ⟩
            · obtain rfl : j = l := by omega
              have d7 : decide ((j : Int) < j) = false := decide_eq_false (by omega)
              have HZ : Hid (Below V.heap.size V wr ∧ dupR RoD.name ((c.ros.take (j + 1)).map RoD.name) (c.ros.drop (j + 1)) = dupR RoD.name [] c.ros) :=
                ⟨bel_up HU1.out HJ.out.1 HU1.out.size, (dup_miss HX.out HJ.out.2).symm.trans HW.out.2⟩
              go_wp2_with fail
              go_roundg (n2 - (j + 1))
              case measure => omega
              case rel => exact ⟨j + 1, by omega, by go_num, HZ⟩
        · obtain rfl : l = n2 := by omega
          have d5 : decide ((l : Int) < l) = false := decide_eq_false (by omega)
          have HD2 : Hid (res = firstR (routR c) c.ros) := by
            show _ = _
            rw [HR.out, wrong_rest HD1.out]
            rw [← HW.out.2, HN.out.2, dup_end]
          have QS : Hid (Below w.heap.size w wr ∧ wr.heap[b1]? = some (.cells #[.slice am k cm, .slice ar l cr] 33 (0, 0))) := ⟨HBW.out, pf_block HW.out.1 QV.out.2⟩
          obtain ⟨S, hS⟩ : ∃ V, V = wr := ⟨_, rfl⟩
          rw [← hS] at QS
          rw [← hS]
          obtain ⟨C0, C1⟩ := cells_two QS.out.2
          clear hS HW HBW QV QU H0
          go_upto_region 22 with fail
          clear C0 C1
          have H0 : Hid (Below S.heap.size S S ∧ firstR (routR c) (c.ros.drop 0) = firstR (routR c) c.ros) := ⟨Below.refl _ _, rfl⟩
          go_loopg [89] l (fun g i wr => ∃ k : Nat, k + g = l ∧ i = .int .i64 k ∧ Hid (Below S.heap.size S wr ∧ firstR (routR c) (c.ros.drop k) = firstR (routR c) c.ros))
          case atStart => exact ⟨0, Nat.zero_add _, rfl, H0⟩
          case round =>
            obtain ⟨o, ho, rfl, HW⟩ := hrel
            have HBW : Hid (Below w.heap.size w wr) := bel_up QS.out.1 HW.out.1 QS.out.1.size
            by_cases hlt : o < l
            · obtain ⟨xr, hxr⟩ : ∃ x, c.ros[o]? = some x := ⟨c.ros[o]'(by have := HN.out.2; omega), List.getElem?_eq_getElem _⟩
              obtain ⟨bar, oar, rfl, hbr, hpr⟩ := HRS.out o xr hxr
              obtain ⟨nvr, lvr, svr, N0, N1, N2, N3, N4, s1, s2, s3, k1, k2, k3⟩ := hpr
              obtain ⟨anr, cnr, rfl, z1r, hnsr⟩ := s1
              obtain ⟨alr, clr, rfl, z2r, hlsr⟩ := s2
              obtain ⟨astr, csr, rfl, z3r, hssr⟩ := s3
              have Pr0 := cells_below HBW.out (Nat.le_refl _) _ _ _ hbr N0
              have Pr1 := cells_below HBW.out (Nat.le_refl _) _ _ _ hbr N1
              have Pr2 := cells_below HBW.out (Nat.le_refl _) _ _ _ hbr N2
              have Pr3 := cells_below HBW.out (Nat.le_refl _) _ _ _ hbr N3
              have Pr4 := cells_below HBW.out (Nat.le_refl _) _ _ _ hbr N4
              have HKr : Hid (xr.nets.length ≤ cnr ∧ xr.lks.length ≤ clr ∧ xr.sts.length ≤ csr) := ⟨k1.le, k2.le, k3.le⟩
              obtain ⟨nnr, hnn⟩ : ∃ n, n = xr.nets.length := ⟨_, rfl⟩
              obtain ⟨nlr, hnl⟩ : ∃ n, n = xr.lks.length := ⟨_, rfl⟩
              obtain ⟨nsr, hnst⟩ : ∃ n, n = xr.sts.length := ⟨_, rfl⟩
              have HLr : Hid (nnr = xr.nets.length ∧ nlr = xr.lks.length ∧ nsr = xr.sts.length) := ⟨hnn, hnl, hnst⟩
              rw [← hnn] at Pr1 z1r HKr
              rw [← hnl] at Pr2 z2r HKr
              rw [← hnst] at Pr3 z3r HKr
              clear hnn hnl hnst k1 k2 k3 N0 N1 N2 N3 N4
              obtain ⟨per, hper⟩ : ∃ p : ByteArray, p = ⟨xr.name.toArray⟩ := ⟨_, rfl⟩
              rw [← hper] at Pr0
              have HPr : Hid (per = ⟨xr.name.toArray⟩) := hper
              clear hper
              have d6 : decide ((o : Int) < l) = true := decide_eq_true (by omega)
              have c2 : (0 : Int) ≤ o := by omega
              have HX : Hid (c.ros[o]? = some xr) := hxr
              have HNS : Hid (∀ i x, xr.nets[i]? = some x → ∃ b off, anr = some ⟨b, off, none⟩ ∧ b < w.heap.size ∧ PfAt w b (off + i * 2) x) := hnsr
              have HLS : Hid (∀ i x, xr.lks[i]? = some x → ∃ b off, alr = some ⟨b, off, none⟩ ∧ b < w.heap.size ∧ LkAt w b (off + i * 5) x) := hlsr
              have HSS : Hid (∀ i x, xr.sts[i]? = some x → ∃ b off, astr = some ⟨b, off, none⟩ ∧ b < w.heap.size ∧ StAt w b (off + i * 4) x) := hssr
              clear hnsr hlsr hssr
              go_upto_region 24 with fail
              obtain ⟨br, hbrx⟩ : ∃ b, b = wr.heap.size := ⟨_, rfl⟩
              rw [← hbrx]
              obtain ⟨X, hX⟩ : ∃ X, X = wr.alloc (.cells #[.string per, .slice anr nnr cnr, .slice alr nlr clr, .slice astr nsr csr, .int .i64 xr.pl] 48) := ⟨_, rfl⟩
              rw [← hX]
              obtain ⟨qX, rX, _⟩ := box_at wr _ hX hbrx
              have QX : Hid (Below wr.heap.size wr X ∧ Below w.heap.size w X ∧ X.heap[br]? = some (.cells #[.string per, .slice anr nnr cnr, .slice alr nlr clr, .slice astr nsr csr, .int .i64 xr.pl] 48 (0, 0))) := ⟨qX, bel_up HBW.out qX HBW.out.size, rX⟩
              clear hX hbrx qX rX Pr0 Pr1 Pr2 Pr3 Pr4 hxr
              obtain ⟨R0, R1, R2, R3, R4⟩ := cells_five (QX.out.2.2)
              have HU1 : Hid (Below S.heap.size S X) := bel_up HW.out.1 QX.out.1 HW.out.1.size
              go_upto_region 25 with fail
              clear R0 R1 R2 R3 R4
              have HI6 : Hid (Below X.heap.size X X ∧ dupR id ((xr.nets.take 0).map id) (xr.nets.drop 0) = dupR id [] xr.nets) := ⟨Below.refl _ _, rfl⟩
              go_loopg [96] nnr (fun g i wr => ∃ q : Nat, q + g = nnr ∧ i = .int .i64 q ∧ Hid (Below X.heap.size X wr ∧ dupR id ((xr.nets.take q).map id) (xr.nets.drop q) = dupR id [] xr.nets))
              case atStart => exact ⟨0, Nat.zero_add _, rfl, HI6⟩
              case round =>
                obtain ⟨q, hq, rfl, HP6⟩ := hrel
                have HB6 : Hid (Below w.heap.size w wr) := bel_up QX.out.2.1 HP6.out.1 QX.out.2.1.size
                by_cases hlt6 : q < nnr
                · obtain ⟨xp, hxp⟩ : ∃ x, xr.nets[q]? = some x := ⟨xr.nets[q]'(by have := HLr.out.1; omega), List.getElem?_eq_getElem _⟩
                  obtain ⟨ban, oan, rfl, hbp, hpp⟩ := HNS.out q xp hxp
                  obtain ⟨Pp0, Pp1⟩ := hpp.keep hbp (cells_below HB6.out (Nat.le_refl _))
                  have d8 : decide ((q : Int) < nnr) = true := decide_eq_true (by omega)
                  have c8 : (0 : Int) ≤ q := by omega
                  have HX6 : Hid (xr.nets[q]? = some xp) := hxp
                  clear hpp
                  go_upto_region 27 with fail
                  obtain ⟨bp, hbpx⟩ : ∃ b, b = wr.heap.size := ⟨_, rfl⟩
                  rw [← hbpx]
                  obtain ⟨Y, hX⟩ : ∃ X, X = wr.alloc (.cells #[.int .u32 xp.1, .int .i64 xp.2] 74) := ⟨_, rfl⟩
                  rw [← hX]
                  obtain ⟨qX, rX, _⟩ := box_at wr _ hX hbpx
                  have QY : Hid (Below wr.heap.size wr Y ∧ Below w.heap.size w Y ∧ Y.heap[bp]? = some (.cells #[.int .u32 xp.1, .int .i64 xp.2] 74 (0, 0))) := ⟨qX, bel_up HB6.out qX HB6.out.size, rX⟩
                  clear hX hbpx qX rX Pp0 Pp1 hxp
                  have HU6 : Hid (Below X.heap.size X Y) := bel_up HP6.out.1 QY.out.1 HP6.out.1.size
                  have HRY : Hid (Y.heap[br]? = some (.cells #[.string per, .slice (some ⟨ban, oan, none⟩) nnr cnr, .slice alr nlr clr, .slice astr nsr csr, .int .i64 xr.pl] 48 (0, 0))) := pf_block HU6.out QX.out.2.2
                  obtain ⟨R0, R1, R2, R3, R4⟩ := cells_five (HRY.out)
                  have ck6 : q ≤ cnr := by have := HKr.out.1; omega
                  go_upto_region 28 with fail
                  clear R0 R1 R2 R3 R4
                  have HI0 : Hid (Below Y.heap.size Y Y ∧ (id xp) ∉ (xr.nets.take 0).map (id)) := ⟨Below.refl _ _, by simp⟩
                  go_loopg [106] q (fun g i wy => ∃ j : Nat, j + g = q ∧ i = .int .i64 j ∧ Hid (Below Y.heap.size Y wy ∧ (id xp) ∉ (xr.nets.take j).map (id)))
                  case atStart => exact ⟨0, Nat.zero_add _, rfl, HI0⟩
                  case round =>
                    obtain ⟨j, hj, rfl, HJ⟩ := hrel
                    have HBJ : Hid (Below w.heap.size w wr) := bel_up QY.out.2.1 HJ.out.1 QY.out.2.1.size
                    by_cases hjl : j < q
                    · obtain ⟨xpi, hxpi⟩ : ∃ x, xr.nets[j]? = some x := ⟨xr.nets[j]'(by have := HLr.out.1; omega), List.getElem?_eq_getElem _⟩
                      obtain ⟨bb, oo, ee, hbpi, hppi⟩ := HNS.out j xpi hxpi
                      injection ee with ee
                      injection ee with e3 e4 _
                      subst e3 e4
                      obtain ⟨Ppi0, Ppi1⟩ := hppi.keep hbpi (cells_below HBJ.out (Nat.le_refl _))
                      have d7 : decide ((j : Int) < q) = true := decide_eq_true (by omega)
                      have c7 : (0 : Int) ≤ j := by omega
                      obtain ⟨t, ht⟩ := told (Classical.em (id xpi = id xp))
                      have HH : Hid (t = true → (id xp) ∈ (xr.nets.take q).map (id)) := fun h => by
                        rw [← ht.1 h]
                        exact map_mem hxpi hjl
                      have HG : Hid (t = false → (id xp) ∉ (xr.nets.take (j + 1)).map (id)) := fun h => no_take HJ.out.2 hxpi fun e => by rw [ht.2 e] at h; cases h
                      have HE1 : Hid (t = true → (xpi.1 : Int) = (xp.1 : Int) ∧ xpi.2 = xp.2) := fun h => by
                        have h := ht.1 h
                        simp [Prod.ext_iff] at h
                        omega
                      have HE2 : Hid (t = false → ¬ ((xpi.1 : Int) = (xp.1 : Int) ∧ xpi.2 = xp.2)) := fun h h2 => by
                        rw [ht.2 (by simp [Prod.ext_iff]; omega)] at h
                        cases h
                      clear hxpi ht
                      clear hppi
                      go_upto_region 30 with fail
                      obtain ⟨bpi, hbpix⟩ : ∃ b, b = wr.heap.size := ⟨_, rfl⟩
                      rw [← hbpix]
                      obtain ⟨I9, hX⟩ : ∃ X, X = wr.alloc (.cells #[.int .u32 xpi.1, .int .i64 xpi.2] 74) := ⟨_, rfl⟩
                      rw [← hX]
                      obtain ⟨qX, rX, _⟩ := box_at wr _ hX hbpix
                      have QI9 : Hid (Below wr.heap.size wr I9 ∧ Below w.heap.size w I9 ∧ I9.heap[bpi]? = some (.cells #[.int .u32 xpi.1, .int .i64 xpi.2] 74 (0, 0))) := ⟨qX, bel_up HBJ.out qX HBJ.out.size, rX⟩
                      clear hX hbpix qX rX Ppi0 Ppi1 
                      obtain ⟨Y0, Y1⟩ := cells_two (QI9.out.2.2)
                      have hpl := pf_block (bel_up HJ.out.1 QI9.out.1 HJ.out.1.size) QY.out.2.2
                      obtain ⟨L0, L1⟩ := cells_two (hpl)
                      have hpl2 := pf_block (bel_up HJ.out.1 QI9.out.1 HJ.out.1.size) HRY.out
                      obtain ⟨M0, M1, M2, M3, M4⟩ := cells_five (hpl2)
                      clear hpl2
                      clear hpl
                      cases t with
                      | true =>
                        obtain ⟨h1, h2⟩ := HE1.out (by first | rfl | trivial)
                        obtain rfl : res = some (4, xr.pl) := by
                          rw [HD2.out]
                          exact first_tell HX.out HW.out.2 (rout_twice (HP6.out.2.symm.trans (dup_hit (key := id) HX6.out (HH.out (by first | rfl | trivial)))))
                        go_wp2_with fail
                        go_region
                        go_wp2_with fail
                        go_ret2
                        exact ⟨rfl, QI9.out.2.1.drew⟩
                      | false =>
                        have HZ : Hid (Below Y.heap.size Y I9 ∧ (id xp) ∉ (xr.nets.take (j + 1)).map (id)) := ⟨bel_up HJ.out.1 QI9.out.1 HJ.out.1.size, HG.out (by first | rfl | trivial)⟩
                        clear HH HG
                        have hn := HE2.out (by first | rfl | trivial)
                        clear HE1 HE2
                        by_cases h1 : (xpi.1 : Int) = (xp.1 : Int)
                        · have h2 : ¬ xpi.2 = xp.2 := fun h => hn ⟨h1, h⟩
                          clear hn
                          go_wp2_with fail
                          clear L0 L1 M0 M1 M2 M3 M4 Y0 Y1
                          go_roundg (q - (j + 1))
                          case measure => omega
                          case rel => exact ⟨j + 1, by omega, by go_num, HZ⟩
                        · clear hn
                          go_wp2_with fail
                          clear L0 L1 M0 M1 M2 M3 M4 Y0 Y1
                          go_roundg (q - (j + 1))
                          case measure => omega
                          case rel => exact ⟨j + 1, by omega, by go_num, HZ⟩
                    · obtain rfl : j = q := by omega
                      have d7 : decide ((j : Int) < j) = false := decide_eq_false (by omega)
                      have HZ : Hid (Below X.heap.size X wr ∧ dupR id ((xr.nets.take (j + 1)).map id) (xr.nets.drop (j + 1)) = dupR id [] xr.nets) :=
                        ⟨bel_up HU6.out HJ.out.1 HU6.out.size, (dup_miss (key := id) HX6.out HJ.out.2).symm.trans HP6.out.2⟩
                      go_wp2_with fail
                      go_roundg (nnr - (j + 1))
                      case measure => omega
                      case rel => exact ⟨j + 1, by omega, by go_num, HZ⟩
                · obtain rfl : q = nnr := by omega
                  have d8 : decide ((q : Int) < q) = false := decide_eq_false (by omega)
                  have HDN : Hid (dupR id [] xr.nets = none) := by
                    show _ = _
                    rw [← HP6.out.2, HLr.out.1, dup_end]
                  have QN : Hid (Below w.heap.size w wr ∧ Below S.heap.size S wr ∧ wr.heap[br]? = some (.cells #[.string per, .slice anr q cnr, .slice alr nlr clr, .slice astr nsr csr, .int .i64 xr.pl] 48 (0, 0))) := ⟨HB6.out, bel_up HU1.out HP6.out.1 HU1.out.size, pf_block HP6.out.1 QX.out.2.2⟩
                  obtain ⟨N, hN⟩ : ∃ V, V = wr := ⟨_, rfl⟩
                  rw [← hN] at QN
                  rw [← hN]
                  obtain ⟨R0, R1, R2, R3, R4⟩ := cells_five (QN.out.2.2)
                  clear hN HP6 HB6 HI6 QX HU1
                  go_upto_region 35 with fail
                  clear R0 R1 R2 R3 R4
                  have HI8 : Hid (Below N.heap.size N N ∧ linksR c xr ((xr.lks.take 0).map LkD.peer) (xr.lks.drop 0) = linksR c xr [] xr.lks) := ⟨Below.refl _ _, rfl⟩
                  go_loopg [120] nlr (fun g i wr => ∃ z : Nat, z + g = nlr ∧ i = .int .i64 z ∧ Hid (Below N.heap.size N wr ∧ linksR c xr ((xr.lks.take z).map LkD.peer) (xr.lks.drop z) = linksR c xr [] xr.lks))
                  case atStart => exact ⟨0, Nat.zero_add _, rfl, HI8⟩
                  case round =>
                    obtain ⟨z, hz, rfl, HP8⟩ := hrel
                    have HB8 : Hid (Below w.heap.size w wr) := bel_up QN.out.1 HP8.out.1 QN.out.1.size
                    by_cases hlt8 : z < nlr
                    · obtain ⟨xk, hxk⟩ : ∃ x, xr.lks[z]? = some x := ⟨xr.lks[z]'(by have := HLr.out.2.1; omega), List.getElem?_eq_getElem _⟩
                      obtain ⟨bal, oal, rfl, hbk, hpk⟩ := HLS.out z xk hxk
                      obtain ⟨Pk0, Pk1, Pk2, Pk3, Pk4⟩ := hpk.keep hbk (cells_below HB8.out (Nat.le_refl _))
                      obtain ⟨pek, hpek⟩ : ∃ p : ByteArray, p = ⟨xk.peer.toArray⟩ := ⟨_, rfl⟩
                      obtain ⟨imk, himk⟩ : ∃ p : ByteArray, p = ⟨xk.imp.toArray⟩ := ⟨_, rfl⟩
                      obtain ⟨exk, hexk⟩ : ∃ p : ByteArray, p = ⟨xk.exp.toArray⟩ := ⟨_, rfl⟩
                      rw [← hpek] at Pk0
                      have HPk : Hid (pek = ⟨xk.peer.toArray⟩) := hpek
                      clear hpek
                      rw [← himk] at Pk2
                      have HPik : Hid (imk = ⟨xk.imp.toArray⟩) := himk
                      clear himk
                      rw [← hexk] at Pk3
                      have HPek : Hid (exk = ⟨xk.exp.toArray⟩) := hexk
                      clear hexk
                      have d9 : decide ((z : Int) < nlr) = true := decide_eq_true (by omega)
                      have c9 : (0 : Int) ≤ z := by omega
                      have HX8 : Hid (xr.lks[z]? = some xk) := hxk
                      have HTELL : Hid (∀ e, linkR c xr ((xr.lks.take z).map LkD.peer) xk = some e → res = some e) := fun e h => by
                        rw [HD2.out]
                        exact first_tell HX.out HW.out.2 (rout_link HDN.out (links_tell HX8.out HP8.out.2 h))
                      clear hpk
                      go_upto_region 37 with fail
                      obtain ⟨bk, hbkx⟩ : ∃ b, b = wr.heap.size := ⟨_, rfl⟩
                      rw [← hbkx]
                      obtain ⟨Y, hX⟩ : ∃ X, X = wr.alloc (.cells #[.string pek, .int .i64 xk.cost, .string imk, .string exk, .int .i64 xk.pl] 50) := ⟨_, rfl⟩
                      rw [← hX]
                      obtain ⟨qX, rX, _⟩ := box_at wr _ hX hbkx
                      have QY : Hid (Below wr.heap.size wr Y ∧ Below w.heap.size w Y ∧ Y.heap[bk]? = some (.cells #[.string pek, .int .i64 xk.cost, .string imk, .string exk, .int .i64 xk.pl] 50 (0, 0))) := ⟨qX, bel_up HB8.out qX HB8.out.size, rX⟩
                      clear hX hbkx qX rX Pk0 Pk1 Pk2 Pk3 Pk4 hxk
                      have HU8 : Hid (Below N.heap.size N Y) := bel_up HP8.out.1 QY.out.1 HP8.out.1.size
                      have HRY : Hid (Y.heap[br]? = some (.cells #[.string per, .slice anr q cnr, .slice (some ⟨bal, oal, none⟩) nlr clr, .slice astr nsr csr, .int .i64 xr.pl] 48 (0, 0))) := pf_block HU8.out QN.out.2.2
                      have HCY : Hid (Y.heap[b1]? = some (.cells #[.slice am k cm, .slice (some ⟨bar, oar, none⟩) l cr] 33 (0, 0))) := pf_block (bel_up QN.out.2.1 HU8.out QN.out.2.1.size) QS.out.2
                      obtain ⟨C0, C1⟩ := cells_two HCY.out
                      obtain ⟨K0, K1, K2, K3, K4⟩ := cells_five (QY.out.2.2)
                      have hcall := router9_any (B := w.heap.size) QY.out.2.1.size (HCF.out.at.keep (Nat.le_refl _) (cells_below QY.out.2.1 (Nat.le_refl _))) xk.peer
                      rw [← HPk.out] at hcall
                      go_wp2_with fail
                      refine hcall.mono ?_
                      rintro e Z ⟨fr, rfl, hfr, qZ⟩
                      have QZ : Hid (Below Y.heap.size Y Z ∧ Below w.heap.size w Z) := ⟨qZ, bel_up QY.out.2.1 qZ QY.out.2.1.size⟩
                      have HFR : Hid (FoundAt Z w.heap.size fr (namedR c xk.peer)) := hfr
                      clear hcall hfr qZ C0 C1 K0 K1 K2 K3 K4
                      obtain ⟨fp, hfp⟩ : ∃ p, p = namedR c xk.peer := ⟨_, rfl⟩
                      rw [← hfp] at HFR
                      have HFP : Hid (fp = namedR c xk.peer) := hfp
                      clear hfp
                      cases fp with
                      | none =>
                        have hfr : fr = _ := HFR.out
                        subst hfr
                        obtain rfl := HTELL.out _ (linkR_name (.inr (.inl (by rw [← HFP.out]; rfl))))
                        clear HFR
                        go_upto_region 38 with fail
                        obtain ⟨b20, hb20⟩ : ∃ b, b = Z.heap.size := ⟨_, rfl⟩
                        rw [← hb20]
                        obtain ⟨Z2, hZ2⟩ : ∃ X, X = Z.alloc (.cells #[.string ⟨#[]⟩, .slice none 0 0, .slice none 0 0, .slice none 0 0, .int .i64 0] 48) := ⟨_, rfl⟩
                        rw [← hZ2]
                        obtain ⟨qX, rX, _⟩ := box_at Z _ hZ2 hb20
                        have QZ2 : Hid (Below Y.heap.size Y Z2 ∧ Below w.heap.size w Z2) := ⟨bel_up QZ.out.1 qX QZ.out.1.size, bel_up QZ.out.2 qX QZ.out.2.size⟩
                        obtain ⟨K0, K1, K2, K3, K4⟩ := cells_five (pf_block QZ2.out.1 QY.out.2.2)
                        clear hZ2 hb20 qX rX
                        go_wp2_with fail
                        go_region
                        go_wp2_with fail
                        go_ret2
                        exact ⟨rfl, QZ2.out.2.drew⟩
                      | some p =>
                        obtain ⟨rv, hrv, hrp⟩ : ∃ rv, fr = .tuple #[rv, .bool true] ∧ RoVal Z w.heap.size rv p := HFR.out
                        subst hrv
                        obtain ⟨nvp, lvp, svp, rfl, ⟨anp, cnp, rfl, _, _⟩, ⟨alp, clp, rfl, hlp0, hlp⟩, ⟨asp, csp, rfl, _, _⟩⟩ := hrp
                        have HLP : Hid (∀ i x, p.lks[i]? = some x → ∃ b off, alp = some ⟨b, off, none⟩ ∧ b < w.heap.size ∧ LkAt Z b (off + i * 5) x) := hlp
                        obtain ⟨nnp, hnnp⟩ : ∃ n, n = p.nets.length := ⟨_, rfl⟩
                        obtain ⟨nlp, hnlp⟩ : ∃ n, n = p.lks.length := ⟨_, rfl⟩
                        obtain ⟨nsp, hnsp⟩ : ∃ n, n = p.sts.length := ⟨_, rfl⟩
                        obtain ⟨np, hnp⟩ : ∃ n : ByteArray, n = ⟨p.name.toArray⟩ := ⟨_, rfl⟩
                        rw [← hnlp] at hlp0
                        rw [← hnnp, ← hnlp, ← hnsp, ← hnp]
                        have HNP : Hid (nlp = p.lks.length) := hnlp
                        clear hlp hnnp hnlp hnsp hnp HFR
                        go_upto_region 38 with fail
                        obtain ⟨b20, hb20⟩ : ∃ b, b = Z.heap.size := ⟨_, rfl⟩
                        rw [← hb20]
                        obtain ⟨Z2, hZ2⟩ : ∃ X, X = Z.alloc (.cells #[.string np, .slice anp nnp cnp, .slice alp nlp clp, .slice asp nsp csp, .int .i64 p.pl] 48) := ⟨_, rfl⟩
                        rw [← hZ2]
                        obtain ⟨qX, rX, _⟩ := box_at Z _ hZ2 hb20
                        have QZ2 : Hid (Below Y.heap.size Y Z2 ∧ Below w.heap.size w Z2 ∧ Z2.heap[b20]? = some (.cells #[.string np, .slice anp nnp cnp, .slice alp nlp clp, .slice asp nsp csp, .int .i64 p.pl] 48 (0, 0)) ∧ Below Z.heap.size Z Z2) := ⟨bel_up QZ.out.1 qX QZ.out.1.size, bel_up QZ.out.2 qX QZ.out.2.size, rX, qX⟩
                        obtain ⟨K0, K1, K2, K3, K4⟩ := cells_five (pf_block QZ2.out.1 QY.out.2.2)
                        obtain ⟨R0, _⟩ := cells_five (pf_block QZ2.out.1 HRY.out)
                        obtain ⟨C0, C1⟩ := cells_two (pf_block QZ2.out.1 HCY.out)
                        clear hZ2 hb20 qX rX
                        have e1 := beq_str xk.peer xr.name
                        rw [← HPk.out, ← HPr.out] at e1
                        obtain ⟨t1, ht1⟩ : ∃ t : Bool, t = decide (xk.peer = xr.name) := ⟨_, rfl⟩
                        obtain ⟨t3, ht3⟩ : ∃ t : Bool, t = mappedR c xk.imp := ⟨_, rfl⟩
                        obtain ⟨t4, ht4⟩ : ∃ t : Bool, t = mappedR c xk.exp := ⟨_, rfl⟩
                        rw [← ht1] at e1
                        have hm3 := fun (W : World) (q : Below w.heap.size w W) => mapped9_any (B := w.heap.size) q.size (HCF.out.at.keep (Nat.le_refl _) (cells_below q (Nat.le_refl _))) xk.imp
                        have hm4 := fun (W : World) (q : Below w.heap.size w W) => mapped9_any (B := w.heap.size) q.size (HCF.out.at.keep (Nat.le_refl _) (cells_below q (Nat.le_refl _))) xk.exp
                        rw [← HPik.out, ← ht3] at hm3
                        rw [← HPek.out, ← ht4] at hm4
                        have HT1 : Hid (t1 = true ∨ t3 = false ∨ t4 = false → res = some (3, xk.pl)) := fun h => by
                          refine HTELL.out _ (linkR_name ?_)
                          rw [ht1, decide_eq_true_iff, ht3, ht4] at h
                          rcases h with h | h
                          · exact .inl h
                          · exact .inr (.inr h)
                        have HT2 : Hid (t1 = false → t3 = true → t4 = true → linkR c xr ((xr.lks.take z).map LkD.peer) xk = if xk.peer ∈ (xr.lks.take z).map LkD.peer then some (4, xk.pl) else if p.lks.any (fun x => decide (x.peer = xr.name)) = true then none else some (5, xk.pl)) := fun h1 h3 h4 =>
                          linkR_rest (by rw [ht1] at h1; exact of_decide_eq_false h1) HFP.out.symm (by rw [← ht3, h3]) (by rw [← ht4, h4])
                        clear ht1 ht3 ht4
                        have g3 := hm3 Z2 QZ2.out.2.1
                        clear hm3
                        cases t1 with
                        | true =>
                          clear g3 hm4
                          obtain rfl := HT1.out (.inl (by first | rfl | trivial))
                          go_wp2_with fail
                          go_region
                          go_wp2_with fail
                          go_ret2
                          exact ⟨rfl, QZ2.out.2.1.drew⟩
                        | false =>
                          go_wp2_with fail
                          refine g3.mono ?_
                          rintro e V1 ⟨rfl, q1⟩
                          have QV1 : Hid (Below w.heap.size w V1 ∧ Below Y.heap.size Y V1 ∧ Below Z2.heap.size Z2 V1) := ⟨bel_up QZ2.out.2.1 q1 QZ2.out.2.1.size, bel_up QZ2.out.1 q1 QZ2.out.1.size, q1⟩
                          clear K0 K1 K2 K3 K4 C0 C1 R0 e1
                          obtain ⟨K0, K1, K2, K3, K4⟩ := cells_five (pf_block QV1.out.2.1 QY.out.2.2)
                          obtain ⟨C0, C1⟩ := cells_two (pf_block QV1.out.2.1 HCY.out)
                          have g4 := hm4 V1 QV1.out.1
                          clear g3 hm4 q1
                          cases t3 with
                          | false =>
                            clear g4
                            obtain rfl := HT1.out (.inr (.inl (by first | rfl | trivial)))
                            go_wp2_with fail
                            go_region
                            go_wp2_with fail
                            go_ret2
                            exact ⟨rfl, QV1.out.1.drew⟩
                          | true =>
                            go_wp2_with fail
                            refine g4.mono ?_
                            rintro e V2 ⟨rfl, q1⟩
                            have QV2 : Hid (Below w.heap.size w V2 ∧ Below Y.heap.size Y V2 ∧ Below Z2.heap.size Z2 V2) := ⟨bel_up QV1.out.1 q1 QV1.out.1.size, bel_up QV1.out.2.1 q1 QV1.out.2.1.size, bel_up QV1.out.2.2 q1 QV1.out.2.2.size⟩
                            clear K0 K1 K2 K3 K4 C0 C1
                            obtain ⟨K0, K1, K2, K3, K4⟩ := cells_five (pf_block QV2.out.2.1 QY.out.2.2)
                            clear g4 q1
                            cases t4 with
                            | false =>
                              obtain rfl := HT1.out (.inr (.inr (by first | rfl | trivial)))
                              go_wp2_with fail
                              go_region
                              go_wp2_with fail
                              go_ret2
                              exact ⟨rfl, QV2.out.1.drew⟩
                            | true =>
                              have HT3 : Hid (linkR c xr ((xr.lks.take z).map LkD.peer) xk = if xk.peer ∈ (xr.lks.take z).map LkD.peer then some (4, xk.pl) else if p.lks.any (fun x => decide (x.peer = xr.name)) = true then none else some (5, xk.pl)) := HT2.out (by first | rfl | trivial) (by first | rfl | trivial) (by first | rfl | trivial)
                              clear HT1 HT2 K0 K1 K2 K3 K4
                              have HRV : Hid (V2.heap[br]? = some (.cells #[.string per, .slice anr q cnr, .slice (some ⟨bal, oal, none⟩) nlr clr, .slice astr nsr csr, .int .i64 xr.pl] 48 (0, 0))) := pf_block QV2.out.2.1 HRY.out
                              have HKV : Hid (V2.heap[bk]? = some (.cells #[.string pek, .int .i64 xk.cost, .string imk, .string exk, .int .i64 xk.pl] 50 (0, 0))) := pf_block QV2.out.2.1 QY.out.2.2
                              obtain ⟨R0, R1, R2, R3, R4⟩ := cells_five (HRV.out)
                              have ck8 : z ≤ clr := by have := HKr.out.2.1; omega
                              go_upto_region 41 with fail
                              clear R0 R1 R2 R3 R4
                              have HI0 : Hid (Below V2.heap.size V2 V2 ∧ (LkD.peer xk) ∉ (xr.lks.take 0).map (LkD.peer)) := ⟨Below.refl _ _, by simp⟩
                              go_loopg [162] z (fun g i wy => ∃ j : Nat, j + g = z ∧ i = .int .i64 j ∧ Hid (Below V2.heap.size V2 wy ∧ (LkD.peer xk) ∉ (xr.lks.take j).map (LkD.peer)))
                              case atStart => exact ⟨0, Nat.zero_add _, rfl, HI0⟩
                              case round =>
                                obtain ⟨j, hj, rfl, HJ⟩ := hrel
                                have HBJ : Hid (Below w.heap.size w wr) := bel_up QV2.out.1 HJ.out.1 QV2.out.1.size
                                by_cases hjl : j < z
                                · obtain ⟨xki, hxki⟩ : ∃ x, xr.lks[j]? = some x := ⟨xr.lks[j]'(by have := HLr.out.2.1; omega), List.getElem?_eq_getElem _⟩
                                  obtain ⟨bb, oo, ee, hbki, hpki⟩ := HLS.out j xki hxki
                                  injection ee with ee
                                  injection ee with e3 e4 _
                                  subst e3 e4
                                  obtain ⟨Pki0, Pki1, Pki2, Pki3, Pki4⟩ := hpki.keep hbki (cells_below HBJ.out (Nat.le_refl _))
                                  obtain ⟨peki, hpeki⟩ : ∃ p : ByteArray, p = ⟨xki.peer.toArray⟩ := ⟨_, rfl⟩
                                  obtain ⟨imki, himki⟩ : ∃ p : ByteArray, p = ⟨xki.imp.toArray⟩ := ⟨_, rfl⟩
                                  obtain ⟨exki, hexki⟩ : ∃ p : ByteArray, p = ⟨xki.exp.toArray⟩ := ⟨_, rfl⟩
                                  rw [← hpeki] at Pki0
                                  have HPki : Hid (peki = ⟨xki.peer.toArray⟩) := hpeki
                                  clear hpeki
                                  rw [← himki] at Pki2
                                  have HPiki : Hid (imki = ⟨xki.imp.toArray⟩) := himki
                                  clear himki
                                  rw [← hexki] at Pki3
                                  have HPeki : Hid (exki = ⟨xki.exp.toArray⟩) := hexki
                                  clear hexki
                                  have d7 : decide ((j : Int) < z) = true := decide_eq_true (by omega)
                                  have c7 : (0 : Int) ≤ j := by omega
                                  obtain ⟨t, ht⟩ := told (Classical.em (LkD.peer xki = LkD.peer xk))
                                  have HH : Hid (t = true → (LkD.peer xk) ∈ (xr.lks.take z).map (LkD.peer)) := fun h => by
                                    rw [← ht.1 h]
                                    exact map_mem hxki hjl
                                  have HG : Hid (t = false → (LkD.peer xk) ∉ (xr.lks.take (j + 1)).map (LkD.peer)) := fun h => no_take HJ.out.2 hxki fun e => by rw [ht.2 e] at h; cases h
                                  have e1 := beq_str xki.peer xk.peer
                                  rw [← HPki.out, ← HPk.out] at e1
                                  have e1' : (peki.toList == pek.toList) = t := by
                                    rw [e1, Bool.eq_iff_iff, decide_eq_true_iff]
                                    exact ht.symm
                                  clear e1 HPki
                                  clear HPiki HPeki
                                  clear hxki ht
                                  clear hpki
                                  go_upto_region 43 with fail
                                  obtain ⟨bki, hbkix⟩ : ∃ b, b = wr.heap.size := ⟨_, rfl⟩
                                  rw [← hbkix]
                                  obtain ⟨I9, hX⟩ : ∃ X, X = wr.alloc (.cells #[.string peki, .int .i64 xki.cost, .string imki, .string exki, .int .i64 xki.pl] 50) := ⟨_, rfl⟩
                                  rw [← hX]
                                  obtain ⟨qX, rX, _⟩ := box_at wr _ hX hbkix
                                  have QI9 : Hid (Below wr.heap.size wr I9 ∧ Below w.heap.size w I9 ∧ I9.heap[bki]? = some (.cells #[.string peki, .int .i64 xki.cost, .string imki, .string exki, .int .i64 xki.pl] 50 (0, 0))) := ⟨qX, bel_up HBJ.out qX HBJ.out.size, rX⟩
                                  clear hX hbkix qX rX Pki0 Pki1 Pki2 Pki3 Pki4 
                                  obtain ⟨Y0, Y1, Y2, Y3, Y4⟩ := cells_five (QI9.out.2.2)
                                  have hpl := pf_block (bel_up HJ.out.1 QI9.out.1 HJ.out.1.size) HKV.out
                                  obtain ⟨L0, L1, L2, L3, L4⟩ := cells_five (hpl)
                                  clear hpl
                                  cases t with
                                  | true =>
                                    obtain rfl := HTELL.out (4, xk.pl) (by rw [HT3.out, if_pos (HH.out (by first | rfl | trivial))])
                                    go_wp2_with fail
                                    go_region
                                    go_wp2_with fail
                                    go_ret2
                                    exact ⟨rfl, QI9.out.2.1.drew⟩
                                  | false =>
                                    have HZ : Hid (Below V2.heap.size V2 I9 ∧ (LkD.peer xk) ∉ (xr.lks.take (j + 1)).map (LkD.peer)) := ⟨bel_up HJ.out.1 QI9.out.1 HJ.out.1.size, HG.out (by first | rfl | trivial)⟩
                                    clear HH HG
                                    go_wp2_with fail
                                    clear L0 L1 L2 L3 L4 Y0 Y1 Y2 Y3 Y4
                                    go_roundg (z - (j + 1))
                                    case measure => omega
                                    case rel => exact ⟨j + 1, by omega, by go_num, HZ⟩
                                · obtain rfl : j = z := by omega
                                  have d7 : decide ((j : Int) < j) = false := decide_eq_false (by omega)
                                  have HNO : Hid (LkD.peer xk ∉ (xr.lks.take j).map LkD.peer) := HJ.out.2
                                  have HQ9 : Hid (Below w.heap.size w wr ∧ Below V2.heap.size V2 wr ∧ Below N.heap.size N wr) := ⟨HBJ.out, HJ.out.1, bel_up HU8.out (bel_up QV2.out.2.1 HJ.out.1 QV2.out.2.1.size) HU8.out.size⟩
                                  obtain ⟨V3, hV3⟩ : ∃ V, V = wr := ⟨_, rfl⟩
                                  rw [← hV3] at HQ9
                                  rw [← hV3]
                                  have HB3 : Hid (V3.heap[br]? = some (.cells #[.string per, .slice anr q cnr, .slice (some ⟨bal, oal, none⟩) nlr clr, .slice astr nsr csr, .int .i64 xr.pl] 48 (0, 0)) ∧ V3.heap[bk]? = some (.cells #[.string pek, .int .i64 xk.cost, .string imk, .string exk, .int .i64 xk.pl] 50 (0, 0)) ∧ V3.heap[b20]? = some (.cells #[.string np, .slice anp nnp cnp, .slice alp nlp clp, .slice asp nsp csp, .int .i64 p.pl] 48 (0, 0))) := ⟨pf_block HQ9.out.2.1 HRV.out, pf_block HQ9.out.2.1 HKV.out, pf_block (bel_up QV2.out.2.2 HQ9.out.2.1 QV2.out.2.2.size) QZ2.out.2.2.1⟩
                                  obtain ⟨M0, M1, M2, M3, M4⟩ := cells_five HB3.out.2.2
                                  clear hV3 HJ HBJ
                                  go_upto_region 48 with fail
                                  clear M0 M1 M2 M3 M4
                                  have HI10 : Hid (Below V3.heap.size V3 V3 ∧ false = (p.lks.take 0).any (fun x => decide (x.peer = xr.name))) := ⟨Below.refl _ _, by simp⟩
                                  go_loopg [177, 24] nlp (fun g i bv wy => ∃ (u : Nat) (back : Bool), u + g = nlp ∧ i = .int .i64 u ∧ bv = .bool back ∧ Hid (Below V3.heap.size V3 wy ∧ back = (p.lks.take u).any (fun x => decide (x.peer = xr.name))))
                                  case atStart => exact ⟨0, false, Nat.zero_add _, rfl, rfl, HI10⟩
                                  case round =>
                                    obtain ⟨u, back, hu, rfl, rfl, HP10⟩ := hrel
                                    have HB10 : Hid (Below w.heap.size w wr) := bel_up HQ9.out.1 HP10.out.1 HQ9.out.1.size
                                    by_cases hlt10 : u < nlp
                                    · obtain ⟨xv, hxv⟩ : ∃ x, p.lks[u]? = some x := ⟨p.lks[u]'(by have := HNP.out; omega), List.getElem?_eq_getElem _⟩
                                      obtain ⟨bal, oal, rfl, hbv, hpv⟩ := HLP.out u xv hxv
                                      obtain ⟨Pv0, Pv1, Pv2, Pv3, Pv4⟩ := hpv.keep (B := w.heap.size) hbv (cells_below (bel_up QZ2.out.2.2.2 (bel_up QV2.out.2.2 (bel_up HQ9.out.2.1 HP10.out.1 HQ9.out.2.1.size) QV2.out.2.2.size) QZ2.out.2.2.2.size) QZ.out.2.size)
                                      obtain ⟨pev, hpev⟩ : ∃ p : ByteArray, p = ⟨xv.peer.toArray⟩ := ⟨_, rfl⟩
                                      obtain ⟨imv, himv⟩ : ∃ p : ByteArray, p = ⟨xv.imp.toArray⟩ := ⟨_, rfl⟩
                                      obtain ⟨exv, hexv⟩ : ∃ p : ByteArray, p = ⟨xv.exp.toArray⟩ := ⟨_, rfl⟩
                                      rw [← hpev] at Pv0
                                      have HPv : Hid (pev = ⟨xv.peer.toArray⟩) := hpev
                                      clear hpev
                                      rw [← himv] at Pv2
                                      have HPiv : Hid (imv = ⟨xv.imp.toArray⟩) := himv
                                      clear himv
                                      rw [← hexv] at Pv3
                                      have HPev : Hid (exv = ⟨xv.exp.toArray⟩) := hexv
                                      clear hexv
                                      have d11 : decide ((u : Int) < nlp) = true := decide_eq_true (by omega)
                                      have c11 : (0 : Int) ≤ u := by omega
                                      have e1 := beq_str xv.peer xr.name
                                      rw [← HPv.out, ← HPr.out] at e1
                                      obtain ⟨t, ht⟩ : ∃ t : Bool, t = decide (xv.peer = xr.name) := ⟨_, rfl⟩
                                      rw [← ht] at e1
                                      have HA : Hid ((p.lks.take (u + 1)).any (fun x => decide (x.peer = xr.name)) = (back || t)) := by
                                        show _ = _
                                        rw [any_take hxv, ← HP10.out.2, ht]
                                      clear HPv HPiv HPev ht
                                      clear hpv
                                      go_upto_region 50 with fail
                                      obtain ⟨bv, hbvx⟩ : ∃ b, b = wr.heap.size := ⟨_, rfl⟩
                                      rw [← hbvx]
                                      obtain ⟨Y2, hX⟩ : ∃ X, X = wr.alloc (.cells #[.string pev, .int .i64 xv.cost, .string imv, .string exv, .int .i64 xv.pl] 50) := ⟨_, rfl⟩
                                      rw [← hX]
                                      obtain ⟨qX, rX, _⟩ := box_at wr _ hX hbvx
                                      have QY2 : Hid (Below wr.heap.size wr Y2 ∧ Below w.heap.size w Y2 ∧ Y2.heap[bv]? = some (.cells #[.string pev, .int .i64 xv.cost, .string imv, .string exv, .int .i64 xv.pl] 50 (0, 0))) := ⟨qX, bel_up HB10.out qX HB10.out.size, rX⟩
                                      clear hX hbvx qX rX Pv0 Pv1 Pv2 Pv3 Pv4 hxv
                                      obtain ⟨K0, K1, K2, K3, K4⟩ := cells_five (QY2.out.2.2)
                                      obtain ⟨R0, _⟩ := cells_five (pf_block (bel_up HP10.out.1 QY2.out.1 HP10.out.1.size) HB3.out.1)
                                      have HZ : Hid (Below V3.heap.size V3 Y2 ∧ (back || t) = (p.lks.take (u + 1)).any (fun x => decide (x.peer = xr.name))) := ⟨bel_up HP10.out.1 QY2.out.1 HP10.out.1.size, HA.out.symm⟩
                                      clear HA
                                      cases back with
                                      | true =>
                                        have HZ2 : Hid (Below V3.heap.size V3 Y2 ∧ true = (p.lks.take (u + 1)).any (fun x => decide (x.peer = xr.name))) := ⟨HZ.out.1, by have := HZ.out.2; simpa using this⟩
                                        clear HZ
                                        go_wp2_with fail
                                        clear K0 K1 K2 K3 K4 R0
                                        go_roundg (nlp - (u + 1))
                                        case measure => omega
                                        case rel => exact ⟨u + 1, true, by omega, by go_num, rfl, HZ2⟩
                                      | false =>
                                        have HZ2 : Hid (Below V3.heap.size V3 Y2 ∧ t = (p.lks.take (u + 1)).any (fun x => decide (x.peer = xr.name))) := ⟨HZ.out.1, by have := HZ.out.2; simpa using this⟩
                                        clear HZ
                                        go_wp2_with fail
                                        clear K0 K1 K2 K3 K4 R0
                                        go_roundg (nlp - (u + 1))
                                        case measure => omega
                                        case rel => exact ⟨u + 1, t, by omega, by go_num, rfl, HZ2⟩
                                    · obtain rfl : u = nlp := by omega
                                      have d11 : decide ((u : Int) < u) = false := decide_eq_false (by omega)
                                      have HBK : Hid (back = p.lks.any (fun x => decide (x.peer = xr.name))) := by
                                        show _ = _
                                        rw [HP10.out.2, HNP.out, List.take_length]
                                      obtain ⟨K0, K1, K2, K3, K4⟩ := cells_five (pf_block HP10.out.1 HB3.out.2.1)
                                      cases back with
                                      | false =>
                                        obtain rfl := HTELL.out (5, xk.pl) (by rw [HT3.out, if_neg HNO.out, if_neg (by rw [← HBK.out]; simp)])
                                        go_wp2_with fail
                                        go_region
                                        go_wp2_with fail
                                        go_ret2
                                        exact ⟨rfl, HB10.out.drew⟩
                                      | true =>
                                        have HZ : Hid (Below N.heap.size N wr ∧ linksR c xr ((xr.lks.take (j + 1)).map LkD.peer) (xr.lks.drop (j + 1)) = linksR c xr [] xr.lks) :=
                                          ⟨bel_up HQ9.out.2.2 HP10.out.1 HQ9.out.2.2.size, links_go HX8.out HP8.out.2 (by rw [HT3.out, if_neg HNO.out, if_pos (by rw [← HBK.out])])⟩
                                        go_wp2_with fail
                                        clear K0 K1 K2 K3 K4
                                        go_roundg (nlr - (j + 1))
                                        case measure => omega
                                        case rel => exact ⟨j + 1, by omega, by go_num, HZ⟩
                    · obtain rfl : z = nlr := by omega
                      have d9 : decide ((z : Int) < z) = false := decide_eq_false (by omega)
                      have HDL : Hid (linksR c xr [] xr.lks = none) := by
                        show _ = _
                        rw [← HP8.out.2, HLr.out.2.1, List.drop_length]
                        rfl
                      have QM : Hid (Below w.heap.size w wr ∧ Below S.heap.size S wr ∧ wr.heap[br]? = some (.cells #[.string per, .slice anr q cnr, .slice alr z clr, .slice astr nsr csr, .int .i64 xr.pl] 48 (0, 0))) := ⟨HB8.out, bel_up QN.out.2.1 HP8.out.1 QN.out.2.1.size, pf_block HP8.out.1 QN.out.2.2⟩
                      obtain ⟨M, hM⟩ : ∃ V, V = wr := ⟨_, rfl⟩
                      rw [← hM] at QM
                      rw [← hM]
                      obtain ⟨R0, R1, R2, R3, R4⟩ := cells_five (QM.out.2.2)
                      clear hM HP8 HB8 HI8 QN
                      go_upto_region 56 with fail
                      clear R0 R1 R2 R3 R4
                      have HI11 : Hid (Below M.heap.size M M ∧ statsR xr ((xr.sts.take 0).map fun s => (s.a, s.b)) (xr.sts.drop 0) = statsR xr [] xr.sts) := ⟨Below.refl _ _, rfl⟩
                      go_loopg [198] nsr (fun g i wr => ∃ y : Nat, y + g = nsr ∧ i = .int .i64 y ∧ Hid (Below M.heap.size M wr ∧ statsR xr ((xr.sts.take y).map fun s => (s.a, s.b)) (xr.sts.drop y) = statsR xr [] xr.sts))
                      case atStart => exact ⟨0, Nat.zero_add _, rfl, HI11⟩
                      case round =>
                        obtain ⟨y, hy, rfl, HP11⟩ := hrel
                        have HB11 : Hid (Below w.heap.size w wr) := bel_up QM.out.1 HP11.out.1 QM.out.1.size
                        by_cases hlt11 : y < nsr
                        · obtain ⟨xs, hxs⟩ : ∃ x, xr.sts[y]? = some x := ⟨xr.sts[y]'(by have := HLr.out.2.2; omega), List.getElem?_eq_getElem _⟩
                          obtain ⟨bast, oast, rfl, hbs, hps⟩ := HSS.out y xs hxs
                          obtain ⟨Ps0, Ps1, Ps2, Ps3⟩ := hps.keep hbs (cells_below HB11.out (Nat.le_refl _))
                          obtain ⟨vis, hvis⟩ : ∃ p : ByteArray, p = ⟨xs.via.toArray⟩ := ⟨_, rfl⟩
                          rw [← hvis] at Ps2
                          have HPvs : Hid (vis = ⟨xs.via.toArray⟩) := hvis
                          clear hvis
                          have d12 : decide ((y : Int) < nsr) = true := decide_eq_true (by omega)
                          have c12 : (0 : Int) ≤ y := by omega
                          have HX11 : Hid (xr.sts[y]? = some xs) := hxs
                          have HTELL : Hid (∀ e, statR xr ((xr.sts.take y).map fun s => (s.a, s.b)) xs = some e → res = some e) := fun e h => by
                            rw [HD2.out]
                            exact first_tell HX.out HW.out.2 ((rout_stat HDN.out HDL.out).trans (stats_tell HX11.out HP11.out.2 h))
                          clear hps
                          go_upto_region 58 with fail
                          obtain ⟨bs, hbsx⟩ : ∃ b, b = wr.heap.size := ⟨_, rfl⟩
                          rw [← hbsx]
                          obtain ⟨Y, hX⟩ : ∃ X, X = wr.alloc (.cells #[.int .u32 xs.a, .int .i64 xs.b, .string vis, .int .i64 xs.pl] 77) := ⟨_, rfl⟩
                          rw [← hX]
                          obtain ⟨qX, rX, _⟩ := box_at wr _ hX hbsx
                          have QY : Hid (Below wr.heap.size wr Y ∧ Below w.heap.size w Y ∧ Y.heap[bs]? = some (.cells #[.int .u32 xs.a, .int .i64 xs.b, .string vis, .int .i64 xs.pl] 77 (0, 0))) := ⟨qX, bel_up HB11.out qX HB11.out.size, rX⟩
                          clear hX hbsx qX rX Ps0 Ps1 Ps2 Ps3 hxs
                          have HU11 : Hid (Below M.heap.size M Y) := bel_up HP11.out.1 QY.out.1 HP11.out.1.size
                          have HRY : Hid (Y.heap[br]? = some (.cells #[.string per, .slice anr q cnr, .slice alr z clr, .slice (some ⟨bast, oast, none⟩) nsr csr, .int .i64 xr.pl] 48 (0, 0))) := pf_block HU11.out QM.out.2.2
                          obtain ⟨R0, R1, R2, R3, R4⟩ := cells_five (HRY.out)
                          go_upto_region 60 with fail
                          clear R0 R1 R2 R3 R4
                          have HI12 : Hid (Below Y.heap.size Y Y ∧ false = (xr.lks.take 0).any (fun x => decide (x.peer = xs.via))) := ⟨Below.refl _ _, by simp⟩
                          go_loopg [206, 29] z (fun g i bv wy => ∃ (u : Nat) (back : Bool), u + g = z ∧ i = .int .i64 u ∧ bv = .bool back ∧ Hid (Below Y.heap.size Y wy ∧ back = (xr.lks.take u).any (fun x => decide (x.peer = xs.via))))
                          case atStart => exact ⟨0, false, Nat.zero_add _, rfl, rfl, HI12⟩
                          case round =>
                            obtain ⟨u, back, hu, rfl, rfl, HP12⟩ := hrel
                            have HB12 : Hid (Below w.heap.size w wr) := bel_up QY.out.2.1 HP12.out.1 QY.out.2.1.size
                            by_cases hlt12 : u < z
                            · obtain ⟨xv, hxv⟩ : ∃ x, xr.lks[u]? = some x := ⟨xr.lks[u]'(by have := HLr.out.2.1; omega), List.getElem?_eq_getElem _⟩
                              obtain ⟨bal, oal, rfl, hbv, hpv⟩ := HLS.out u xv hxv
                              obtain ⟨Pv0, Pv1, Pv2, Pv3, Pv4⟩ := hpv.keep hbv (cells_below HB12.out (Nat.le_refl _))
                              obtain ⟨pev, hpev⟩ : ∃ p : ByteArray, p = ⟨xv.peer.toArray⟩ := ⟨_, rfl⟩
                              obtain ⟨imv, himv⟩ : ∃ p : ByteArray, p = ⟨xv.imp.toArray⟩ := ⟨_, rfl⟩
                              obtain ⟨exv, hexv⟩ : ∃ p : ByteArray, p = ⟨xv.exp.toArray⟩ := ⟨_, rfl⟩
                              rw [← hpev] at Pv0
                              have HPv : Hid (pev = ⟨xv.peer.toArray⟩) := hpev
                              clear hpev
                              rw [← himv] at Pv2
                              have HPiv : Hid (imv = ⟨xv.imp.toArray⟩) := himv
                              clear himv
                              rw [← hexv] at Pv3
                              have HPev : Hid (exv = ⟨xv.exp.toArray⟩) := hexv
                              clear hexv
                              have d13 : decide ((u : Int) < z) = true := decide_eq_true (by omega)
                              have c13 : (0 : Int) ≤ u := by omega
                              have e1 := beq_str xv.peer xs.via
                              rw [← HPv.out, ← HPvs.out] at e1
                              obtain ⟨t, ht⟩ : ∃ t : Bool, t = decide (xv.peer = xs.via) := ⟨_, rfl⟩
                              rw [← ht] at e1
                              have HA : Hid ((xr.lks.take (u + 1)).any (fun x => decide (x.peer = xs.via)) = (back || t)) := by
                                show _ = _
                                rw [any_take hxv, ← HP12.out.2, ht]
                              clear HPv HPiv HPev ht
                              clear hpv
                              go_upto_region 62 with fail
                              obtain ⟨bv, hbvx⟩ : ∃ b, b = wr.heap.size := ⟨_, rfl⟩
                              rw [← hbvx]
                              obtain ⟨Y2, hX⟩ : ∃ X, X = wr.alloc (.cells #[.string pev, .int .i64 xv.cost, .string imv, .string exv, .int .i64 xv.pl] 50) := ⟨_, rfl⟩
                              rw [← hX]
                              obtain ⟨qX, rX, _⟩ := box_at wr _ hX hbvx
                              have QY2 : Hid (Below wr.heap.size wr Y2 ∧ Below w.heap.size w Y2 ∧ Y2.heap[bv]? = some (.cells #[.string pev, .int .i64 xv.cost, .string imv, .string exv, .int .i64 xv.pl] 50 (0, 0))) := ⟨qX, bel_up HB12.out qX HB12.out.size, rX⟩
                              clear hX hbvx qX rX Pv0 Pv1 Pv2 Pv3 Pv4 hxv
                              obtain ⟨K0, K1, K2, K3, K4⟩ := cells_five (QY2.out.2.2)
                              obtain ⟨L0, L1, L2, L3⟩ := cells_fourD (pf_block (bel_up HP12.out.1 QY2.out.1 HP12.out.1.size) QY.out.2.2)
                              have HZ : Hid (Below Y.heap.size Y Y2 ∧ (back || t) = (xr.lks.take (u + 1)).any (fun x => decide (x.peer = xs.via))) := ⟨bel_up HP12.out.1 QY2.out.1 HP12.out.1.size, HA.out.symm⟩
                              clear HA
                              cases back with
                              | true =>
                                have HZ2 : Hid (Below Y.heap.size Y Y2 ∧ true = (xr.lks.take (u + 1)).any (fun x => decide (x.peer = xs.via))) := ⟨HZ.out.1, by have := HZ.out.2; simpa using this⟩
                                clear HZ
                                go_wp2_with fail
                                clear K0 K1 K2 K3 K4 L0 L1 L2 L3
                                go_roundg (z - (u + 1))
                                case measure => omega
                                case rel => exact ⟨u + 1, true, by omega, by go_num, rfl, HZ2⟩
                              | false =>
                                have HZ2 : Hid (Below Y.heap.size Y Y2 ∧ t = (xr.lks.take (u + 1)).any (fun x => decide (x.peer = xs.via))) := ⟨HZ.out.1, by have := HZ.out.2; simpa using this⟩
                                clear HZ
                                go_wp2_with fail
                                clear K0 K1 K2 K3 K4 L0 L1 L2 L3
                                go_roundg (z - (u + 1))
                                case measure => omega
                                case rel => exact ⟨u + 1, t, by omega, by go_num, rfl, HZ2⟩
                            · obtain rfl : u = z := by omega
                              have d13 : decide ((u : Int) < u) = false := decide_eq_false (by omega)
                              have HBK : Hid (back = xr.lks.any (fun x => decide (x.peer = xs.via))) := by
                                show _ = _
                                rw [HP12.out.2, HLr.out.2.1, List.take_length]
                              cases back with
                              | false =>
                                obtain rfl := HTELL.out _ (statR_name (by rw [← HBK.out]; simp))
                                obtain ⟨L0, L1, L2, L3⟩ := cells_fourD (pf_block HP12.out.1 QY.out.2.2)
                                go_wp2_with fail
                                go_region
                                go_wp2_with fail
                                go_ret2
                                exact ⟨rfl, HB12.out.drew⟩
                              | true =>
                                have QW : Hid (Below w.heap.size w wr ∧ Below M.heap.size M wr ∧ wr.heap[br]? = some (.cells #[.string per, .slice anr q cnr, .slice alr u clr, .slice (some ⟨bast, oast, none⟩) nsr csr, .int .i64 xr.pl] 48 (0, 0)) ∧ wr.heap[bs]? = some (.cells #[.int .u32 xs.a, .int .i64 xs.b, .string vis, .int .i64 xs.pl] 77 (0, 0))) := ⟨HB12.out, bel_up HU11.out HP12.out.1 HU11.out.size, pf_block HP12.out.1 HRY.out, pf_block HP12.out.1 QY.out.2.2⟩
                                obtain ⟨W3, hW3⟩ : ∃ V, V = wr := ⟨_, rfl⟩
                                rw [← hW3] at QW
                                rw [← hW3]
                                have HBK2 : Hid (xr.lks.any (fun x => decide (x.peer = xs.via)) = true) := HBK.out.symm
                                obtain ⟨R0, R1, R2, R3, R4⟩ := cells_five (QW.out.2.2.1)
                                clear hW3 HP12 HB12 HBK HI12
                                have ck11 : y ≤ csr := by have := HKr.out.2.2; omega
                                go_upto_region 67 with fail
                                clear R0 R1 R2 R3 R4
                                have HI0 : Hid (Below W3.heap.size W3 W3 ∧ ((fun s : StD => (s.a, s.b)) xs) ∉ (xr.sts.take 0).map ((fun s : StD => (s.a, s.b)))) := ⟨Below.refl _ _, by simp⟩
                                go_loopg [228] y (fun g i wy => ∃ j : Nat, j + g = y ∧ i = .int .i64 j ∧ Hid (Below W3.heap.size W3 wy ∧ ((fun s : StD => (s.a, s.b)) xs) ∉ (xr.sts.take j).map ((fun s : StD => (s.a, s.b)))))
                                case atStart => exact ⟨0, Nat.zero_add _, rfl, HI0⟩
                                case round =>
                                  obtain ⟨j, hj, rfl, HJ⟩ := hrel
                                  have HBJ : Hid (Below w.heap.size w wr) := bel_up QW.out.1 HJ.out.1 QW.out.1.size
                                  by_cases hjl : j < y
                                  · obtain ⟨xsi, hxsi⟩ : ∃ x, xr.sts[j]? = some x := ⟨xr.sts[j]'(by have := HLr.out.2.2; omega), List.getElem?_eq_getElem _⟩
                                    obtain ⟨bb, oo, ee, hbsi, hpsi⟩ := HSS.out j xsi hxsi
                                    injection ee with ee
                                    injection ee with e3 e4 _
                                    subst e3 e4
                                    obtain ⟨Psi0, Psi1, Psi2, Psi3⟩ := hpsi.keep hbsi (cells_below HBJ.out (Nat.le_refl _))
                                    obtain ⟨visi, hvisi⟩ : ∃ p : ByteArray, p = ⟨xsi.via.toArray⟩ := ⟨_, rfl⟩
                                    rw [← hvisi] at Psi2
                                    have HPvsi : Hid (visi = ⟨xsi.via.toArray⟩) := hvisi
                                    clear hvisi
                                    have d7 : decide ((j : Int) < y) = true := decide_eq_true (by omega)
                                    have c7 : (0 : Int) ≤ j := by omega
                                    obtain ⟨t, ht⟩ := told (Classical.em ((fun s : StD => (s.a, s.b)) xsi = (fun s : StD => (s.a, s.b)) xs))
                                    have HH : Hid (t = true → ((fun s : StD => (s.a, s.b)) xs) ∈ (xr.sts.take y).map ((fun s : StD => (s.a, s.b)))) := fun h => by
                                      rw [← ht.1 h]
                                      exact map_mem hxsi hjl
                                    have HG : Hid (t = false → ((fun s : StD => (s.a, s.b)) xs) ∉ (xr.sts.take (j + 1)).map ((fun s : StD => (s.a, s.b)))) := fun h => no_take HJ.out.2 hxsi fun e => by rw [ht.2 e] at h; cases h
                                    have HE1 : Hid (t = true → (xsi.a : Int) = (xs.a : Int) ∧ xsi.b = xs.b) := fun h => by
                                      have h := ht.1 h
                                      simp [Prod.ext_iff] at h
                                      omega
                                    have HE2 : Hid (t = false → ¬ ((xsi.a : Int) = (xs.a : Int) ∧ xsi.b = xs.b)) := fun h h2 => by
                                      rw [ht.2 (by simp [Prod.ext_iff]; omega)] at h
                                      cases h
                                    clear HPvsi
                                    clear hxsi ht
                                    clear hpsi
                                    go_upto_region 69 with fail
                                    obtain ⟨bsi, hbsix⟩ : ∃ b, b = wr.heap.size := ⟨_, rfl⟩
                                    rw [← hbsix]
                                    obtain ⟨I9, hX⟩ : ∃ X, X = wr.alloc (.cells #[.int .u32 xsi.a, .int .i64 xsi.b, .string visi, .int .i64 xsi.pl] 77) := ⟨_, rfl⟩
                                    rw [← hX]
                                    obtain ⟨qX, rX, _⟩ := box_at wr _ hX hbsix
                                    have QI9 : Hid (Below wr.heap.size wr I9 ∧ Below w.heap.size w I9 ∧ I9.heap[bsi]? = some (.cells #[.int .u32 xsi.a, .int .i64 xsi.b, .string visi, .int .i64 xsi.pl] 77 (0, 0))) := ⟨qX, bel_up HBJ.out qX HBJ.out.size, rX⟩
                                    clear hX hbsix qX rX Psi0 Psi1 Psi2 Psi3 
                                    obtain ⟨Y0, Y1, Y2, Y3⟩ := cells_fourD (QI9.out.2.2)
                                    have hpl := pf_block (bel_up HJ.out.1 QI9.out.1 HJ.out.1.size) QW.out.2.2.2
                                    obtain ⟨L0, L1, L2, L3⟩ := cells_fourD (hpl)
                                    clear hpl
                                    cases t with
                                    | true =>
                                      obtain ⟨h1, h2⟩ := HE1.out (by first | rfl | trivial)
                                      obtain rfl := HTELL.out _ (statR_twice HBK2.out (HH.out (by first | rfl | trivial)))
                                      go_wp2_with fail
                                      go_region
                                      go_wp2_with fail
                                      go_ret2
                                      exact ⟨rfl, QI9.out.2.1.drew⟩
                                    | false =>
                                      have HZ : Hid (Below W3.heap.size W3 I9 ∧ ((fun s : StD => (s.a, s.b)) xs) ∉ (xr.sts.take (j + 1)).map ((fun s : StD => (s.a, s.b)))) := ⟨bel_up HJ.out.1 QI9.out.1 HJ.out.1.size, HG.out (by first | rfl | trivial)⟩
                                      clear HH HG
                                      have hn := HE2.out (by first | rfl | trivial)
                                      clear HE1 HE2
                                      by_cases h1 : (xsi.a : Int) = (xs.a : Int)
                                      · have h2 : ¬ xsi.b = xs.b := fun h => hn ⟨h1, h⟩
                                        clear hn
                                        go_wp2_with fail
                                        clear L0 L1 L2 L3 Y0 Y1 Y2 Y3
                                        go_roundg (y - (j + 1))
                                        case measure => omega
                                        case rel => exact ⟨j + 1, by omega, by go_num, HZ⟩
                                      · clear hn
                                        go_wp2_with fail
                                        clear L0 L1 L2 L3 Y0 Y1 Y2 Y3
                                        go_roundg (y - (j + 1))
                                        case measure => omega
                                        case rel => exact ⟨j + 1, by omega, by go_num, HZ⟩
                                  · obtain rfl : j = y := by omega
                                    have d7 : decide ((j : Int) < j) = false := decide_eq_false (by omega)
                                    have HZ : Hid (Below M.heap.size M wr ∧ statsR xr ((xr.sts.take (j + 1)).map fun s => (s.a, s.b)) (xr.sts.drop (j + 1)) = statsR xr [] xr.sts) :=
                                      ⟨bel_up QW.out.2.1 HJ.out.1 QW.out.2.1.size, stats_go HX11.out HP11.out.2 (statR_none HBK2.out HJ.out.2)⟩
                                    go_wp2_with fail
                                    go_roundg (nsr - (j + 1))
                                    case measure => omega
                                    case rel => exact ⟨j + 1, by omega, by go_num, HZ⟩
                        · obtain rfl : y = nsr := by omega
                          have d12 : decide ((y : Int) < y) = false := decide_eq_false (by omega)
                          have HZ : Hid (Below S.heap.size S wr ∧ firstR (routR c) (c.ros.drop (o + 1)) = firstR (routR c) c.ros) := by
                            refine ⟨bel_up QM.out.2.1 HP11.out.1 QM.out.2.1.size, first_go HX.out HW.out.2 ((rout_stat HDN.out HDL.out).trans ?_)⟩
                            rw [← HP11.out.2, HLr.out.2.2, List.drop_length]
                            rfl
                          go_wp2_with fail
                          go_roundg (l - (o + 1))
                          case measure => omega
                          case rel => exact ⟨o + 1, by omega, by go_num, HZ⟩
            · obtain rfl : o = l := by omega
              have d6 : decide ((o : Int) < o) = false := decide_eq_false (by omega)
              have hres : res = none := by
                have h1 := HW.out.2
                rw [HN.out.2, List.drop_length] at h1
                rw [HD2.out, ← h1]
                rfl
              subst hres
              go_wp2_with fail
              go_ret2
              exact ⟨rfl, HBW.out⟩
end Go.Proofs.YtcjdjifooaeomaaDoor
