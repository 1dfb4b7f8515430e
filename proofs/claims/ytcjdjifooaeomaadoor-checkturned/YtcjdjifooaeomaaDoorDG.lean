/- What check.Config says. -/
import Derived.Test.YtcjdjifooaeomaaDoorDF
namespace Go.Proofs.YtcjdjifooaeomaaDoor
open Go.RowKit Go.Maps Go.Lib

/-- All but some blocks is as it was. -/
structure BelL (L : List Nat) (w w' : World) : Prop where
  os : w'.os = w.os
  tape : w'.tape = w.tape
  output : w'.output = w.output
  size : w.heap.size ≤ w'.heap.size
  block : ∀ k, k < w.heap.size → k ∉ L → w'.heap[k]? = w.heap[k]?
section
variable {L : List Nat} {w w' u : World}
theorem BelL.refl (L : List Nat) (w : World) : BelL L w w := ⟨rfl, rfl, rfl, Nat.le_refl _, fun _ _ _ => rfl⟩
theorem BelL.trans (h : BelL L w w') (k : BelL L w' u) : BelL L w u :=
  ⟨k.os.trans h.os, k.tape.trans h.tape, k.output.trans h.output, Nat.le_trans h.size k.size, fun i hi hb => (k.block i (Nat.lt_of_lt_of_le hi h.size) hb).trans (h.block i hi hb)⟩
theorem BelL.below (h : BelL L w w') (k : Below w'.heap.size w' u) : BelL L w u := h.trans ⟨k.os, k.tape, k.output, k.size, fun i hi _ => k.block i hi⟩
theorem BelL.x {m : Nat} (h : BelL L w w') (k : BelX m w' u) (hm : m ∈ L) : BelL L w u := h.trans ⟨k.os, k.tape, k.output, k.size, fun i hi hb => k.block i hi fun e => hb (e ▸ hm)⟩
theorem BelL.get (h : BelL L w w') {k : Nat} {o : Obj} (hk : w.heap[k]? = some o) (hb : k ∉ L) : w'.heap[k]? = some o := (h.block k (Array.getElem?_eq_some_iff.1 hk).1 hb).trans hk
theorem BelL.bel {U : World} (h : BelL L w w') (k : Below U.heap.size U w) (hb : ∀ b ∈ L, U.heap.size ≤ b) : Below U.heap.size U w' :=
  ⟨h.os.trans k.os, h.tape.trans k.tape, h.output.trans k.output, Nat.le_trans k.size h.size, fun i hi => (h.block i (Nat.lt_of_lt_of_le hi k.size) (fun hm => by have := hb i hm; omega)).trans (k.block i hi)⟩
theorem SetIs.belL {α : Type} {f : α → Value} {ok : α → Prop} {m : Nat} {S : α → Prop} (h : SetIs f ok w m S) (k : BelL L w w') (hm : m ∉ L) : SetIs f ok w' m S := h.same (k.block m h.lt hm)
end
theorem SetIs.belX {α : Type} {f : α → Value} {ok : α → Prop} {m b : Nat} {S : α → Prop} {w w' : World} (h : SetIs f ok w m S) (k : BelX b w w') (hm : m ≠ b) : SetIs f ok w' m S := h.same (k.block m h.lt hm)
theorem find_at {rs : List RoD} (hn : (rs.map RoD.name).Nodup) {k : Nat} {r : RoD} (h : rs[k]? = some r) : rs.find? (fun x => decide (x.name = r.name)) = some r := by
  induction rs generalizing k with
  | nil => simp at h
  | cons a l ih =>
    rw [List.map_cons, List.nodup_cons] at hn
    cases k with
    | zero =>
      obtain rfl : a = r := by simpa using h
      rw [List.find?_cons, show decide (a.name = a.name) = true by simp]
    | succ k =>
      have h' : l[k]? = some r := by simpa using h
      rw [List.find?_cons, show decide (a.name = r.name) = false from decide_eq_false fun e => hn.1 (e ▸ List.mem_map_of_mem (List.mem_of_getElem? h'))]
      exact ih hn.2 h'
theorem named_name {c : CfD} {n : Bs} {p : RoD} (h : namedR c n = some p) : p ∈ c.ros ∧ p.name = n := by
  unfold namedR at h
  exact ⟨List.mem_of_find?_eq_some h, by simpa using List.find?_some h⟩
theorem named_iff {c : CfD} (n : Bs) : (namedR c n).isSome = true ↔ n ∈ c.ros.map RoD.name := by
  unfold namedR
  rw [List.find?_isSome, List.mem_map]
  simp
theorem mapped_iff {c : CfD} (n : Bs) : mappedR c n = true ↔ n = [] ∨ n ∈ c.maps.map MpD.name := by
  unfold mappedR
  simp [List.mem_map]
theorem links_iff {c : CfD} (hn : (c.ros.map RoD.name).Nodup) (n : Bs) (p : RoD) (h : namedR c n = some p) (o : Bs) :
    (∃ r ∈ c.ros, n = r.name ∧ o ∈ r.lks.map LkD.peer) ↔ p.lks.any (fun x => decide (x.peer = o)) = true := by
  obtain ⟨hp, hpn⟩ := named_name h
  have key : ∀ r ∈ c.ros, n = r.name → r = p := fun r hr e => by
    obtain ⟨k, hk⟩ := List.getElem?_of_mem hr
    have h1 := find_at hn hk
    rw [← e] at h1
    exact Option.some.inj (h1.symm.trans h)
  rw [List.any_eq_true]
  constructor
  · rintro ⟨r, hr, e, ho⟩
    rw [key r hr e] at ho
    obtain ⟨x, hx, rfl⟩ := List.mem_map.1 ho
    exact ⟨x, hx, by simp⟩
  · rintro ⟨x, hx, e⟩
    exact ⟨p, hp, hpn.symm, List.mem_map.2 ⟨x, hx, by simpa using e⟩⟩
/-- Maps of these names so far; what else there is. -/
structure C1 (U : World) (m1 k : Nat) (c : CfD) (wr : World) : Prop where
  q : BelX m1 U wr
  s : SetS wr m1 (fun x => x ∈ (c.maps.take k).map MpD.name)
  d : dupR MpD.name ((c.maps.take k).map MpD.name) (c.maps.drop k) = dupR MpD.name [] c.maps
structure C2 (U : World) (m2 m3 k : Nat) (c : CfD) (wr : World) : Prop where
  q : BelL [m2, m3] U wr
  s : SetS wr m2 (fun x => x ∈ (c.ros.take k).map RoD.name)
  l : SetP wr m3 (fun x => ∃ r ∈ c.ros.take k, x.1 = r.name ∧ x.2 ∈ r.lks.map LkD.peer)
  d : dupR RoD.name ((c.ros.take k).map RoD.name) (c.ros.drop k) = dupR RoD.name [] c.ros
/-- What is there when all is laid. -/
structure C0 (w U : World) (b1 bk m1 m2 m3 : Nat) (mv rv : Value) : Prop where
  q : Below w.heap.size w U
  b : U.heap[b1]? = some (.cells #[mv, rv] 33 (0, 0))
  k : U.heap[bk]? = some (.cells #[.map (some m1), .map (some m2), .map (some m3)] 64 (0, 0))
  s1 : SetS U m1 (fun _ => False)
  s2 : SetS U m2 (fun _ => False)
  s3 : SetP U m3 (fun _ => False)
  o : b1 = w.heap.size ∧ m1 = w.heap.size + 1 ∧ m2 = w.heap.size + 2 ∧ m3 = w.heap.size + 3 ∧ bk = w.heap.size + 4
theorem wrong_maps {c : CfD} {m : MpD} (h : dupR MpD.name [] c.maps = some m) : wrongR c = some (4, m.pl) := by
  unfold wrongR
  rw [h]
theorem wrong_ros {c : CfD} {r : RoD} (h1 : dupR MpD.name [] c.maps = none) (h : dupR RoD.name [] c.ros = some r) : wrongR c = some (4, r.pl) := by
  unfold wrongR
  rw [h1, h]
theorem wrong_rest {c : CfD} (h1 : dupR MpD.name [] c.maps = none) (h : dupR RoD.name [] c.ros = none) : wrongR c = firstR (routR c) c.ros := by
  unfold wrongR
  rw [h1, h]
theorem lay_all {w V0 V1 V2 V3 V4 : World} {b1 m1 m2 m3 bk : Nat} {mv rv : Value} (h0 : V0 = w.alloc (.cells #[mv, rv] 33)) (hb1 : b1 = w.heap.size) (h1 : V1 = V0.alloc (.map #[] 0)) (hm1 : m1 = w.heap.size + 1) (h2 : V2 = V1.alloc (.map #[] 0)) (hm2 : m2 = w.heap.size + 2)
    (h3 : V3 = V2.alloc (.map #[] 0)) (hm3 : m3 = w.heap.size + 3) (h4 : V4 = V3.alloc (.cells #[.map (some m1), .map (some m2), .map (some m3)] 64)) (hbk : bk = w.heap.size + 4) : C0 w V4 b1 bk m1 m2 m3 mv rv := by
  obtain ⟨q0, r0, _⟩ := box_at w _ h0 hb1
  have z0 : V0.heap.size = w.heap.size + 1 := by rw [h0]; simp
  obtain ⟨s1, q1, _⟩ := map_new (m := m1) h1 (by omega) nmKey NmOk
  have z1 : V1.heap.size = w.heap.size + 2 := by rw [h1]; simp [z0]
  obtain ⟨s2, q2, _⟩ := map_new (m := m2) h2 (by omega) nmKey NmOk
  have z2 : V2.heap.size = w.heap.size + 3 := by rw [h2]; simp [z1]
  obtain ⟨s3, q3, _⟩ := map_new (m := m3) h3 (by omega) prKey (fun p => NmOk p.1 ∧ NmOk p.2)
  have z3 : V3.heap.size = w.heap.size + 4 := by rw [h3]; simp [z2]
  obtain ⟨q4, r4, _⟩ := box_at V3 _ h4 (b := bk) (by omega)
  have q34 := bel_up q3 q4 q3.size
  have q24 := bel_up q2 q34 q2.size
  have q14 := bel_up q1 q24 q1.size
  exact ⟨bel_up q0 q14 q0.size, pf_block q14 r0, r4, s1.below q24, s2.below q34, s3.below q4, hb1, hm1, hm2, hm3, hbk⟩
set_option maxHeartbeats 16000000 in
set_option maxRecDepth 20000 in
theorem config_any {c : CfD} (hf : c.fit) {v : Value} {w : World} (hv : CfAt w w.heap.size v c) :
    Calls Tryd.prog 9 #[v] w fun e w' => e = .returned (errV (wrongR c)) ∧ Below w.heap.size w w' := by
  obtain ⟨mv, rv, rfl, ⟨am, cm, rfl, hm0, hms⟩, ⟨ar, cr, rfl, hr0, hrs⟩⟩ := hv
  obtain ⟨n, hn⟩ : ∃ n, n = c.maps.length := ⟨_, rfl⟩
  obtain ⟨n2, hn2⟩ : ∃ n, n = c.ros.length := ⟨_, rfl⟩
  rw [← hn] at hm0 ⊢
  rw [← hn2] at hr0 ⊢
  have HN : Hid (n = c.maps.length ∧ n2 = c.ros.length) := ⟨hn, hn2⟩
  have HMS : Hid (∀ i x, c.maps[i]? = some x → ∃ b off, am = some ⟨b, off, none⟩ ∧ b < w.heap.size ∧ MpAt w w.heap.size b (off + i * 3) x) := hms
  have HRS : Hid (∀ i x, c.ros[i]? = some x → ∃ b off, ar = some ⟨b, off, none⟩ ∧ b < w.heap.size ∧ RoAt w w.heap.size b (off + i * 5) x) := hrs
  have HF : Hid c.fit := hf
  obtain ⟨res, hres⟩ : ∃ x, x = wrongR c := ⟨_, rfl⟩
  rw [← hres]
  have HR : Hid (res = wrongR c) := hres
  have hmm := @run_makeMap Tryd.prog
  have hw4 := fun k w => wrapI_any 4 k w
  clear hms hrs hn hn2 hf hres
  go_enter Tryd.func9, Tryd.ntmps9
  go_upto_region 2 with fail
  obtain ⟨b1, hb1⟩ : ∃ b, b = w.heap.size := ⟨_, rfl⟩
  obtain ⟨m1, hm1⟩ : ∃ b, b = w.heap.size + 1 := ⟨_, rfl⟩
  obtain ⟨m2, hm2⟩ : ∃ b, b = w.heap.size + 1 + 1 := ⟨_, rfl⟩
  obtain ⟨m3, hm3⟩ : ∃ b, b = w.heap.size + 1 + 1 + 1 := ⟨_, rfl⟩
  obtain ⟨bk, hbk⟩ : ∃ b, b = w.heap.size + 1 + 1 + 1 + 1 := ⟨_, rfl⟩
  rw [← hbk, ← hm3, ← hm2, ← hm1, ← hb1]
  obtain ⟨V0, h0⟩ : ∃ U, U = w.alloc (.cells #[.slice am n cm, .slice ar n2 cr] 33) := ⟨_, rfl⟩
  rw [← h0]
  obtain ⟨V1, h1⟩ : ∃ U, U = V0.alloc (.map #[] 0) := ⟨_, rfl⟩
  rw [← h1]
  obtain ⟨V2, h2⟩ : ∃ U, U = V1.alloc (.map #[] 0) := ⟨_, rfl⟩
  rw [← h2]
  obtain ⟨V3, h3⟩ : ∃ U, U = V2.alloc (.map #[] 0) := ⟨_, rfl⟩
  rw [← h3]
  obtain ⟨U, h4⟩ : ∃ U, U = V3.alloc (.cells #[.map (some m1), .map (some m2), .map (some m3)] 64) := ⟨_, rfl⟩
  rw [← h4]
  have HC : Hid (C0 w U b1 bk m1 m2 m3 (.slice am n cm) (.slice ar n2 cr)) := lay_all h0 hb1 h1 hm1 h2 hm2 h3 hm3 h4 hbk
  obtain ⟨X0, X1⟩ := cells_two HC.out.b
  clear h0 h1 h2 h3 h4 hb1 hm1 hm2 hm3 hbk hmm
  go_upto_region 3 with fail
  clear X0 X1
  have H0 : Hid (C1 U m1 0 c U) := ⟨BelX.refl _ _, HC.out.s1.iff fun x => by simp, rfl⟩
  go_loopg [18] n (fun g i wr => ∃ k : Nat, k + g = n ∧ i = .int .i64 k ∧ Hid (C1 U m1 k c wr))
  case atStart => exact ⟨0, Nat.zero_add _, rfl, H0⟩
  case round =>
    obtain ⟨k, hk, rfl, HW⟩ := hrel
    have HBW : Hid (Below w.heap.size w wr) := HW.out.q.bel HC.out.q (by have := HC.out.o; omega)
    by_cases hlt : k < n
    · obtain ⟨x, hx⟩ : ∃ x, c.maps[k]? = some x := ⟨c.maps[k]'(by have := HN.out.1; omega), List.getElem?_eq_getElem _⟩
      obtain ⟨b, off, rfl, hb, hp⟩ := HMS.out k x hx
      obtain ⟨cv, P0, P1, P2, ⟨adc, capc, rfl, _, _⟩⟩ := hp.keep hb (Nat.le_refl _) (cells_below HBW.out (Nat.le_refl _))
      obtain ⟨nc, hnc⟩ : ∃ n, n = x.cls.length := ⟨_, rfl⟩
      rw [← hnc] at P1
      have d4 : decide ((k : Int) < n) = true := decide_eq_true (by omega)
      have c0 : (0 : Int) ≤ k := by omega
      have K0 := (cells_three (HW.out.q.get HC.out.k (by have := HC.out.o; omega))).1
      obtain ⟨t, ht⟩ := told (Classical.em (x.name ∈ (c.maps.take k).map MpD.name))
      have hadd := fun (W : World) (q : Below wr.heap.size wr W) => addS_any (a := x.name) (b := t) (HW.out.s.below q) (HF.out.m x (List.mem_of_getElem? hx)) ht
      have HX1 : Hid (t = true → res = some (4, x.pl)) := fun h => by
        rw [HR.out]
        exact wrong_maps (HW.out.d.symm.trans (dup_hit hx (ht.1 h)))
      have HX2 : Hid (t = false → dupR MpD.name ((c.maps.take (k + 1)).map MpD.name) (c.maps.drop (k + 1)) = dupR MpD.name [] c.maps) := fun h =>
        (dup_miss hx fun hs => by rw [ht.2 hs] at h; cases h).symm.trans HW.out.d
      have HX : Hid (∀ y, y ∈ (c.maps.take (k + 1)).map MpD.name ↔ y ∈ (c.maps.take k).map MpD.name ∨ y = x.name) := fun y => by
        rw [List.map_take, List.map_take]
        exact mem_take (by rw [List.getElem?_map, hx]; rfl)
      obtain ⟨pe, hpe⟩ : ∃ p : ByteArray, p = ⟨x.name.toArray⟩ := ⟨_, rfl⟩
      rw [← hpe] at hadd P0
      clear hx hp ht hpe hnc
      go_upto_region 5 with fail
      obtain ⟨b3, hb3⟩ : ∃ b, b = wr.heap.size := ⟨_, rfl⟩
      rw [← hb3]
      obtain ⟨X, hX⟩ : ∃ X, X = wr.alloc (.cells #[.string pe, .slice adc nc capc, .int .i64 x.pl] 57) := ⟨_, rfl⟩
      rw [← hX]
      obtain ⟨qX, rX, _⟩ := box_at wr _ hX hb3
      obtain ⟨X0, X1, X2⟩ := cells_three rX
      have l1 : bk < wr.heap.size := Nat.lt_of_lt_of_le (Array.getElem?_eq_some_iff.1 HC.out.k).1 HW.out.q.size
      have K0' : X.cell? ⟨bk, 0, none⟩ = some (.map (some m1)) := by rw [qX.cell (p := ⟨bk, 0, none⟩) l1]; exact K0
      have g1 := hadd X qX
      have HQ : Hid (BelX m1 U X ∧ X.heap[b3]? = some (.cells #[.string pe, .slice adc nc capc, .int .i64 x.pl] 57 (0, 0)) ∧ b3 ≠ m1) := by
        have := HW.out.s.lt
        exact ⟨HW.out.q.below qX, rX, by omega⟩
      clear hadd hX hb3 qX rX P0 P1 P2 K0 l1
      go_wp2_with fail
      refine g1.mono ?_
      rintro e Y ⟨rfl, hS, hY⟩
      have QY : Hid (BelX m1 U Y ∧ SetS Y m1 (fun y => y ∈ (c.maps.take (k + 1)).map MpD.name)) := ⟨HQ.out.1.trans hY, hS.iff fun y => (HX.out y).symm⟩
      obtain ⟨Y0, Y1, Y2⟩ := cells_three (hY.get HQ.out.2.1 HQ.out.2.2)
      clear g1 X0 X1 X2 K0' hS hY
      cases t with
      | true =>
        obtain rfl := HX1.out (by first | rfl | trivial)
        have h9 := hw4 x.pl Y
        clear hw4
        go_wp2_with fail
        refine h9.mono ?_
        rintro e Z ⟨rfl, rfl⟩
        clear h9
        go_wp2_with fail
        go_ret
        exact ⟨rfl, QY.out.1.bel HC.out.q (by have := HC.out.o; omega)⟩
      | false =>
        have HZ : Hid (C1 U m1 (k + 1) c Y) := ⟨QY.out.1, QY.out.2, HX2.out (by first | rfl | trivial)⟩
        clear hw4 HX1 HX2 HX Y0 Y1 Y2
        go_wp2_with fail
        go_roundg (n - (k + 1))
        case measure => omega
        case rel => exact ⟨k + 1, by omega, by go_num, HZ⟩
    · obtain rfl : k = n := by omega
      have d4 : decide ((k : Int) < k) = false := decide_eq_false (by omega)
      have X1 := (cells_two (HW.out.q.get HC.out.b (by have := HC.out.o; omega))).2
      have HM : Hid (dupR MpD.name [] c.maps = none ∧ SetS wr m1 (fun x => x ∈ c.maps.map MpD.name)) := by
        refine ⟨?_, HW.out.s.iff fun x => by rw [HN.out.1, List.take_length]⟩
        rw [← HW.out.d, HN.out.1, dup_end]
      have H2 : Hid (C2 wr m2 m3 0 c wr) := ⟨BelL.refl _ _, (HC.out.s2.belX HW.out.q (by have := HC.out.o; omega)).iff fun x => by simp, (HC.out.s3.belX HW.out.q (by have := HC.out.o; omega)).iff fun x => by simp, rfl⟩
      have HV : Hid (wr.heap[b1]? = some (.cells #[.slice am k cm, .slice ar n2 cr] 33 (0, 0)) ∧ wr.heap[bk]? = some (.cells #[.map (some m1), .map (some m2), .map (some m3)] 64 (0, 0))) :=
        ⟨HW.out.q.get HC.out.b (by have := HC.out.o; omega), HW.out.q.get HC.out.k (by have := HC.out.o; omega)⟩
      obtain ⟨VV, hV⟩ : ∃ V, V = wr := ⟨_, rfl⟩
      rw [← hV] at HV H2 HM X1 HBW
      rw [← hV]
      have HBV : Hid (Below w.heap.size w VV) := HBW.out
      clear hV HW HBW
      go_upto_region 9 with fail
      clear X1
      go_loopg [35] n2 (fun g i wx => ∃ k : Nat, k + g = n2 ∧ i = .int .i64 k ∧ Hid (C2 VV m2 m3 k c wx))
      case atStart => exact ⟨0, Nat.zero_add _, rfl, H2⟩
      case round =>
        obtain ⟨j, hj, rfl, HX⟩ := hrel
        have HBX : Hid (Below w.heap.size w wr) := HX.out.q.bel HBV.out (by have := HC.out.o; intro b hb; simp at hb; omega)
        by_cases hlt2 : j < n2
        · obtain ⟨x, hx⟩ : ∃ x, c.ros[j]? = some x := ⟨c.ros[j]'(by have := HN.out.2; omega), List.getElem?_eq_getElem _⟩
          obtain ⟨b, off, rfl, hb, hp⟩ := HRS.out j x hx
          obtain ⟨nv, lv, sv, P0, P1, P2, P3, P4, s1, s2, s3⟩ := hp.keep hb (Nat.le_refl _) (cells_below HBX.out (Nat.le_refl _))
          have HRV : Hid (RoVal wr w.heap.size (.agg #[.string ⟨x.name.toArray⟩, nv, lv, sv, .int .i64 x.pl]) x) := ⟨nv, lv, sv, rfl, s1, s2, s3⟩
          obtain ⟨an, cn, rfl, _, _⟩ := s1
          obtain ⟨al, cl, rfl, _, _⟩ := s2
          obtain ⟨ast, cs, rfl, _, _⟩ := s3
          obtain ⟨nn, hnn⟩ : ∃ n, n = x.nets.length := ⟨_, rfl⟩
          obtain ⟨nl, hnl⟩ : ∃ n, n = x.lks.length := ⟨_, rfl⟩
          obtain ⟨ns, hns⟩ : ∃ n, n = x.sts.length := ⟨_, rfl⟩
          rw [← hnn, ← hnl, ← hns] at HRV
          rw [← hnn] at P1
          rw [← hnl] at P2
          rw [← hns] at P3
          have d4 : decide ((j : Int) < n2) = true := decide_eq_true (by omega)
          have c0 : (0 : Int) ≤ j := by omega
          have HO : Hid (bk ∉ [m2, m3] ∧ bk ≠ m2 ∧ bk ≠ m3 ∧ m3 ≠ m2 ∧ m2 ≠ m3 ∧ w.heap.size ≤ m2 ∧ w.heap.size ≤ m3) := by
            have := HC.out.o
            refine ⟨by simp; omega, ?_⟩
            omega
          have K1 := (cells_three (HX.out.q.get HV.out.2 HO.out.1)).2.1
          obtain ⟨t, ht⟩ := told (Classical.em (x.name ∈ (c.ros.take j).map RoD.name))
          have hxf := HF.out.r x (List.mem_of_getElem? hx)
          have hadd := fun (W : World) (q : Below wr.heap.size wr W) => addS_any (a := x.name) (b := t) (HX.out.s.below q) hxf.n ht
          have HX1 : Hid (t = true → res = some (4, x.pl)) := fun h => by
            rw [HR.out]
            exact wrong_ros HM.out.1 (HX.out.d.symm.trans (dup_hit hx (ht.1 h)))
          have HX2 : Hid (t = false → dupR RoD.name ((c.ros.take (j + 1)).map RoD.name) (c.ros.drop (j + 1)) = dupR RoD.name [] c.ros) := fun h =>
            (dup_miss hx fun hs => by rw [ht.2 hs] at h; cases h).symm.trans HX.out.d
          have HX3 : Hid (∀ y, y ∈ (c.ros.take (j + 1)).map RoD.name ↔ y ∈ (c.ros.take j).map RoD.name ∨ y = x.name) := fun y => by
            rw [List.map_take, List.map_take]
            exact mem_take (by rw [List.getElem?_map, hx]; rfl)
          have HX4 : Hid (∀ y : RoD, y ∈ c.ros.take (j + 1) ↔ y ∈ c.ros.take j ∨ y = x) := fun y => mem_take hx
          obtain ⟨pe, hpe⟩ : ∃ p : ByteArray, p = ⟨x.name.toArray⟩ := ⟨_, rfl⟩
          rw [← hpe] at hadd P0 HRV
          clear hx hp ht hpe hnn hnl hns
          go_upto_region 11 with fail
          obtain ⟨b3, hb3⟩ : ∃ b, b = wr.heap.size := ⟨_, rfl⟩
          rw [← hb3]
          obtain ⟨X, hX⟩ : ∃ X, X = wr.alloc (.cells #[.string pe, .slice an nn cn, .slice al nl cl, .slice ast ns cs, .int .i64 x.pl] 48) := ⟨_, rfl⟩
          rw [← hX]
          obtain ⟨qX, rX, _⟩ := box_at wr _ hX hb3
          obtain ⟨X0, X1, X2, X3, X4⟩ := cells_five rX
          have l1 : bk < wr.heap.size := Nat.lt_of_lt_of_le (Array.getElem?_eq_some_iff.1 HV.out.2).1 HX.out.q.size
          have K1' : X.cell? ⟨bk, 1, none⟩ = some (.map (some m2)) := by rw [qX.cell (p := ⟨bk, 1, none⟩) l1]; exact K1
          have g1 := hadd X qX
          have HQ : Hid (Below wr.heap.size wr X ∧ X.heap[b3]? = some (.cells #[.string pe, .slice an nn cn, .slice al nl cl, .slice ast ns cs, .int .i64 x.pl] 48 (0, 0)) ∧ b3 ≠ m2 ∧ b3 ∉ [m2, m3]) := by
            have h1 := HX.out.s.lt
            have h2 := HX.out.l.lt
            refine ⟨qX, rX, by omega, ?_⟩
            simp
            omega
          clear hadd hX hb3 qX rX P0 P1 P2 P3 P4 K1 l1
          go_wp2_with fail
          refine g1.mono ?_
          rintro e Y ⟨rfl, hS, hY⟩
          have QY : Hid (BelX m2 X Y ∧ BelL [m2, m3] VV Y ∧ SetS Y m2 (fun y => y ∈ (c.ros.take (j + 1)).map RoD.name)) := ⟨hY, (HX.out.q.below HQ.out.1).x hY (by simp), hS.iff fun y => (HX3.out y).symm⟩
          obtain ⟨Y0, Y1, Y2, Y3, Y4⟩ := cells_five (hY.get HQ.out.2.1 HQ.out.2.2.1)
          obtain ⟨K0, K1, K2⟩ := cells_three (QY.out.2.1.get HV.out.2 HO.out.1)
          clear g1 X0 X1 X2 X3 X4 K1' hS hY
          cases t with
          | true =>
            obtain rfl := HX1.out (by first | rfl | trivial)
            have h9 := hw4 x.pl Y
            clear hw4 K0 K1 K2
            go_wp2_with fail
            refine h9.mono ?_
            rintro e Z ⟨rfl, rfl⟩
            clear h9
            go_wp2_with fail
            go_ret
            exact ⟨rfl, QY.out.2.1.bel HBV.out (by have := HC.out.o; intro b hb; simp at hb; omega)⟩
          | false =>
            have hkY : RoVal Y w.heap.size (.agg #[.string pe, .slice an nn cn, .slice al nl cl, .slice ast ns cs, .int .i64 x.pl]) x :=
              (HRV.out.keep (Nat.le_refl _) (cells_below HQ.out.1 HBX.out.size)).keep (Nat.le_refl _) (cells_BelX QY.out.1 (Nat.le_trans HBX.out.size HQ.out.1.size) HO.out.2.2.2.2.2.1)
            have g2 := addlinks_any (m1 := m1) (m2 := m2) hxf hkY (Nat.le_trans (Nat.le_trans HBX.out.size HQ.out.1.size) QY.out.1.size) HO.out.2.2.2.2.2.2 ((HX.out.l.below HQ.out.1).belX QY.out.1 HO.out.2.2.2.1)
            unfold knV at g2
            clear hkY hw4
            go_wp2_with fail
            refine g2.mono ?_
            rintro e Z ⟨rfl, hS, hZ⟩
            have HZ : Hid (C2 VV m2 m3 (j + 1) c Z) := by
              refine ⟨QY.out.2.1.x hZ (by simp), QY.out.2.2.belX hZ HO.out.2.2.2.2.1, hS.iff fun y => ?_, HX2.out (by first | rfl | trivial)⟩
              constructor
              · rintro (⟨r, hr, h⟩ | h)
                · exact ⟨r, (HX4.out r).2 (.inl hr), h⟩
                · exact ⟨x, (HX4.out x).2 (.inr rfl), h⟩
              · rintro ⟨r, hr, h⟩
                rcases (HX4.out r).1 hr with hr | rfl
                · exact .inl ⟨r, hr, h⟩
                · exact .inr h
            clear g2 hS hZ HX1 HX2 HX3 HX4 Y0 Y1 Y2 Y3 Y4 K0 K1 K2
            go_wp2_with fail
            go_roundg (n2 - (j + 1))
            case measure => omega
            case rel => exact ⟨j + 1, by omega, by go_num, HZ⟩
        · obtain rfl : j = n2 := by omega
          have d4 : decide ((j : Int) < j) = false := decide_eq_false (by omega)
          have HO : Hid (b1 ∉ [m2, m3] ∧ bk ∉ [m2, m3] ∧ m1 ∉ [m2, m3]) := by
            have := HC.out.o
            refine ⟨?_, ?_, ?_⟩ <;> simp <;> omega
          have X1 := (cells_two (HX.out.q.get HV.out.1 HO.out.1)).2
          have HD : Hid (dupR RoD.name [] c.ros = none) := by
            show _ = _
            rw [← HX.out.d, HN.out.2, dup_end]
          have HK : Hid (Kn c wr m1 m2 m3 ∧ (c.ros.map RoD.name).Nodup) := by
            have hnd := (dup_nodup RoD.name c.ros [] HD.out).1
            refine ⟨⟨⟨_, HM.out.2.belL HX.out.q HO.out.2.2, mapped_iff⟩, ⟨_, HX.out.s, fun n => ?_⟩, ⟨_, HX.out.l, fun n p h o => ?_⟩⟩, hnd⟩
            · rw [HN.out.2, List.take_length]
              exact named_iff n
            · rw [HN.out.2, List.take_length]
              exact links_iff hnd n p h o
          have HV3 : Hid (wr.heap[bk]? = some (.cells #[.map (some m1), .map (some m2), .map (some m3)] 64 (0, 0)) ∧ Below w.heap.size w wr) := ⟨HX.out.q.get HV.out.2 HO.out.2.1, HBX.out⟩
          have H3 : Hid (Below wr.heap.size wr wr ∧ firstR (routR c) (c.ros.drop 0) = firstR (routR c) c.ros) := ⟨Below.refl _ _, rfl⟩
          have HR3 : Hid (res = firstR (routR c) c.ros) := HR.out.trans (wrong_rest HM.out.1 HD.out)
          obtain ⟨V3, hV3⟩ : ∃ V, V = wr := ⟨_, rfl⟩
          rw [← hV3] at HK HV3 H3
          rw [← hV3]
          rw [← hV3] at X1
          clear hV3 HX hw4 HBX
          go_upto_region 16 with fail
          clear X1
          go_loopg [55] j (fun g i wx => ∃ k : Nat, k + g = j ∧ i = .int .i64 k ∧ Hid (Below V3.heap.size V3 wx ∧ firstR (routR c) (c.ros.drop k) = firstR (routR c) c.ros))
          case atStart => exact ⟨0, Nat.zero_add _, rfl, H3⟩
          case round =>
            obtain ⟨i, hi, rfl, HY⟩ := hrel
            have HBY : Hid (Below w.heap.size w wr) := bel_up HV3.out.2 HY.out.1 HV3.out.2.size
            by_cases hlt3 : i < j
            · obtain ⟨x, hx⟩ : ∃ x, c.ros[i]? = some x := ⟨c.ros[i]'(by have := HN.out.2; omega), List.getElem?_eq_getElem _⟩
              obtain ⟨b, off, rfl, hb, hp⟩ := HRS.out i x hx
              obtain ⟨nv, lv, sv, P0, P1, P2, P3, P4, s1, s2, s3⟩ := hp.keep hb (Nat.le_refl _) (cells_below HBY.out (Nat.le_refl _))
              have hrv : RoVal wr w.heap.size (.agg #[.string ⟨x.name.toArray⟩, nv, lv, sv, .int .i64 x.pl]) x := ⟨nv, lv, sv, rfl, s1, s2, s3⟩
              have hxf := HF.out.r x (List.mem_of_getElem? hx)
              have hcall := fun (W : World) (q : Below wr.heap.size wr W) => crouter_any (c := c) (m1 := m1) (m2 := m2) (m3 := m3) hxf (hrv.keep (Nat.le_refl _) (cells_below q HBY.out.size)) (Nat.le_trans HBY.out.size q.size) (HK.out.1.below (bel_up HY.out.1 q HY.out.1.size)) (find_at HK.out.2 hx)
              obtain ⟨an, cn, rfl, _, _⟩ := s1
              obtain ⟨al, cl, rfl, _, _⟩ := s2
              obtain ⟨ast, cs, rfl, _, _⟩ := s3
              obtain ⟨nn, hnn⟩ : ∃ n, n = x.nets.length := ⟨_, rfl⟩
              obtain ⟨nl, hnl⟩ : ∃ n, n = x.lks.length := ⟨_, rfl⟩
              obtain ⟨ns, hns⟩ : ∃ n, n = x.sts.length := ⟨_, rfl⟩
              obtain ⟨pe, hpe⟩ : ∃ p : ByteArray, p = ⟨x.name.toArray⟩ := ⟨_, rfl⟩
              obtain ⟨t, ht⟩ : ∃ t, t = routR c x := ⟨_, rfl⟩
              rw [← hnn, ← hnl, ← hns, ← hpe, ← ht] at hcall
              rw [← hnn] at P1
              rw [← hnl] at P2
              rw [← hns] at P3
              rw [← hpe] at P0
              unfold knV at hcall
              have d5 : decide ((i : Int) < j) = true := decide_eq_true (by omega)
              have c1 : (0 : Int) ≤ i := by omega
              have hst := first_at (routR c) c.ros i x hx
              rw [HY.out.2, ← ht] at hst
              have HT : Hid (res = t.or (firstR (routR c) (c.ros.drop (i + 1)))) := by
                show _ = _
                rw [HR3.out, hst]
                cases t <;> rfl
              obtain ⟨K0, K1, K2⟩ := cells_three (pf_block HY.out.1 HV3.out.1)
              have l1 : bk < wr.heap.size := (Array.getElem?_eq_some_iff.1 (pf_block HY.out.1 HV3.out.1)).1
              clear hx hp ht hnn hnl hns hpe hst hrv
              go_upto_region 18 with fail
              obtain ⟨b3, hb3⟩ : ∃ b, b = wr.heap.size := ⟨_, rfl⟩
              rw [← hb3]
              obtain ⟨X, hX⟩ : ∃ X, X = wr.alloc (.cells #[.string pe, .slice an nn cn, .slice al nl cl, .slice ast ns cs, .int .i64 x.pl] 48) := ⟨_, rfl⟩
              rw [← hX]
              obtain ⟨qX, rX, _⟩ := box_at wr _ hX hb3
              obtain ⟨X0, X1, X2, X3, X4⟩ := cells_five rX
              have K0' : X.cell? ⟨bk, 0, none⟩ = some (.map (some m1)) := by rw [qX.cell (p := ⟨bk, 0, none⟩) l1]; exact K0
              have K1' : X.cell? ⟨bk, 1, none⟩ = some (.map (some m2)) := by rw [qX.cell (p := ⟨bk, 1, none⟩) l1]; exact K1
              have K2' : X.cell? ⟨bk, 2, none⟩ = some (.map (some m3)) := by rw [qX.cell (p := ⟨bk, 2, none⟩) l1]; exact K2
              have g1 := hcall X qX
              have HQ : Hid (Below wr.heap.size wr X) := qX
              clear hcall hX hb3 qX rX P0 P1 P2 P3 P4 K0 K1 K2 l1
              go_wp2_with fail
              refine g1.mono ?_
              rintro e Y ⟨rfl, qY⟩
              have QY : Hid (Below V3.heap.size V3 Y) := bel_up HY.out.1 (bel_up HQ.out qY HQ.out.size) HY.out.1.size
              clear g1 X0 X1 X2 X3 X4 K0' K1' K2' qY
              cases t with
              | some e =>
                have hr : res = some e := HT.out
                subst hr
                unfold errV
                go_wp2_with fail
                go_ret
                exact ⟨rfl, bel_up HV3.out.2 QY.out HV3.out.2.size⟩
              | none =>
                have HZ : Hid (Below V3.heap.size V3 Y ∧ firstR (routR c) (c.ros.drop (i + 1)) = firstR (routR c) c.ros) := ⟨QY.out, by
                  have h1 : res = firstR (routR c) (c.ros.drop (i + 1)) := HT.out
                  rw [← h1, ← HR3.out]⟩
                clear HT
                rw [show errV none = .nilIface from rfl]
                go_wp2_with fail
                go_roundg (j - (i + 1))
                case measure => omega
                case rel => exact ⟨i + 1, by omega, by go_num, HZ⟩
            · obtain rfl : i = j := by omega
              have d5 : decide ((i : Int) < i) = false := decide_eq_false (by omega)
              have hres : res = none := by
                have h1 := HY.out.2
                rw [HN.out.2, List.drop_length] at h1
                rw [HR3.out, ← h1]
                rfl
              subst hres
              go_wp2_with fail
              go_ret
              exact ⟨rfl, HBY.out⟩
end Go.Proofs.YtcjdjifooaeomaaDoor
