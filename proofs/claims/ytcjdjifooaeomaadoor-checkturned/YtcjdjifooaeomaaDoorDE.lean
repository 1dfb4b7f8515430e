/- What check says of a router's links. -/
import Derived.Test.YtcjdjifooaeomaaDoorDD
namespace Go.Proofs.YtcjdjifooaeomaaDoor
open Go.RowKit Go.Maps Go.Lib

theorem linkR_name {c : CfD} {r : RoD} {seen : List Bs} {l : LkD} (h : l.peer = r.name ∨ (namedR c l.peer).isSome = false ∨ mappedR c l.imp = false ∨ mappedR c l.exp = false) : linkR c r seen l = some (3, l.pl) := by
  unfold linkR
  cases hp : namedR c l.peer with
  | none => rfl
  | some p =>
    rw [hp] at h
    dsimp only
    rw [if_pos]
    rcases h with h | h | h
    · exact .inl h
    · cases h
    · exact .inr h
theorem linkR_rest {c : CfD} {r : RoD} {seen : List Bs} {l : LkD} {p : RoD} (h1 : ¬ l.peer = r.name) (hp : namedR c l.peer = some p) (h2 : mappedR c l.imp = true) (h3 : mappedR c l.exp = true) :
    linkR c r seen l = if l.peer ∈ seen then some (4, l.pl) else if p.lks.any (fun x => decide (x.peer = r.name)) = true then none else some (5, l.pl) := by
  unfold linkR
  rw [hp]
  dsimp only
  rw [if_neg (by rw [h2, h3]; simpa using h1)]
/-- The three things that are looked at. -/
structure Bx3 (W : World) (b1 b2 b3 m1 m2 m3 : Nat) (nm : ByteArray) (x1 x2 x3 x4 : Value) (pe im ex : ByteArray) (co pl : Int) : Prop where
  k : W.heap[b1]? = some (.cells #[.map (some m1), .map (some m2), .map (some m3)] 64 (0, 0))
  r : W.heap[b2]? = some (.cells #[.string nm, x1, x2, x3, x4] 48 (0, 0))
  l : W.heap[b3]? = some (.cells #[.string pe, .int .i64 co, .string im, .string ex, .int .i64 pl] 50 (0, 0))
theorem Bx3.below {W W' : World} {b1 b2 b3 m1 m2 m3 : Nat} {nm : ByteArray} {x1 x2 x3 x4 : Value} {pe im ex : ByteArray} {co pl : Int} (h : Bx3 W b1 b2 b3 m1 m2 m3 nm x1 x2 x3 x4 pe im ex co pl) (q : Below W.heap.size W W') : Bx3 W' b1 b2 b3 m1 m2 m3 nm x1 x2 x3 x4 pe im ex co pl :=
  ⟨pf_block q h.k, pf_block q h.r, pf_block q h.l⟩
theorem Bx3.belx {W W' : World} {m b1 b2 b3 m1 m2 m3 : Nat} {nm : ByteArray} {x1 x2 x3 x4 : Value} {pe im ex : ByteArray} {co pl : Int} (h : Bx3 W b1 b2 b3 m1 m2 m3 nm x1 x2 x3 x4 pe im ex co pl) (q : BelX m W W') (n1 : b1 ≠ m) (n2 : b2 ≠ m) (n3 : b3 ≠ m) : Bx3 W' b1 b2 b3 m1 m2 m3 nm x1 x2 x3 x4 pe im ex co pl :=
  ⟨q.get h.k n1, q.get h.r n2, q.get h.l n3⟩
/-- What the three sets hold. -/
structure Kn (c : CfD) (w : World) (m1 m2 m3 : Nat) : Prop where
  m : ∃ S, SetS w m1 S ∧ ∀ n, mappedR c n = true ↔ n = [] ∨ S n
  r : ∃ S, SetS w m2 S ∧ ∀ n, (namedR c n).isSome = true ↔ S n
  l : ∃ S, SetP w m3 S ∧ ∀ n p, namedR c n = some p → ∀ o, S (n, o) ↔ p.lks.any (fun x => decide (x.peer = o)) = true
theorem Kn.below {c : CfD} {w W : World} {m1 m2 m3 : Nat} (h : Kn c w m1 m2 m3) (q : Below w.heap.size w W) : Kn c W m1 m2 m3 := by
  obtain ⟨⟨S1, h1, e1⟩, ⟨S2, h2, e2⟩, ⟨S3, h3, e3⟩⟩ := h
  exact ⟨⟨S1, h1.below q, e1⟩, ⟨S2, h2.below q, e2⟩, ⟨S3, h3.below q, e3⟩⟩
set_option maxHeartbeats 16000000 in
set_option maxRecDepth 20000 in
theorem links_any {c : CfD} {r : RoD} (hf : r.fit) {v : Value} {w : World} {B m1 m2 m3 : Nat} (hv : RoVal w B v r) (hB : B ≤ w.heap.size) (hs : Kn c w m1 m2 m3) :
    Calls Tryd.prog 32 #[knV m1 m2 m3, v] w fun e w' => e = .returned (errV (linksR c r [] r.lks)) ∧ Below w.heap.size w w' := by
  obtain ⟨nv, lv, sv, rfl, hnv, ⟨ad, cap, rfl, hn0, hss⟩, hsv⟩ := hv
  obtain ⟨n, hn⟩ : ∃ n, n = r.lks.length := ⟨_, rfl⟩
  rw [← hn] at hn0 ⊢
  have HN : Hid (n = r.lks.length) := hn
  have HSS : Hid (∀ i x, r.lks[i]? = some x → ∃ b off, ad = some ⟨b, off, none⟩ ∧ b < B ∧ LkAt w b (off + i * 5) x) := hss
  have HF : Hid (r.fit ∧ B ≤ w.heap.size) := ⟨hf, hB⟩
  have HS : Hid (Kn c w m1 m2 m3) := hs
  obtain ⟨nm, hnm⟩ : ∃ x : ByteArray, x = ⟨r.name.toArray⟩ := ⟨_, rfl⟩
  rw [← hnm]
  have HNM : Hid (nm = ⟨r.name.toArray⟩) := hnm
  obtain ⟨res, hres⟩ : ∃ x, x = linksR c r [] r.lks := ⟨_, rfl⟩
  rw [← hres]
  have HR : Hid (res = linksR c r [] r.lks) := hres
  have hmm := @run_makeMap Tryd.prog
  have hw3 := fun k w => wrapI_any 3 k w
  have hw4 := fun k w => wrapI_any 4 k w
  have hw5 := fun k w => wrapI_any 5 k w
  clear hss hn hf hB hs hnm hnv hsv hres
  unfold knV
  go_enter Tryd.func32, Tryd.ntmps32
  go_upto_region 1 with fail
  obtain ⟨b1, hb1⟩ : ∃ b, b = w.heap.size := ⟨_, rfl⟩
  obtain ⟨b2, hb2⟩ : ∃ b, b = w.heap.size + 1 := ⟨_, rfl⟩
  rw [← hb2, ← hb1]
  obtain ⟨U1, hU1⟩ : ∃ U, U = w.alloc (.cells #[.map (some m1), .map (some m2), .map (some m3)] 64) := ⟨_, rfl⟩
  rw [← hU1]
  obtain ⟨U2, hU2⟩ : ∃ U, U = U1.alloc (.cells #[.string nm, nv, .slice ad n cap, sv, .int .i64 r.pl] 48) := ⟨_, rfl⟩
  rw [← hU2]
  obtain ⟨q1, r1, _⟩ := box_at w _ hU1 hb1
  obtain ⟨q2, r2, _⟩ := box_at U1 _ hU2 (b := b2) (by rw [hU1, hb2]; simp)
  have QU2 : Hid (Below w.heap.size w U2) := bel_up q1 q2 q1.size
  have r1' := pf_block q2 r1
  clear hU1 q1 q2 hU2
  go_upto_region 2 with fail
  obtain ⟨m, hm⟩ : ∃ b, b = U2.heap.size := ⟨_, rfl⟩
  rw [← hm]
  obtain ⟨U, hU⟩ : ∃ U, U = U2.alloc (.map #[] 0) := ⟨_, rfl⟩
  rw [← hU]
  obtain ⟨hset, q3, hmU⟩ := map_new hU hm nmKey NmOk
  have QU : Hid (Below w.heap.size w U) := bel_up QU2.out q3 QU2.out.size
  have HB1 : Hid (U.heap[b1]? = some (.cells #[.map (some m1), .map (some m2), .map (some m3)] 64 (0, 0)) ∧ U.heap[b2]? = some (.cells #[.string nm, nv, .slice ad n cap, sv, .int .i64 r.pl] 48 (0, 0)) ∧ b1 = w.heap.size ∧ b2 = w.heap.size + 1 ∧ b2 < m) := by
    refine ⟨pf_block q3 r1', pf_block q3 r2, hb1, hb2, ?_⟩
    have := (Array.getElem?_eq_some_iff.1 r2).1
    omega
  have H0 : Hid (BelX m U U ∧ SetS U m (fun x => x ∈ (r.lks.take 0).map LkD.peer) ∧ linksR c r ((r.lks.take 0).map LkD.peer) (r.lks.drop 0) = linksR c r [] r.lks) :=
    ⟨BelX.refl _ _, hset.iff fun x => by simp, rfl⟩
  obtain ⟨R0, R1, R2, R3, R4⟩ := cells_five HB1.out.2.1
  have HM : Hid (U2.heap.size ≤ m ∧ w.heap.size ≤ m) := by
    have := QU2.out.size
    exact ⟨hmU, Nat.le_trans this hmU⟩
  clear hU hm hset q3 hmU r1' r1 r2 hb1 hb2 hmm
  go_upto_region 3 with fail
  clear R0 R1 R2 R3 R4
  go_loopg [12] n (fun g i wr => ∃ k : Nat, k + g = n ∧ i = .int .i64 k ∧ Hid (BelX m U wr ∧ SetS wr m (fun x => x ∈ (r.lks.take k).map LkD.peer) ∧ linksR c r ((r.lks.take k).map LkD.peer) (r.lks.drop k) = linksR c r [] r.lks))
  case atStart => exact ⟨0, Nat.zero_add _, rfl, H0⟩
  case round =>
    obtain ⟨k, hk, rfl, HW⟩ := hrel
    have HBW : Hid (Below w.heap.size w wr) := HW.out.1.bel QU.out HM.out.2
    by_cases hlt : k < n
    · obtain ⟨x, hx⟩ : ∃ x, r.lks[k]? = some x := ⟨r.lks[k]'(by have := HN.out; omega), List.getElem?_eq_getElem _⟩
      obtain ⟨b, off, rfl, hb, hp⟩ := HSS.out k x hx
      obtain ⟨P0, P1, P2, P3, P4⟩ := hp.keep (B := w.heap.size) (Nat.lt_of_lt_of_le hb HF.out.2) (cells_below HBW.out (Nat.le_refl _))
      have d4 : decide ((k : Int) < n) = true := decide_eq_true (by omega)
      have c0 : (0 : Int) ≤ k := by omega
      have hxm := List.mem_of_getElem? hx
      have hxf := HF.out.1.l x hxm
      obtain ⟨t1, ht1⟩ : ∃ t : Bool, t = decide (x.peer = r.name) := ⟨_, rfl⟩
      obtain ⟨t2, ht2⟩ : ∃ t : Bool, t = (namedR c x.peer).isSome := ⟨_, rfl⟩
      obtain ⟨t3, ht3⟩ : ∃ t : Bool, t = mappedR c x.imp := ⟨_, rfl⟩
      obtain ⟨t4, ht4⟩ : ∃ t : Bool, t = mappedR c x.exp := ⟨_, rfl⟩
      obtain ⟨t5, ht5⟩ := told (Classical.em (x.peer ∈ (r.lks.take k).map LkD.peer))
      obtain ⟨t6, ht6⟩ : ∃ t : Bool, ∀ p, namedR c x.peer = some p → t = p.lks.any (fun y => decide (y.peer = r.name)) := by
        cases hp : namedR c x.peer with
        | none => exact ⟨true, fun p h => by cases h⟩
        | some p => exact ⟨_, fun p' h => by cases h; rfl⟩
      have hst := links_at c r r.lks k x hx
      rw [HW.out.2.2] at hst
      have HX0 : Hid (t1 = true ∨ t2 = false ∨ t3 = false ∨ t4 = false → res = some (3, x.pl)) := fun h => by
        rw [HR.out, hst, linkR_name (by rw [← ht2, ← ht3, ← ht4]; rw [ht1, decide_eq_true_iff] at h; exact h)]
      have key : t1 = false → t2 = true → t3 = true → t4 = true → ∃ p, namedR c x.peer = some p ∧ linkR c r ((r.lks.take k).map LkD.peer) x = if x.peer ∈ (r.lks.take k).map LkD.peer then some (4, x.pl) else if p.lks.any (fun x => decide (x.peer = r.name)) = true then none else some (5, x.pl) := by
        intro h1 h2 h3 h4
        rw [ht2, Option.isSome_iff_exists] at h2
        obtain ⟨p, hp⟩ := h2
        exact ⟨p, hp, linkR_rest (by rw [ht1] at h1; exact of_decide_eq_false h1) hp (by rw [← ht3, h3]) (by rw [← ht4, h4])⟩
      have HX1 : Hid (t1 = false → t2 = true → t3 = true → t4 = true → t5 = true → res = some (4, x.pl)) := fun h1 h2 h3 h4 h5 => by
        obtain ⟨p, hp, e⟩ := key h1 h2 h3 h4
        rw [HR.out, hst, e, if_pos (ht5.1 h5)]
      have HX2 : Hid (t1 = false → t2 = true → t3 = true → t4 = true → t5 = false → t6 = false → res = some (5, x.pl)) := fun h1 h2 h3 h4 h5 h6 => by
        obtain ⟨p, hp, e⟩ := key h1 h2 h3 h4
        rw [HR.out, hst, e, if_neg (fun h => by rw [ht5.2 h] at h5; cases h5), if_neg (by rw [← ht6 p hp, h6]; simp)]
      have HX3 : Hid (t1 = false → t2 = true → t3 = true → t4 = true → t5 = false → t6 = true → linksR c r ((r.lks.take (k + 1)).map LkD.peer) (r.lks.drop (k + 1)) = linksR c r [] r.lks) := fun h1 h2 h3 h4 h5 h6 => by
        obtain ⟨p, hp, e⟩ := key h1 h2 h3 h4
        rw [hst, e, if_neg (fun h => by rw [ht5.2 h] at h5; cases h5), if_pos (by rw [← ht6 p hp, h6])]
      have HX : Hid (∀ y, y ∈ (r.lks.take (k + 1)).map LkD.peer ↔ y ∈ (r.lks.take k).map LkD.peer ∨ y = x.peer) := fun y => by
        rw [List.map_take, List.map_take]
        exact mem_take (by rw [List.getElem?_map, hx]; rfl)
      have hh2 : ∀ W : World, Below wr.heap.size wr W → Calls Tryd.prog 29 #[.map (some m2), .string ⟨x.peer.toArray⟩] W fun e w' => e = .returned (.bool t2) ∧ Below W.heap.size W w' := fun W q => by
        obtain ⟨S, h1, h2⟩ := (HS.out.below (bel_up HBW.out q HBW.out.size)).r
        exact hasS_any (a := x.peer) (b := t2) h1 hxf.p (by rw [ht2]; exact h2 _)
      have hh3 : ∀ W : World, Below wr.heap.size wr W → Calls Tryd.prog 42 #[knV m1 m2 m3, .string ⟨x.imp.toArray⟩] W fun e w' => e = .returned (.bool t3) ∧ Below W.heap.size W w' := fun W q => by
        obtain ⟨S, h1, h2⟩ := (HS.out.below (bel_up HBW.out q HBW.out.size)).m
        exact may_any (m2 := m2) (m3 := m3) (a := x.imp) (b := t3) h1 hxf.i (by rw [ht3]; exact h2 _)
      have hh4 : ∀ W : World, Below wr.heap.size wr W → Calls Tryd.prog 42 #[knV m1 m2 m3, .string ⟨x.exp.toArray⟩] W fun e w' => e = .returned (.bool t4) ∧ Below W.heap.size W w' := fun W q => by
        obtain ⟨S, h1, h2⟩ := (HS.out.below (bel_up HBW.out q HBW.out.size)).m
        exact may_any (m2 := m2) (m3 := m3) (a := x.exp) (b := t4) h1 hxf.e (by rw [ht4]; exact h2 _)
      have hh5 := fun (W : World) (q : Below wr.heap.size wr W) => addS_any (a := x.peer) (b := t5) (HW.out.2.1.below q) hxf.p ht5
      have hh6 : ∀ W : World, Below w.heap.size w W → t2 = true → Calls Tryd.prog 40 #[.map (some m3), .agg #[.string ⟨x.peer.toArray⟩, .string ⟨r.name.toArray⟩]] W fun e w' => e = .returned (.bool t6) ∧ Below W.heap.size W w' := fun W q h2t => by
        obtain ⟨S, h1, h2⟩ := (HS.out.below q).l
        rw [ht2, Option.isSome_iff_exists] at h2t
        obtain ⟨p, hp⟩ := h2t
        exact hasP_any (a := (x.peer, r.name)) (b := t6) h1 ⟨hxf.p, HF.out.1.n⟩ (by rw [ht6 p hp]; exact (h2 _ p hp _).symm)
      have e1 := beq_str x.peer r.name
      rw [← ht1, ← HNM.out] at e1
      unfold knV at hh3 hh4
      rw [← HNM.out] at hh6
      obtain ⟨pe, hpe⟩ : ∃ p : ByteArray, p = ⟨x.peer.toArray⟩ := ⟨_, rfl⟩
      obtain ⟨im, him⟩ : ∃ p : ByteArray, p = ⟨x.imp.toArray⟩ := ⟨_, rfl⟩
      obtain ⟨ex, hex⟩ : ∃ p : ByteArray, p = ⟨x.exp.toArray⟩ := ⟨_, rfl⟩
      rw [← hpe] at hh2 hh5 hh6 P0 e1
      rw [← him] at hh3 P2
      rw [← hex] at hh4 P3
      clear hx hp ht1 ht2 ht3 ht4 ht5 ht6 hst hpe him hex hxm hxf key
      go_upto_region 5 with fail
      obtain ⟨b3, hb3⟩ : ∃ b, b = wr.heap.size := ⟨_, rfl⟩
      rw [← hb3]
      obtain ⟨X, hX⟩ : ∃ X, X = wr.alloc (.cells #[.string pe, .int .i64 x.cost, .string im, .string ex, .int .i64 x.pl] 50) := ⟨_, rfl⟩
      rw [← hX]
      obtain ⟨qX, rX, _⟩ := box_at wr _ hX hb3
      have QX : Hid (Below wr.heap.size wr X) := qX
      have HB3 : Hid (b1 ≠ m ∧ b2 ≠ m ∧ b3 ≠ m) := by
        have h1 := HW.out.2.1.lt
        have h2 := HB1.out.2.2
        exact ⟨by omega, by omega, by omega⟩
      have BX : Hid (Bx3 X b1 b2 b3 m1 m2 m3 nm nv (.slice (some ⟨b, off, none⟩) n cap) sv (.int .i64 r.pl) pe im ex x.cost x.pl) := ⟨pf_block qX (HW.out.1.get HB1.out.1 HB3.out.1), pf_block qX (HW.out.1.get HB1.out.2.1 HB3.out.2.1), rX⟩
      obtain ⟨K0, K1, K2⟩ := cells_three BX.out.k
      obtain ⟨R0, _⟩ := cells_five BX.out.r
      obtain ⟨L0, L1, L2, L3, L4⟩ := cells_five BX.out.l
      have g2 := hh2 X QX.out
      clear hh2 hX hb3 qX rX P0 P1 P2 P3 P4
      cases t1 with
      | true =>
        have hr := HX0.out (.inl (by first | rfl | trivial))
        subst hr
        clear g2 hh3 hh4 hh5 hh6
        have h9 := hw3 x.pl X
        clear hw3 hw4 hw5
        go_wp2_with fail
        refine h9.mono ?_
        rintro e Z ⟨rfl, rfl⟩
        clear h9
        go_wp2_with fail
        go_ret
        exact ⟨rfl, bel_up HBW.out QX.out HBW.out.size⟩
      | false =>
        go_wp2_with fail
        refine g2.mono ?_
        rintro e V1 ⟨rfl, q1⟩
        clear K0 K1 K2 R0 L0 L1 L2 L3 L4
        have BV1 : Hid (Bx3 V1 b1 b2 b3 m1 m2 m3 nm nv (.slice (some ⟨b, off, none⟩) n cap) sv (.int .i64 r.pl) pe im ex x.cost x.pl) := BX.out.below q1
        have QV1 : Hid (Below wr.heap.size wr V1) := bel_up QX.out q1 QX.out.size
        obtain ⟨K0, K1, K2⟩ := cells_three BV1.out.k
        obtain ⟨R0, _⟩ := cells_five BV1.out.r
        obtain ⟨L0, L1, L2, L3, L4⟩ := cells_five BV1.out.l
        have g3 := hh3 V1 QV1.out
        clear g2 hh3 q1
        cases t2 with
        | false =>
          have hr := HX0.out (.inr (.inl (by first | rfl | trivial)))
          subst hr
          clear g3 hh4 hh5 hh6
          have h9 := hw3 x.pl V1
          clear hw3 hw4 hw5
          go_wp2_with fail
          refine h9.mono ?_
          rintro e Z ⟨rfl, rfl⟩
          clear h9
          go_wp2_with fail
          go_ret
          exact ⟨rfl, bel_up HBW.out QV1.out HBW.out.size⟩
        | true =>
          go_wp2_with fail
          refine g3.mono ?_
          rintro e V2 ⟨rfl, q1⟩
          clear K0 K1 K2 R0 L0 L1 L2 L3 L4
          have BV2 : Hid (Bx3 V2 b1 b2 b3 m1 m2 m3 nm nv (.slice (some ⟨b, off, none⟩) n cap) sv (.int .i64 r.pl) pe im ex x.cost x.pl) := BV1.out.below q1
          have QV2 : Hid (Below wr.heap.size wr V2) := bel_up QV1.out q1 QV1.out.size
          obtain ⟨K0, K1, K2⟩ := cells_three BV2.out.k
          obtain ⟨R0, _⟩ := cells_five BV2.out.r
          obtain ⟨L0, L1, L2, L3, L4⟩ := cells_five BV2.out.l
          have g4 := hh4 V2 QV2.out
          clear g3 hh4 q1
          cases t3 with
          | false =>
            have hr := HX0.out (.inr (.inr (.inl (by first | rfl | trivial))))
            subst hr
            clear g4 hh5 hh6
            have h9 := hw3 x.pl V2
            clear hw3 hw4 hw5
            go_wp2_with fail
            refine h9.mono ?_
            rintro e Z ⟨rfl, rfl⟩
            clear h9
            go_wp2_with fail
            go_ret
            exact ⟨rfl, bel_up HBW.out QV2.out HBW.out.size⟩
          | true =>
            go_wp2_with fail
            refine g4.mono ?_
            rintro e V3 ⟨rfl, q1⟩
            clear K0 K1 K2 R0 L0 L1 L2 L3 L4
            have BV3 : Hid (Bx3 V3 b1 b2 b3 m1 m2 m3 nm nv (.slice (some ⟨b, off, none⟩) n cap) sv (.int .i64 r.pl) pe im ex x.cost x.pl) := BV2.out.below q1
            have QV3 : Hid (Below wr.heap.size wr V3) := bel_up QV2.out q1 QV2.out.size
            obtain ⟨K0, K1, K2⟩ := cells_three BV3.out.k
            obtain ⟨R0, _⟩ := cells_five BV3.out.r
            obtain ⟨L0, L1, L2, L3, L4⟩ := cells_five BV3.out.l
            have g5 := hh5 V3 QV3.out
            clear g4 hh5 q1
            cases t4 with
            | false =>
              have hr := HX0.out (.inr (.inr (.inr (by first | rfl | trivial))))
              subst hr
              clear g5 hh6
              have h9 := hw3 x.pl V3
              clear hw3 hw4 hw5
              go_wp2_with fail
              refine h9.mono ?_
              rintro e Z ⟨rfl, rfl⟩
              clear h9
              go_wp2_with fail
              go_ret
              exact ⟨rfl, bel_up HBW.out QV3.out HBW.out.size⟩
            | true =>
              go_wp2_with fail
              refine g5.mono ?_
              rintro e V4 ⟨rfl, hS4, q4⟩
              clear K0 K1 K2 R0 L0 L1 L2 L3 L4
              have BV4 : Hid (Bx3 V4 b1 b2 b3 m1 m2 m3 nm nv (.slice (some ⟨b, off, none⟩) n cap) sv (.int .i64 r.pl) pe im ex x.cost x.pl) := BV3.out.belx q4 HB3.out.1 HB3.out.2.1 HB3.out.2.2
              have QV4 : Hid (BelX m U V4 ∧ SetS V4 m (fun y => y ∈ (r.lks.take (k + 1)).map LkD.peer)) := ⟨(HW.out.1.below QV3.out).trans q4, hS4.iff fun y => (HX.out y).symm⟩
              have QW4 : Hid (Below w.heap.size w V4) := QV4.out.1.bel QU.out HM.out.2
              obtain ⟨K0, K1, K2⟩ := cells_three BV4.out.k
              obtain ⟨R0, _⟩ := cells_five BV4.out.r
              obtain ⟨L0, L1, L2, L3, L4⟩ := cells_five BV4.out.l
              have g6 := hh6 V4 QW4.out (by first | rfl | trivial)
              clear g5 hh6 q4 hS4
              cases t5 with
              | true =>
                have hr := HX1.out (by first | rfl | trivial) (by first | rfl | trivial) (by first | rfl | trivial) (by first | rfl | trivial) (by first | rfl | trivial)
                subst hr
                clear g6
                have h9 := hw4 x.pl V4
                clear hw3 hw4 hw5
                go_wp2_with fail
                refine h9.mono ?_
                rintro e Z ⟨rfl, rfl⟩
                clear h9
                go_wp2_with fail
                go_ret
                exact ⟨rfl, QW4.out⟩
              | false =>
                go_wp2_with fail
                refine g6.mono ?_
                rintro e V5 ⟨rfl, q1⟩
                clear K0 K1 K2 R0 L0 L1 L2 L3 L4
                have BV5 : Hid (Bx3 V5 b1 b2 b3 m1 m2 m3 nm nv (.slice (some ⟨b, off, none⟩) n cap) sv (.int .i64 r.pl) pe im ex x.cost x.pl) := BV4.out.below q1
                have QV5 : Hid (Below w.heap.size w V5) := bel_up QW4.out q1 QW4.out.size
                have QX5 : Hid (BelX m U V5 ∧ SetS V5 m (fun y => y ∈ (r.lks.take (k + 1)).map LkD.peer)) := ⟨QV4.out.1.below q1, QV4.out.2.below q1⟩
                obtain ⟨K0, K1, K2⟩ := cells_three BV5.out.k
                obtain ⟨R0, _⟩ := cells_five BV5.out.r
                obtain ⟨L0, L1, L2, L3, L4⟩ := cells_five BV5.out.l
                clear g6 q1
                cases t6 with
                | false =>
                  have hr := HX2.out (by first | rfl | trivial) (by first | rfl | trivial) (by first | rfl | trivial) (by first | rfl | trivial) (by first | rfl | trivial) (by first | rfl | trivial)
                  subst hr
                  have h9 := hw5 x.pl V5
                  clear hw3 hw4 hw5
                  go_wp2_with fail
                  refine h9.mono ?_
                  rintro e Z ⟨rfl, rfl⟩
                  clear h9
                  go_wp2_with fail
                  go_ret
                  exact ⟨rfl, QV5.out⟩
                | true =>
                  have HZ2 : Hid (BelX m U V5 ∧ SetS V5 m (fun x => x ∈ (r.lks.take (k + 1)).map LkD.peer) ∧ linksR c r ((r.lks.take (k + 1)).map LkD.peer) (r.lks.drop (k + 1)) = linksR c r [] r.lks) :=
                    ⟨QX5.out.1, QX5.out.2, HX3.out (by first | rfl | trivial) (by first | rfl | trivial) (by first | rfl | trivial) (by first | rfl | trivial) (by first | rfl | trivial) (by first | rfl | trivial)⟩
                  clear hw3 hw4 hw5 HX0 HX1 HX2 HX3 HX
                  clear K0 K1 K2 R0 L0 L1 L2 L3 L4
                  go_wp2_with fail
                  go_roundg (n - (k + 1))
                  case measure => omega
                  case rel => exact ⟨k + 1, by omega, by go_num, HZ2⟩
    · obtain rfl : k = n := by omega
      have d4 : decide ((k : Int) < k) = false := decide_eq_false (by omega)
      have hres : res = none := by
        have h1 := HW.out.2.2
        rw [HN.out, List.drop_length, List.take_length] at h1
        rw [HR.out, ← h1]
        rfl
      subst hres
      go_wp2_with fail
      go_ret
      exact ⟨rfl, HBW.out⟩
end Go.Proofs.YtcjdjifooaeomaaDoor
