/- What check says of a router's ways, of a name of a map. -/
import Derived.Test.YtcjdjifooaeomaaDoorDC
namespace Go.Proofs.YtcjdjifooaeomaaDoor
open Go.RowKit Go.Maps Go.Lib

/-- An error at a place, or none. -/
def errV : Option (Nat × Int) → Value
  | none => .nilIface
  | some e => .iface 85 (.agg #[.int .i64 e.1, .int .i64 e.2])
theorem wrapI_any (no : Nat) (k : Int) (w : World) : Calls Tryd.prog 18 #[.int .i64 no, .int .i64 k] w fun e w' => e = .returned (.iface 85 (.agg #[.int .i64 no, .int .i64 k])) ∧ w' = w := by
  go_enter Tryd.func18, Tryd.ntmps18
  go_wp2
  go_ret
  exact ⟨rfl, rfl⟩
theorem beq_str (a b : Bs) : ((⟨a.toArray⟩ : ByteArray).toList == (⟨b.toArray⟩ : ByteArray).toList) = decide (a = b) := by
  rw [ByteArray.toList_eq, ByteArray.toList_eq]
  rw [Bool.eq_iff_iff]
  simp
theorem empty_str (a : Bs) : (⟨a.toArray⟩ : ByteArray).toList.isEmpty = decide (a = []) := by
  rw [ByteArray.toList_eq]
  cases a <;> simp
theorem empty_str2 (a : Bs) : ((⟨a.toArray⟩ : ByteArray).toList == (⟨#[]⟩ : ByteArray).toList) = decide (a = []) := beq_str a []
set_option maxHeartbeats 1000000 in
set_option maxRecDepth 20000 in
theorem may_any {m1 m2 m3 : Nat} {S : Bs → Prop} {a : Bs} {w : World} (hs : SetS w m1 S) (ha : NmOk a) {b : Bool} (hb : b = true ↔ a = [] ∨ S a) :
    Calls Tryd.prog 42 #[knV m1 m2 m3, .string ⟨a.toArray⟩] w fun e w' => e = .returned (.bool b) ∧ Below w.heap.size w w' := by
  obtain ⟨t, ht⟩ := told (Classical.em (S a))
  have hh := fun (W : World) (q : Below w.heap.size w W) => hasS_any (hs.below q) ha ht
  have e1 := empty_str a
  have e2 := empty_str2 a
  have HB : Hid (a = [] → b = true) := fun h => hb.2 (.inl h)
  have HB2 : Hid (a ≠ [] → b = t) := fun h => by
    cases t with
    | true => exact hb.2 (.inr (ht.1 rfl))
    | false =>
      cases b with
      | false => rfl
      | true => exact (hb.1 rfl).elim (fun h2 => absurd h2 h) fun h2 => by cases ht.2 h2
  obtain ⟨x, hx⟩ : ∃ x : ByteArray, x = ⟨a.toArray⟩ := ⟨_, rfl⟩
  rw [← hx] at hh e1 e2 ⊢
  unfold knV
  clear hb ht hx
  by_cases h0 : a = []
  · have d1 : x.toList.isEmpty = true := by rw [e1]; exact decide_eq_true h0
    have d2 : (x.toList == (⟨#[]⟩ : ByteArray).toList) = true := by rw [e2]; exact decide_eq_true h0
    obtain rfl := HB.out h0
    clear e1 e2 hh HB2 HB
    go_enter Tryd.func42, Tryd.ntmps42
    go_wp2
    go_ret
    exact ⟨rfl, bel_alloc (Below.refl _ _) _⟩
  · have d1 : x.toList.isEmpty = false := by rw [e1]; exact decide_eq_false h0
    have d2 : (x.toList == (⟨#[]⟩ : ByteArray).toList) = false := by rw [e2]; exact decide_eq_false h0
    obtain rfl := HB2.out h0
    have h3 := hh _ (bel_alloc (Below.refl _ _) (.cells #[.map (some m1), .map (some m2), .map (some m3)] 64))
    clear e1 e2 hh HB2 HB
    go_enter Tryd.func42, Tryd.ntmps42
    go_wp2_with fail
    refine h3.mono ?_
    rintro e V ⟨rfl, qV⟩
    have QV : Hid (Below w.heap.size w V) := bel_up (bel_alloc (Below.refl _ _) _) qV (by simp)
    clear h3 qV
    go_wp2_with fail
    go_ret
    exact ⟨rfl, QV.out⟩
theorem statR_name {r : RoD} {seen : List (Nat × Int)} {s : StD} (h : ¬ r.lks.any (fun x => decide (x.peer = s.via)) = true) : statR r seen s = some (3, s.pl) := by
  unfold statR
  rw [if_pos (by simpa using h)]
theorem statR_twice {r : RoD} {seen : List (Nat × Int)} {s : StD} (h : r.lks.any (fun x => decide (x.peer = s.via)) = true) (h2 : (s.a, s.b) ∈ seen) : statR r seen s = some (4, s.pl) := by
  unfold statR
  rw [if_neg (by rw [h]; simp), if_pos h2]
theorem statR_none {r : RoD} {seen : List (Nat × Int)} {s : StD} (h : r.lks.any (fun x => decide (x.peer = s.via)) = true) (h2 : (s.a, s.b) ∉ seen) : statR r seen s = none := by
  unfold statR
  rw [if_neg (by rw [h]; simp), if_neg h2]
theorem cells_fourD {w : World} {b t : Nat} {x0 x1 x2 x3 : Value} (h : w.heap[b]? = some (.cells #[x0, x1, x2, x3] t (0, 0))) :
    w.cell? ⟨b, 0, none⟩ = some x0 ∧ w.cell? ⟨b, 1, none⟩ = some x1 ∧ w.cell? ⟨b, 2, none⟩ = some x2 ∧ w.cell? ⟨b, 3, none⟩ = some x3 := by
  refine ⟨?_, ?_, ?_, ?_⟩ <;> simp [World.cell?, h]
set_option maxHeartbeats 8000000 in
set_option maxRecDepth 20000 in
theorem ways_any {r : RoD} (hf : r.fit) {v : Value} {w : World} {B m1 m2 m3 : Nat} (hv : RoVal w B v r) (hB : B ≤ w.heap.size) {S : Bs × Bs → Prop} (hs : SetP w m3 S) (hS : ∀ n, S (r.name, n) ↔ r.lks.any (fun x => decide (x.peer = n)) = true) :
    Calls Tryd.prog 33 #[knV m1 m2 m3, v] w fun e w' => e = .returned (errV (statsR r [] r.sts)) ∧ Below w.heap.size w w' := by
  obtain ⟨nv, lv, sv, rfl, hnv, hlv, ⟨ad, cap, rfl, hn0, hss⟩⟩ := hv
  obtain ⟨n, hn⟩ : ∃ n, n = r.sts.length := ⟨_, rfl⟩
  rw [← hn] at hn0 ⊢
  have HN : Hid (n = r.sts.length) := hn
  have HSS : Hid (∀ i x, r.sts[i]? = some x → ∃ b off, ad = some ⟨b, off, none⟩ ∧ b < B ∧ StAt w b (off + i * 4) x) := hss
  have HF : Hid (r.fit ∧ B ≤ w.heap.size) := ⟨hf, hB⟩
  have HS : Hid (SetP w m3 S ∧ ∀ n, S (r.name, n) ↔ r.lks.any (fun x => decide (x.peer = n)) = true) := ⟨hs, hS⟩
  obtain ⟨nm, hnm⟩ : ∃ x : ByteArray, x = ⟨r.name.toArray⟩ := ⟨_, rfl⟩
  rw [← hnm]
  have HNM : Hid (nm = ⟨r.name.toArray⟩) := hnm
  obtain ⟨res, hres⟩ : ∃ x, x = statsR r [] r.sts := ⟨_, rfl⟩
  rw [← hres]
  have HR : Hid (res = statsR r [] r.sts) := hres
  have hmm := @run_makeMap Tryd.prog
  have hw3 := fun k w => wrapI_any 3 k w
  have hw4 := fun k w => wrapI_any 4 k w
  clear hss hn hf hB hs hS hnm hnv hlv hres
  unfold knV
  go_enter Tryd.func33, Tryd.ntmps33
  go_upto_region 1 with fail
  obtain ⟨b1, hb1⟩ : ∃ b, b = w.heap.size := ⟨_, rfl⟩
  obtain ⟨b2, hb2⟩ : ∃ b, b = w.heap.size + 1 := ⟨_, rfl⟩
  rw [← hb2, ← hb1]
  obtain ⟨U1, hU1⟩ : ∃ U, U = w.alloc (.cells #[.map (some m1), .map (some m2), .map (some m3)] 64) := ⟨_, rfl⟩
  rw [← hU1]
  obtain ⟨U2, hU2⟩ : ∃ U, U = U1.alloc (.cells #[.string nm, nv, lv, .slice ad n cap, .int .i64 r.pl] 48) := ⟨_, rfl⟩
  rw [← hU2]
  obtain ⟨q1, r1, _⟩ := box_at w _ hU1 hb1
  obtain ⟨q2, r2, _⟩ := box_at U1 _ hU2 (b := b2) (by rw [hU1, hb2]; simp)
  have QU2 : Hid (Below w.heap.size w U2) := bel_up q1 q2 q1.size
  have r1' := pf_block q2 r1
  clear hU1 q1 q2 hU2
  go_upto_region 2 with fail
  obtain ⟨m, hm⟩ : ∃ b, b = U2.heap.size := ⟨_, rfl⟩
  rw [← hm]
  obtain ⟨U, hU⟩ : ∃ U, U = U2.alloc (.map #[] 0) := ⟨_, rfl⟩
  rw [← hU]
  obtain ⟨hset, q3, hmU⟩ := map_new hU hm pxKey PfOk
  have QU : Hid (Below w.heap.size w U) := bel_up QU2.out q3 QU2.out.size
  have HB1 : Hid (U.heap[b1]? = some (.cells #[.map (some m1), .map (some m2), .map (some m3)] 64 (0, 0)) ∧ U.heap[b2]? = some (.cells #[.string nm, nv, lv, .slice ad n cap, .int .i64 r.pl] 48 (0, 0)) ∧ b1 = w.heap.size ∧ b2 = w.heap.size + 1 ∧ b2 < m) := by
    refine ⟨pf_block q3 r1', pf_block q3 r2, hb1, hb2, ?_⟩
    have := (Array.getElem?_eq_some_iff.1 r2).1
    omega
  have H0 : Hid (BelX m U U ∧ SetF U m (fun x => x ∈ (r.sts.take 0).map fun s => (s.a, s.b)) ∧ statsR r ((r.sts.take 0).map fun s => (s.a, s.b)) (r.sts.drop 0) = statsR r [] r.sts) :=
    ⟨BelX.refl _ _, hset.iff fun x => by simp, rfl⟩
  obtain ⟨R0, R1, R2, R3, R4⟩ := cells_five HB1.out.2.1
  have HM : Hid (U2.heap.size ≤ m ∧ w.heap.size ≤ m) := by
    have := QU2.out.size
    exact ⟨hmU, Nat.le_trans this hmU⟩
  clear hU hm hset q3 hmU r1' r1 r2 hb1 hb2 hmm
  go_upto_region 3 with fail
  clear R0 R1 R2 R3 R4
  go_loopg [12] n (fun g i wr => ∃ k : Nat, k + g = n ∧ i = .int .i64 k ∧ Hid (BelX m U wr ∧ SetF wr m (fun x => x ∈ (r.sts.take k).map fun s => (s.a, s.b)) ∧ statsR r ((r.sts.take k).map fun s => (s.a, s.b)) (r.sts.drop k) = statsR r [] r.sts))
  case atStart => exact ⟨0, Nat.zero_add _, rfl, H0⟩
  case round =>
    obtain ⟨k, hk, rfl, HW⟩ := hrel
    have HBW : Hid (Below w.heap.size w wr) := HW.out.1.bel QU.out HM.out.2
    by_cases hlt : k < n
    · obtain ⟨x, hx⟩ : ∃ x, r.sts[k]? = some x := ⟨r.sts[k]'(by have := HN.out; omega), List.getElem?_eq_getElem _⟩
      obtain ⟨b, off, rfl, hb, hp⟩ := HSS.out k x hx
      obtain ⟨P0, P1, P2, P3⟩ := hp.keep (B := w.heap.size) (Nat.lt_of_lt_of_le hb HF.out.2) (cells_below HBW.out (Nat.le_refl _))
      have d4 : decide ((k : Int) < n) = true := decide_eq_true (by omega)
      have c0 : (0 : Int) ≤ k := by omega
      have K2 := (cells_three (HW.out.1.get HB1.out.1 (by have := HB1.out.2.2; omega))).2.2
      have R0 := (cells_five (HW.out.1.get HB1.out.2.1 (by have := HB1.out.2.2; omega))).1
      have hxm := List.mem_of_getElem? hx
      obtain ⟨t, ht⟩ : ∃ t : Bool, t = r.lks.any (fun y => decide (y.peer = x.via)) := ⟨_, rfl⟩
      obtain ⟨t2, ht2⟩ := told (Classical.em ((x.a, x.b) ∈ (r.sts.take k).map fun s => (s.a, s.b)))
      have hhas := fun (W : World) (q : Below wr.heap.size wr W) => hasP_any (a := (r.name, x.via)) (b := t) ((HS.out.1.below HBW.out).below q) ⟨HF.out.1.n, (HF.out.1.s x hxm).v⟩ (by rw [ht]; exact (HS.out.2 x.via).symm)
      have hadd := fun (W : World) (q : Below wr.heap.size wr W) => addF_any (a := (x.a, x.b)) (b := t2) (HW.out.2.1.below q) (HF.out.1.s x hxm).p ht2
      dsimp only at hhas hadd
      rw [← HNM.out] at hhas
      have hst := stats_at r r.sts k x hx
      rw [HW.out.2.2] at hst
      have HX1 : Hid (t = false → res = some (3, x.pl)) := fun h => by
        rw [HR.out, hst, statR_name (by rw [← ht, h]; simp)]
      have HX2 : Hid (t = true → t2 = true → res = some (4, x.pl)) := fun h h2 => by
        rw [HR.out, hst, statR_twice (by rw [← ht, h]) (ht2.1 h2)]
      have HX3 : Hid (t = true → t2 = false → statsR r ((r.sts.take (k + 1)).map fun s => (s.a, s.b)) (r.sts.drop (k + 1)) = statsR r [] r.sts) := fun h h2 => by
        rw [hst, statR_none (by rw [← ht, h]) (fun h3 => by rw [ht2.2 h3] at h2; cases h2)]
      have HX : Hid (∀ y, y ∈ (r.sts.take (k + 1)).map (fun s => (s.a, s.b)) ↔ y ∈ (r.sts.take k).map (fun s => (s.a, s.b)) ∨ y = (x.a, x.b)) := fun y => by
        rw [List.map_take, List.map_take]
        exact mem_take (by rw [List.getElem?_map, hx]; rfl)
      obtain ⟨vi, hvi⟩ : ∃ p : ByteArray, p = ⟨x.via.toArray⟩ := ⟨_, rfl⟩
      rw [← hvi] at hhas P2
      clear hx hp ht ht2 hst hvi hxm
      go_upto_region 5 with fail
      obtain ⟨b3, hb3⟩ : ∃ b, b = wr.heap.size := ⟨_, rfl⟩
      rw [← hb3]
      obtain ⟨X, hX⟩ : ∃ X, X = wr.alloc (.cells #[.int .u32 x.a, .int .i64 x.b, .string vi, .int .i64 x.pl] 77) := ⟨_, rfl⟩
      rw [← hX]
      obtain ⟨qX, rX, _⟩ := box_at wr _ hX hb3
      have QX : Hid (Below wr.heap.size wr X) := qX
      have HB3 : Hid (b3 ≠ m) := by have := HW.out.2.1.lt; show _ ≠ _; omega
      obtain ⟨X0, X1, X2, X3⟩ := cells_fourD rX
      have l1 : b1 < wr.heap.size := Nat.lt_of_lt_of_le (Array.getElem?_eq_some_iff.1 HB1.out.1).1 HW.out.1.size
      have l2 : b2 < wr.heap.size := Nat.lt_of_lt_of_le (Array.getElem?_eq_some_iff.1 HB1.out.2.1).1 HW.out.1.size
      have K2' : X.cell? ⟨b1, 2, none⟩ = some (.map (some m3)) := by rw [qX.cell (p := ⟨b1, 2, none⟩) l1]; exact K2
      have R0' : X.cell? ⟨b2, 0, none⟩ = some (.string nm) := by rw [qX.cell (p := ⟨b2, 0, none⟩) l2]; exact R0
      have h3 := hhas X qX
      clear hhas hX hb3 qX P0 P1 P2 P3 K2 R0 l1 l2
      go_wp2_with fail
      refine h3.mono ?_
      rintro e Y ⟨rfl, qY⟩
      have RY : Hid (Y.heap[b3]? = some (.cells #[.int .u32 x.a, .int .i64 x.b, .string vi, .int .i64 x.pl] 77 (0, 0))) := pf_block qY rX
      obtain ⟨Y0, Y1, Y2, Y3⟩ := cells_fourD RY.out
      have QY : Hid (Below wr.heap.size wr Y) := bel_up QX.out qY QX.out.size
      have h4 := hadd Y QY.out
      clear h3 X0 X1 X2 X3 K2' R0' rX qY hadd
      cases t with
      | false =>
        have hr := HX1.out (by first | rfl | trivial)
        subst hr
        have h5 := hw3 x.pl Y
        clear h4 hw3 hw4
        go_wp2_with fail
        refine h5.mono ?_
        rintro e Z ⟨rfl, rfl⟩
        clear h5
        go_wp2_with fail
        go_ret
        exact ⟨rfl, bel_up HBW.out QY.out HBW.out.size⟩
      | true =>
        go_wp2_with fail
        refine h4.mono ?_
        rintro e Z ⟨rfl, hS, hZ⟩
        have HZ : Hid (BelX m U Z) := (HW.out.1.below QY.out).trans hZ
        cases t2 with
        | true =>
          have hr := HX2.out (by first | rfl | trivial) (by first | rfl | trivial)
          subst hr
          obtain ⟨Z0, Z1, Z2, Z3⟩ := cells_fourD (hZ.get RY.out HB3.out)
          have h5 := hw4 x.pl Z
          clear h4 hw3 hw4 hZ hS
          go_wp2_with fail
          refine h5.mono ?_
          rintro e Z' ⟨rfl, rfl⟩
          clear h5
          go_wp2_with fail
          go_ret
          exact ⟨rfl, HZ.out.bel QU.out HM.out.2⟩
        | false =>
          have HZ2 : Hid (BelX m U Z ∧ SetF Z m (fun x => x ∈ (r.sts.take (k + 1)).map fun s => (s.a, s.b)) ∧ statsR r ((r.sts.take (k + 1)).map fun s => (s.a, s.b)) (r.sts.drop (k + 1)) = statsR r [] r.sts) :=
            ⟨HZ.out, hS.iff fun y => (HX.out y).symm, HX3.out (by first | rfl | trivial) (by first | rfl | trivial)⟩
          clear h4 hw3 hw4 hZ hS HX1 HX2 HX3 HX
          go_wp2_with fail
          go_roundg (n - (k + 1))
          case measure => omega
          case rel => exact ⟨k + 1, by omega, by go_num, HZ2⟩
    · obtain rfl : k = n := by omega
      have d4 : decide ((k : Int) < k) = false := decide_eq_false (by omega)
      have hres : res = none := by
        have h1 := HW.out.2.2
        rw [HN.out, List.drop_length, List.take_length] at h1
        rw [HR.out, ← h1]
        rfl
      subst hres
      go_wp2_with fail
      go_ret
      exact ⟨rfl, HBW.out⟩
end Go.Proofs.YtcjdjifooaeomaaDoor
