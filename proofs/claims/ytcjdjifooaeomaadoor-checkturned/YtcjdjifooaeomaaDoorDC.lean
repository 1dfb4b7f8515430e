/- What check's own functions do: what is there twice, what is linked, what may be a map's name. -/
import Derived.Test.YtcjdjifooaeomaaDoorDB
import Derived.Deep.LoopGhost
import Derived.WalkMore
import Derived.Deep.CutRange
import Derived.BigRegion
import Derived.Handy
namespace Go.Proofs.YtcjdjifooaeomaaDoor
open Go.RowKit Go.Maps Go.Lib

theorem map_new {w U : World} {m : Nat} (hU : U = w.alloc (.map #[] 0)) (hm : m = w.heap.size) {α : Type} (f : α → Value) (ok : α → Prop) : SetIs f ok U m (fun _ => False) ∧ Below w.heap.size w U ∧ w.heap.size ≤ m := by
  subst hU hm
  exact ⟨set_new w, bel_alloc (Below.refl _ _) _, Nat.le_refl _⟩
theorem mem_take {α : Type} {l : List α} {k : Nat} {a x : α} (h : l[k]? = some a) : x ∈ l.take (k + 1) ↔ x ∈ l.take k ∨ x = a := by
  rw [List.take_add_one, h]
  simp
theorem dup_hit {α β : Type} [DecidableEq β] {key : α → β} {l : List α} {k : Nat} {a : α} (h : l[k]? = some a) (hs : key a ∈ (l.take k).map key) : dupR key ((l.take k).map key) (l.drop k) = some a := by
  rw [dup_at key l k a h, if_pos hs]
theorem dup_miss {α β : Type} [DecidableEq β] {key : α → β} {l : List α} {k : Nat} {a : α} (h : l[k]? = some a) (hs : ¬ key a ∈ (l.take k).map key) : dupR key ((l.take k).map key) (l.drop k) = dupR key ((l.take (k + 1)).map key) (l.drop (k + 1)) := by
  rw [dup_at key l k a h, if_neg hs]
theorem told {p : Prop} (h : p ∨ ¬ p) : ∃ t : Bool, t = true ↔ p := h.elim (fun h => ⟨true, by simp [h]⟩) fun h => ⟨false, by simp [h]⟩
set_option maxHeartbeats 4000000 in
set_option maxRecDepth 20000 in
theorem twice_any {nets : List (Nat × Int)} (hok : ∀ p ∈ nets, PfOk p) {v : Value} {w : World} (hv : SliceAt w.heap.size 2 (PfAt w) v nets) :
    Calls Tryd.prog 31 #[v] w fun e w' => e = .returned (.bool (dupR id [] nets).isSome) ∧ Below w.heap.size w w' := by
  obtain ⟨ad, cap, rfl, hn0, hns⟩ := hv
  obtain ⟨n, hn⟩ : ∃ n, n = nets.length := ⟨_, rfl⟩
  rw [← hn] at hn0 ⊢
  have HN : Hid (n = nets.length) := hn
  have HNS : Hid (∀ i x, nets[i]? = some x → ∃ b off, ad = some ⟨b, off, none⟩ ∧ b < w.heap.size ∧ PfAt w b (off + i * 2) x) := hns
  obtain ⟨res, hres⟩ : ∃ r, r = (dupR id [] nets).isSome := ⟨_, rfl⟩
  rw [← hres]
  have HR : Hid (res = (dupR id [] nets).isSome) := hres
  have HOK : Hid (∀ p ∈ nets, PfOk p) := hok
  clear hns hn hok hres
  have hmm := @run_makeMap Tryd.prog
  go_enter Tryd.func31, Tryd.ntmps31
  go_wp2_with fail
  obtain ⟨m, hm⟩ : ∃ b, b = w.heap.size := ⟨_, rfl⟩
  rw [← hm]
  obtain ⟨U, hU⟩ : ∃ U, U = w.alloc (.map #[] 0) := ⟨_, rfl⟩
  rw [← hU]
  have H0 : Hid (Below w.heap.size w U ∧ SetF U m (fun x => x ∈ (nets.take 0).map id) ∧ dupR id ((nets.take 0).map id) (nets.drop 0) = dupR id [] nets) := by
    obtain ⟨h1, h2, h3⟩ := map_new hU hm pxKey PfOk
    exact ⟨h2, h1.iff fun a => by simp, rfl⟩
  have HM : Hid (w.heap.size ≤ m) := by show _ ≤ _; omega
  clear hU hm hmm
  go_loopg [9] n (fun g i wr => ∃ k : Nat, k + g = n ∧ i = .int .i64 k ∧ Hid (Below w.heap.size w wr ∧ SetF wr m (fun x => x ∈ (nets.take k).map id) ∧ dupR id ((nets.take k).map id) (nets.drop k) = dupR id [] nets))
  case atStart => exact ⟨0, Nat.zero_add _, rfl, H0⟩
  case round =>
    obtain ⟨k, hk, rfl, HW⟩ := hrel
    by_cases hlt : k < n
    · obtain ⟨x, hx⟩ : ∃ x, nets[k]? = some x := ⟨nets[k]'(by have := HN.out; omega), List.getElem?_eq_getElem _⟩
      obtain ⟨b, off, rfl, hb, hp⟩ := HNS.out k x hx
      obtain ⟨P0, P1⟩ := hp.keep hb (cells_below HW.out.1 (Nat.le_refl _))
      have d4 : decide ((k : Int) < n) = true := decide_eq_true (by omega)
      have c0 : (0 : Int) ≤ k := by omega
      have hxo := HOK.out x (List.mem_of_getElem? hx)
      have hd1 := fun hs => HW.out.2.2.symm.trans (dup_hit (key := id) hx hs)
      have hd2 := fun hs => HW.out.2.2.symm.trans (dup_miss (key := id) hx hs)
      have hmt := fun y => mem_take (x := y) hx
      have hadd := fun (W : World) (q : Below wr.heap.size wr W) (b : Bool) (hb : b = true ↔ x ∈ (nets.take k).map id) => addF_any (b := b) (HW.out.2.1.below q) hxo hb
      obtain ⟨t, ht⟩ := told (Decidable.em (x ∈ (nets.take k).map id))
      have hadd2 := fun W q => hadd W q t ht
      have HX : Hid ((∀ y, y ∈ nets.take (k + 1) ↔ y ∈ nets.take k ∨ y = x) ∧ (t = true → dupR id [] nets = some x) ∧ (t = false → dupR id [] nets = dupR id ((nets.take (k + 1)).map id) (nets.drop (k + 1)))) :=
        ⟨hmt, fun h => hd1 (ht.1 h), fun h => hd2 fun hs => by rw [ht.2 hs] at h; cases h⟩
      obtain ⟨a1, a2⟩ := x
      dsimp only at P0 P1 hadd2
      clear hx hp hd1 hd2 hmt hxo hadd ht
      go_wp2_with fail
      obtain ⟨b1, hb1⟩ : ∃ b, b = wr.heap.size := ⟨_, rfl⟩
      rw [← hb1]
      obtain ⟨X, hX⟩ : ∃ X, X = wr.alloc (.cells #[.int .u32 a1, .int .i64 a2] 74) := ⟨_, rfl⟩
      rw [← hX]
      obtain ⟨qX, rX, _⟩ := box_at wr _ hX hb1
      obtain ⟨X0, X1⟩ := cells_two rX
      have h3 := hadd2 X qX
      have HQX : Hid (Below w.heap.size w X) := bel_up HW.out.1 qX HW.out.1.size
      clear hadd2 hX hb1 qX rX P0 P1
      cases t with
      | true =>
        have hres : res = true := by
          rw [HR.out, HX.out.2.1 rfl]
          rfl
        subst hres
        go_wp2_with fail
        refine h3.mono ?_
        rintro e Y ⟨rfl, _, hY⟩
        have HY : Hid (Below w.heap.size w Y) := hY.bel HQX.out HM.out
        clear h3 hY
        go_wp2_with fail
        go_ret
        exact ⟨rfl, HY.out⟩
      | false =>
        go_wp2_with fail
        refine h3.mono ?_
        rintro e Y ⟨rfl, hS, hY⟩
        have HY : Hid (Below w.heap.size w Y ∧ SetF Y m (fun x => x ∈ (nets.take (k + 1)).map id) ∧ dupR id ((nets.take (k + 1)).map id) (nets.drop (k + 1)) = dupR id [] nets) := by
          refine ⟨hY.bel HQX.out HM.out, hS.iff fun y => ?_, ?_⟩
          · rw [List.map_id, List.map_id, HX.out.1 y]
          · exact (HX.out.2.2 (by first | rfl | trivial)).symm
        clear h3 hY hS
        go_wp2_with fail
        go_roundg (n - (k + 1))
        case measure => omega
        case rel => exact ⟨k + 1, by omega, by go_num, HY⟩
    · obtain rfl : k = n := by omega
      have d4 : decide ((k : Int) < k) = false := decide_eq_false (by omega)
      have hres : res = false := by
        have h1 := HW.out.2.2
        have h2 := HN.out
        rw [h2, dup_end id nets] at h1
        rw [HR.out, ← h1]
        rfl
      subst hres
      go_wp2_with fail
      go_ret
      exact ⟨rfl, HW.out.1⟩
/-- What names are looked up in. -/
def knV (m1 m2 m3 : Nat) : Value := .agg #[.map (some m1), .map (some m2), .map (some m3)]
/-- A router as a value, its lists below B. -/
def RoVal (W : World) (B : Nat) (v : Value) (r : RoD) : Prop :=
  ∃ nv lv sv, v = .agg #[.string ⟨r.name.toArray⟩, nv, lv, sv, .int .i64 r.pl] ∧ SliceAt B 2 (PfAt W) nv r.nets ∧ SliceAt B 5 (LkAt W) lv r.lks ∧ SliceAt B 4 (StAt W) sv r.sts
theorem RoVal.keep {W W' : World} {B B' : Nat} {v : Value} {r : RoD} (h : RoVal W B v r) (hB : B ≤ B') (k : Cells B W W') : RoVal W' B' v r := by
  obtain ⟨nv, lv, sv, h5, h6, h7, h8⟩ := h
  exact ⟨nv, lv, sv, h5, h6.mono hB fun _ _ _ hb h => h.keep hb k, h7.mono hB fun _ _ _ hb h => h.keep hb k, h8.mono hB fun _ _ _ hb h => h.keep hb k⟩
/-- What may be keys. -/
structure LkD.fit (l : LkD) : Prop where
  p : NmOk l.peer
  i : NmOk l.imp
  e : NmOk l.exp
structure StD.fit (s : StD) : Prop where
  p : PfOk (s.a, s.b)
  v : NmOk s.via
structure RoD.fit (r : RoD) : Prop where
  n : NmOk r.name
  p : ∀ p ∈ r.nets, PfOk p
  l : ∀ l ∈ r.lks, l.fit
  s : ∀ s ∈ r.sts, s.fit
structure CfD.fit (c : CfD) : Prop where
  m : ∀ m ∈ c.maps, NmOk m.name
  r : ∀ r ∈ c.ros, r.fit
theorem cells_BelX {B m : Nat} {W W' : World} (h : BelX m W W') (hB : B ≤ W.heap.size) (hm : B ≤ m) : Cells B W W' := fun b i v hb hv => by
  unfold World.cell? at hv ⊢
  dsimp only at hv ⊢
  rw [h.block b (by omega) (by omega)]
  exact hv
set_option maxHeartbeats 4000000 in
/-- A router's links are put in. -/
theorem addlinks_any {r : RoD} (hf : r.fit) {v : Value} {w : World} {B m1 m2 m3 : Nat} (hv : RoVal w B v r) (hB : B ≤ w.heap.size) (hm : B ≤ m3) {S : Bs × Bs → Prop} (hs : SetP w m3 S) :
    Calls Tryd.prog 19 #[knV m1 m2 m3, v] w fun e w' => e = .returned (.tuple #[]) ∧ SetP w' m3 (fun x => S x ∨ (x.1 = r.name ∧ x.2 ∈ r.lks.map LkD.peer)) ∧ BelX m3 w w' := by
  obtain ⟨nv, lv, sv, rfl, hnv, ⟨ad, cap, rfl, hn0, hls⟩, hsv⟩ := hv
  obtain ⟨n, hn⟩ : ∃ n, n = r.lks.length := ⟨_, rfl⟩
  rw [← hn] at hn0 ⊢
  have HN : Hid (n = r.lks.length) := hn
  have HLS : Hid (∀ i x, r.lks[i]? = some x → ∃ b off, ad = some ⟨b, off, none⟩ ∧ b < B ∧ LkAt w b (off + i * 5) x) := hls
  have HF : Hid (r.fit ∧ B ≤ w.heap.size ∧ B ≤ m3 ∧ m3 < w.heap.size) := ⟨hf, hB, hm, hs.lt⟩
  have HS : Hid (SetP w m3 S) := hs
  obtain ⟨nm, hnm⟩ : ∃ x : ByteArray, x = ⟨r.name.toArray⟩ := ⟨_, rfl⟩
  rw [← hnm]
  have HNM : Hid (nm = ⟨r.name.toArray⟩) := hnm
  clear hls hn hf hB hm hs hnm hnv hsv
  unfold knV
  go_enter Tryd.func19, Tryd.ntmps19
  go_wp2_with fail
  obtain ⟨b1, hb1⟩ : ∃ b, b = w.heap.size := ⟨_, rfl⟩
  obtain ⟨b2, hb2⟩ : ∃ b, b = w.heap.size + 1 := ⟨_, rfl⟩
  rw [← hb2, ← hb1]
  obtain ⟨U1, hU1⟩ : ∃ U, U = w.alloc (.cells #[.map (some m1), .map (some m2), .map (some m3)] 64) := ⟨_, rfl⟩
  rw [← hU1]
  obtain ⟨U, hU⟩ : ∃ U, U = U1.alloc (.cells #[.string nm, nv, .slice ad n cap, sv, .int .i64 r.pl] 48) := ⟨_, rfl⟩
  rw [← hU]
  obtain ⟨q1, r1, _⟩ := box_at w _ hU1 hb1
  obtain ⟨q2, r2, _⟩ := box_at U1 _ hU (b := b2) (by rw [hU1, hb2]; simp)
  have QU : Hid (Below w.heap.size w U) := bel_up q1 q2 q1.size
  have HB1 : Hid (U.heap[b1]? = some (.cells #[.map (some m1), .map (some m2), .map (some m3)] 64 (0, 0)) ∧ U.heap[b2]? = some (.cells #[.string nm, nv, .slice ad n cap, sv, .int .i64 r.pl] 48 (0, 0)) ∧ b1 = w.heap.size ∧ b2 = w.heap.size + 1) := ⟨pf_block q2 r1, r2, hb1, hb2⟩
  obtain ⟨R0, R1, R2, R3, R4⟩ := cells_five HB1.out.2.1
  clear hU hU1 hb1 hb2 q1 q2 r1 r2
  go_upto_region 2 with fail
  clear R0 R1 R2 R3 R4
  have H0 : Hid (BelX m3 U U ∧ SetP U m3 (fun x => S x ∨ (x.1 = r.name ∧ x.2 ∈ (r.lks.take 0).map LkD.peer))) := ⟨BelX.refl _ _, (HS.out.below QU.out).iff fun x => by simp⟩
  go_loopg [9] n (fun g i wr => ∃ k : Nat, k + g = n ∧ i = .int .i64 k ∧ Hid (BelX m3 U wr ∧ SetP wr m3 (fun x => S x ∨ (x.1 = r.name ∧ x.2 ∈ (r.lks.take k).map LkD.peer))))
  case atStart => exact ⟨0, Nat.zero_add _, rfl, H0⟩
  case round =>
    obtain ⟨k, hk, rfl, HW⟩ := hrel
    by_cases hlt : k < n
    · obtain ⟨x, hx⟩ : ∃ x, r.lks[k]? = some x := ⟨r.lks[k]'(by have := HN.out; omega), List.getElem?_eq_getElem _⟩
      obtain ⟨b, off, rfl, hb, hp⟩ := HLS.out k x hx
      have hc := cells_BelX (B := B) HW.out.1 (Nat.le_trans HF.out.2.1 QU.out.size) HF.out.2.2.1
      obtain ⟨P0, P1, P2, P3, P4⟩ := (hp.keep (B := w.heap.size) (Nat.lt_of_lt_of_le hb HF.out.2.1) (cells_below QU.out (Nat.le_refl _))).keep hb hc
      have d4 : decide ((k : Int) < n) = true := decide_eq_true (by omega)
      have c0 : (0 : Int) ≤ k := by omega
      obtain ⟨K0, K1, K2⟩ := cells_three (HW.out.1.get HB1.out.1 (by have := HF.out.2.2.2; have := HB1.out.2.2.1; omega))
      obtain ⟨R0, R1, R2, R3, R4⟩ := cells_five (HW.out.1.get HB1.out.2.1 (by have := HF.out.2.2.2; have := HB1.out.2.2.2; omega))
      have hmt := fun y => mem_take (x := y) (l := r.lks.map LkD.peer) (k := k) (a := x.peer) (by rw [List.getElem?_map, hx]; rfl)
      obtain ⟨t, ht⟩ := told (Classical.em (S (r.name, x.peer) ∨ ((r.name, x.peer).1 = r.name ∧ (r.name, x.peer).2 ∈ (r.lks.take k).map LkD.peer)))
      have hadd := fun (W : World) (q : Below wr.heap.size wr W) => addP_any (a := (r.name, x.peer)) (b := t) (HW.out.2.below q) ⟨HF.out.1.n, (HF.out.1.l x (List.mem_of_getElem? hx)).p⟩ ht
      dsimp only at hadd
      rw [← HNM.out] at hadd
      obtain ⟨pe, hpe⟩ : ∃ p : ByteArray, p = ⟨x.peer.toArray⟩ := ⟨_, rfl⟩
      rw [← hpe] at hadd P0
      have HX : Hid (∀ y, y ∈ (r.lks.take (k + 1)).map LkD.peer ↔ y ∈ (r.lks.take k).map LkD.peer ∨ y = x.peer) := fun y => by rw [List.map_take, List.map_take]; exact hmt y
      clear hx hp hmt ht hc hpe
      go_upto_region 4 with fail
      obtain ⟨b3, hb3⟩ : ∃ b, b = wr.heap.size := ⟨_, rfl⟩
      rw [← hb3]
      obtain ⟨X, hX⟩ : ∃ X, X = wr.alloc (.cells #[.string pe, .int .i64 x.cost, .string ⟨x.imp.toArray⟩, .string ⟨x.exp.toArray⟩, .int .i64 x.pl] 50) := ⟨_, rfl⟩
      rw [← hX]
      obtain ⟨qX, rX, _⟩ := box_at wr _ hX hb3
      have QX : Hid (BelX m3 U X) := HW.out.1.below qX
      obtain ⟨X0, _⟩ := cells_five rX
      have l1 : b1 < wr.heap.size := Nat.lt_of_lt_of_le (Array.getElem?_eq_some_iff.1 HB1.out.1).1 HW.out.1.size
      have l2 : b2 < wr.heap.size := Nat.lt_of_lt_of_le (Array.getElem?_eq_some_iff.1 HB1.out.2.1).1 HW.out.1.size
      have K2' : X.cell? ⟨b1, 2, none⟩ = some (.map (some m3)) := by rw [qX.cell (p := ⟨b1, 2, none⟩) l1]; exact K2
      have R0' : X.cell? ⟨b2, 0, none⟩ = some (.string nm) := by rw [qX.cell (p := ⟨b2, 0, none⟩) l2]; exact R0
      have h3 := hadd X qX
      clear hadd hX hb3 qX rX P0 P1 P2 P3 P4 K0 K1 K2 R0 R1 R2 R3 R4 l1 l2
      go_wp2_with fail
      refine h3.mono ?_
      rintro e Y ⟨rfl, hS, hY⟩
      have HY : Hid (BelX m3 U Y ∧ SetP Y m3 (fun x => S x ∨ (x.1 = r.name ∧ x.2 ∈ (r.lks.take (k + 1)).map LkD.peer))) := by
        refine ⟨QX.out.trans hY, hS.iff fun y => ?_⟩
        obtain ⟨y1, y2⟩ := y
        dsimp only
        rw [HX.out y2, Prod.mk.injEq]
        constructor
        · rintro ((h | ⟨h1, h2⟩) | ⟨h1, h2⟩)
          · exact .inl h
          · exact .inr ⟨h1, .inl h2⟩
          · exact .inr ⟨h1, .inr h2⟩
        · rintro (h | ⟨h1, h2 | h2⟩)
          · exact .inl (.inl h)
          · exact .inl (.inr ⟨h1, h2⟩)
          · exact .inr ⟨h1, h2⟩
      clear h3 hY hS X0 K2' R0'
      go_wp2_with fail
      go_roundg (n - (k + 1))
      case measure => omega
      case rel => exact ⟨k + 1, by omega, by go_num, HY⟩
    · obtain rfl : k = n := by omega
      have d4 : decide ((k : Int) < k) = false := decide_eq_false (by omega)
      go_wp2_with fail
      go_returns
      refine ⟨rfl, HW.out.2.iff fun y => ?_, (BelX.of m3 QU.out).trans HW.out.1⟩
      rw [HN.out, List.take_length]
end Go.Proofs.YtcjdjifooaeomaaDoor
