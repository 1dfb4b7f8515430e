/- What check.Peer does. -/
import Derived.Test.YtcjdjifooaeomaaDoorDRp
import Derived.Test.YtcjdjifooaeomaaDoorShelf2
namespace Go.Proofs.YtcjdjifooaeomaaDoor
open Go.RowKit Go.Lib
/-- Five cells written. -/
def put5 (w : World) (b : Nat) (x0 x1 x2 x3 x4 : Value) : World := ((((w.setCell ⟨b, 0, none⟩ x0).setCell ⟨b, 1, none⟩ x1).setCell ⟨b, 2, none⟩ x2).setCell ⟨b, 3, none⟩ x3).setCell ⟨b, 4, none⟩ x4
theorem put5_at {w : World} {b t : Nat} {y0 y1 y2 y3 y4 : Value} (h : w.heap[b]? = some (.cells #[y0, y1, y2, y3, y4] t (0, 0))) (x0 x1 x2 x3 x4 : Value) : (put5 w b x0 x1 x2 x3 x4).heap[b]? = some (.cells #[x0, x1, x2, x3, x4] t (0, 0)) := by
  have e0 : (w.setCell ⟨b, 0, none⟩ x0).heap[b]? = some (.cells #[x0, y1, y2, y3, y4] t (0, 0)) := set_at (i := 0) h x0
  have e1 : ((w.setCell ⟨b, 0, none⟩ x0).setCell ⟨b, 1, none⟩ x1).heap[b]? = some (.cells #[x0, x1, y2, y3, y4] t (0, 0)) := set_at (i := 1) e0 x1
  have e2 : (((w.setCell ⟨b, 0, none⟩ x0).setCell ⟨b, 1, none⟩ x1).setCell ⟨b, 2, none⟩ x2).heap[b]? = some (.cells #[x0, x1, x2, y3, y4] t (0, 0)) := set_at (i := 2) e1 x2
  have e3 : ((((w.setCell ⟨b, 0, none⟩ x0).setCell ⟨b, 1, none⟩ x1).setCell ⟨b, 2, none⟩ x2).setCell ⟨b, 3, none⟩ x3).heap[b]? = some (.cells #[x0, x1, x2, x3, y4] t (0, 0)) := set_at (i := 3) e2 x3
  exact set_at (i := 4) e3 x4
theorem put5_bel {w U : World} {b : Nat} (h : Below w.heap.size w U) (hb : w.heap.size ≤ b) (x0 x1 x2 x3 x4 : Value) : Below w.heap.size w (put5 U b x0 x1 x2 x3 x4) :=
  ((((h.setCell hb _).setCell hb _).setCell hb _).setCell hb _).setCell hb _
/-- A router that is found, or none. -/
theorem no_take {α β : Type} {key : α → β} {l : List α} {j : Nat} {y : α} {x : β} (h : x ∉ (l.take j).map key) (hy : l[j]? = some y) (hne : key y ≠ x) : x ∉ (l.take (j + 1)).map key := by
  rw [List.take_add_one, hy, List.map_append, List.mem_append]
  rintro (h1 | h1)
  · exact h h1
  · simp at h1
    exact hne h1.symm

def lkV9 (l : LkD) : Value := .agg #[.string ⟨l.peer.toArray⟩, .int .i64 l.cost, .string ⟨l.imp.toArray⟩, .string ⟨l.exp.toArray⟩, .int .i64 l.pl]
theorem clone_any (s : ByteArray) (hs : s.size ≤ 281474976710656) (w : World) : Calls Tryd.prog 39 #[.string s] w fun e w' => e = .returned (.string s) ∧ Below w.heap.size w w' := by
  have h := fun w => Tryd.stringslite_Clone s w hs
  go_enter Tryd.func39, Tryd.ntmps39
  go_wp2_with (first | (go_at_call 46; refine (h _).mono ?_; rintro e w1 ⟨rfl, q⟩) | go_in)
  go_ret
  exact ⟨rfl, by assumption⟩
set_option maxHeartbeats 4000000 in
set_option maxRecDepth 20000 in
theorem copied_any (l : LkD) (hl : l.held) (w : World) : Calls Tryd.prog 28 #[lkV9 l] w fun e w' => e = .returned (lkV9 l) ∧ Below w.heap.size w w' := by
  have hc1 := fun w => clone_any ⟨l.peer.toArray⟩ (by have := hl.p; show l.peer.toArray.size ≤ _; rw [List.size_toArray]; exact this) w
  have hc2 := fun w => clone_any ⟨l.imp.toArray⟩ (by have := hl.i; show l.imp.toArray.size ≤ _; rw [List.size_toArray]; exact this) w
  have hc3 := fun w => clone_any ⟨l.exp.toArray⟩ (by have := hl.e; show l.exp.toArray.size ≤ _; rw [List.size_toArray]; exact this) w
  unfold lkV9
  obtain ⟨pe, hpe⟩ : ∃ p : ByteArray, p = ⟨l.peer.toArray⟩ := ⟨_, rfl⟩
  obtain ⟨im, him⟩ : ∃ p : ByteArray, p = ⟨l.imp.toArray⟩ := ⟨_, rfl⟩
  obtain ⟨ex, hex⟩ : ∃ p : ByteArray, p = ⟨l.exp.toArray⟩ := ⟨_, rfl⟩
  rw [← hpe] at hc1 ⊢
  rw [← him] at hc2 ⊢
  rw [← hex] at hc3 ⊢
  clear hpe him hex hl
  go_enter Tryd.func28, Tryd.ntmps28
  go_upto_region 1 with fail
  obtain ⟨b1, hb1⟩ : ∃ b, b = w.heap.size := ⟨_, rfl⟩
  obtain ⟨b2, hb2⟩ : ∃ b, b = w.heap.size + 1 := ⟨_, rfl⟩
  rw [← hb2, ← hb1]
  obtain ⟨U1, hU1⟩ : ∃ U, U = w.alloc (.cells #[.string pe, .int .i64 l.cost, .string im, .string ex, .int .i64 l.pl] 50) := ⟨_, rfl⟩
  rw [← hU1]
  obtain ⟨U, hU⟩ : ∃ U, U = U1.alloc (.cells #[.string ⟨#[]⟩, .int .i64 0, .string ⟨#[]⟩, .string ⟨#[]⟩, .int .i64 0] 50) := ⟨_, rfl⟩
  rw [← hU]
  obtain ⟨q1, r1, _⟩ := box_at w _ hU1 hb1
  obtain ⟨q2, r2, _⟩ := box_at U1 _ hU (b := b2) (by rw [hU1, hb2]; simp)
  have HB : Hid (w.heap.size ≤ b1 ∧ w.heap.size ≤ b2 ∧ b1 ≠ b2) := ⟨by omega, by omega, by omega⟩
  have QU : Hid (Below w.heap.size w U ∧ U.heap[b1]? = some (.cells #[.string pe, .int .i64 l.cost, .string im, .string ex, .int .i64 l.pl] 50 (0, 0)) ∧ U.heap[b2]? = some (.cells #[.string ⟨#[]⟩, .int .i64 0, .string ⟨#[]⟩, .string ⟨#[]⟩, .int .i64 0] 50 (0, 0))) := ⟨bel_up q1 q2 q1.size, pf_block q2 r1, r2⟩
  have step : ∀ (X Y : World) (i : Nat) (x : Value), (Below w.heap.size w X ∧ X.heap[b1]? = some (.cells #[.string pe, .int .i64 l.cost, .string im, .string ex, .int .i64 l.pl] 50 (0, 0)) ∧ X.heap[b2]? = some (.cells #[.string ⟨#[]⟩, .int .i64 0, .string ⟨#[]⟩, .string ⟨#[]⟩, .int .i64 0] 50 (0, 0))) → Below X.heap.size X Y →
      (#[Value.string pe, .int .i64 l.cost, .string im, .string ex, .int .i64 l.pl] : Array Value).setIfInBounds i x = #[.string pe, .int .i64 l.cost, .string im, .string ex, .int .i64 l.pl] →
      Below w.heap.size w (Y.setCell ⟨b1, i, none⟩ x) ∧ (Y.setCell ⟨b1, i, none⟩ x).heap[b1]? = some (.cells #[.string pe, .int .i64 l.cost, .string im, .string ex, .int .i64 l.pl] 50 (0, 0)) ∧ (Y.setCell ⟨b1, i, none⟩ x).heap[b2]? = some (.cells #[.string ⟨#[]⟩, .int .i64 0, .string ⟨#[]⟩, .string ⟨#[]⟩, .int .i64 0] 50 (0, 0)) := by
    intro X Y i x ⟨h1, h2, h3⟩ q he
    refine ⟨(bel_up h1 q h1.size).setCell HB.out.1 _, ?_, set_off (pf_block q h3) HB.out.2.2.symm _⟩
    rw [set_two (pf_block q h2) x, he]
  have HST : Hid (∀ (X Y : World) (i : Nat) (x : Value), (Below w.heap.size w X ∧ X.heap[b1]? = some (.cells #[.string pe, .int .i64 l.cost, .string im, .string ex, .int .i64 l.pl] 50 (0, 0)) ∧ X.heap[b2]? = some (.cells #[.string ⟨#[]⟩, .int .i64 0, .string ⟨#[]⟩, .string ⟨#[]⟩, .int .i64 0] 50 (0, 0))) → Below X.heap.size X Y →
      (#[Value.string pe, .int .i64 l.cost, .string im, .string ex, .int .i64 l.pl] : Array Value).setIfInBounds i x = #[.string pe, .int .i64 l.cost, .string im, .string ex, .int .i64 l.pl] →
      Below w.heap.size w (Y.setCell ⟨b1, i, none⟩ x) ∧ (Y.setCell ⟨b1, i, none⟩ x).heap[b1]? = some (.cells #[.string pe, .int .i64 l.cost, .string im, .string ex, .int .i64 l.pl] 50 (0, 0)) ∧ (Y.setCell ⟨b1, i, none⟩ x).heap[b2]? = some (.cells #[.string ⟨#[]⟩, .int .i64 0, .string ⟨#[]⟩, .string ⟨#[]⟩, .int .i64 0] 50 (0, 0))) := step
  clear step hU hU1 hb1 hb2 q1 q2 r1 r2
  obtain ⟨L0, L1, L2, L3, L4⟩ := cells_five QU.out.2.1
  have g1 := hc1 U
  go_wp2_with fail
  refine g1.mono ?_
  rintro e V1 ⟨rfl, qV⟩
  have rV := pf_block qV QU.out.2.1
  have F0 := free_at rV 0
  obtain ⟨M0, _⟩ := cells_five rV
  have HQ : Hid (Below U.heap.size U V1) := qV
  clear L0 L1 L2 L3 L4 g1 hc1 qV rV
  go_upto_region 2 with fail
  obtain ⟨X1, hX1⟩ : ∃ X, X = V1.setCell ⟨b1, 0, none⟩ (.string pe) := ⟨_, rfl⟩
  rw [← hX1]
  have Q1 : Hid (Below w.heap.size w X1 ∧ X1.heap[b1]? = some (.cells #[.string pe, .int .i64 l.cost, .string im, .string ex, .int .i64 l.pl] 50 (0, 0)) ∧ X1.heap[b2]? = some (.cells #[.string ⟨#[]⟩, .int .i64 0, .string ⟨#[]⟩, .string ⟨#[]⟩, .int .i64 0] 50 (0, 0))) := by rw [hX1]; exact HST.out U V1 0 _ QU.out HQ.out rfl
  clear hX1 F0 M0 HQ
  obtain ⟨L0, L1, L2, L3, L4⟩ := cells_five Q1.out.2.1
  have g2 := hc2 X1
  go_wp2_with fail
  refine g2.mono ?_
  rintro e V2 ⟨rfl, qV⟩
  have rV := pf_block qV Q1.out.2.1
  have F0 := free_at rV 2
  obtain ⟨_, _, M0, _⟩ := cells_five rV
  have HQ : Hid (Below X1.heap.size X1 V2) := qV
  clear L0 L1 L2 L3 L4 g2 hc2 qV rV
  go_upto_region 3 with fail
  obtain ⟨X2, hX2⟩ : ∃ X, X = V2.setCell ⟨b1, 2, none⟩ (.string im) := ⟨_, rfl⟩
  rw [← hX2]
  have Q2 : Hid (Below w.heap.size w X2 ∧ X2.heap[b1]? = some (.cells #[.string pe, .int .i64 l.cost, .string im, .string ex, .int .i64 l.pl] 50 (0, 0)) ∧ X2.heap[b2]? = some (.cells #[.string ⟨#[]⟩, .int .i64 0, .string ⟨#[]⟩, .string ⟨#[]⟩, .int .i64 0] 50 (0, 0))) := by rw [hX2]; exact HST.out X1 V2 2 _ Q1.out HQ.out rfl
  clear hX2 F0 M0 HQ
  obtain ⟨L0, L1, L2, L3, L4⟩ := cells_five Q2.out.2.1
  have g3 := hc3 X2
  go_wp2_with fail
  refine g3.mono ?_
  rintro e V3 ⟨rfl, qV⟩
  have rV := pf_block qV Q2.out.2.1
  have F0 := free_at rV 3
  obtain ⟨_, _, _, M0, _⟩ := cells_five rV
  have HQ : Hid (Below X2.heap.size X2 V3) := qV
  clear L0 L1 L2 L3 L4 g3 hc3 qV rV
  go_upto_region 4 with fail
  obtain ⟨X3, hX3⟩ : ∃ X, X = V3.setCell ⟨b1, 3, none⟩ (.string ex) := ⟨_, rfl⟩
  rw [← hX3]
  have Q3 : Hid (Below w.heap.size w X3 ∧ X3.heap[b1]? = some (.cells #[.string pe, .int .i64 l.cost, .string im, .string ex, .int .i64 l.pl] 50 (0, 0)) ∧ X3.heap[b2]? = some (.cells #[.string ⟨#[]⟩, .int .i64 0, .string ⟨#[]⟩, .string ⟨#[]⟩, .int .i64 0] 50 (0, 0))) := by rw [hX3]; exact HST.out X2 V3 3 _ Q2.out HQ.out rfl
  clear hX3 F0 M0 HQ HST
  obtain ⟨L0, L1, L2, L3, L4⟩ := cells_five Q3.out.2.1
  obtain ⟨Z0, Z1, Z2, Z3, Z4⟩ := cells_five Q3.out.2.2
  have F0 := free_at Q3.out.2.2 0
  have F1 := free_at Q3.out.2.2 1
  have F2 := free_at Q3.out.2.2 2
  have F3 := free_at Q3.out.2.2 3
  have F4 := free_at Q3.out.2.2 4
  go_wp2_with fail
  obtain ⟨W, hW⟩ : ∃ W, W = put5 X3 b2 (.string pe) (.int .i64 l.cost) (.string im) (.string ex) (.int .i64 l.pl) := ⟨_, rfl⟩
  unfold put5 at hW
  rw [← hW]
  have hW' : W = put5 X3 b2 (.string pe) (.int .i64 l.cost) (.string im) (.string ex) (.int .i64 l.pl) := hW
  obtain ⟨W0, W1, W2, W3, W4⟩ := cells_five (by rw [hW']; exact put5_at Q3.out.2.2 _ _ _ _ _ : W.heap[b2]? = some (.cells #[.string pe, .int .i64 l.cost, .string im, .string ex, .int .i64 l.pl] 50 (0, 0)))
  have qWw : Below w.heap.size w W := by rw [hW']; exact put5_bel Q3.out.1 HB.out.2.1 _ _ _ _ _
  clear hW hW'
  refine bodyPost_ret (v := .agg #[.string pe, .int .i64 l.cost, .string im, .string ex, .int .i64 l.pl]) (by simp [results, Tryd.results28, go_sem, W0, W1, W2, W3, W4]) rfl ?_
  exact ⟨rfl, qWw⟩
/-- A link that is found, or none. -/
def peerV : Option LkD → Value
  | none => .tuple #[.agg #[.string ⟨#[]⟩, .int .i64 0, .string ⟨#[]⟩, .string ⟨#[]⟩, .int .i64 0], .bool false]
  | some l => .tuple #[.agg #[.string ⟨l.peer.toArray⟩, .int .i64 l.cost, .string ⟨l.imp.toArray⟩, .string ⟨l.exp.toArray⟩, .int .i64 l.pl], .bool true]
def peerR (r : RoD) (a : Bs) : Option LkD := r.lks.find? fun l => decide (l.peer = a)
theorem peer_hit {l : List LkD} {a : Bs} {j : Nat} {y : LkD} (hn : a ∉ (l.take j).map LkD.peer) (hy : l[j]? = some y) (h : y.peer = a) : l.find? (fun l => decide (l.peer = a)) = some y := by
  rw [← List.take_append_drop j l, List.find?_append]
  have h1 : (l.take j).find? (fun r => decide (r.peer = a)) = none := by
    rw [List.find?_eq_none]
    intro r hr he
    exact hn (List.mem_map.2 ⟨r, hr, by simpa using he⟩)
  have hj : j < l.length := (List.getElem?_eq_some_iff.1 hy).1
  rw [h1, List.drop_eq_getElem_cons hj, (List.getElem?_eq_some_iff.1 hy).2, List.find?_cons, show decide (y.peer = a) = true from decide_eq_true h]
  rfl
theorem peer_end {l : List LkD} {a : Bs} (h : a ∉ (l.take l.length).map LkD.peer) : l.find? (fun l => decide (l.peer = a)) = none := by
  rw [List.take_length] at h
  rw [List.find?_eq_none]
  intro r hr he
  exact h (List.mem_map.2 ⟨r, hr, by simpa using he⟩)
set_option maxHeartbeats 8000000 in
set_option maxRecDepth 20000 in
theorem peer_any {r : RoD} (hl : ∀ l ∈ r.lks, l.held) {v : Value} {w : World} {B : Nat} (hB : B ≤ w.heap.size) (hv : RoVal w B v r) (a : Bs) :
    Calls Tryd.prog 15 #[v, .string ⟨a.toArray⟩] w fun e w' => e = .returned (peerV (peerR r a)) ∧ Below w.heap.size w w' := by
  obtain ⟨nv, lv, sv, rfl, ⟨an, cn, rfl, _⟩, ⟨ad, cap, rfl, hn0, hls⟩, ⟨ast, cs, rfl, _⟩⟩ := hv
  obtain ⟨n, hn⟩ : ∃ n, n = r.lks.length := ⟨_, rfl⟩
  obtain ⟨nn, hnn⟩ : ∃ n, n = r.nets.length := ⟨_, rfl⟩
  obtain ⟨ns, hns⟩ : ∃ n, n = r.sts.length := ⟨_, rfl⟩
  rw [← hn] at hn0 ⊢
  rw [← hnn, ← hns]
  have HN : Hid (n = r.lks.length ∧ B ≤ w.heap.size) := ⟨hn, hB⟩
  have HLS : Hid (∀ i x, r.lks[i]? = some x → ∃ b off, ad = some ⟨b, off, none⟩ ∧ b < B ∧ LkAt w b (off + i * 5) x) := hls
  have HH : Hid (∀ l ∈ r.lks, l.held) := hl
  obtain ⟨res, hres⟩ : ∃ x, x = peerR r a := ⟨_, rfl⟩
  rw [← hres]
  have HR : Hid (res = peerR r a) := hres
  obtain ⟨A, hA⟩ : ∃ x : ByteArray, x = ⟨a.toArray⟩ := ⟨_, rfl⟩
  rw [← hA]
  have HA : Hid (A = ⟨a.toArray⟩) := hA
  obtain ⟨nm, hnm⟩ : ∃ x : ByteArray, x = ⟨r.name.toArray⟩ := ⟨_, rfl⟩
  rw [← hnm]
  clear hls hn hnn hns hres hA hB hl hnm
  go_enter Tryd.func15, Tryd.ntmps15
  go_upto_region 1 with fail
  obtain ⟨b1, hb1⟩ : ∃ b, b = w.heap.size := ⟨_, rfl⟩
  obtain ⟨b2, hb2⟩ : ∃ b, b = w.heap.size + 1 := ⟨_, rfl⟩
  rw [← hb2, ← hb1]
  obtain ⟨U1, hU1⟩ : ∃ U, U = w.alloc (.cells #[.string nm, .slice an nn cn, .slice ad n cap, .slice ast ns cs, .int .i64 r.pl] 48) := ⟨_, rfl⟩
  rw [← hU1]
  obtain ⟨U, hU⟩ : ∃ U, U = U1.alloc (.cells #[.string ⟨#[]⟩, .int .i64 0, .string ⟨#[]⟩, .string ⟨#[]⟩, .int .i64 0] 50) := ⟨_, rfl⟩
  rw [← hU]
  obtain ⟨q1, r1, _⟩ := box_at w _ hU1 hb1
  obtain ⟨q2, r2, _⟩ := box_at U1 _ hU (b := b2) (by rw [hU1, hb2]; simp)
  have QU : Hid (Below w.heap.size w U ∧ U.heap[b2]? = some (.cells #[.string ⟨#[]⟩, .int .i64 0, .string ⟨#[]⟩, .string ⟨#[]⟩, .int .i64 0] 50 (0, 0)) ∧ w.heap.size ≤ b2) := ⟨bel_up q1 q2 q1.size, r2, by omega⟩
  obtain ⟨X0, X1, X2, X3, X4⟩ := cells_five (pf_block q2 r1)
  clear hU hU1 hb1 hb2 q1 r1 q2 r2
  go_upto_region 2 with fail
  clear X0 X1 X2 X3 X4
  have H0 : Hid (Below U.heap.size U U ∧ a ∉ (r.lks.take 0).map LkD.peer) := ⟨Below.refl _ _, by simp⟩
  go_loopg [11] n (fun g i wr => ∃ k : Nat, k + g = n ∧ i = .int .i64 k ∧ Hid (Below U.heap.size U wr ∧ a ∉ (r.lks.take k).map LkD.peer))
  case atStart => exact ⟨0, Nat.zero_add _, rfl, H0⟩
  case round =>
    obtain ⟨k, hk, rfl, HW⟩ := hrel
    have HBW : Hid (Below w.heap.size w wr) := bel_up QU.out.1 HW.out.1 QU.out.1.size
    by_cases hlt : k < n
    · obtain ⟨x, hx⟩ : ∃ x, r.lks[k]? = some x := ⟨r.lks[k]'(by have := HN.out.1; omega), List.getElem?_eq_getElem _⟩
      obtain ⟨b, off, rfl, hb, hp⟩ := HLS.out k x hx
      obtain ⟨P0, P1, P2, P3, P4⟩ := hp.keep hb (cells_below HBW.out HN.out.2)
      have d4 : decide ((k : Int) < n) = true := decide_eq_true (by omega)
      have c0 : (0 : Int) ≤ k := by omega
      have e1 := beq_str x.peer a
      rw [← HA.out] at e1
      obtain ⟨t, ht⟩ : ∃ t : Bool, t = decide (x.peer = a) := ⟨_, rfl⟩
      rw [← ht] at e1
      have HX1 : Hid (t = true → res = some x) := fun h => by
        rw [HR.out]
        rw [ht, decide_eq_true_iff] at h
        exact peer_hit HW.out.2 hx h
      have HX2 : Hid (t = false → a ∉ (r.lks.take (k + 1)).map LkD.peer) := fun h => by
        rw [ht, decide_eq_false_iff_not] at h
        exact no_take HW.out.2 hx h
      have hcp := fun w => copied_any x (HH.out x (List.mem_of_getElem? hx)) w
      unfold lkV9 at hcp
      obtain ⟨pe, hpe⟩ : ∃ p : ByteArray, p = ⟨x.peer.toArray⟩ := ⟨_, rfl⟩
      obtain ⟨im, him⟩ : ∃ p : ByteArray, p = ⟨x.imp.toArray⟩ := ⟨_, rfl⟩
      obtain ⟨ex, hex⟩ : ∃ p : ByteArray, p = ⟨x.exp.toArray⟩ := ⟨_, rfl⟩
      have HPV : Hid (peerV (some x) = .tuple #[.agg #[.string pe, .int .i64 x.cost, .string im, .string ex, .int .i64 x.pl], .bool true]) := by rw [hpe, him, hex]; exact rfl
      rw [← hpe] at P0 e1 hcp
      rw [← him] at P2 hcp
      rw [← hex] at P3 hcp
      clear hx hp ht hpe him hex
      go_upto_region 4 with fail
      obtain ⟨b3, hb3⟩ : ∃ b, b = wr.heap.size := ⟨_, rfl⟩
      rw [← hb3]
      obtain ⟨X, hX⟩ : ∃ X, X = wr.alloc (.cells #[.string pe, .int .i64 x.cost, .string im, .string ex, .int .i64 x.pl] 50) := ⟨_, rfl⟩
      rw [← hX]
      obtain ⟨qX, rX, _⟩ := box_at wr _ hX hb3
      obtain ⟨X0, X1, X2, X3, X4⟩ := cells_five rX
      have HQ : Hid (Below U.heap.size U X) := bel_up HW.out.1 qX HW.out.1.size
      clear hX hb3 qX rX P0 P1 P2 P3 P4
      cases t with
      | true =>
        obtain rfl := HX1.out (by first | rfl | trivial)
        have g1 := hcp X
        clear HX1 HX2 hcp
        go_wp2_with fail
        refine g1.mono ?_
        rintro e Y ⟨rfl, qY⟩
        have QY : Hid (Below w.heap.size w Y ∧ Y.heap[b2]? = some (.cells #[.string ⟨#[]⟩, .int .i64 0, .string ⟨#[]⟩, .string ⟨#[]⟩, .int .i64 0] 50 (0, 0))) := ⟨bel_up QU.out.1 (bel_up HQ.out qY HQ.out.size) QU.out.1.size, pf_block (bel_up HQ.out qY HQ.out.size) QU.out.2.1⟩
        clear g1 qY X0 X1 X2 X3 X4
        obtain ⟨Z0, Z1, Z2, Z3, Z4⟩ := cells_five QY.out.2
        have F0 := free_at QY.out.2 0
        have F1 := free_at QY.out.2 1
        have F2 := free_at QY.out.2 2
        have F3 := free_at QY.out.2 3
        have F4 := free_at QY.out.2 4
        go_wp2_with fail
        obtain ⟨W, hW⟩ : ∃ W, W = put5 Y b2 (.string pe) (.int .i64 x.cost) (.string im) (.string ex) (.int .i64 x.pl) := ⟨_, rfl⟩
        unfold put5 at hW
        rw [← hW]
        have hW' : W = put5 Y b2 (.string pe) (.int .i64 x.cost) (.string im) (.string ex) (.int .i64 x.pl) := hW
        obtain ⟨W0, W1, W2, W3, W4⟩ := cells_five (by rw [hW']; exact put5_at QY.out.2 _ _ _ _ _ : W.heap[b2]? = some (.cells #[.string pe, .int .i64 x.cost, .string im, .string ex, .int .i64 x.pl] 50 (0, 0)))
        have qWw : Below w.heap.size w W := by rw [hW']; exact put5_bel QY.out.1 QU.out.2.2 _ _ _ _ _
        clear hW hW'
        rw [HPV.out]
        refine bodyPost_ret (v := .tuple #[.agg #[.string pe, .int .i64 x.cost, .string im, .string ex, .int .i64 x.pl], .bool true]) (by simp [results, Tryd.results15, go_sem, W0, W1, W2, W3, W4]) rfl ?_
        exact ⟨rfl, qWw⟩
      | false =>
        have HZ : Hid (Below U.heap.size U X ∧ a ∉ (r.lks.take (k + 1)).map LkD.peer) := ⟨HQ.out, HX2.out (by first | rfl | trivial)⟩
        clear HX1 HX2 hcp HPV
        go_wp2_with fail
        go_roundg (n - (k + 1))
        case measure => omega
        case rel => exact ⟨k + 1, by omega, by go_num, HZ⟩
    · obtain rfl : k = n := by omega
      have d4 : decide ((k : Int) < k) = false := decide_eq_false (by omega)
      have hres : res = none := by
        have h1 := HW.out.2
        rw [HN.out.1] at h1
        rw [HR.out]
        exact peer_end h1
      subst hres
      have HRX : Hid (wr.heap[b2]? = some (.cells #[.string ⟨#[]⟩, .int .i64 0, .string ⟨#[]⟩, .string ⟨#[]⟩, .int .i64 0] 50 (0, 0))) := pf_block HW.out.1 QU.out.2.1
      obtain ⟨Z0, Z1, Z2, Z3, Z4⟩ := cells_five HRX.out
      have F0 := free_at HRX.out 0
      have F1 := free_at HRX.out 1
      have F2 := free_at HRX.out 2
      have F3 := free_at HRX.out 3
      have F4 := free_at HRX.out 4
      go_wp2_with fail
      obtain ⟨W, hW⟩ : ∃ W, W = put5 wr b2 (.string ⟨#[]⟩) (.int .i64 0) (.string ⟨#[]⟩) (.string ⟨#[]⟩) (.int .i64 0) := ⟨_, rfl⟩
      unfold put5 at hW
      rw [← hW]
      have hW' : W = put5 wr b2 (.string ⟨#[]⟩) (.int .i64 0) (.string ⟨#[]⟩) (.string ⟨#[]⟩) (.int .i64 0) := hW
      obtain ⟨W0, W1, W2, W3, W4⟩ := cells_five (by rw [hW']; exact put5_at HRX.out _ _ _ _ _ : W.heap[b2]? = some (.cells #[.string ⟨#[]⟩, .int .i64 0, .string ⟨#[]⟩, .string ⟨#[]⟩, .int .i64 0] 50 (0, 0)))
      have qWw : Below w.heap.size w W := by rw [hW']; exact put5_bel HBW.out QU.out.2.2 _ _ _ _ _
      clear hW hW'
      refine bodyPost_ret (v := .tuple #[.agg #[.string ⟨#[]⟩, .int .i64 0, .string ⟨#[]⟩, .string ⟨#[]⟩, .int .i64 0], .bool false]) (by simp [results, Tryd.results15, go_sem, W0, W1, W2, W3, W4]) rfl ?_
      exact ⟨rfl, qWw⟩
end Go.Proofs.YtcjdjifooaeomaaDoor
