/- What check says of a router, and of a configuration. -/
import Derived.Test.YtcjdjifooaeomaaDoorDE
import Derived.Test.YtcjdjifooaeomaaDoorCC
namespace Go.Proofs.YtcjdjifooaeomaaDoor
open Go.RowKit Go.Maps Go.Lib

set_option maxHeartbeats 8000000 in
set_option maxRecDepth 20000 in
theorem crouter_any {c : CfD} {r : RoD} (hf : r.fit) {v : Value} {w : World} {B m1 m2 m3 : Nat} (hv : RoVal w B v r) (hB : B ≤ w.heap.size) (hs : Kn c w m1 m2 m3) (hme : namedR c r.name = some r) :
    Calls Tryd.prog 20 #[knV m1 m2 m3, v] w fun e w' => e = .returned (errV (routR c r)) ∧ Below w.heap.size w w' := by
  have HK : Hid (∀ W : World, Below w.heap.size w W → RoVal W W.heap.size v r) := fun W q => hv.keep (Nat.le_trans hB q.size) (cells_below q hB)
  obtain ⟨nv, lv, sv, rfl, ⟨an, cn, rfl, hn0, hns⟩, ⟨al, cl, rfl, hl0, hls⟩, ⟨ast, cs, rfl, hs0, hss⟩⟩ := hv
  have h1 : ∀ W : World, Below w.heap.size w W → Calls Tryd.prog 31 #[.slice an r.nets.length cn] W fun e w' => e = .returned (.bool (dupR id [] r.nets).isSome) ∧ Below W.heap.size W w' := fun W q => by
    obtain ⟨nv, lv, sv, e, h, _, _⟩ := HK.out W q
    have e2 : nv = .slice an r.nets.length cn := by simp at e; exact e.1.symm
    rw [e2] at h
    exact twice_any hf.p h
  have h2 := fun (W : World) (q : Below w.heap.size w W) => links_any hf (HK.out W q) (Nat.le_refl _) (hs.below q)
  have h3 : ∀ W : World, Below w.heap.size w W → Calls Tryd.prog 33 #[knV m1 m2 m3, .agg #[.string ⟨r.name.toArray⟩, .slice an r.nets.length cn, .slice al r.lks.length cl, .slice ast r.sts.length cs, .int .i64 r.pl]] W fun e w' => e = .returned (errV (statsR r [] r.sts)) ∧ Below W.heap.size W w' := fun W q => by
    obtain ⟨S, e1, e2⟩ := (hs.below q).l
    exact ways_any (m1 := m1) (m2 := m2) hf (HK.out W q) (Nat.le_refl _) e1 fun n => e2 _ r hme n
  have hw4 := fun k w => wrapI_any 4 k w
  obtain ⟨t1, ht1⟩ : ∃ t, t = (dupR id [] r.nets).isSome := ⟨_, rfl⟩
  obtain ⟨t2, ht2⟩ : ∃ t, t = linksR c r [] r.lks := ⟨_, rfl⟩
  obtain ⟨t3, ht3⟩ : ∃ t, t = statsR r [] r.sts := ⟨_, rfl⟩
  have HR1 : Hid (t1 = true → routR c r = some (4, r.pl)) := fun h => by
    rw [ht1, Option.isSome_iff_exists] at h
    obtain ⟨x, hx⟩ := h
    unfold routR
    rw [hx]
  have HR2 : Hid (t1 = false → routR c r = t2.or t3) := fun h => by
    rw [ht1, Option.isSome_eq_false_iff, Option.isNone_iff_eq_none] at h
    unfold routR
    rw [h, ht2, ht3]
    dsimp only
    cases linksR c r [] r.lks <;> rfl
  rw [← ht1] at h1
  rw [← ht2] at h2
  rw [← ht3] at h3
  obtain ⟨res, hres⟩ : ∃ x, x = routR c r := ⟨_, rfl⟩
  rw [← hres] at HR1 HR2 ⊢
  obtain ⟨nn, hnn⟩ : ∃ n, n = r.nets.length := ⟨_, rfl⟩
  obtain ⟨nl, hnl⟩ : ∃ n, n = r.lks.length := ⟨_, rfl⟩
  obtain ⟨ns, hnst⟩ : ∃ n, n = r.sts.length := ⟨_, rfl⟩
  obtain ⟨nm, hnm⟩ : ∃ x : ByteArray, x = ⟨r.name.toArray⟩ := ⟨_, rfl⟩
  rw [← hnn, ← hnl, ← hnst, ← hnm] at h2 h3 ⊢
  rw [← hnn] at h1
  unfold knV at h2 h3 ⊢
  clear ht1 ht2 ht3 hres hnn hnl hnst hnm hns hls hss hs hme hf HK hn0 hl0 hs0
  go_enter Tryd.func20, Tryd.ntmps20
  go_upto_region 1 with fail
  obtain ⟨b1, hb1⟩ : ∃ b, b = w.heap.size := ⟨_, rfl⟩
  obtain ⟨b2, hb2⟩ : ∃ b, b = w.heap.size + 1 := ⟨_, rfl⟩
  rw [← hb2, ← hb1]
  obtain ⟨U1, hU1⟩ : ∃ U, U = w.alloc (.cells #[.map (some m1), .map (some m2), .map (some m3)] 64) := ⟨_, rfl⟩
  rw [← hU1]
  obtain ⟨U, hU⟩ : ∃ U, U = U1.alloc (.cells #[.string nm, .slice an nn cn, .slice al nl cl, .slice ast ns cs, .int .i64 r.pl] 48) := ⟨_, rfl⟩
  rw [← hU]
  obtain ⟨q1, r1, _⟩ := box_at w _ hU1 hb1
  obtain ⟨q2, r2, _⟩ := box_at U1 _ hU (b := b2) (by rw [hU1, hb2]; simp)
  have QU : Hid (Below w.heap.size w U) := bel_up q1 q2 q1.size
  have HB : Hid (U.heap[b1]? = some (.cells #[.map (some m1), .map (some m2), .map (some m3)] 64 (0, 0)) ∧ U.heap[b2]? = some (.cells #[.string nm, .slice an nn cn, .slice al nl cl, .slice ast ns cs, .int .i64 r.pl] 48 (0, 0))) := ⟨pf_block q2 r1, r2⟩
  obtain ⟨R0, R1, R2, R3, R4⟩ := cells_five HB.out.2
  have g1 := h1 U QU.out
  clear hU1 hU q1 q2 r1 r2 hb1 hb2 h1
  go_wp2_with fail
  refine g1.mono ?_
  rintro e V ⟨rfl, qV⟩
  have QV : Hid (Below w.heap.size w V) := bel_up QU.out qV QU.out.size
  have HBV : Hid (V.heap[b1]? = some (.cells #[.map (some m1), .map (some m2), .map (some m3)] 64 (0, 0)) ∧ V.heap[b2]? = some (.cells #[.string nm, .slice an nn cn, .slice al nl cl, .slice ast ns cs, .int .i64 r.pl] 48 (0, 0))) := ⟨pf_block qV HB.out.1, pf_block qV HB.out.2⟩
  clear g1 R0 R1 R2 R3 R4 qV
  obtain ⟨R0, R1, R2, R3, R4⟩ := cells_five HBV.out.2
  obtain ⟨K0, K1, K2⟩ := cells_three HBV.out.1
  have g2 := h2 V QV.out
  clear h2
  cases t1 with
  | true =>
    obtain rfl := HR1.out (by first | rfl | trivial)
    have h9 := hw4 r.pl V
    clear hw4 g2 h3
    go_wp2_with fail
    refine h9.mono ?_
    rintro e Z ⟨rfl, rfl⟩
    clear h9
    go_wp2_with fail
    go_ret
    exact ⟨rfl, QV.out⟩
  | false =>
    have HR3 : Hid (res = t2.or t3) := HR2.out (by first | rfl | trivial)
    clear HR1 HR2 hw4
    go_wp2_with fail
    refine g2.mono ?_
    rintro e Y ⟨rfl, qY⟩
    have QY : Hid (Below w.heap.size w Y) := bel_up QV.out qY QV.out.size
    have HBY : Hid (Y.heap[b1]? = some (.cells #[.map (some m1), .map (some m2), .map (some m3)] 64 (0, 0)) ∧ Y.heap[b2]? = some (.cells #[.string nm, .slice an nn cn, .slice al nl cl, .slice ast ns cs, .int .i64 r.pl] 48 (0, 0))) := ⟨pf_block qY HBV.out.1, pf_block qY HBV.out.2⟩
    clear g2 R0 R1 R2 R3 R4 K0 K1 K2 qY
    cases t2 with
    | some e =>
      have hr : res = some e := HR3.out
      subst hr
      unfold errV
      clear h3
      go_wp2_with fail
      go_ret
      exact ⟨rfl, QY.out⟩
    | none =>
      have hr : res = t3 := HR3.out
      subst hr
      obtain ⟨R0, R1, R2, R3, R4⟩ := cells_five HBY.out.2
      obtain ⟨K0, K1, K2⟩ := cells_three HBY.out.1
      have g3 := h3 Y QY.out
      clear h3
      rw [show errV none = .nilIface from rfl]
      go_wp2_with fail
      refine g3.mono ?_
      rintro e Z ⟨rfl, qZ⟩
      have QZ : Hid (Below w.heap.size w Z) := bel_up QY.out qZ QY.out.size
      clear g3 qZ R0 R1 R2 R3 R4 K0 K1 K2
      go_wp2_with fail
      go_ret
      exact ⟨rfl, QZ.out⟩
end Go.Proofs.YtcjdjifooaeomaaDoor
