/- What the law's own mapped and router do. -/
import Derived.Test.YtcjdjifooaeomaaDoorDG
namespace Go.Proofs.YtcjdjifooaeomaaDoor
open Go.RowKit Go.Maps Go.Lib

theorem no_take {α β : Type} {key : α → β} {l : List α} {j : Nat} {y : α} {x : β} (h : x ∉ (l.take j).map key) (hy : l[j]? = some y) (hne : key y ≠ x) : x ∉ (l.take (j + 1)).map key := by
  rw [List.take_add_one, hy, List.map_append, List.mem_append]
  rintro (h1 | h1)
  · exact h h1
  · simp at h1
    exact hne h1.symm
theorem mapped_hit {c : CfD} {n : Bs} {j : Nat} {y : MpD} (hy : c.maps[j]? = some y) (h : y.name = n) : mappedR c n = true :=
  mapped_iff n |>.2 (.inr (List.mem_map.2 ⟨y, List.mem_of_getElem? hy, h⟩))
theorem mapped_end {c : CfD} {n : Bs} (h : n ∉ (c.maps.take c.maps.length).map MpD.name) : mappedR c n = decide (n = []) := by
  rw [List.take_length] at h
  have := mapped_iff (c := c) n
  rw [Bool.eq_iff_iff, this, decide_eq_true_iff]
  simp [h]
set_option maxHeartbeats 8000000 in
set_option maxRecDepth 20000 in
theorem mapped9_any {c : CfD} {v : Value} {w : World} {B : Nat} (hB : B ≤ w.heap.size) (hv : CfAt w B v c) (a : Bs) :
    Calls Tryd.prog 26 #[v, .string ⟨a.toArray⟩] w fun e w' => e = .returned (.bool (mappedR c a)) ∧ Below w.heap.size w w' := by
  obtain ⟨mv, rv, rfl, ⟨am, cm, rfl, hm0, hms⟩, ⟨ar, cr, rfl, hr0, hrs⟩⟩ := hv
  obtain ⟨n, hn⟩ : ∃ n, n = c.maps.length := ⟨_, rfl⟩
  obtain ⟨n2, hn2⟩ : ∃ n, n = c.ros.length := ⟨_, rfl⟩
  rw [← hn] at hm0 ⊢
  rw [← hn2]
  have HN : Hid (n = c.maps.length ∧ B ≤ w.heap.size) := ⟨hn, hB⟩
  have HMS : Hid (∀ i x, c.maps[i]? = some x → ∃ b off, am = some ⟨b, off, none⟩ ∧ b < B ∧ MpAt w B b (off + i * 3) x) := hms
  obtain ⟨res, hres⟩ : ∃ x, x = mappedR c a := ⟨_, rfl⟩
  rw [← hres]
  have HR : Hid (res = mappedR c a) := hres
  obtain ⟨A, hA⟩ : ∃ x : ByteArray, x = ⟨a.toArray⟩ := ⟨_, rfl⟩
  rw [← hA]
  have HA : Hid (A = ⟨a.toArray⟩) := hA
  clear hms hrs hn hn2 hres hA hr0 hB
  go_enter Tryd.func26, Tryd.ntmps26
  go_upto_region 1 with fail
  obtain ⟨b1, hb1⟩ : ∃ b, b = w.heap.size := ⟨_, rfl⟩
  rw [← hb1]
  obtain ⟨U, hU⟩ : ∃ U, U = w.alloc (.cells #[.slice am n cm, .slice ar n2 cr] 33) := ⟨_, rfl⟩
  rw [← hU]
  obtain ⟨q1, r1, _⟩ := box_at w _ hU hb1
  obtain ⟨X0, X1⟩ := cells_two r1
  have QU : Hid (Below w.heap.size w U) := q1
  clear hU hb1 q1 r1
  go_upto_region 2 with fail
  clear X0 X1
  have H0 : Hid (Below w.heap.size w U ∧ a ∉ (c.maps.take 0).map MpD.name) := ⟨QU.out, by simp⟩
  go_loopg [10] n (fun g i wr => ∃ k : Nat, k + g = n ∧ i = .int .i64 k ∧ Hid (Below w.heap.size w wr ∧ a ∉ (c.maps.take k).map MpD.name))
  case atStart => exact ⟨0, Nat.zero_add _, rfl, H0⟩
  case round =>
    obtain ⟨k, hk, rfl, HW⟩ := hrel
    by_cases hlt : k < n
    · obtain ⟨x, hx⟩ : ∃ x, c.maps[k]? = some x := ⟨c.maps[k]'(by have := HN.out.1; omega), List.getElem?_eq_getElem _⟩
      obtain ⟨b, off, rfl, hb, hp⟩ := HMS.out k x hx
      obtain ⟨cv, P0, P1, P2, ⟨adc, capc, rfl, _, _⟩⟩ := hp.keep hb (Nat.le_refl _) (cells_below HW.out.1 HN.out.2)
      obtain ⟨nc, hnc⟩ : ∃ n, n = x.cls.length := ⟨_, rfl⟩
      rw [← hnc] at P1
      have d4 : decide ((k : Int) < n) = true := decide_eq_true (by omega)
      have c0 : (0 : Int) ≤ k := by omega
      have e1 := beq_str x.name a
      rw [← HA.out] at e1
      obtain ⟨t, ht⟩ : ∃ t : Bool, t = decide (x.name = a) := ⟨_, rfl⟩
      rw [← ht] at e1
      have HX1 : Hid (t = true → res = true) := fun h => by
        rw [HR.out]
        rw [ht, decide_eq_true_iff] at h
        exact mapped_hit hx h
      have HX2 : Hid (t = false → a ∉ (c.maps.take (k + 1)).map MpD.name) := fun h => by
        rw [ht, decide_eq_false_iff_not] at h
        exact no_take HW.out.2 hx h
      obtain ⟨pe, hpe⟩ : ∃ p : ByteArray, p = ⟨x.name.toArray⟩ := ⟨_, rfl⟩
      rw [← hpe] at P0 e1
      clear hx hp ht hpe hnc
      go_upto_region 4 with fail
      obtain ⟨b3, hb3⟩ : ∃ b, b = wr.heap.size := ⟨_, rfl⟩
      rw [← hb3]
      obtain ⟨X, hX⟩ : ∃ X, X = wr.alloc (.cells #[.string pe, .slice adc nc capc, .int .i64 x.pl] 57) := ⟨_, rfl⟩
      rw [← hX]
      obtain ⟨qX, rX, _⟩ := box_at wr _ hX hb3
      obtain ⟨X0, X1, X2⟩ := cells_three rX
      have HQ : Hid (Below w.heap.size w X) := bel_up HW.out.1 qX HW.out.1.size
      clear hX hb3 qX rX P0 P1 P2
      cases t with
      | true =>
        obtain rfl := HX1.out (by first | rfl | trivial)
        go_wp2_with fail
        go_ret
        exact ⟨rfl, HQ.out⟩
      | false =>
        have HZ : Hid (Below w.heap.size w X ∧ a ∉ (c.maps.take (k + 1)).map MpD.name) := ⟨HQ.out, HX2.out (by first | rfl | trivial)⟩
        clear HX1 HX2
        go_wp2_with fail
        go_roundg (n - (k + 1))
        case measure => omega
        case rel => exact ⟨k + 1, by omega, by go_num, HZ⟩
    · obtain rfl : k = n := by omega
      have d4 : decide ((k : Int) < k) = false := decide_eq_false (by omega)
      have e1 := empty_str a
      have e2 := empty_str2 a
      have hres : res = decide (a = []) := by
        have h1 := HW.out.2
        rw [HN.out.1] at h1
        rw [HR.out, mapped_end h1]
      rw [← HA.out, ← hres] at e1 e2
      clear hres
      go_wp2_with fail
      go_ret
      exact ⟨rfl, HW.out.1⟩
theorem named_hit {c : CfD} {n : Bs} {j : Nat} {y : RoD} (hn : n ∉ (c.ros.take j).map RoD.name) (hy : c.ros[j]? = some y) (h : y.name = n) : namedR c n = some y := by
  unfold namedR
  rw [← List.take_append_drop j c.ros, List.find?_append]
  have h1 : (c.ros.take j).find? (fun r => decide (r.name = n)) = none := by
    rw [List.find?_eq_none]
    intro r hr he
    exact hn (List.mem_map.2 ⟨r, hr, by simpa using he⟩)
  have hj : j < c.ros.length := (List.getElem?_eq_some_iff.1 hy).1
  rw [h1, List.drop_eq_getElem_cons hj, (List.getElem?_eq_some_iff.1 hy).2, List.find?_cons, show decide (y.name = n) = true from decide_eq_true h]
  rfl
theorem named_end {c : CfD} {n : Bs} (h : n ∉ (c.ros.take c.ros.length).map RoD.name) : namedR c n = none := by
  rw [List.take_length] at h
  cases hp : namedR c n with
  | none => rfl
  | some p => exact absurd ((named_iff n).1 (by rw [hp]; rfl)) h
/-- Five cells written. -/
def put5 (w : World) (b : Nat) (x0 x1 x2 x3 x4 : Value) : World := ((((w.setCell ⟨b, 0, none⟩ x0).setCell ⟨b, 1, none⟩ x1).setCell ⟨b, 2, none⟩ x2).setCell ⟨b, 3, none⟩ x3).setCell ⟨b, 4, none⟩ x4
theorem put5_at {w : World} {b t : Nat} {y0 y1 y2 y3 y4 : Value} (h : w.heap[b]? = some (.cells #[y0, y1, y2, y3, y4] t (0, 0))) (x0 x1 x2 x3 x4 : Value) : (put5 w b x0 x1 x2 x3 x4).heap[b]? = some (.cells #[x0, x1, x2, x3, x4] t (0, 0)) := by
  have e0 : (w.setCell ⟨b, 0, none⟩ x0).heap[b]? = some (.cells #[x0, y1, y2, y3, y4] t (0, 0)) := set_at (i := 0) h x0
  have e1 : ((w.setCell ⟨b, 0, none⟩ x0).setCell ⟨b, 1, none⟩ x1).heap[b]? = some (.cells #[x0, x1, y2, y3, y4] t (0, 0)) := set_at (i := 1) e0 x1
  have e2 : (((w.setCell ⟨b, 0, none⟩ x0).setCell ⟨b, 1, none⟩ x1).setCell ⟨b, 2, none⟩ x2).heap[b]? = some (.cells #[x0, x1, x2, y3, y4] t (0, 0)) := set_at (i := 2) e1 x2
  have e3 : ((((w.setCell ⟨b, 0, none⟩ x0).setCell ⟨b, 1, none⟩ x1).setCell ⟨b, 2, none⟩ x2).setCell ⟨b, 3, none⟩ x3).heap[b]? = some (.cells #[x0, x1, x2, x3, y4] t (0, 0)) := set_at (i := 3) e2 x3
  exact set_at (i := 4) e3 x4
theorem put5_bel {w U : World} {b : Nat} (h : Below w.heap.size w U) (hb : w.heap.size ≤ b) (x0 x1 x2 x3 x4 : Value) : Below w.heap.size w (put5 U b x0 x1 x2 x3 x4) :=
  ((((h.setCell hb _).setCell hb _).setCell hb _).setCell hb _).setCell hb _
/-- A router that is found, or none. -/
def FoundAt (W : World) (B : Nat) (v : Value) : Option RoD → Prop
  | none => v = .tuple #[.agg #[.string ⟨#[]⟩, .slice none 0 0, .slice none 0 0, .slice none 0 0, .int .i64 0], .bool false]
  | some r => ∃ rv, v = .tuple #[rv, .bool true] ∧ RoVal W B rv r
set_option maxHeartbeats 8000000 in
set_option maxRecDepth 20000 in
theorem router9_any {c : CfD} {v : Value} {w : World} {B : Nat} (hB : B ≤ w.heap.size) (hv : CfAt w B v c) (a : Bs) :
    Calls Tryd.prog 25 #[v, .string ⟨a.toArray⟩] w fun e w' => ∃ r, e = .returned r ∧ FoundAt w' B r (namedR c a) ∧ Below w.heap.size w w' := by
  obtain ⟨mv, rv, rfl, ⟨am, cm, rfl, hm0, hms⟩, ⟨ar, cr, rfl, hr0, hrs⟩⟩ := hv
  obtain ⟨n, hn⟩ : ∃ n, n = c.ros.length := ⟨_, rfl⟩
  obtain ⟨n2, hn2⟩ : ∃ n, n = c.maps.length := ⟨_, rfl⟩
  rw [← hn] at hr0 ⊢
  rw [← hn2]
  have HN : Hid (n = c.ros.length ∧ B ≤ w.heap.size) := ⟨hn, hB⟩
  have HMS : Hid (∀ i x, c.ros[i]? = some x → ∃ b off, ar = some ⟨b, off, none⟩ ∧ b < B ∧ RoAt w B b (off + i * 5) x) := hrs
  obtain ⟨res, hres⟩ : ∃ x, x = namedR c a := ⟨_, rfl⟩
  rw [← hres]
  have HR : Hid (res = namedR c a) := hres
  obtain ⟨A, hA⟩ : ∃ x : ByteArray, x = ⟨a.toArray⟩ := ⟨_, rfl⟩
  rw [← hA]
  have HA : Hid (A = ⟨a.toArray⟩) := hA
  clear hms hrs hn hn2 hres hA hm0 hB
  go_enter Tryd.func25, Tryd.ntmps25
  go_upto_region 1 with fail
  obtain ⟨b1, hb1⟩ : ∃ b, b = w.heap.size := ⟨_, rfl⟩
  obtain ⟨b2, hb2⟩ : ∃ b, b = w.heap.size + 1 := ⟨_, rfl⟩
  rw [← hb2, ← hb1]
  obtain ⟨U1, hU1⟩ : ∃ U, U = w.alloc (.cells #[.slice am n2 cm, .slice ar n cr] 33) := ⟨_, rfl⟩
  rw [← hU1]
  obtain ⟨U, hU⟩ : ∃ U, U = U1.alloc (.cells #[.string ⟨#[]⟩, .slice none 0 0, .slice none 0 0, .slice none 0 0, .int .i64 0] 48) := ⟨_, rfl⟩
  rw [← hU]
  obtain ⟨q1, r1, _⟩ := box_at w _ hU1 hb1
  obtain ⟨q2, r2, _⟩ := box_at U1 _ hU (b := b2) (by rw [hU1, hb2]; simp)
  have QU : Hid (Below w.heap.size w U ∧ U.heap[b2]? = some (.cells #[.string ⟨#[]⟩, .slice none 0 0, .slice none 0 0, .slice none 0 0, .int .i64 0] 48 (0, 0)) ∧ w.heap.size ≤ b2) := ⟨bel_up q1 q2 q1.size, r2, by omega⟩
  obtain ⟨X0, X1⟩ := cells_two (pf_block q2 r1)
  clear hU hU1 hb1 hb2 q1 r1 q2 r2
  go_upto_region 2 with fail
  clear X0 X1
  have H0 : Hid (Below U.heap.size U U ∧ a ∉ (c.ros.take 0).map RoD.name) := ⟨Below.refl _ _, by simp⟩
  go_loopg [11] n (fun g i wr => ∃ k : Nat, k + g = n ∧ i = .int .i64 k ∧ Hid (Below U.heap.size U wr ∧ a ∉ (c.ros.take k).map RoD.name))
  case atStart => exact ⟨0, Nat.zero_add _, rfl, H0⟩
  case round =>
    obtain ⟨k, hk, rfl, HW⟩ := hrel
    have HBW : Hid (Below w.heap.size w wr) := bel_up QU.out.1 HW.out.1 QU.out.1.size
    by_cases hlt : k < n
    · obtain ⟨x, hx⟩ : ∃ x, c.ros[k]? = some x := ⟨c.ros[k]'(by have := HN.out.1; omega), List.getElem?_eq_getElem _⟩
      obtain ⟨b, off, rfl, hb, hp⟩ := HMS.out k x hx
      obtain ⟨nv, lv, sv, P0, P1, P2, P3, P4, s1, s2, s3⟩ := hp.keep hb (Nat.le_refl _) (cells_below HBW.out HN.out.2)
      have HRV : Hid (RoVal wr B (.agg #[.string ⟨x.name.toArray⟩, nv, lv, sv, .int .i64 x.pl]) x) := ⟨nv, lv, sv, rfl, s1, s2, s3⟩
      obtain ⟨an, cn, rfl, _, _⟩ := s1
      obtain ⟨al, cl, rfl, _, _⟩ := s2
      obtain ⟨ast, cs, rfl, _, _⟩ := s3
      obtain ⟨nn, hnn⟩ : ∃ n, n = x.nets.length := ⟨_, rfl⟩
      obtain ⟨nl, hnl⟩ : ∃ n, n = x.lks.length := ⟨_, rfl⟩
      obtain ⟨ns, hns⟩ : ∃ n, n = x.sts.length := ⟨_, rfl⟩
      rw [← hnn, ← hnl, ← hns] at HRV
      rw [← hnn] at P1
      rw [← hnl] at P2
      rw [← hns] at P3
      have d4 : decide ((k : Int) < n) = true := decide_eq_true (by omega)
      have c0 : (0 : Int) ≤ k := by omega
      have e1 := beq_str x.name a
      rw [← HA.out] at e1
      obtain ⟨t, ht⟩ : ∃ t : Bool, t = decide (x.name = a) := ⟨_, rfl⟩
      rw [← ht] at e1
      have HX1 : Hid (t = true → res = some x) := fun h => by
        rw [HR.out]
        rw [ht, decide_eq_true_iff] at h
        exact named_hit HW.out.2 hx h
      have HX2 : Hid (t = false → a ∉ (c.ros.take (k + 1)).map RoD.name) := fun h => by
        rw [ht, decide_eq_false_iff_not] at h
        exact no_take HW.out.2 hx h
      obtain ⟨pe, hpe⟩ : ∃ p : ByteArray, p = ⟨x.name.toArray⟩ := ⟨_, rfl⟩
      rw [← hpe] at P0 e1 HRV
      clear hx hp ht hpe hnn hnl hns
      go_upto_region 4 with fail
      obtain ⟨b3, hb3⟩ : ∃ b, b = wr.heap.size := ⟨_, rfl⟩
      rw [← hb3]
      obtain ⟨X, hX⟩ : ∃ X, X = wr.alloc (.cells #[.string pe, .slice an nn cn, .slice al nl cl, .slice ast ns cs, .int .i64 x.pl] 48) := ⟨_, rfl⟩
      rw [← hX]
      obtain ⟨qX, rX, _⟩ := box_at wr _ hX hb3
      obtain ⟨X0, X1, X2, X3, X4⟩ := cells_five rX
      have HQ : Hid (Below U.heap.size U X ∧ Below wr.heap.size wr X) := ⟨bel_up HW.out.1 qX HW.out.1.size, qX⟩
      clear hX hb3 qX rX P0 P1 P2 P3 P4
      cases t with
      | true =>
        obtain rfl := HX1.out (by first | rfl | trivial)
        have RX := pf_block HQ.out.1 QU.out.2.1
        obtain ⟨Z0, Z1, Z2, Z3, Z4⟩ := cells_five RX
        have F0 := free_at RX 0
        have F1 := free_at RX 1
        have F2 := free_at RX 2
        have F3 := free_at RX 3
        have F4 := free_at RX 4
        have HRX : Hid (X.heap[b2]? = some (.cells #[.string ⟨#[]⟩, .slice none 0 0, .slice none 0 0, .slice none 0 0, .int .i64 0] 48 (0, 0))) := RX
        clear RX HX1 HX2
        go_wp2_with fail
        obtain ⟨W, hW⟩ : ∃ W, W = put5 X b2 (.string pe) (.slice an nn cn) (.slice al nl cl) (.slice ast ns cs) (.int .i64 x.pl) := ⟨_, rfl⟩
        unfold put5 at hW
        rw [← hW]
        have hW' : W = put5 X b2 (.string pe) (.slice an nn cn) (.slice al nl cl) (.slice ast ns cs) (.int .i64 x.pl) := hW
        obtain ⟨W0, W1, W2, W3, W4⟩ := cells_five (by rw [hW']; exact put5_at HRX.out _ _ _ _ _ : W.heap[b2]? = some (.cells #[.string pe, .slice an nn cn, .slice al nl cl, .slice ast ns cs, .int .i64 x.pl] 48 (0, 0)))
        have qW : Below wr.heap.size wr X := HQ.out.2
        have qWw : Below w.heap.size w W := by rw [hW']; exact put5_bel (bel_up HBW.out HQ.out.2 HBW.out.size) QU.out.2.2 _ _ _ _ _
        have hkeep : RoVal W B (.agg #[.string pe, .slice an nn cn, .slice al nl cl, .slice ast ns cs, .int .i64 x.pl]) x := by
          refine HRV.out.keep (Nat.le_refl _) fun b i v hb hv => ?_
          have hlt : b < w.heap.size := Nat.lt_of_lt_of_le hb HN.out.2
          rw [qWw.cell (p := ⟨b, i, none⟩) hlt]
          rw [HBW.out.cell (p := ⟨b, i, none⟩) hlt] at hv
          exact hv
        clear hW hW' qW
        refine bodyPost_ret (v := .tuple #[.agg #[.string pe, .slice an nn cn, .slice al nl cl, .slice ast ns cs, .int .i64 x.pl], .bool true]) (by simp [results, Tryd.results25, go_sem, W0, W1, W2, W3, W4]) rfl ?_
        exact ⟨_, rfl, ⟨_, rfl, hkeep⟩, qWw⟩
      | false =>
        have HZ : Hid (Below U.heap.size U X ∧ a ∉ (c.ros.take (k + 1)).map RoD.name) := ⟨HQ.out.1, HX2.out (by first | rfl | trivial)⟩
        clear HX1 HX2
        go_wp2_with fail
        go_roundg (n - (k + 1))
        case measure => omega
        case rel => exact ⟨k + 1, by omega, by go_num, HZ⟩
    · obtain rfl : k = n := by omega
      have d4 : decide ((k : Int) < k) = false := decide_eq_false (by omega)
      have hres : res = none := by
        have h1 := HW.out.2
        rw [HN.out.1] at h1
        rw [HR.out, named_end h1]
      subst hres
      have RX := pf_block HW.out.1 QU.out.2.1
      obtain ⟨Z0, Z1, Z2, Z3, Z4⟩ := cells_five RX
      have F0 := free_at RX 0
      have F1 := free_at RX 1
      have F2 := free_at RX 2
      have F3 := free_at RX 3
      have F4 := free_at RX 4
      have HRX : Hid (wr.heap[b2]? = some (.cells #[.string ⟨#[]⟩, .slice none 0 0, .slice none 0 0, .slice none 0 0, .int .i64 0] 48 (0, 0))) := RX
      clear RX
      go_wp2_with fail
      obtain ⟨W, hW⟩ : ∃ W, W = put5 wr b2 (.string ⟨#[]⟩) (.slice none 0 0) (.slice none 0 0) (.slice none 0 0) (.int .i64 0) := ⟨_, rfl⟩
      unfold put5 at hW
      rw [← hW]
      have hW' : W = put5 wr b2 (.string ⟨#[]⟩) (.slice none 0 0) (.slice none 0 0) (.slice none 0 0) (.int .i64 0) := hW
      obtain ⟨W0, W1, W2, W3, W4⟩ := cells_five (by rw [hW']; exact put5_at HRX.out _ _ _ _ _ : W.heap[b2]? = some (.cells #[.string ⟨#[]⟩, .slice none 0 0, .slice none 0 0, .slice none 0 0, .int .i64 0] 48 (0, 0)))
      have qWw : Below w.heap.size w W := by rw [hW']; exact put5_bel HBW.out QU.out.2.2 _ _ _ _ _
      clear hW hW'
      refine bodyPost_ret (v := .tuple #[.agg #[.string ⟨#[]⟩, .slice none 0 0, .slice none 0 0, .slice none 0 0, .int .i64 0], .bool false]) (by simp [results, Tryd.results25, go_sem, W0, W1, W2, W3, W4]) rfl ?_
      exact ⟨_, rfl, rfl, qWw⟩
end Go.Proofs.YtcjdjifooaeomaaDoor
