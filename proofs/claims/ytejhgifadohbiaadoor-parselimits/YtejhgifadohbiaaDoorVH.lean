/- What a reader does with nets, links and ways. -/
import Derived.Test.YtejhgifadohbiaaDoorVG
namespace Go.Proofs.YtejhgifadohbiaaDoor
open Go.RowKit Go.Lib

theorem cells_four2 {w : World} {b t : Nat} {x0 x1 x2 x3 : Value} (h : w.heap[b]? = some (.cells #[x0, x1, x2, x3] t (0, 0))) : w.cell? ⟨b, 0, none⟩ = some x0 ∧ w.cell? ⟨b, 1, none⟩ = some x1 ∧ w.cell? ⟨b, 2, none⟩ = some x2 ∧ w.cell? ⟨b, 3, none⟩ = some x3 := by
  refine ⟨?_, ?_, ?_, ?_⟩ <;> simp [World.cell?, h]
def lkV2 (l : LkD) : Value := .agg #[.string ⟨l.peer.toArray⟩, .int .i64 l.cost, .string ⟨l.imp.toArray⟩, .string ⟨l.exp.toArray⟩, .int .i64 l.pl]
def stV2 (x : StD) : Value := .agg #[.int .u32 x.a, .int .i64 x.b, .string ⟨x.via.toArray⟩, .int .i64 x.pl]
theorem Sit.new {w Z V : World} {B b g cap br bc T : Nat} {ts : List Tk} {zs cs : Array Value} {s : Sta} (hr : RdS B b g cap ts s Z) (x : BelX b w Z) (z : Z.heap[br]? = some (.cells zs T (0, 0))) (hV : V = Z.alloc (.cells cs T)) (hbc : bc = Z.heap.size)
    (ho : b < w.heap.size ∧ g < w.heap.size ∧ w.heap.size ≤ br) : Sit w B b g cap ts br bc T zs cs s V := by
  obtain ⟨q, r, _⟩ := box_at Z _ hV hbc
  have h1 := (Array.getElem?_eq_some_iff.1 z).1
  have h2 := x.size
  exact ⟨hr.below q, x.below q, pf_block q z, r, by omega, by omega, by omega, by omega, by omega, by omega, by omega⟩
section
variable {B b g cap : Nat} {ts : List Tk} {w : World} {s : Sta}
theorem here_rd (h : RdS B b g cap ts s w) : ∃ t : Tk, (∀ t' r, s = .inl (t' :: r) → t.pl = t'.pl) ∧ Calls Tryd.prog 32 #[.pointer (some ⟨b, 0, none⟩)] w fun e w' => e = .returned (tkV t) ∧ Below w.heap.size w w' := by
  obtain ⟨n, t, ev, ht, hr, hh⟩ := h.ex
  refine ⟨t, fun t' r hs => ?_, here_any hr t ht⟩
  rcases hh with ⟨r', hs', _⟩ | ⟨e, hs', _⟩
  · rw [hs] at hs'
    injection hs' with hs'
    injection hs' with e1 _
    rw [e1]
  · rw [hs] at hs'
    cases hs'
theorem nbr_rd (h : RdS B b g cap ts s w) (most : Nat) :
    Calls Tryd.prog 54 #[.pointer (some ⟨b, 0, none⟩), .int .i64 1, .int .i64 most] w fun e w' => e = .returned (.int .i64 ((stepS (nbrR most) s).2.getD 0)) ∧ RdS B b g cap ts (stepS (nbrR most) s).1 w' ∧ BelX b w w' := by
  have e1 : stepS (nbrR most) s = stepS (fun r => .inr ((((stepS (numR 1 most) s).2.getD 0 : Nat) : Int), r)) (stepS (numR 1 most) s).1 :=
    (step_congr fun r _ => nbr_num most r).trans (step_and (f := numR 1 most) (g := fun n r => (.inr ((n : Int), r) : Res Int)) (Agr.getD 0 _))
  refine (number_rd h 1 most).mono ?_
  rintro e w' ⟨he, h1, h2⟩
  refine ⟨?_, ?_, h2⟩
  · rw [e1, getD_ret (f := numR 1 most) (φ := fun n : Nat => (n : Int)) (d := 0) (d' := 0) rfl]
    exact he
  · rw [e1, (step_ret _ _).1]
    exact h1
set_option maxHeartbeats 8000000 in
set_option maxRecDepth 20000 in
theorem net_rd (h : RdS B b g cap ts s w) :
    Calls Tryd.prog 37 #[.pointer (some ⟨b, 0, none⟩)] w fun e w' => ∃ c : Nat × Int, e = .returned (pfV2 c) ∧ Agr c (stepS netR s).2 ∧ RdS B b g cap ts (stepS netR s).1 w' ∧ BelX b w w' := by
  obtain ⟨R, hR⟩ : ∃ R, R = stepS netR s := ⟨_, rfl⟩
  rw [← hR]
  have HR0 : Hid (R = stepS netR s) := hR
  clear hR
  obtain ⟨br, hbr⟩ : ∃ b, b = w.heap.size := ⟨_, rfl⟩
  obtain ⟨W, hW⟩ : ∃ W, W = w.alloc (.cells #[.int .u32 0, .int .i64 0] 59) := ⟨_, rfl⟩
  obtain ⟨q1, r1, _⟩ := box_at w _ hW hbr
  have HO : Hid (b < w.heap.size ∧ g < w.heap.size ∧ w.heap.size ≤ br) := ⟨h.old.2, h.old.1, by omega⟩
  have hw := h.below q1
  have HB : Hid (BelX b w W ∧ W.heap[br]? = some (.cells #[.int .u32 0, .int .i64 0] 59 (0, 0))) := ⟨BelX.of b q1, r1⟩
  go_enter Tryd.func37, Tryd.ntmps37
  go_upto_region 1 with fail
  rw [← hbr, ← hW]
  clear hW hbr q1 r1
  obtain ⟨p0, hp⟩ := agr_any 0 (stepS (wordR [110, 101, 116]) s).2
  have HR1 : Hid _ := HR0.out.trans (step_and (f := wordR [110, 101, 116]) hp)
  have hk := take_any hw [110, 101, 116] (by decide)
  obtain ⟨s1, hs⟩ : ∃ z, z = (stepS (wordR [110, 101, 116]) s).1 := ⟨_, rfl⟩
  rw [← hs] at HR1 hk
  clear hs hp HR0 hw
  go_wp2_with fail
  refine hk.mono ?_
  rintro e Z1 ⟨rfl, hZ, qZ⟩
  clear hk
  have hk := prefix_rd hZ
  obtain ⟨p, ha⟩ : ∃ a, a = (stepS pfxR s1).2.getD (0, 0) := ⟨_, rfl⟩
  have hp : Agr p (stepS pfxR s1).2 := by rw [ha]; exact Agr.getD _ _
  rw [← ha] at hk
  clear ha
  have HR2 : Hid _ := HR1.out.trans (step_and (f := pfxR) hp)
  obtain ⟨s2, hs⟩ : ∃ z, z = (stepS pfxR s1).1 := ⟨_, rfl⟩
  rw [← hs] at HR2 hk
  clear hs hp HR1
  obtain ⟨a, bb⟩ := p
  unfold pfV2 at hk
  go_wp2_with fail
  refine hk.mono ?_
  rintro e U ⟨rfl, hU, qU⟩
  go_upto_region 3 with fail
  obtain ⟨bc, hbc⟩ : ∃ b, b = U.heap.size := ⟨_, rfl⟩
  rw [← hbc]
  obtain ⟨V, hV⟩ : ∃ V, V = U.alloc (.cells #[.int .u32 a, .int .i64 bb] 59) := ⟨_, rfl⟩
  rw [← hV]
  have HS : Hid (Sit w B b g cap ts br bc 59 #[.int .u32 0, .int .i64 0] #[.int .u32 a, .int .i64 bb] s2 V) := Sit.new hU ((HB.out.1.trans qZ).trans qU) (qU.get (qZ.get HB.out.2 (by have := HO.out; omega)) (by have := HO.out; omega)) hV hbc HO.out
  clear hk hZ qZ hU qU hV hbc
  obtain ⟨p2, hp⟩ := agr_any 0 (stepS (wordR [59]) s2).2
  have HR3 : Hid _ := HR2.out.trans (step_and (f := wordR [59]) hp)
  have hk := take_any HS.out.r [59] (by decide)
  obtain ⟨s3, hs⟩ : ∃ z, z = (stepS (wordR [59]) s2).1 := ⟨_, rfl⟩
  rw [← hs] at HR3 hk
  clear hs hp HR2
  go_wp2_with fail
  refine hk.mono ?_
  rintro e Z3 ⟨rfl, hZ, qZ⟩
  replace HS : Hid _ := HS.out.call hZ qZ
  clear hk hZ qZ
  obtain ⟨C0, C1⟩ := cells_two HS.out.c
  obtain ⟨D0, D1⟩ := cells_two HS.out.z
  have F0 := free_at HS.out.z 0
  have F1 := free_at HS.out.z 1
  go_wp2_with fail
  obtain ⟨xs, hxs⟩ : ∃ xs : List Value, xs = [.int .u32 a, .int .i64 bb] := ⟨_, rfl⟩
  obtain ⟨X, hX⟩ : ∃ X, X = putL Z3 br 0 xs := ⟨_, rfl⟩
  have hf := HS.out.fin xs (by rw [hxs]; rfl)
  rw [← hX] at hf
  rw [hxs] at hX hf
  show bodyPost _ _ _ _ _ (putL Z3 br 0 [.int .u32 a, .int .i64 bb])
  rw [← hX]
  clear hX hxs C0 D0 F0 C1 D1 F1
  obtain ⟨W0, W1⟩ := cells_two hf.1
  have hret := step_ret ((a, bb) : Nat × Int) s3
  have HE : R = stepS (fun r => .inr (((a, bb) : Nat × Int), r)) s3 := HR3.out
  refine bodyPost_ret (v := .agg #[.int .u32 a, .int .i64 bb]) (by simp [results, Tryd.results37, go_sem, W0, W1]) rfl ?_
  exact ⟨_, rfl, by rw [HE]; exact hret.2, by rw [HE, hret.1]; exact hf.2.1, hf.2.2⟩
set_option maxHeartbeats 8000000 in
set_option maxRecDepth 20000 in
theorem link_rd (h : RdS B b g cap ts s w) :
    Calls Tryd.prog 38 #[.pointer (some ⟨b, 0, none⟩)] w fun e w' => ∃ c : LkD, e = .returned (lkV2 c) ∧ Agr c (stepS lnkR s).2 ∧ RdS B b g cap ts (stepS lnkR s).1 w' ∧ BelX b w w' := by
  obtain ⟨R, hR⟩ : ∃ R, R = stepS lnkR s := ⟨_, rfl⟩
  rw [← hR]
  have HR0 : Hid (R = stepS lnkR s) := hR
  clear hR
  obtain ⟨br, hbr⟩ : ∃ b, b = w.heap.size := ⟨_, rfl⟩
  obtain ⟨W, hW⟩ : ∃ W, W = w.alloc (.cells #[.string ⟨#[]⟩, .int .i64 0, .string ⟨#[]⟩, .string ⟨#[]⟩, .int .i64 0] 101) := ⟨_, rfl⟩
  obtain ⟨q1, r1, _⟩ := box_at w _ hW hbr
  have HO : Hid (b < w.heap.size ∧ g < w.heap.size ∧ w.heap.size ≤ br) := ⟨h.old.2, h.old.1, by omega⟩
  have hw := h.below q1
  have HB : Hid (BelX b w W ∧ W.heap[br]? = some (.cells #[.string ⟨#[]⟩, .int .i64 0, .string ⟨#[]⟩, .string ⟨#[]⟩, .int .i64 0] 101 (0, 0))) := ⟨BelX.of b q1, r1⟩
  go_enter Tryd.func38, Tryd.ntmps38
  go_upto_region 1 with fail
  rw [← hbr, ← hW]
  clear hW hbr q1 r1
  obtain ⟨t, htp, hk⟩ := here_rd hw
  unfold tkV at hk
  have f4 := tkf4 t.kind t.val t.a t.b t.pl ⟨t.text.toArray⟩
  go_wp2_with fail
  refine hk.mono ?_
  rintro e U ⟨rfl, qU⟩
  go_upto_region 2 with fail
  obtain ⟨bc, hbc⟩ : ∃ b, b = U.heap.size := ⟨_, rfl⟩
  rw [← hbc]
  obtain ⟨V, hV⟩ : ∃ V, V = U.alloc (.cells #[.string ⟨#[]⟩, .int .i64 0, .string ⟨#[]⟩, .string ⟨#[]⟩, .int .i64 t.pl] 101) := ⟨_, rfl⟩
  rw [← hV]
  have HS : Hid (Sit w B b g cap ts br bc 101 #[.string ⟨#[]⟩, .int .i64 0, .string ⟨#[]⟩, .string ⟨#[]⟩, .int .i64 0] #[.string ⟨#[]⟩, .int .i64 0, .string ⟨#[]⟩, .string ⟨#[]⟩, .int .i64 t.pl] s V) := Sit.new (hw.below qU) (HB.out.1.below qU) (pf_block qU HB.out.2) hV hbc HO.out
  clear hk hw qU hV hbc f4
  have hp := word_pl (w := [108, 105, 110, 107]) htp
  have HR1 : Hid _ := HR0.out.trans (step_and (f := wordR [108, 105, 110, 107]) hp)
  have hk := take_any HS.out.r [108, 105, 110, 107] (by decide)
  obtain ⟨s1, hs⟩ : ∃ z, z = (stepS (wordR [108, 105, 110, 107]) s).1 := ⟨_, rfl⟩
  rw [← hs] at HR1 hk
  clear hs hp HR0 htp
  go_wp2_with fail
  refine hk.mono ?_
  rintro e Z1 ⟨rfl, hZ, qZ⟩
  replace HS : Hid _ := HS.out.call hZ qZ
  clear hk hZ qZ
  have hk := name_rd HS.out.r
  obtain ⟨nm, ha⟩ : ∃ a, a = (stepS (nameR) s1).2.getD [] := ⟨_, rfl⟩
  have hp : Agr nm (stepS (nameR) s1).2 := by rw [ha]; exact Agr.getD _ _
  rw [← ha] at hk
  clear ha
  have HR2 : Hid _ := HR1.out.trans (step_and (f := nameR) hp)
  obtain ⟨s2, hs⟩ : ∃ z, z = (stepS (nameR) s1).1 := ⟨_, rfl⟩
  rw [← hs] at HR2 hk
  clear hs hp HR1
  go_wp2_with fail
  refine hk.mono ?_
  rintro e Z2 ⟨rfl, hZ, qZ⟩
  replace HS : Hid _ := HS.out.call hZ qZ
  clear hk hZ qZ
  obtain ⟨c0, f0⟩ := HS.out.cell 0 rfl
  replace HS : Hid (Sit w B b g cap ts br bc 101 #[.string ⟨#[]⟩, .int .i64 0, .string ⟨#[]⟩, .string ⟨#[]⟩, .int .i64 0] #[.string ⟨nm.toArray⟩, .int .i64 0, .string ⟨#[]⟩, .string ⟨#[]⟩, .int .i64 t.pl] s2 (Z2.setCell ⟨bc, 0, none⟩ (.string ⟨nm.toArray⟩))) := HS.out.put 0 (.string ⟨nm.toArray⟩)
  obtain ⟨p2, hp⟩ := agr_any 0 (stepS (wordR [99, 111, 115, 116]) s2).2
  have HR3 : Hid _ := HR2.out.trans (step_and (f := wordR [99, 111, 115, 116]) hp)
  have hk := take_any HS.out.r [99, 111, 115, 116] (by decide)
  obtain ⟨s3, hs⟩ : ∃ z, z = (stepS (wordR [99, 111, 115, 116]) s2).1 := ⟨_, rfl⟩
  rw [← hs] at HR3 hk
  clear hs hp HR2
  go_wp2_with fail
  refine hk.mono ?_
  rintro e Z3 ⟨rfl, hZ, qZ⟩
  replace HS : Hid _ := HS.out.call hZ qZ
  clear hk hZ qZ
  have hk := nbr_rd HS.out.r 1000
  obtain ⟨co, ha⟩ : ∃ a, a = (stepS (nbrR 1000) s3).2.getD 0 := ⟨_, rfl⟩
  have hp : Agr co (stepS (nbrR 1000) s3).2 := by rw [ha]; exact Agr.getD _ _
  rw [← ha] at hk
  clear ha
  have HR4 : Hid _ := HR3.out.trans (step_and (f := nbrR 1000) hp)
  obtain ⟨s4, hs⟩ : ∃ z, z = (stepS (nbrR 1000) s3).1 := ⟨_, rfl⟩
  rw [← hs] at HR4 hk
  clear hs hp HR3
  go_wp2_with fail
  refine hk.mono ?_
  rintro e Z4 ⟨rfl, hZ, qZ⟩
  replace HS : Hid _ := HS.out.call hZ qZ
  clear hk hZ qZ
  obtain ⟨c0, f0⟩ := HS.out.cell 1 rfl
  replace HS : Hid (Sit w B b g cap ts br bc 101 #[.string ⟨#[]⟩, .int .i64 0, .string ⟨#[]⟩, .string ⟨#[]⟩, .int .i64 0] #[.string ⟨nm.toArray⟩, .int .i64 co, .string ⟨#[]⟩, .string ⟨#[]⟩, .int .i64 t.pl] s4 (Z4.setCell ⟨bc, 1, none⟩ (.int .i64 co))) := HS.out.put 1 (.int .i64 co)
  have hk := nameB_rd HS.out.r [105, 109, 112, 111, 114, 116] (by decide)
  obtain ⟨im, ha⟩ : ∃ a, a = (stepS (optS [105, 109, 112, 111, 114, 116]) s4).2.getD [] := ⟨_, rfl⟩
  have hp : Agr im (stepS (optS [105, 109, 112, 111, 114, 116]) s4).2 := by rw [ha]; exact Agr.getD _ _
  rw [← ha] at hk
  clear ha
  have HR5 : Hid _ := HR4.out.trans (step_and (f := optS [105, 109, 112, 111, 114, 116]) hp)
  obtain ⟨s5, hs⟩ : ∃ z, z = (stepS (optS [105, 109, 112, 111, 114, 116]) s4).1 := ⟨_, rfl⟩
  rw [← hs] at HR5 hk
  clear hs hp HR4
  go_wp2_with fail
  refine hk.mono ?_
  rintro e Z5 ⟨rfl, hZ, qZ⟩
  replace HS : Hid _ := HS.out.call hZ qZ
  clear hk hZ qZ
  obtain ⟨c0, f0⟩ := HS.out.cell 2 rfl
  replace HS : Hid (Sit w B b g cap ts br bc 101 #[.string ⟨#[]⟩, .int .i64 0, .string ⟨#[]⟩, .string ⟨#[]⟩, .int .i64 0] #[.string ⟨nm.toArray⟩, .int .i64 co, .string ⟨im.toArray⟩, .string ⟨#[]⟩, .int .i64 t.pl] s5 (Z5.setCell ⟨bc, 2, none⟩ (.string ⟨im.toArray⟩))) := HS.out.put 2 (.string ⟨im.toArray⟩)
  have hk := nameB_rd HS.out.r [101, 120, 112, 111, 114, 116] (by decide)
  obtain ⟨ex, ha⟩ : ∃ a, a = (stepS (optS [101, 120, 112, 111, 114, 116]) s5).2.getD [] := ⟨_, rfl⟩
  have hp : Agr ex (stepS (optS [101, 120, 112, 111, 114, 116]) s5).2 := by rw [ha]; exact Agr.getD _ _
  rw [← ha] at hk
  clear ha
  have HR6 : Hid _ := HR5.out.trans (step_and (f := optS [101, 120, 112, 111, 114, 116]) hp)
  obtain ⟨s6, hs⟩ : ∃ z, z = (stepS (optS [101, 120, 112, 111, 114, 116]) s5).1 := ⟨_, rfl⟩
  rw [← hs] at HR6 hk
  clear hs hp HR5
  go_wp2_with fail
  refine hk.mono ?_
  rintro e Z6 ⟨rfl, hZ, qZ⟩
  replace HS : Hid _ := HS.out.call hZ qZ
  clear hk hZ qZ
  obtain ⟨c0, f0⟩ := HS.out.cell 3 rfl
  replace HS : Hid (Sit w B b g cap ts br bc 101 #[.string ⟨#[]⟩, .int .i64 0, .string ⟨#[]⟩, .string ⟨#[]⟩, .int .i64 0] #[.string ⟨nm.toArray⟩, .int .i64 co, .string ⟨im.toArray⟩, .string ⟨ex.toArray⟩, .int .i64 t.pl] s6 (Z6.setCell ⟨bc, 3, none⟩ (.string ⟨ex.toArray⟩))) := HS.out.put 3 (.string ⟨ex.toArray⟩)
  obtain ⟨p6, hp⟩ := agr_any 0 (stepS (wordR [59]) s6).2
  have HR7 : Hid _ := HR6.out.trans (step_and (f := wordR [59]) hp)
  have hk := take_any HS.out.r [59] (by decide)
  obtain ⟨s7, hs⟩ : ∃ z, z = (stepS (wordR [59]) s6).1 := ⟨_, rfl⟩
  rw [← hs] at HR7 hk
  clear hs hp HR6
  go_wp2_with fail
  refine hk.mono ?_
  rintro e Z7 ⟨rfl, hZ, qZ⟩
  replace HS : Hid _ := HS.out.call hZ qZ
  clear hk hZ qZ
  obtain ⟨C0, C1, C2, C3, C4⟩ := cells_five HS.out.c
  obtain ⟨D0, D1, D2, D3, D4⟩ := cells_five HS.out.z
  have F0 := free_at HS.out.z 0
  have F1 := free_at HS.out.z 1
  have F2 := free_at HS.out.z 2
  have F3 := free_at HS.out.z 3
  have F4 := free_at HS.out.z 4
  go_wp2_with fail
  obtain ⟨xs, hxs⟩ : ∃ xs : List Value, xs = [.string ⟨nm.toArray⟩, .int .i64 co, .string ⟨im.toArray⟩, .string ⟨ex.toArray⟩, .int .i64 t.pl] := ⟨_, rfl⟩
  obtain ⟨X, hX⟩ : ∃ X, X = putL Z7 br 0 xs := ⟨_, rfl⟩
  have hf := HS.out.fin xs (by rw [hxs]; rfl)
  rw [← hX] at hf
  rw [hxs] at hX hf
  show bodyPost _ _ _ _ _ (putL Z7 br 0 [.string ⟨nm.toArray⟩, .int .i64 co, .string ⟨im.toArray⟩, .string ⟨ex.toArray⟩, .int .i64 t.pl])
  rw [← hX]
  clear hX hxs C0 D0 F0 C1 D1 F1 C2 D2 F2 C3 D3 F3 C4 D4 F4
  obtain ⟨W0, W1, W2, W3, W4⟩ := cells_five hf.1
  have hret := step_ret ((⟨nm, co, im, ex, (t.pl : Int)⟩ : LkD)) s7
  have HE : R = stepS (fun r => .inr (((⟨nm, co, im, ex, (t.pl : Int)⟩ : LkD)), r)) s7 := HR7.out
  refine bodyPost_ret (v := .agg #[.string ⟨nm.toArray⟩, .int .i64 co, .string ⟨im.toArray⟩, .string ⟨ex.toArray⟩, .int .i64 t.pl]) (by simp [results, Tryd.results38, go_sem, W0, W1, W2, W3, W4]) rfl ?_
  exact ⟨_, rfl, by rw [HE]; exact hret.2, by rw [HE, hret.1]; exact hf.2.1, hf.2.2⟩
set_option maxHeartbeats 8000000 in
set_option maxRecDepth 20000 in
theorem static_rd (h : RdS B b g cap ts s w) :
    Calls Tryd.prog 39 #[.pointer (some ⟨b, 0, none⟩)] w fun e w' => ∃ c : StD, e = .returned (stV2 c) ∧ Agr c (stepS staR s).2 ∧ RdS B b g cap ts (stepS staR s).1 w' ∧ BelX b w w' := by
  obtain ⟨R, hR⟩ : ∃ R, R = stepS staR s := ⟨_, rfl⟩
  rw [← hR]
  have HR0 : Hid (R = stepS staR s) := hR
  clear hR
  obtain ⟨br, hbr⟩ : ∃ b, b = w.heap.size := ⟨_, rfl⟩
  obtain ⟨W, hW⟩ : ∃ W, W = w.alloc (.cells #[.int .u32 0, .int .i64 0, .string ⟨#[]⟩, .int .i64 0] 104) := ⟨_, rfl⟩
  obtain ⟨q1, r1, _⟩ := box_at w _ hW hbr
  have HO : Hid (b < w.heap.size ∧ g < w.heap.size ∧ w.heap.size ≤ br) := ⟨h.old.2, h.old.1, by omega⟩
  have hw := h.below q1
  have HB : Hid (BelX b w W ∧ W.heap[br]? = some (.cells #[.int .u32 0, .int .i64 0, .string ⟨#[]⟩, .int .i64 0] 104 (0, 0))) := ⟨BelX.of b q1, r1⟩
  go_enter Tryd.func39, Tryd.ntmps39
  go_upto_region 1 with fail
  rw [← hbr, ← hW]
  clear hW hbr q1 r1
  obtain ⟨t, htp, hk⟩ := here_rd hw
  unfold tkV at hk
  have f4 := tkf4 t.kind t.val t.a t.b t.pl ⟨t.text.toArray⟩
  go_wp2_with fail
  refine hk.mono ?_
  rintro e U ⟨rfl, qU⟩
  go_upto_region 2 with fail
  obtain ⟨bc, hbc⟩ : ∃ b, b = U.heap.size := ⟨_, rfl⟩
  rw [← hbc]
  obtain ⟨V, hV⟩ : ∃ V, V = U.alloc (.cells #[.int .u32 0, .int .i64 0, .string ⟨#[]⟩, .int .i64 t.pl] 104) := ⟨_, rfl⟩
  rw [← hV]
  have HS : Hid (Sit w B b g cap ts br bc 104 #[.int .u32 0, .int .i64 0, .string ⟨#[]⟩, .int .i64 0] #[.int .u32 0, .int .i64 0, .string ⟨#[]⟩, .int .i64 t.pl] s V) := Sit.new (hw.below qU) (HB.out.1.below qU) (pf_block qU HB.out.2) hV hbc HO.out
  clear hk hw qU hV hbc f4
  have hp := word_pl (w := [115, 116, 97, 116, 105, 99]) htp
  have HR1 : Hid _ := HR0.out.trans (step_and (f := wordR [115, 116, 97, 116, 105, 99]) hp)
  have hk := take_any HS.out.r [115, 116, 97, 116, 105, 99] (by decide)
  obtain ⟨s1, hs⟩ : ∃ z, z = (stepS (wordR [115, 116, 97, 116, 105, 99]) s).1 := ⟨_, rfl⟩
  rw [← hs] at HR1 hk
  clear hs hp HR0 htp
  go_wp2_with fail
  refine hk.mono ?_
  rintro e Z1 ⟨rfl, hZ, qZ⟩
  replace HS : Hid _ := HS.out.call hZ qZ
  clear hk hZ qZ
  have hk := prefix_rd HS.out.r
  obtain ⟨p, ha⟩ : ∃ a, a = (stepS pfxR s1).2.getD (0, 0) := ⟨_, rfl⟩
  have hp : Agr p (stepS pfxR s1).2 := by rw [ha]; exact Agr.getD _ _
  rw [← ha] at hk
  clear ha
  have HR2 : Hid _ := HR1.out.trans (step_and (f := pfxR) hp)
  obtain ⟨s2, hs⟩ : ∃ z, z = (stepS pfxR s1).1 := ⟨_, rfl⟩
  rw [← hs] at HR2 hk
  clear hs hp HR1
  obtain ⟨a, bb⟩ := p
  unfold pfV2 at hk
  go_wp2_with fail
  refine hk.mono ?_
  rintro e Z2 ⟨rfl, hZ, qZ⟩
  replace HS : Hid _ := HS.out.call hZ qZ
  clear hk hZ qZ
  obtain ⟨c0, f0⟩ := HS.out.cell 0 rfl
  obtain ⟨c1, f1⟩ := HS.out.cell 1 rfl
  replace HS : Hid (Sit w B b g cap ts br bc 104 #[.int .u32 0, .int .i64 0, .string ⟨#[]⟩, .int .i64 0] #[.int .u32 a, .int .i64 bb, .string ⟨#[]⟩, .int .i64 t.pl] s2 ((Z2.setCell ⟨bc, 0, none⟩ (.int .u32 a)).setCell ⟨bc, 1, none⟩ (.int .i64 bb))) := (HS.out.put 0 (.int .u32 a)).put 1 (.int .i64 bb)
  obtain ⟨p2, hp⟩ := agr_any 0 (stepS (wordR [118, 105, 97]) s2).2
  have HR3 : Hid _ := HR2.out.trans (step_and (f := wordR [118, 105, 97]) hp)
  have hk := take_any HS.out.r [118, 105, 97] (by decide)
  obtain ⟨s3, hs⟩ : ∃ z, z = (stepS (wordR [118, 105, 97]) s2).1 := ⟨_, rfl⟩
  rw [← hs] at HR3 hk
  clear hs hp HR2
  go_wp2_with fail
  refine hk.mono ?_
  rintro e Z3 ⟨rfl, hZ, qZ⟩
  replace HS : Hid _ := HS.out.call hZ qZ
  clear hk hZ qZ
  have hk := name_rd HS.out.r
  obtain ⟨nm, ha⟩ : ∃ a, a = (stepS (nameR) s3).2.getD [] := ⟨_, rfl⟩
  have hp : Agr nm (stepS (nameR) s3).2 := by rw [ha]; exact Agr.getD _ _
  rw [← ha] at hk
  clear ha
  have HR4 : Hid _ := HR3.out.trans (step_and (f := nameR) hp)
  obtain ⟨s4, hs⟩ : ∃ z, z = (stepS (nameR) s3).1 := ⟨_, rfl⟩
  rw [← hs] at HR4 hk
  clear hs hp HR3
  go_wp2_with fail
  refine hk.mono ?_
  rintro e Z4 ⟨rfl, hZ, qZ⟩
  replace HS : Hid _ := HS.out.call hZ qZ
  clear hk hZ qZ
  obtain ⟨c0, f0⟩ := HS.out.cell 2 rfl
  replace HS : Hid (Sit w B b g cap ts br bc 104 #[.int .u32 0, .int .i64 0, .string ⟨#[]⟩, .int .i64 0] #[.int .u32 a, .int .i64 bb, .string ⟨nm.toArray⟩, .int .i64 t.pl] s4 (Z4.setCell ⟨bc, 2, none⟩ (.string ⟨nm.toArray⟩))) := HS.out.put 2 (.string ⟨nm.toArray⟩)
  obtain ⟨p4, hp⟩ := agr_any 0 (stepS (wordR [59]) s4).2
  have HR5 : Hid _ := HR4.out.trans (step_and (f := wordR [59]) hp)
  have hk := take_any HS.out.r [59] (by decide)
  obtain ⟨s5, hs⟩ : ∃ z, z = (stepS (wordR [59]) s4).1 := ⟨_, rfl⟩
  rw [← hs] at HR5 hk
  clear hs hp HR4
  go_wp2_with fail
  refine hk.mono ?_
  rintro e Z5 ⟨rfl, hZ, qZ⟩
  replace HS : Hid _ := HS.out.call hZ qZ
  clear hk hZ qZ
  obtain ⟨C0, C1, C2, C3⟩ := cells_four2 HS.out.c
  obtain ⟨D0, D1, D2, D3⟩ := cells_four2 HS.out.z
  have F0 := free_at HS.out.z 0
  have F1 := free_at HS.out.z 1
  have F2 := free_at HS.out.z 2
  have F3 := free_at HS.out.z 3
  go_wp2_with fail
  obtain ⟨xs, hxs⟩ : ∃ xs : List Value, xs = [.int .u32 a, .int .i64 bb, .string ⟨nm.toArray⟩, .int .i64 t.pl] := ⟨_, rfl⟩
  obtain ⟨X, hX⟩ : ∃ X, X = putL Z5 br 0 xs := ⟨_, rfl⟩
  have hf := HS.out.fin xs (by rw [hxs]; rfl)
  rw [← hX] at hf
  rw [hxs] at hX hf
  show bodyPost _ _ _ _ _ (putL Z5 br 0 [.int .u32 a, .int .i64 bb, .string ⟨nm.toArray⟩, .int .i64 t.pl])
  rw [← hX]
  clear hX hxs C0 D0 F0 C1 D1 F1 C2 D2 F2 C3 D3 F3
  obtain ⟨W0, W1, W2, W3⟩ := cells_four2 hf.1
  have hret := step_ret ((⟨a, bb, nm, (t.pl : Int)⟩ : StD)) s5
  have HE : R = stepS (fun r => .inr (((⟨a, bb, nm, (t.pl : Int)⟩ : StD)), r)) s5 := HR5.out
  refine bodyPost_ret (v := .agg #[.int .u32 a, .int .i64 bb, .string ⟨nm.toArray⟩, .int .i64 t.pl]) (by simp [results, Tryd.results39, go_sem, W0, W1, W2, W3]) rfl ?_
  exact ⟨_, rfl, by rw [HE]; exact hret.2, by rw [HE, hret.1]; exact hf.2.1, hf.2.2⟩
end
end Go.Proofs.YtejhgifadohbiaaDoor
