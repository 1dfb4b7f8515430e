/- What a reader does with maps. -/
import Derived.Test.YtejhgifadohbiaaDoorVH
import Derived.Deep.AppendLies
namespace Go.Proofs.YtejhgifadohbiaaDoor
open Go.RowKit Go.Lib

section
variable {w Z Z' Y W : World} {B b g cap br bc T : Nat} {ts : List Tk} {zs cs : Array Value} {s s' : Sta}
theorem RdS.keptT {E L : List Nat} (h : RdS B b g cap ts s Z) (k : KeptT E L Z Z') (h1 : 47 ∉ E) (h2 : 61 ∉ E) (hb : b ∉ L) (hg : g ∉ L) : RdS B b g cap ts s Z' := by
  have key : ∀ n ev, Rd B b g cap ts n ev Z → Rd B b g cap ts n ev Z' := fun n ev h => ⟨k.2 _ _ _ _ h.c h1 hb, k.own h.o h2 (fun x hx => by injection hx with hx; rw [← hx]; exact hg), h.l⟩
  cases s with
  | inl r =>
    obtain ⟨n, e1, e2, e3⟩ := h
    exact ⟨n, e1, e2, key _ _ e3⟩
  | inr e =>
    obtain ⟨n, h⟩ := h
    exact ⟨n, key _ _ h⟩
/-- A row of its own grows: what was there at the beginning is as it was. -/
theorem BelX.grown {e z n : Nat} {v : Value} {xs : List Value} (h : BelX b w Z) (ho : Z.ownsRow w.heap.size e z v n xs) (hg : Z.grownBy W v.ownBlock) : BelX b w W := by
  refine ⟨hg.os.trans h.os, hg.tape.trans h.tape, hg.output.trans h.output, Nat.le_trans h.size hg.size, fun k hk hb => ?_⟩
  rw [hg.block k (Nat.lt_of_lt_of_le hk h.size) ?_]
  · exact h.block k hk hb
  · rcases ho.2 with ⟨h0, _⟩ | ⟨g', cap', cur, h1, h2, _⟩
    · rw [h0]; simp [Value.ownBlock]
    · rw [h1]; simp [Value.ownBlock]; omega
theorem Sit.grow {e z n : Nat} {v : Value} {xs : List Value} (h : Sit w B b g cap ts br bc T zs cs s Z) (ho : Z.ownsRow w.heap.size e z v n xs) (hg : Z.grownBy W v.ownBlock) (hT : T ≠ e) (h1 : 47 ≠ e) (h2 : 61 ≠ e) : Sit w B b g cap ts br bc T zs cs s W := by
  have k : KeptT [e] [] Z W := KeptT.grown ho hg (List.mem_singleton.2 rfl)
  have m : ∀ x, x ≠ e → x ∉ [e] := fun x hx => by simpa using hx
  exact ⟨h.r.keptT k (m _ h1) (m _ h2) (by simp) (by simp), h.x.grown ho hg, k.2 _ _ _ _ h.z (m _ hT) (by simp), k.2 _ _ _ _ h.c (m _ hT) (by simp), h.n⟩
theorem Sit.belX (h : Sit w B b g cap ts br bc T zs cs s Z) (q : BelX b Z Y) (hr : RdS B b g cap ts s' Y) : Sit w B b g cap ts br bc T zs cs s' Y := h.call hr q
theorem Sit.below (h : Sit w B b g cap ts br bc T zs cs s Z) (q : Below Z.heap.size Z Y) : Sit w B b g cap ts br bc T zs cs s Y := h.call (h.r.below q) (.of b q)
theorem rowX {e z n : Nat} {v : Value} {xs : List Value} (ho : Z.ownsRow w.heap.size e z v n xs) (hb : b < w.heap.size) (q : BelX b Z Y) : Y.ownsRow w.heap.size e z v n xs := by
  refine q.own ho fun k hk hkb => ?_
  rcases ho.2 with ⟨h0, _⟩ | ⟨g', cap', cur, h1, h2, _⟩
  · rw [h0] at hk; simp [Value.ownBlock] at hk
  · rw [h1] at hk
    simp [Value.ownBlock] at hk
    omega
/-- A row, while another one grows and is put into the thing. -/
theorem row_keep {e e' z n z' n' i : Nat} {v v' u : Value} {xs xs' : List Value} {fr : Nat × Nat} (ho : Z.ownsRow B e z v n xs) (hg : Z.grownBy W v.ownBlock) (hc : W.heap[bc]? = some (.cells cs T fr)) (hT : T ≠ e') (hne : e' ≠ e) (h' : Z.ownsRow B e' z' v' n' xs') :
    (W.setCell ⟨bc, i, none⟩ u).ownsRow B e' z' v' n' xs' := by
  have k : KeptT [e] [] Z W := KeptT.grown ho hg (List.mem_singleton.2 rfl)
  have h1 : W.ownsRow B e' z' v' n' xs' := k.own h' (by simpa using hne) (fun _ _ => by simp)
  exact (KeptT.setCell (E := []) (List.mem_singleton.2 rfl) u).own h1 (by simp) (own_off h1 hc hT)
theorem row_set {e z n i : Nat} {v u : Value} {xs : List Value} {fr : Nat × Nat} (h1 : W.ownsRow B e z v n xs) (hc : W.heap[bc]? = some (.cells cs T fr)) (hT : T ≠ e) : (W.setCell ⟨bc, i, none⟩ u).ownsRow B e z v n xs :=
  (KeptT.setCell (E := []) (List.mem_singleton.2 rfl) u).own h1 (by simp) (own_off h1 hc hT)
theorem putL_kept (b : Nat) (xs : List Value) (W : World) : KeptT [] [b] W (putL W b 0 xs) :=
  putL_keep (p := fun Z => KeptT [] [b] W Z) (fun _ _ x h => h.trans (KeptT.setCell (List.mem_singleton.2 rfl) x)) xs 0 W (KeptT.refl _ _ _)
theorem row_put {e z n : Nat} {v : Value} {xs ys : List Value} {fr : Nat × Nat} (h1 : W.ownsRow B e z v n xs) (hc : W.heap[bc]? = some (.cells cs T fr)) (hT : T ≠ e) : (putL W bc 0 ys).ownsRow B e z v n xs :=
  (putL_kept bc ys W).own h1 (by simp) (own_off h1 hc hT)
end
section
variable {B b g cap : Nat} {ts : List Tk} {w : World} {s : Sta}
set_option maxHeartbeats 8000000 in
set_option maxRecDepth 20000 in
theorem map_rd (h : RdS B b g cap ts s w) :
    Calls Tryd.prog 18 #[.pointer (some ⟨b, 0, none⟩)] w fun e w' => ∃ c : MpV, e = .returned (.agg #[.string ⟨c.1.name.toArray⟩, c.2, .int .i64 c.1.pl]) ∧ Agr c.1 (stepS mapR s).2 ∧ (Row1 w' w.heap.size c ∧ c.1.cls.length ≤ 16) ∧ RdS B b g cap ts (stepS mapR s).1 w' ∧ BelX b w w' := by
  obtain ⟨R, hR⟩ : ∃ R, R = stepS mapR s := ⟨_, rfl⟩
  rw [← hR]
  have HR0 : Hid (R = stepS mapR s) := hR
  clear hR
  obtain ⟨br, hbr⟩ : ∃ b, b = w.heap.size := ⟨_, rfl⟩
  obtain ⟨W, hW⟩ : ∃ W, W = w.alloc (.cells #[.string ⟨#[]⟩, .slice none 0 0, .int .i64 0] 69) := ⟨_, rfl⟩
  obtain ⟨q1, r1, _⟩ := box_at w _ hW hbr
  have HO : Hid (b < w.heap.size ∧ g < w.heap.size ∧ w.heap.size ≤ br) := ⟨h.old.2, h.old.1, by omega⟩
  have hw := h.below q1
  have HB : Hid (BelX b w W ∧ W.heap[br]? = some (.cells #[.string ⟨#[]⟩, .slice none 0 0, .int .i64 0] 69 (0, 0))) := ⟨BelX.of b q1, r1⟩
  go_enter Tryd.func18, Tryd.ntmps18
  go_upto_region 1 with fail
  rw [← hbr, ← hW]
  clear hW hbr q1 r1
  obtain ⟨t, htp, hk⟩ := here_rd hw
  unfold tkV at hk
  have f4 := tkf4 t.kind t.val t.a t.b t.pl ⟨t.text.toArray⟩
  go_wp2_with fail
  refine hk.mono ?_
  rintro e U ⟨rfl, qU⟩
  go_upto_region 2 with fail
  obtain ⟨bc, hbc⟩ : ∃ b, b = U.heap.size := ⟨_, rfl⟩
  rw [← hbc]
  obtain ⟨V, hV⟩ : ∃ V, V = U.alloc (.cells #[.string ⟨#[]⟩, .slice none 0 0, .int .i64 t.pl] 69) := ⟨_, rfl⟩
  rw [← hV]
  have HS : Hid (Sit w B b g cap ts br bc 69 #[.string ⟨#[]⟩, .slice none 0 0, .int .i64 0] #[.string ⟨#[]⟩, .slice none 0 0, .int .i64 t.pl] s V) := Sit.new (hw.below qU) (HB.out.1.below qU) (pf_block qU HB.out.2) hV hbc HO.out
  clear hk hw qU hV hbc f4
  have hp := word_pl (w := [109, 97, 112]) htp
  have HR1 : Hid _ := HR0.out.trans (step_and (f := wordR [109, 97, 112]) hp)
  have hk := take_any HS.out.r [109, 97, 112] (by decide)
  obtain ⟨s1, hs⟩ : ∃ z, z = (stepS (wordR [109, 97, 112]) s).1 := ⟨_, rfl⟩
  rw [← hs] at HR1 hk
  clear hs hp HR0 htp
  go_wp2_with fail
  refine hk.mono ?_
  rintro e Z1 ⟨rfl, hZ, qZ⟩
  replace HS : Hid _ := HS.out.call hZ qZ
  clear hk hZ qZ
  have hk := name_rd HS.out.r
  obtain ⟨nm, ha⟩ : ∃ a, a = (stepS (nameR) s1).2.getD [] := ⟨_, rfl⟩
  have hp : Agr nm (stepS (nameR) s1).2 := by rw [ha]; exact Agr.getD _ _
  rw [← ha] at hk
  clear ha
  have HR2 : Hid _ := HR1.out.trans (step_and (f := nameR) hp)
  obtain ⟨s2, hs⟩ : ∃ z, z = (stepS (nameR) s1).1 := ⟨_, rfl⟩
  rw [← hs] at HR2 hk
  clear hs hp HR1
  go_wp2_with fail
  refine hk.mono ?_
  rintro e Z2 ⟨rfl, hZ, qZ⟩
  replace HS : Hid _ := HS.out.call hZ qZ
  clear hk hZ qZ
  obtain ⟨c0, f0⟩ := HS.out.cell 0 rfl
  replace HS : Hid (Sit w B b g cap ts br bc 69 #[.string ⟨#[]⟩, .slice none 0 0, .int .i64 0] #[.string ⟨nm.toArray⟩, .slice none 0 0, .int .i64 t.pl] s2 (Z2.setCell ⟨bc, 0, none⟩ (.string ⟨nm.toArray⟩))) := HS.out.put 0 (.string ⟨nm.toArray⟩)
  obtain ⟨p2, hp⟩ := agr_any 0 (stepS (wordR [123]) s2).2
  have HR3 : Hid _ := HR2.out.trans (step_and (f := wordR [123]) hp)
  have hk := take_any HS.out.r [123] (by decide)
  obtain ⟨s3, hs⟩ : ∃ z, z = (stepS (wordR [123]) s2).1 := ⟨_, rfl⟩
  rw [← hs] at HR3 hk
  clear hs hp HR2
  go_wp2_with fail
  refine hk.mono ?_
  rintro e Z3 ⟨rfl, hZ, qZ⟩
  replace HS : Hid _ := HS.out.call hZ qZ
  clear hk hZ qZ
  go_upto_region 5 with fail
  obtain ⟨i0, hi0, hz0, hz1, hz2⟩ := info_parts infoCl
  go_loopg [] 16 (fun gm wr => ∃ (n : Nat) (l : List ClD) (cv : Value) (s' : Sta), n + gm = 16 ∧ Hid (n = l.length ∧ Sit w B b g cap ts br bc 69 #[.string ⟨#[]⟩, .slice none 0 0, .int .i64 0] #[.string ⟨nm.toArray⟩, cv, .int .i64 t.pl] s' wr ∧ (wr.ownsRow w.heap.size 97 10 (cv) n (l.flatMap clW)) ∧ R = stepS (fun r => andR (clasR (16 - n) r) fun cs r => andR (wordR [125] r) fun _ r => .inr ((⟨nm, l ++ cs, (t.pl : Int)⟩ : MpD), r)) s'))
  case atStart => exact ⟨0, [], .slice none 0 0, _, by omega, (⟨rfl, HS.out, World.ownsRow_nil _ _ _ _, HR3.out⟩ : _ ∧ _ ∧ _ ∧ _)⟩
  case round =>
    obtain ⟨n, l, cv, s', hn, HW⟩ := hrel
    obtain ⟨ca0, cc0, rfl⟩ := own_form (HW.out.2.2.1)
    obtain ⟨c1, f1⟩ := HW.out.2.1.cell 1 rfl
    have hk := moreCl_rd HW.out.2.1.r n
    obtain ⟨bo, hbo⟩ : ∃ x, x = (stepS (mclR n) s').2.getD false := ⟨_, rfl⟩
    obtain ⟨s4, hs4⟩ : ∃ z, z = (stepS (mclR n) s').1 := ⟨_, rfl⟩
    rw [← hbo, ← hs4] at hk
    have HE : Hid (bo = false → R = stepS (fun r => andR (wordR [125] r) fun _ r => .inr ((⟨nm, l, (t.pl : Int)⟩ : MpD), r)) s4) := by
      intro hb
      rw [HW.out.2.2.2, hs4]
      have h9 := clas_stop (n := n) (m := 16 - n) (s := s') (G := fun cs r => andR (wordR [125] r) fun _ r => .inr ((⟨nm, l ++ cs, (t.pl : Int)⟩ : MpD), r)) (by omega) (by rw [← hbo]; exact hb)
      simpa only [List.append_nil] using h9
    have HG : Hid (∀ a : ClD, bo = true → Agr a (stepS (claR) s4).2 → n < 16 ∧ R = stepS (fun r => andR (clasR (16 - (n + 1)) r) fun cs r => andR (wordR [125] r) fun _ r => .inr ((⟨nm, (l ++ [a]) ++ cs, (t.pl : Int)⟩ : MpD), r)) (stepS (claR) s4).1) := by
      intro a hb ha
      rw [hs4] at ha ⊢
      have h9 := clas_go (n := n) (m := 16 - n) (s := s') (G := fun cs r => andR (wordR [125] r) fun _ r => .inr ((⟨nm, l ++ cs, (t.pl : Int)⟩ : MpD), r)) (a := a) (by omega) hbo hb ha
      refine ⟨by omega, ?_⟩
      rw [HW.out.2.2.2, show 16 - (n + 1) = 16 - n - 1 by omega]
      simp only [List.append_assoc, List.cons_append, List.nil_append]
      exact h9.2
    clear hbo hs4
    cases bo with
    | false =>
      replace HE : Hid (R = stepS (fun r => andR (wordR [125] r) fun _ r => .inr ((⟨nm, l, (t.pl : Int)⟩ : MpD), r)) s4) := HE.out rfl
      go_wp2_with fail
      refine hk.mono ?_
      rintro e Y0 ⟨rfl, hY, qY⟩
      have HL : Hid (n = l.length ∧ n ≤ 16) := ⟨HW.out.1, by omega⟩
      have HL0 : Hid (n = l.length ∧ n ≤ 16) := HL
      have HS : Hid _ := HW.out.2.1.call hY qY
      have HRW : Hid (Y0.ownsRow w.heap.size 97 10 (.slice ca0 n cc0) n (l.flatMap clW)) := rowX (HW.out.2.2.1) HO.out.1 qY
      clear hk hY qY c1 f1 HW HG HL hn
      have HR4 : Hid _ := HE.out
      clear HE
      obtain ⟨p4, hp⟩ := agr_any 0 (stepS (wordR [125]) s4).2
      have HR5 : Hid _ := HR4.out.trans (step_and (f := wordR [125]) hp)
      have hk := take_any HS.out.r [125] (by decide)
      obtain ⟨s5, hs⟩ : ∃ z, z = (stepS (wordR [125]) s4).1 := ⟨_, rfl⟩
      rw [← hs] at HR5 hk
      clear hs hp HR4
      go_wp2_with fail
      refine hk.mono ?_
      rintro e Z5 ⟨rfl, hZ, qZ⟩
      replace HRW : Hid (Z5.ownsRow w.heap.size 97 10 (.slice ca0 n cc0) n (l.flatMap clW)) := rowX HRW.out HO.out.1 qZ
      replace HS : Hid _ := HS.out.call hZ qZ
      clear hk hZ qZ
      obtain ⟨C0, C1, C2⟩ := cells_three HS.out.c
      obtain ⟨D0, D1, D2⟩ := cells_three HS.out.z
      have F0 := free_at HS.out.z 0
      have F1 := free_at HS.out.z 1
      have F2 := free_at HS.out.z 2
      go_wp2_with fail
      obtain ⟨xs, hxs⟩ : ∃ xs : List Value, xs = [.string ⟨nm.toArray⟩, .slice ca0 n cc0, .int .i64 t.pl] := ⟨_, rfl⟩
      obtain ⟨X, hX⟩ : ∃ X, X = putL Z5 br 0 xs := ⟨_, rfl⟩
      have hf := HS.out.fin xs (by rw [hxs]; rfl)
      have hx0 : X.ownsRow w.heap.size 97 10 (.slice ca0 n cc0) n (l.flatMap clW) := by rw [hX]; exact row_put HRW.out HS.out.z (by decide)
      rw [← hX] at hf
      rw [hxs] at hX hf
      show bodyPost _ _ _ _ _ (putL Z5 br 0 [.string ⟨nm.toArray⟩, .slice ca0 n cc0, .int .i64 t.pl])
      rw [← hX]
      clear hX hxs C0 D0 F0 C1 D1 F1 C2 D2 F2
      obtain ⟨W0, W1, W2⟩ := cells_three hf.1
      have hret := step_ret ((⟨nm, l, (t.pl : Int)⟩ : MpD)) s5
      have HE : R = stepS (fun r => .inr (((⟨nm, l, (t.pl : Int)⟩ : MpD)), r)) s5 := HR5.out
      refine bodyPost_ret (v := .agg #[.string ⟨nm.toArray⟩, .slice ca0 n cc0, .int .i64 t.pl]) (by simp [results, Tryd.results18, go_sem, W0, W1, W2]) rfl ?_
      exact ⟨((⟨nm, l, (t.pl : Int)⟩ : MpD), .slice ca0 n cc0), rfl, by rw [HE]; exact hret.2, ⟨by have h9 := hx0; rw [HL0.out.1] at h9; show X.ownsRow _ _ _ (.slice ca0 n cc0) _ _; rw [HL0.out.1]; exact h9, by have := HL0.out; show l.length ≤ 16; omega⟩, by rw [HE, hret.1]; exact hf.2.1, hf.2.2⟩
    | true =>
      go_wp2_with fail
      refine hk.mono ?_
      rintro e Y ⟨rfl, hY, qY⟩
      have HS : Hid _ := HW.out.2.1.call hY qY
      have HRW : Hid (Y.ownsRow w.heap.size 97 10 (.slice ca0 n cc0) n (l.flatMap clW)) := rowX (HW.out.2.2.1) HO.out.1 qY
      have HL : Hid (n = l.length) := HW.out.1
      have c2 := (HS.out.cell 1 rfl).1
      have E0 : ∀ p : XOf b Y, p.w.cell? ⟨bc, 1, none⟩ = some (.slice ca0 n cc0) := x_cell c2 (Array.getElem?_eq_some_iff.1 HS.out.c).1 HS.out.n.2.1
      have hne := x_ne b Y
      clear hk qY c1 f1 HW HE c2
      go_wp2_with fail
      refine wp_region_from (C := fun w' => ∃ p : XOf b Y, w' = p.w) [0, 1, 2] [3, 4] [5, 6, 7] (by kernel_rfl) (by kernel_rfl) rfl ⟨⟨Y.drew, (BelX.refl _ _).drew⟩, rfl⟩ (fun _ _ d _ _ h => by cases d <;> exact h) ?_
      simp only [pickL, List.getElem?_cons_zero, List.getElem?_cons_succ]
      repeat (go_big_quiet_step (fail))
      refine wpQuiet_nil ?_
      clear E0 hne
      refine chain_go rfl fun Q2 hQ2 => ?_
      have hk := clause_rd (w := Y.drew) (hY.below (Below.refl _ _).drew)
      clear hY
      go_wp2_with fail
      refine hk.mono ?_
      rintro e Z ⟨c, rfl, ha, hZ, qZ⟩
      obtain ⟨an, a, bb, wi, ou, dr, se, cl, mo, pr⟩ := c
      unfold clV2
      have QZ : BelX b Y Z := ((BelX.refl b Y).drew).trans qZ
      have QA : BelX b Y (Z.alloc (.cells #[.bool an, .int .u32 a, .int .i64 bb, .int .u8 wi, .int .u8 ou, .bool dr, .int .u8 se, .int .u8 cl, .int .i64 mo, .int .i64 pr] 97)) := QZ.alloc _
      have HSA : Hid _ := HS.out.call (hZ.below (bel_alloc (Below.refl _ _) (.cells #[.bool an, .int .u32 a, .int .i64 bb, .int .u8 wi, .int .u8 ou, .bool dr, .int .u8 se, .int .u8 cl, .int .i64 mo, .int .i64 pr] 97))) QA
      have HRA : Hid ((Z.alloc (.cells #[.bool an, .int .u32 a, .int .i64 bb, .int .u8 wi, .int .u8 ou, .bool dr, .int .u8 se, .int .u8 cl, .int .i64 mo, .int .i64 pr] 97)).ownsRow w.heap.size 97 10 (.slice ca0 n cc0) n (l.flatMap clW)) := rowX HRW.out HO.out.1 QA
      replace HG : Hid _ := HG.out _ (by simp) ha
      clear hk ha hZ qZ HRW
      go_wp2_with fail
      refine hQ2 _ _ ⟨⟨Z, QZ⟩, rfl⟩ ?_
      clear hQ2 Q2
      refine chain_go rfl fun Q2 hQ2 => ?_
      go_wp2_with fail
      refine hQ2 _ _ ⟨⟨_, QA⟩, rfl⟩ (chain_end ?_)
      clear hQ2 Q2
      have hO := HRA.out
      have hsz : w.heap.size ≤ Z.heap.size := Nat.le_trans HS.out.x.size QZ.size
      have hnm : n < 16 := HG.out.1
      clear QA QZ HS
      go_wp2_with (at_builtin; refine wpList_append_lies _ rfl _ _ _ rfl w.heap.size 97 i0 _ 10 48 Tryd.underlying67 hi0 hz0 hz1 hz2 rfl (by omega) (.slice ca0 n cc0) n _ rfl hO ⟨Z.heap.size, 0, none⟩ 1 1 [.bool an, .int .u32 a, .int .i64 bb, .int .u8 wi, .int .u8 ou, .bool dr, .int .u8 se, .int .u8 cl, .int .i64 mo, .int .i64 pr] rfl rfl (World.news_of_block (cs := #[.bool an, .int .u32 a, .int .i64 bb, .int .u8 wi, .int .u8 ou, .bool dr, .int .u8 se, .int .u8 cl, .int .i64 mo, .int .i64 pr]) (t := 97) (fr := (0, 0)) (pf_new _ _ _ rfl)) (by simp [Value.oneCell']) (by omega) (by unfold maxLen; omega) (by omega) (by simp; omega) _ rfl ?_; intro g1 cap1 W1 hown1 hgrow hat hlt1; have HSB : Hid _ := HSA.out.grow hO hgrow (by decide) (by decide) (by decide); have hcb := HSB.out.c; obtain ⟨g0, f0⟩ := HSB.out.cell 1 rfl)
      have HX : Hid (Sit w B b g cap ts br bc 69 #[.string ⟨#[]⟩, .slice none 0 0, .int .i64 0] #[.string ⟨nm.toArray⟩, (.slice (some ⟨g1, 0, none⟩) (n + 1) cap1), .int .i64 t.pl] (stepS claR s4).1 (W1.setCell ⟨bc, 1, none⟩ (.slice (some ⟨g1, 0, none⟩) (n + 1) cap1))) := HSB.out.put 1 _
      have HX0 : Hid ((W1.setCell ⟨bc, 1, none⟩ (.slice (some ⟨g1, 0, none⟩) (n + 1) cap1)).ownsRow w.heap.size 97 10 ((.slice (some ⟨g1, 0, none⟩) (n + 1) cap1)) (n + 1) ((l ++ [(⟨an, a, bb, wi, ou, dr, se, cl, mo, pr⟩ : ClD)]).flatMap clW)) := by rw [List.flatMap_append, List.flatMap_singleton]; exact row_set hown1 hcb (by decide)
      have HLL : Hid (n + 1 = ((l ++ [(⟨an, a, bb, wi, ou, dr, se, cl, mo, pr⟩ : ClD)])).length) := by show _ = _; rw [List.length_append, ← HL.out]; rfl
      clear hown1 hgrow hat hlt1 g0 f0 hcb hO hsz
      go_roundg (16 - (n + 1))
      case measure => omega
      case rel => exact ⟨n + 1, (l ++ [(⟨an, a, bb, wi, ou, dr, se, cl, mo, pr⟩ : ClD)]), _, _, by omega, (⟨HLL.out, HX.out, HX0.out, HG.out.2⟩ : _ ∧ _ ∧ _ ∧ _)⟩
end
end Go.Proofs.YtejhgifadohbiaaDoor
