/- What a reader does with a clause. What a reader does with nets, links and ways. What a reader does with maps. What a reader does with routers. What a reader does with all. What parse.Config does. -/
import Derived.Test.YtejhgifadohbiaaGreatDoorVX
import Derived.Test.YtejhgifadohbiaaGreatDoorHM
import Derived.Deep.AppendLies
import Derived.Test.YtejhgifadohbiaaGreatDoorPX
namespace Go.Proofs.YtejhgifadohbiaaGreatDoor
open Go.RowKit Go.Lib

/-- Cells written, one behind the other. -/
def putL (w : World) (b : Nat) : Nat → List Value → World
  | _, [] => w
  | i, x :: r => putL (w.setCell ⟨b, i, none⟩ x) b (i + 1) r
theorem putL_at {b T : Nat} {fr : Nat × Nat} : ∀ (xs : List Value) (i : Nat) (zs : Array Value) (w : World), w.heap[b]? = some (.cells zs T fr) → i + xs.length = zs.size → (putL w b i xs).heap[b]? = some (.cells (zs.toList.take i ++ xs).toArray T fr)
  | [], i, zs, w, h, hl => by
    rw [List.append_nil, List.take_of_length_le (by simp at hl ⊢; omega)]
    exact h
  | x :: r, i, zs, w, h, hl => by
    rw [List.length_cons] at hl
    have := putL_at r (i + 1) (zs.setIfInBounds i x) (w.setCell ⟨b, i, none⟩ x) (set_at h x) (by simp; omega)
    show (putL (w.setCell ⟨b, i, none⟩ x) b (i + 1) r).heap[b]? = _
    rw [this]
    congr 3
    rw [Array.toList_setIfInBounds, List.take_add_one]
    simp only [List.take_set, List.getElem?_set, if_true]
    rw [if_pos (by simp; omega)]
    simp only [Option.toList_some, List.append_assoc, List.singleton_append]
    rw [List.set_eq_of_length_le (by simp; omega)]
theorem putL_keep {p : World → Prop} {b : Nat} (hp : ∀ w i x, p w → p (w.setCell ⟨b, i, none⟩ x)) : ∀ (xs : List Value) (i : Nat) (w : World), p w → p (putL w b i xs)
  | [], _, _, h => h
  | x :: r, i, w, h => putL_keep hp r (i + 1) _ (hp w i x h)
/-- What lies while a reader makes a thing. -/
structure Sit (w : World) (B b g cap : Nat) (ts : List Tk) (br bc T : Nat) (zs cs : Array Value) (s : Sta) (Z : World) : Prop where
  r : RdS B b g cap ts s Z
  x : BelX b w Z
  z : Z.heap[br]? = some (.cells zs T (0, 0))
  c : Z.heap[bc]? = some (.cells cs T (0, 0))
  n : br ≠ b ∧ bc ≠ b ∧ br ≠ bc ∧ br ≠ g ∧ bc ≠ g ∧ w.heap.size ≤ br ∧ w.heap.size ≤ bc
section
variable {w Z Z' : World} {B b g cap br bc T : Nat} {ts : List Tk} {zs cs : Array Value} {s s' : Sta}
theorem Sit.call (h : Sit w B b g cap ts br bc T zs cs s Z) (hr : RdS B b g cap ts s' Z') (q : BelX b Z Z') : Sit w B b g cap ts br bc T zs cs s' Z' :=
  ⟨hr, h.x.trans q, q.get h.z h.n.1, q.get h.c h.n.2.1, h.n⟩
theorem Sit.put (h : Sit w B b g cap ts br bc T zs cs s Z) (i : Nat) (v : Value) : Sit w B b g cap ts br bc T zs (cs.setIfInBounds i v) s (Z.setCell ⟨bc, i, none⟩ v) :=
  ⟨h.r.cell h.n.2.1 h.n.2.2.2.2.1 v, h.x.set (.inr h.n.2.2.2.2.2.2) v, set_off h.z h.n.2.2.1 v, set_at h.c v, h.n⟩
theorem Sit.cell (h : Sit w B b g cap ts br bc T zs cs s Z) (i : Nat) {v : Value} (hv : cs[i]? = some v) : Z.cell? ⟨bc, i, none⟩ = some v ∧ Z.frozen? ⟨bc, i, none⟩ = false := by
  refine ⟨?_, free_at h.c i⟩
  simp [World.cell?, h.c, hv]
theorem Sit.fin (h : Sit w B b g cap ts br bc T zs cs s Z) (xs : List Value) (hx : xs.length = zs.size) : (putL Z br 0 xs).heap[br]? = some (.cells xs.toArray T (0, 0)) ∧ RdS B b g cap ts s (putL Z br 0 xs) ∧ BelX b w (putL Z br 0 xs) := by
  refine ⟨?_, putL_keep (p := fun Z => RdS B b g cap ts s Z) (fun Z i x hZ => hZ.cell h.n.1 h.n.2.2.2.1 x) xs 0 Z h.r, putL_keep (p := fun Z => BelX b w Z) (fun Z i x hZ => hZ.set (.inr h.n.2.2.2.2.2.1) x) xs 0 Z h.x⟩
  have := putL_at xs 0 zs Z h.z (by omega)
  simpa using this
end
def clV2 (c : ClD) : Value := .agg #[.bool c.any, .int .u32 c.a, .int .i64 c.b, .int .u8 c.wi, .int .u8 c.ou, .bool c.drop, .int .u8 c.se, .int .u8 c.cl, .int .i64 c.more, .int .i64 c.pref]
section
variable {B b g cap : Nat} {ts : List Tk} {w : World} {s : Sta}
theorem onR_step (s : Sta) : stepS onR s = stepS (fun r => if (stepS (optB [97, 110, 121]) s).2.getD false = true then .inr ((true, 0, 0), r) else andR (pfxR r) fun p r => .inr ((false, p.1, p.2), r)) (stepS (optB [97, 110, 121]) s).1 :=
  (step_congr fun r _ => onR_is r).trans (step_and (f := optB [97, 110, 121]) (Agr.getD false _))
set_option maxHeartbeats 16000000 in
set_option maxRecDepth 20000 in
theorem clause_rd (h : RdS B b g cap ts s w) :
    Calls Tryz.prog 63 #[.pointer (some ⟨b, 0, none⟩)] w fun e w' => ∃ c : ClD, e = .returned (clV2 c) ∧ Agr c (stepS claR s).2 ∧ RdS B b g cap ts (stepS claR s).1 w' ∧ BelX b w w' := by
  obtain ⟨R, hR⟩ : ∃ R, R = stepS claR s := ⟨_, rfl⟩
  rw [← hR]
  have HR0 : Hid (R = stepS claR s) := hR
  clear hR
  go_enter Tryz.func63, Tryz.ntmps63
  go_upto_region 2 with fail
  obtain ⟨br, hbr⟩ : ∃ b, b = w.heap.size := ⟨_, rfl⟩
  obtain ⟨bc, hbc⟩ : ∃ b, b = w.heap.size + 1 := ⟨_, rfl⟩
  rw [← hbc, ← hbr]
  obtain ⟨W, hW⟩ : ∃ W, W = w.alloc (.cells #[.bool false, .int .u32 0, .int .i64 0, .int .u8 0, .int .u8 0, .bool false, .int .u8 0, .int .u8 0, .int .i64 0, .int .i64 0] 65) := ⟨_, rfl⟩
  rw [← hW]
  obtain ⟨V, hV⟩ : ∃ W', W' = W.alloc (.cells #[.bool false, .int .u32 0, .int .i64 0, .int .u8 0, .int .u8 0, .bool false, .int .u8 0, .int .u8 0, .int .i64 0, .int .i64 0] 65) := ⟨_, rfl⟩
  rw [← hV]
  obtain ⟨q1, r1, _⟩ := box_at w _ hW hbr
  obtain ⟨q2, r2, _⟩ := box_at W _ hV (b := bc) (by rw [hW, hbc]; simp)
  have HS : Hid (Sit w B b g cap ts br bc 65 #[.bool false, .int .u32 0, .int .i64 0, .int .u8 0, .int .u8 0, .bool false, .int .u8 0, .int .u8 0, .int .i64 0, .int .i64 0] #[.bool false, .int .u32 0, .int .i64 0, .int .u8 0, .int .u8 0, .bool false, .int .u8 0, .int .u8 0, .int .i64 0, .int .i64 0] s V) := by
    have := h.old
    exact ⟨(h.below q1).below q2, (BelX.of b q1).below q2, pf_block q2 r1, r2, by omega, by omega, by omega, by omega, by omega, by omega, by omega⟩
  clear hW hV q1 q2 r1 r2 hbr hbc
  obtain ⟨p0, hp⟩ := agr_any 0 (stepS (wordR [105, 102]) s).2
  have HR1 : Hid _ := HR0.out.trans (step_and (f := wordR [105, 102]) hp)
  have hk := take_any HS.out.r [105, 102] (by decide)
  obtain ⟨s1, hs⟩ : ∃ z, z = (stepS (wordR [105, 102]) s).1 := ⟨_, rfl⟩
  rw [← hs] at HR1 hk
  clear hs hp HR0
  go_wp2_with fail
  refine hk.mono ?_
  rintro e Z1 ⟨rfl, hZ, qZ⟩
  replace HS : Hid _ := HS.out.call hZ qZ
  clear hk hZ qZ
  have hk := took_any HS.out.r [97, 110, 121] (by decide)
  have HO := onR_step s1
  obtain ⟨an, han⟩ : ∃ a, a = (stepS (optB [97, 110, 121]) s1).2.getD false := ⟨_, rfl⟩
  obtain ⟨t2, ht2⟩ : ∃ z, z = (stepS (optB [97, 110, 121]) s1).1 := ⟨_, rfl⟩
  rw [← han, ← ht2] at HO hk
  have HO : Hid _ := HO
  clear han ht2
  go_wp2_with fail
  refine hk.mono ?_
  rintro e Z2 ⟨rfl, hZ, qZ⟩
  replace HS : Hid _ := HS.out.call hZ qZ
  clear hk hZ qZ
  obtain ⟨c0, f0⟩ := HS.out.cell 0 rfl
  replace HS : Hid (Sit w B b g cap ts br bc 65 #[.bool false, .int .u32 0, .int .i64 0, .int .u8 0, .int .u8 0, .bool false, .int .u8 0, .int .u8 0, .int .i64 0, .int .i64 0] #[.bool an, .int .u32 0, .int .i64 0, .int .u8 0, .int .u8 0, .bool false, .int .u8 0, .int .u8 0, .int .i64 0, .int .i64 0] t2 (Z2.setCell ⟨bc, 0, none⟩ (.bool an))) := HS.out.put 0 (.bool an)
  go_upto_region 4 with fail
  obtain ⟨Y, hY⟩ : ∃ Y, Y = Z2.setCell ⟨bc, 0, none⟩ (.bool an) := ⟨_, rfl⟩
  rw [← hY] at HS ⊢
  clear hY c0 f0
  obtain ⟨c0, f0⟩ := HS.out.cell 0 rfl
  go_upto_if 11 with fail
  clear c0 f0
  go_cut [] from 12 to 40 (fun wx => ∃ (a : Nat) (bb : Int) (s2 : Sta), Hid (Sit w B b g cap ts br bc 65 #[.bool false, .int .u32 0, .int .i64 0, .int .u8 0, .int .u8 0, .bool false, .int .u8 0, .int .u8 0, .int .i64 0, .int .i64 0] #[.bool an, .int .u32 a, .int .i64 bb, .int .u8 0, .int .u8 0, .bool false, .int .u8 0, .int .u8 0, .int .i64 0, .int .i64 0] s2 wx ∧ s2 = (stepS onR s1).1 ∧ Agr (an, a, bb) (stepS onR s1).2))
  case first =>
    cases an with
    | true =>
      go_wp2_with fail
      go_meet
      case rel =>
        have h9 := step_ret (true, (0 : Nat), (0 : Int)) t2
        have HO2 : stepS onR s1 = stepS (fun r => .inr ((true, 0, 0), r)) t2 := HO.out
        exact ⟨0, 0, t2, HS.out, by rw [HO2, h9.1], by rw [HO2]; exact h9.2⟩
    | false =>
      have hk := prefix_rd HS.out.r
      obtain ⟨p, hp⟩ : ∃ p, p = (stepS pfxR t2).2.getD (0, 0) := ⟨_, rfl⟩
      have hpa : Agr p (stepS pfxR t2).2 := by rw [hp]; exact Agr.getD _ _
      rw [← hp] at hk
      have HO2 : stepS onR s1 = stepS (fun r => andR (pfxR r) fun p r => .inr ((false, p.1, p.2), r)) t2 := HO.out
      have HO3 : Hid _ := HO2.trans (step_and (f := pfxR) hpa)
      clear hp hpa HO2
      obtain ⟨a, bb⟩ := p
      unfold pfV2 at hk
      go_wp2_with fail
      refine hk.mono ?_
      rintro e Z ⟨rfl, hZ, qZ⟩
      replace HS : Hid _ := HS.out.call hZ qZ
      obtain ⟨c1, f1⟩ := HS.out.cell 1 rfl
      obtain ⟨c2, f2⟩ := HS.out.cell 2 rfl
      clear hk hZ qZ
      go_wp2_with fail
      go_meet
      case rel =>
        have h9 := step_ret (false, a, bb) (stepS pfxR t2).1
        have HO4 : stepS onR s1 = stepS (fun r => .inr ((false, a, bb), r)) (stepS pfxR t2).1 := HO3.out
        exact ⟨a, bb, _, (HS.out.put 1 (.int .u32 a)).put 2 (.int .i64 bb), by rw [HO4, h9.1], by rw [HO4]; exact h9.2⟩
  case rest =>
    obtain ⟨a, bb, s2, HC⟩ := hcut
    have HR2 := HR1.out.trans (step_and (f := onR) HC.out.2.2)
    rw [← HC.out.2.1] at HR2
    replace HR2 : Hid _ := HR2
    clear HS
    have HS : Hid _ := HC.out.1
    clear HC HR1 HO
    have Z2 := wc
    have hk := tags_rd HS.out.r [119, 105, 116, 104] (by decide)
    go_wp2_with fail
    refine hk.mono ?_
    rintro e Z3 ⟨wi, rfl, hp, hZ, qZ⟩
    have HR3 : Hid _ := HR2.out.trans (step_and (f := optT [119, 105, 116, 104]) hp)
    obtain ⟨s3, hs⟩ : ∃ z, z = (stepS (optT [119, 105, 116, 104]) s2).1 := ⟨_, rfl⟩
    rw [← hs] at HR3 hZ
    replace HS : Hid _ := HS.out.call hZ qZ
    clear hk hZ qZ hs hp HR2
    obtain ⟨c0, f0⟩ := HS.out.cell 3 rfl
    replace HS : Hid (Sit w B b g cap ts br bc 65 #[.bool false, .int .u32 0, .int .i64 0, .int .u8 0, .int .u8 0, .bool false, .int .u8 0, .int .u8 0, .int .i64 0, .int .i64 0] #[.bool an, .int .u32 a, .int .i64 bb, .int .u8 wi, .int .u8 0, .bool false, .int .u8 0, .int .u8 0, .int .i64 0, .int .i64 0] s3 (Z3.setCell ⟨bc, 3, none⟩ (.int .u8 wi))) := HS.out.put 3 (.int .u8 wi)
    have hk := tags_rd HS.out.r [111, 117, 116] (by decide)
    go_wp2_with fail
    refine hk.mono ?_
    rintro e Z4 ⟨ou, rfl, hp, hZ, qZ⟩
    have HR4 : Hid _ := HR3.out.trans (step_and (f := optT [111, 117, 116]) hp)
    obtain ⟨s4, hs⟩ : ∃ z, z = (stepS (optT [111, 117, 116]) s3).1 := ⟨_, rfl⟩
    rw [← hs] at HR4 hZ
    replace HS : Hid _ := HS.out.call hZ qZ
    clear hk hZ qZ hs hp HR3
    obtain ⟨c0, f0⟩ := HS.out.cell 4 rfl
    replace HS : Hid (Sit w B b g cap ts br bc 65 #[.bool false, .int .u32 0, .int .i64 0, .int .u8 0, .int .u8 0, .bool false, .int .u8 0, .int .u8 0, .int .i64 0, .int .i64 0] #[.bool an, .int .u32 a, .int .i64 bb, .int .u8 wi, .int .u8 ou, .bool false, .int .u8 0, .int .u8 0, .int .i64 0, .int .i64 0] s4 (Z4.setCell ⟨bc, 4, none⟩ (.int .u8 ou))) := HS.out.put 4 (.int .u8 ou)
    obtain ⟨p4, hp⟩ := agr_any 0 (stepS (wordR [116, 104, 101, 110]) s4).2
    have HR5 : Hid _ := HR4.out.trans (step_and (f := wordR [116, 104, 101, 110]) hp)
    have hk := take_any HS.out.r [116, 104, 101, 110] (by decide)
    obtain ⟨s5, hs⟩ : ∃ z, z = (stepS (wordR [116, 104, 101, 110]) s4).1 := ⟨_, rfl⟩
    rw [← hs] at HR5 hk
    clear hs hp HR4
    go_wp2_with fail
    refine hk.mono ?_
    rintro e Z5 ⟨rfl, hZ, qZ⟩
    replace HS : Hid _ := HS.out.call hZ qZ
    clear hk hZ qZ
    have hk := took_any HS.out.r [100, 114, 111, 112] (by decide)
    obtain ⟨dr, ha⟩ : ∃ a, a = (stepS (optB [100, 114, 111, 112]) s5).2.getD false := ⟨_, rfl⟩
    have hp : Agr dr (stepS (optB [100, 114, 111, 112]) s5).2 := by rw [ha]; exact Agr.getD _ _
    rw [← ha] at hk
    clear ha
    have HR6 : Hid _ := HR5.out.trans (step_and (f := optB [100, 114, 111, 112]) hp)
    obtain ⟨s6, hs⟩ : ∃ z, z = (stepS (optB [100, 114, 111, 112]) s5).1 := ⟨_, rfl⟩
    rw [← hs] at HR6 hk
    clear hs hp HR5
    go_wp2_with fail
    refine hk.mono ?_
    rintro e Z6 ⟨rfl, hZ, qZ⟩
    replace HS : Hid _ := HS.out.call hZ qZ
    clear hk hZ qZ
    obtain ⟨c0, f0⟩ := HS.out.cell 5 rfl
    replace HS : Hid (Sit w B b g cap ts br bc 65 #[.bool false, .int .u32 0, .int .i64 0, .int .u8 0, .int .u8 0, .bool false, .int .u8 0, .int .u8 0, .int .i64 0, .int .i64 0] #[.bool an, .int .u32 a, .int .i64 bb, .int .u8 wi, .int .u8 ou, .bool dr, .int .u8 0, .int .u8 0, .int .i64 0, .int .i64 0] s6 (Z6.setCell ⟨bc, 5, none⟩ (.bool dr))) := HS.out.put 5 (.bool dr)
    have hk := tags_rd HS.out.r [115, 101, 116] (by decide)
    go_wp2_with fail
    refine hk.mono ?_
    rintro e Z7 ⟨se, rfl, hp, hZ, qZ⟩
    have HR7 : Hid _ := HR6.out.trans (step_and (f := optT [115, 101, 116]) hp)
    obtain ⟨s7, hs⟩ : ∃ z, z = (stepS (optT [115, 101, 116]) s6).1 := ⟨_, rfl⟩
    rw [← hs] at HR7 hZ
    replace HS : Hid _ := HS.out.call hZ qZ
    clear hk hZ qZ hs hp HR6
    obtain ⟨c0, f0⟩ := HS.out.cell 6 rfl
    replace HS : Hid (Sit w B b g cap ts br bc 65 #[.bool false, .int .u32 0, .int .i64 0, .int .u8 0, .int .u8 0, .bool false, .int .u8 0, .int .u8 0, .int .i64 0, .int .i64 0] #[.bool an, .int .u32 a, .int .i64 bb, .int .u8 wi, .int .u8 ou, .bool dr, .int .u8 se, .int .u8 0, .int .i64 0, .int .i64 0] s7 (Z7.setCell ⟨bc, 6, none⟩ (.int .u8 se))) := HS.out.put 6 (.int .u8 se)
    have hk := tags_rd HS.out.r [99, 108, 101, 97, 114] (by decide)
    go_wp2_with fail
    refine hk.mono ?_
    rintro e Z8 ⟨cl, rfl, hp, hZ, qZ⟩
    have HR8 : Hid _ := HR7.out.trans (step_and (f := optT [99, 108, 101, 97, 114]) hp)
    obtain ⟨s8, hs⟩ : ∃ z, z = (stepS (optT [99, 108, 101, 97, 114]) s7).1 := ⟨_, rfl⟩
    rw [← hs] at HR8 hZ
    replace HS : Hid _ := HS.out.call hZ qZ
    clear hk hZ qZ hs hp HR7
    obtain ⟨c0, f0⟩ := HS.out.cell 7 rfl
    replace HS : Hid (Sit w B b g cap ts br bc 65 #[.bool false, .int .u32 0, .int .i64 0, .int .u8 0, .int .u8 0, .bool false, .int .u8 0, .int .u8 0, .int .i64 0, .int .i64 0] #[.bool an, .int .u32 a, .int .i64 bb, .int .u8 wi, .int .u8 ou, .bool dr, .int .u8 se, .int .u8 cl, .int .i64 0, .int .i64 0] s8 (Z8.setCell ⟨bc, 7, none⟩ (.int .u8 cl))) := HS.out.put 7 (.int .u8 cl)
    have hk := numB_rd HS.out.r [109, 111, 114, 101] (by decide) 15
    obtain ⟨mo, ha⟩ : ∃ a, a = (stepS (optN [109, 111, 114, 101] 15) s8).2.getD 0 := ⟨_, rfl⟩
    have hp : Agr mo (stepS (optN [109, 111, 114, 101] 15) s8).2 := by rw [ha]; exact Agr.getD _ _
    rw [← ha] at hk
    clear ha
    have HR9 : Hid _ := HR8.out.trans (step_and (f := optN [109, 111, 114, 101] 15) hp)
    obtain ⟨s9, hs⟩ : ∃ z, z = (stepS (optN [109, 111, 114, 101] 15) s8).1 := ⟨_, rfl⟩
    rw [← hs] at HR9 hk
    clear hs hp HR8
    go_wp2_with fail
    refine hk.mono ?_
    rintro e Z9 ⟨rfl, hZ, qZ⟩
    replace HS : Hid _ := HS.out.call hZ qZ
    clear hk hZ qZ
    obtain ⟨c0, f0⟩ := HS.out.cell 8 rfl
    replace HS : Hid (Sit w B b g cap ts br bc 65 #[.bool false, .int .u32 0, .int .i64 0, .int .u8 0, .int .u8 0, .bool false, .int .u8 0, .int .u8 0, .int .i64 0, .int .i64 0] #[.bool an, .int .u32 a, .int .i64 bb, .int .u8 wi, .int .u8 ou, .bool dr, .int .u8 se, .int .u8 cl, .int .i64 mo, .int .i64 0] s9 (Z9.setCell ⟨bc, 8, none⟩ (.int .i64 mo))) := HS.out.put 8 (.int .i64 mo)
    have hk := numB_rd HS.out.r [112, 114, 101, 102] (by decide) 255
    obtain ⟨pr, ha⟩ : ∃ a, a = (stepS (optN [112, 114, 101, 102] 255) s9).2.getD 0 := ⟨_, rfl⟩
    have hp : Agr pr (stepS (optN [112, 114, 101, 102] 255) s9).2 := by rw [ha]; exact Agr.getD _ _
    rw [← ha] at hk
    clear ha
    have HR10 : Hid _ := HR9.out.trans (step_and (f := optN [112, 114, 101, 102] 255) hp)
    obtain ⟨s10, hs⟩ : ∃ z, z = (stepS (optN [112, 114, 101, 102] 255) s9).1 := ⟨_, rfl⟩
    rw [← hs] at HR10 hk
    clear hs hp HR9
    go_wp2_with fail
    refine hk.mono ?_
    rintro e Z10 ⟨rfl, hZ, qZ⟩
    replace HS : Hid _ := HS.out.call hZ qZ
    clear hk hZ qZ
    obtain ⟨c0, f0⟩ := HS.out.cell 9 rfl
    replace HS : Hid (Sit w B b g cap ts br bc 65 #[.bool false, .int .u32 0, .int .i64 0, .int .u8 0, .int .u8 0, .bool false, .int .u8 0, .int .u8 0, .int .i64 0, .int .i64 0] #[.bool an, .int .u32 a, .int .i64 bb, .int .u8 wi, .int .u8 ou, .bool dr, .int .u8 se, .int .u8 cl, .int .i64 mo, .int .i64 pr] s10 (Z10.setCell ⟨bc, 9, none⟩ (.int .i64 pr))) := HS.out.put 9 (.int .i64 pr)
    obtain ⟨p10, hp⟩ := agr_any 0 (stepS (wordR [59]) s10).2
    have HR11 : Hid _ := HR10.out.trans (step_and (f := wordR [59]) hp)
    have hk := take_any HS.out.r [59] (by decide)
    obtain ⟨s11, hs⟩ : ∃ z, z = (stepS (wordR [59]) s10).1 := ⟨_, rfl⟩
    rw [← hs] at HR11 hk
    clear hs hp HR10
    go_wp2_with fail
    refine hk.mono ?_
    rintro e Z11 ⟨rfl, hZ, qZ⟩
    replace HS : Hid _ := HS.out.call hZ qZ
    clear hk hZ qZ
    obtain ⟨C0, C1, C2, C3, C4, C5, C6, C7, C8, C9⟩ := cells_ten HS.out.c
    obtain ⟨D0, D1, D2, D3, D4, D5, D6, D7, D8, D9⟩ := cells_ten HS.out.z
    have F0 := free_at HS.out.z 0
    have F1 := free_at HS.out.z 1
    have F2 := free_at HS.out.z 2
    have F3 := free_at HS.out.z 3
    have F4 := free_at HS.out.z 4
    have F5 := free_at HS.out.z 5
    have F6 := free_at HS.out.z 6
    have F7 := free_at HS.out.z 7
    have F8 := free_at HS.out.z 8
    have F9 := free_at HS.out.z 9
    go_wp2_with fail
    obtain ⟨xs, hxs⟩ : ∃ xs : List Value, xs = [.bool an, .int .u32 a, .int .i64 bb, .int .u8 wi, .int .u8 ou, .bool dr, .int .u8 se, .int .u8 cl, .int .i64 mo, .int .i64 pr] := ⟨_, rfl⟩
    obtain ⟨X, hX⟩ : ∃ X, X = putL Z11 br 0 xs := ⟨_, rfl⟩
    have hf := HS.out.fin xs (by rw [hxs]; rfl)
    rw [← hX] at hf
    rw [hxs] at hX hf
    show bodyPost _ _ _ _ _ (putL Z11 br 0 [.bool an, .int .u32 a, .int .i64 bb, .int .u8 wi, .int .u8 ou, .bool dr, .int .u8 se, .int .u8 cl, .int .i64 mo, .int .i64 pr])
    rw [← hX]
    clear hX hxs C0 C1 C2 C3 C4 C5 C6 C7 C8 C9 D0 D1 D2 D3 D4 D5 D6 D7 D8 D9 F0 F1 F2 F3 F4 F5 F6 F7 F8 F9
    obtain ⟨W0, W1, W2, W3, W4, W5, W6, W7, W8, W9⟩ := cells_ten hf.1
    have hret := step_ret (⟨an, a, bb, wi, ou, dr, se, cl, mo, pr⟩ : ClD) s11
    have HE : R = stepS (fun r => .inr ((⟨an, a, bb, wi, ou, dr, se, cl, mo, pr⟩ : ClD), r)) s11 := HR11.out
    refine bodyPost_ret (v := clV2 ⟨an, a, bb, wi, ou, dr, se, cl, mo, pr⟩) (by unfold clV2; simp [results, Tryz.results63, go_sem, W0, W1, W2, W3, W4, W5, W6, W7, W8, W9]) rfl ?_
    exact ⟨_, rfl, by rw [HE]; exact hret.2, by rw [HE, hret.1]; exact hf.2.1, hf.2.2⟩
end
end Go.Proofs.YtejhgifadohbiaaGreatDoor
namespace Go.Proofs.YtejhgifadohbiaaGreatDoor
open Go.RowKit Go.Lib

theorem cells_four2 {w : World} {b t : Nat} {x0 x1 x2 x3 : Value} (h : w.heap[b]? = some (.cells #[x0, x1, x2, x3] t (0, 0))) : w.cell? ⟨b, 0, none⟩ = some x0 ∧ w.cell? ⟨b, 1, none⟩ = some x1 ∧ w.cell? ⟨b, 2, none⟩ = some x2 ∧ w.cell? ⟨b, 3, none⟩ = some x3 := by
  refine ⟨?_, ?_, ?_, ?_⟩ <;> simp [World.cell?, h]
def lkV2 (l : LkD) : Value := .agg #[.string ⟨l.peer.toArray⟩, .int .i64 l.cost, .string ⟨l.imp.toArray⟩, .string ⟨l.exp.toArray⟩, .int .i64 l.pl]
def stV2 (x : StD) : Value := .agg #[.int .u32 x.a, .int .i64 x.b, .string ⟨x.via.toArray⟩, .int .i64 x.pl]
theorem Sit.new {w Z V : World} {B b g cap br bc T : Nat} {ts : List Tk} {zs cs : Array Value} {s : Sta} (hr : RdS B b g cap ts s Z) (x : BelX b w Z) (z : Z.heap[br]? = some (.cells zs T (0, 0))) (hV : V = Z.alloc (.cells cs T)) (hbc : bc = Z.heap.size)
    (ho : b < w.heap.size ∧ g < w.heap.size ∧ w.heap.size ≤ br) : Sit w B b g cap ts br bc T zs cs s V := by
  obtain ⟨q, r, _⟩ := box_at Z _ hV hbc
  have h1 := (Array.getElem?_eq_some_iff.1 z).1
  have h2 := x.size
  exact ⟨hr.below q, x.below q, pf_block q z, r, by omega, by omega, by omega, by omega, by omega, by omega, by omega⟩
section
variable {B b g cap : Nat} {ts : List Tk} {w : World} {s : Sta}
theorem here_rd (h : RdS B b g cap ts s w) : ∃ t : Tk, (∀ t' r, s = .inl (t' :: r) → t.pl = t'.pl) ∧ Calls Tryz.prog 59 #[.pointer (some ⟨b, 0, none⟩)] w fun e w' => e = .returned (tkV t) ∧ Below w.heap.size w w' := by
  obtain ⟨n, t, ev, ht, hr, hh⟩ := h.ex
  refine ⟨t, fun t' r hs => ?_, here_any hr t ht⟩
  rcases hh with ⟨r', hs', _⟩ | ⟨e, hs', _⟩
  · rw [hs] at hs'
    injection hs' with hs'
    injection hs' with e1 _
    rw [e1]
  · rw [hs] at hs'
    cases hs'
theorem nbr_rd (h : RdS B b g cap ts s w) (most : Nat) :
    Calls Tryz.prog 81 #[.pointer (some ⟨b, 0, none⟩), .int .i64 1, .int .i64 most] w fun e w' => e = .returned (.int .i64 ((stepS (nbrR most) s).2.getD 0)) ∧ RdS B b g cap ts (stepS (nbrR most) s).1 w' ∧ BelX b w w' := by
  have e1 : stepS (nbrR most) s = stepS (fun r => .inr ((((stepS (numR 1 most) s).2.getD 0 : Nat) : Int), r)) (stepS (numR 1 most) s).1 :=
    (step_congr fun r _ => nbr_num most r).trans (step_and (f := numR 1 most) (g := fun n r => (.inr ((n : Int), r) : Res Int)) (Agr.getD 0 _))
  refine (number_rd h 1 most).mono ?_
  rintro e w' ⟨he, h1, h2⟩
  refine ⟨?_, ?_, h2⟩
  · rw [e1, getD_ret (f := numR 1 most) (φ := fun n : Nat => (n : Int)) (d := 0) (d' := 0) rfl]
    exact he
  · rw [e1, (step_ret _ _).1]
    exact h1
set_option maxHeartbeats 8000000 in
set_option maxRecDepth 20000 in
theorem net_rd (h : RdS B b g cap ts s w) :
    Calls Tryz.prog 64 #[.pointer (some ⟨b, 0, none⟩)] w fun e w' => ∃ c : Nat × Int, e = .returned (pfV2 c) ∧ Agr c (stepS netR s).2 ∧ RdS B b g cap ts (stepS netR s).1 w' ∧ BelX b w w' := by
  obtain ⟨R, hR⟩ : ∃ R, R = stepS netR s := ⟨_, rfl⟩
  rw [← hR]
  have HR0 : Hid (R = stepS netR s) := hR
  clear hR
  obtain ⟨br, hbr⟩ : ∃ b, b = w.heap.size := ⟨_, rfl⟩
  obtain ⟨W, hW⟩ : ∃ W, W = w.alloc (.cells #[.int .u32 0, .int .i64 0] 63) := ⟨_, rfl⟩
  obtain ⟨q1, r1, _⟩ := box_at w _ hW hbr
  have HO : Hid (b < w.heap.size ∧ g < w.heap.size ∧ w.heap.size ≤ br) := ⟨h.old.2, h.old.1, by omega⟩
  have hw := h.below q1
  have HB : Hid (BelX b w W ∧ W.heap[br]? = some (.cells #[.int .u32 0, .int .i64 0] 63 (0, 0))) := ⟨BelX.of b q1, r1⟩
  go_enter Tryz.func64, Tryz.ntmps64
  go_upto_region 1 with fail
  rw [← hbr, ← hW]
  clear hW hbr q1 r1
  obtain ⟨p0, hp⟩ := agr_any 0 (stepS (wordR [110, 101, 116]) s).2
  have HR1 : Hid _ := HR0.out.trans (step_and (f := wordR [110, 101, 116]) hp)
  have hk := take_any hw [110, 101, 116] (by decide)
  obtain ⟨s1, hs⟩ : ∃ z, z = (stepS (wordR [110, 101, 116]) s).1 := ⟨_, rfl⟩
  rw [← hs] at HR1 hk
  clear hs hp HR0 hw
  go_wp2_with fail
  refine hk.mono ?_
  rintro e Z1 ⟨rfl, hZ, qZ⟩
  clear hk
  have hk := prefix_rd hZ
  obtain ⟨p, ha⟩ : ∃ a, a = (stepS pfxR s1).2.getD (0, 0) := ⟨_, rfl⟩
  have hp : Agr p (stepS pfxR s1).2 := by rw [ha]; exact Agr.getD _ _
  rw [← ha] at hk
  clear ha
  have HR2 : Hid _ := HR1.out.trans (step_and (f := pfxR) hp)
  obtain ⟨s2, hs⟩ : ∃ z, z = (stepS pfxR s1).1 := ⟨_, rfl⟩
  rw [← hs] at HR2 hk
  clear hs hp HR1
  obtain ⟨a, bb⟩ := p
  unfold pfV2 at hk
  go_wp2_with fail
  refine hk.mono ?_
  rintro e U ⟨rfl, hU, qU⟩
  go_upto_region 3 with fail
  obtain ⟨bc, hbc⟩ : ∃ b, b = U.heap.size := ⟨_, rfl⟩
  rw [← hbc]
  obtain ⟨V, hV⟩ : ∃ V, V = U.alloc (.cells #[.int .u32 a, .int .i64 bb] 63) := ⟨_, rfl⟩
  rw [← hV]
  have HS : Hid (Sit w B b g cap ts br bc 63 #[.int .u32 0, .int .i64 0] #[.int .u32 a, .int .i64 bb] s2 V) := Sit.new hU ((HB.out.1.trans qZ).trans qU) (qU.get (qZ.get HB.out.2 (by have := HO.out; omega)) (by have := HO.out; omega)) hV hbc HO.out
  clear hk hZ qZ hU qU hV hbc
  obtain ⟨p2, hp⟩ := agr_any 0 (stepS (wordR [59]) s2).2
  have HR3 : Hid _ := HR2.out.trans (step_and (f := wordR [59]) hp)
  have hk := take_any HS.out.r [59] (by decide)
  obtain ⟨s3, hs⟩ : ∃ z, z = (stepS (wordR [59]) s2).1 := ⟨_, rfl⟩
  rw [← hs] at HR3 hk
  clear hs hp HR2
  go_wp2_with fail
  refine hk.mono ?_
  rintro e Z3 ⟨rfl, hZ, qZ⟩
  replace HS : Hid _ := HS.out.call hZ qZ
  clear hk hZ qZ
  obtain ⟨C0, C1⟩ := cells_two HS.out.c
  obtain ⟨D0, D1⟩ := cells_two HS.out.z
  have F0 := free_at HS.out.z 0
  have F1 := free_at HS.out.z 1
  go_wp2_with fail
  obtain ⟨xs, hxs⟩ : ∃ xs : List Value, xs = [.int .u32 a, .int .i64 bb] := ⟨_, rfl⟩
  obtain ⟨X, hX⟩ : ∃ X, X = putL Z3 br 0 xs := ⟨_, rfl⟩
  have hf := HS.out.fin xs (by rw [hxs]; rfl)
  rw [← hX] at hf
  rw [hxs] at hX hf
  show bodyPost _ _ _ _ _ (putL Z3 br 0 [.int .u32 a, .int .i64 bb])
  rw [← hX]
  clear hX hxs C0 D0 F0 C1 D1 F1
  obtain ⟨W0, W1⟩ := cells_two hf.1
  have hret := step_ret ((a, bb) : Nat × Int) s3
  have HE : R = stepS (fun r => .inr (((a, bb) : Nat × Int), r)) s3 := HR3.out
  refine bodyPost_ret (v := .agg #[.int .u32 a, .int .i64 bb]) (by simp [results, Tryz.results64, go_sem, W0, W1]) rfl ?_
  exact ⟨_, rfl, by rw [HE]; exact hret.2, by rw [HE, hret.1]; exact hf.2.1, hf.2.2⟩
set_option maxHeartbeats 8000000 in
set_option maxRecDepth 20000 in
theorem link_rd (h : RdS B b g cap ts s w) :
    Calls Tryz.prog 65 #[.pointer (some ⟨b, 0, none⟩)] w fun e w' => ∃ c : LkD, e = .returned (lkV2 c) ∧ Agr c (stepS lnkR s).2 ∧ RdS B b g cap ts (stepS lnkR s).1 w' ∧ BelX b w w' := by
  obtain ⟨R, hR⟩ : ∃ R, R = stepS lnkR s := ⟨_, rfl⟩
  rw [← hR]
  have HR0 : Hid (R = stepS lnkR s) := hR
  clear hR
  obtain ⟨br, hbr⟩ : ∃ b, b = w.heap.size := ⟨_, rfl⟩
  obtain ⟨W, hW⟩ : ∃ W, W = w.alloc (.cells #[.string ⟨#[]⟩, .int .i64 0, .string ⟨#[]⟩, .string ⟨#[]⟩, .int .i64 0] 70) := ⟨_, rfl⟩
  obtain ⟨q1, r1, _⟩ := box_at w _ hW hbr
  have HO : Hid (b < w.heap.size ∧ g < w.heap.size ∧ w.heap.size ≤ br) := ⟨h.old.2, h.old.1, by omega⟩
  have hw := h.below q1
  have HB : Hid (BelX b w W ∧ W.heap[br]? = some (.cells #[.string ⟨#[]⟩, .int .i64 0, .string ⟨#[]⟩, .string ⟨#[]⟩, .int .i64 0] 70 (0, 0))) := ⟨BelX.of b q1, r1⟩
  go_enter Tryz.func65, Tryz.ntmps65
  go_upto_region 1 with fail
  rw [← hbr, ← hW]
  clear hW hbr q1 r1
  obtain ⟨t, htp, hk⟩ := here_rd hw
  unfold tkV at hk
  have f4 := tkf4 t.kind t.val t.a t.b t.pl ⟨t.text.toArray⟩
  go_wp2_with fail
  refine hk.mono ?_
  rintro e U ⟨rfl, qU⟩
  go_upto_region 2 with fail
  obtain ⟨bc, hbc⟩ : ∃ b, b = U.heap.size := ⟨_, rfl⟩
  rw [← hbc]
  obtain ⟨V, hV⟩ : ∃ V, V = U.alloc (.cells #[.string ⟨#[]⟩, .int .i64 0, .string ⟨#[]⟩, .string ⟨#[]⟩, .int .i64 t.pl] 70) := ⟨_, rfl⟩
  rw [← hV]
  have HS : Hid (Sit w B b g cap ts br bc 70 #[.string ⟨#[]⟩, .int .i64 0, .string ⟨#[]⟩, .string ⟨#[]⟩, .int .i64 0] #[.string ⟨#[]⟩, .int .i64 0, .string ⟨#[]⟩, .string ⟨#[]⟩, .int .i64 t.pl] s V) := Sit.new (hw.below qU) (HB.out.1.below qU) (pf_block qU HB.out.2) hV hbc HO.out
  clear hk hw qU hV hbc f4
  have hp := word_pl (w := [108, 105, 110, 107]) htp
  have HR1 : Hid _ := HR0.out.trans (step_and (f := wordR [108, 105, 110, 107]) hp)
  have hk := take_any HS.out.r [108, 105, 110, 107] (by decide)
  obtain ⟨s1, hs⟩ : ∃ z, z = (stepS (wordR [108, 105, 110, 107]) s).1 := ⟨_, rfl⟩
  rw [← hs] at HR1 hk
  clear hs hp HR0 htp
  go_wp2_with fail
  refine hk.mono ?_
  rintro e Z1 ⟨rfl, hZ, qZ⟩
  replace HS : Hid _ := HS.out.call hZ qZ
  clear hk hZ qZ
  have hk := name_rd HS.out.r
  obtain ⟨nm, ha⟩ : ∃ a, a = (stepS (nameR) s1).2.getD [] := ⟨_, rfl⟩
  have hp : Agr nm (stepS (nameR) s1).2 := by rw [ha]; exact Agr.getD _ _
  rw [← ha] at hk
  clear ha
  have HR2 : Hid _ := HR1.out.trans (step_and (f := nameR) hp)
  obtain ⟨s2, hs⟩ : ∃ z, z = (stepS (nameR) s1).1 := ⟨_, rfl⟩
  rw [← hs] at HR2 hk
  clear hs hp HR1
  go_wp2_with fail
  refine hk.mono ?_
  rintro e Z2 ⟨rfl, hZ, qZ⟩
  replace HS : Hid _ := HS.out.call hZ qZ
  clear hk hZ qZ
  obtain ⟨c0, f0⟩ := HS.out.cell 0 rfl
  replace HS : Hid (Sit w B b g cap ts br bc 70 #[.string ⟨#[]⟩, .int .i64 0, .string ⟨#[]⟩, .string ⟨#[]⟩, .int .i64 0] #[.string ⟨nm.toArray⟩, .int .i64 0, .string ⟨#[]⟩, .string ⟨#[]⟩, .int .i64 t.pl] s2 (Z2.setCell ⟨bc, 0, none⟩ (.string ⟨nm.toArray⟩))) := HS.out.put 0 (.string ⟨nm.toArray⟩)
  obtain ⟨p2, hp⟩ := agr_any 0 (stepS (wordR [99, 111, 115, 116]) s2).2
  have HR3 : Hid _ := HR2.out.trans (step_and (f := wordR [99, 111, 115, 116]) hp)
  have hk := take_any HS.out.r [99, 111, 115, 116] (by decide)
  obtain ⟨s3, hs⟩ : ∃ z, z = (stepS (wordR [99, 111, 115, 116]) s2).1 := ⟨_, rfl⟩
  rw [← hs] at HR3 hk
  clear hs hp HR2
  go_wp2_with fail
  refine hk.mono ?_
  rintro e Z3 ⟨rfl, hZ, qZ⟩
  replace HS : Hid _ := HS.out.call hZ qZ
  clear hk hZ qZ
  have hk := nbr_rd HS.out.r 1000
  obtain ⟨co, ha⟩ : ∃ a, a = (stepS (nbrR 1000) s3).2.getD 0 := ⟨_, rfl⟩
  have hp : Agr co (stepS (nbrR 1000) s3).2 := by rw [ha]; exact Agr.getD _ _
  rw [← ha] at hk
  clear ha
  have HR4 : Hid _ := HR3.out.trans (step_and (f := nbrR 1000) hp)
  obtain ⟨s4, hs⟩ : ∃ z, z = (stepS (nbrR 1000) s3).1 := ⟨_, rfl⟩
  rw [← hs] at HR4 hk
  clear hs hp HR3
  go_wp2_with fail
  refine hk.mono ?_
  rintro e Z4 ⟨rfl, hZ, qZ⟩
  replace HS : Hid _ := HS.out.call hZ qZ
  clear hk hZ qZ
  obtain ⟨c0, f0⟩ := HS.out.cell 1 rfl
  replace HS : Hid (Sit w B b g cap ts br bc 70 #[.string ⟨#[]⟩, .int .i64 0, .string ⟨#[]⟩, .string ⟨#[]⟩, .int .i64 0] #[.string ⟨nm.toArray⟩, .int .i64 co, .string ⟨#[]⟩, .string ⟨#[]⟩, .int .i64 t.pl] s4 (Z4.setCell ⟨bc, 1, none⟩ (.int .i64 co))) := HS.out.put 1 (.int .i64 co)
  have hk := nameB_rd HS.out.r [105, 109, 112, 111, 114, 116] (by decide)
  obtain ⟨im, ha⟩ : ∃ a, a = (stepS (optS [105, 109, 112, 111, 114, 116]) s4).2.getD [] := ⟨_, rfl⟩
  have hp : Agr im (stepS (optS [105, 109, 112, 111, 114, 116]) s4).2 := by rw [ha]; exact Agr.getD _ _
  rw [← ha] at hk
  clear ha
  have HR5 : Hid _ := HR4.out.trans (step_and (f := optS [105, 109, 112, 111, 114, 116]) hp)
  obtain ⟨s5, hs⟩ : ∃ z, z = (stepS (optS [105, 109, 112, 111, 114, 116]) s4).1 := ⟨_, rfl⟩
  rw [← hs] at HR5 hk
  clear hs hp HR4
  go_wp2_with fail
  refine hk.mono ?_
  rintro e Z5 ⟨rfl, hZ, qZ⟩
  replace HS : Hid _ := HS.out.call hZ qZ
  clear hk hZ qZ
  obtain ⟨c0, f0⟩ := HS.out.cell 2 rfl
  replace HS : Hid (Sit w B b g cap ts br bc 70 #[.string ⟨#[]⟩, .int .i64 0, .string ⟨#[]⟩, .string ⟨#[]⟩, .int .i64 0] #[.string ⟨nm.toArray⟩, .int .i64 co, .string ⟨im.toArray⟩, .string ⟨#[]⟩, .int .i64 t.pl] s5 (Z5.setCell ⟨bc, 2, none⟩ (.string ⟨im.toArray⟩))) := HS.out.put 2 (.string ⟨im.toArray⟩)
  have hk := nameB_rd HS.out.r [101, 120, 112, 111, 114, 116] (by decide)
  obtain ⟨ex, ha⟩ : ∃ a, a = (stepS (optS [101, 120, 112, 111, 114, 116]) s5).2.getD [] := ⟨_, rfl⟩
  have hp : Agr ex (stepS (optS [101, 120, 112, 111, 114, 116]) s5).2 := by rw [ha]; exact Agr.getD _ _
  rw [← ha] at hk
  clear ha
  have HR6 : Hid _ := HR5.out.trans (step_and (f := optS [101, 120, 112, 111, 114, 116]) hp)
  obtain ⟨s6, hs⟩ : ∃ z, z = (stepS (optS [101, 120, 112, 111, 114, 116]) s5).1 := ⟨_, rfl⟩
  rw [← hs] at HR6 hk
  clear hs hp HR5
  go_wp2_with fail
  refine hk.mono ?_
  rintro e Z6 ⟨rfl, hZ, qZ⟩
  replace HS : Hid _ := HS.out.call hZ qZ
  clear hk hZ qZ
  obtain ⟨c0, f0⟩ := HS.out.cell 3 rfl
  replace HS : Hid (Sit w B b g cap ts br bc 70 #[.string ⟨#[]⟩, .int .i64 0, .string ⟨#[]⟩, .string ⟨#[]⟩, .int .i64 0] #[.string ⟨nm.toArray⟩, .int .i64 co, .string ⟨im.toArray⟩, .string ⟨ex.toArray⟩, .int .i64 t.pl] s6 (Z6.setCell ⟨bc, 3, none⟩ (.string ⟨ex.toArray⟩))) := HS.out.put 3 (.string ⟨ex.toArray⟩)
  obtain ⟨p6, hp⟩ := agr_any 0 (stepS (wordR [59]) s6).2
  have HR7 : Hid _ := HR6.out.trans (step_and (f := wordR [59]) hp)
  have hk := take_any HS.out.r [59] (by decide)
  obtain ⟨s7, hs⟩ : ∃ z, z = (stepS (wordR [59]) s6).1 := ⟨_, rfl⟩
  rw [← hs] at HR7 hk
  clear hs hp HR6
  go_wp2_with fail
  refine hk.mono ?_
  rintro e Z7 ⟨rfl, hZ, qZ⟩
  replace HS : Hid _ := HS.out.call hZ qZ
  clear hk hZ qZ
  obtain ⟨C0, C1, C2, C3, C4⟩ := cells_five HS.out.c
  obtain ⟨D0, D1, D2, D3, D4⟩ := cells_five HS.out.z
  have F0 := free_at HS.out.z 0
  have F1 := free_at HS.out.z 1
  have F2 := free_at HS.out.z 2
  have F3 := free_at HS.out.z 3
  have F4 := free_at HS.out.z 4
  go_wp2_with fail
  obtain ⟨xs, hxs⟩ : ∃ xs : List Value, xs = [.string ⟨nm.toArray⟩, .int .i64 co, .string ⟨im.toArray⟩, .string ⟨ex.toArray⟩, .int .i64 t.pl] := ⟨_, rfl⟩
  obtain ⟨X, hX⟩ : ∃ X, X = putL Z7 br 0 xs := ⟨_, rfl⟩
  have hf := HS.out.fin xs (by rw [hxs]; rfl)
  rw [← hX] at hf
  rw [hxs] at hX hf
  show bodyPost _ _ _ _ _ (putL Z7 br 0 [.string ⟨nm.toArray⟩, .int .i64 co, .string ⟨im.toArray⟩, .string ⟨ex.toArray⟩, .int .i64 t.pl])
  rw [← hX]
  clear hX hxs C0 D0 F0 C1 D1 F1 C2 D2 F2 C3 D3 F3 C4 D4 F4
  obtain ⟨W0, W1, W2, W3, W4⟩ := cells_five hf.1
  have hret := step_ret ((⟨nm, co, im, ex, (t.pl : Int)⟩ : LkD)) s7
  have HE : R = stepS (fun r => .inr (((⟨nm, co, im, ex, (t.pl : Int)⟩ : LkD)), r)) s7 := HR7.out
  refine bodyPost_ret (v := .agg #[.string ⟨nm.toArray⟩, .int .i64 co, .string ⟨im.toArray⟩, .string ⟨ex.toArray⟩, .int .i64 t.pl]) (by simp [results, Tryz.results65, go_sem, W0, W1, W2, W3, W4]) rfl ?_
  exact ⟨_, rfl, by rw [HE]; exact hret.2, by rw [HE, hret.1]; exact hf.2.1, hf.2.2⟩
set_option maxHeartbeats 8000000 in
set_option maxRecDepth 20000 in
theorem static_rd (h : RdS B b g cap ts s w) :
    Calls Tryz.prog 66 #[.pointer (some ⟨b, 0, none⟩)] w fun e w' => ∃ c : StD, e = .returned (stV2 c) ∧ Agr c (stepS staR s).2 ∧ RdS B b g cap ts (stepS staR s).1 w' ∧ BelX b w w' := by
  obtain ⟨R, hR⟩ : ∃ R, R = stepS staR s := ⟨_, rfl⟩
  rw [← hR]
  have HR0 : Hid (R = stepS staR s) := hR
  clear hR
  obtain ⟨br, hbr⟩ : ∃ b, b = w.heap.size := ⟨_, rfl⟩
  obtain ⟨W, hW⟩ : ∃ W, W = w.alloc (.cells #[.int .u32 0, .int .i64 0, .string ⟨#[]⟩, .int .i64 0] 73) := ⟨_, rfl⟩
  obtain ⟨q1, r1, _⟩ := box_at w _ hW hbr
  have HO : Hid (b < w.heap.size ∧ g < w.heap.size ∧ w.heap.size ≤ br) := ⟨h.old.2, h.old.1, by omega⟩
  have hw := h.below q1
  have HB : Hid (BelX b w W ∧ W.heap[br]? = some (.cells #[.int .u32 0, .int .i64 0, .string ⟨#[]⟩, .int .i64 0] 73 (0, 0))) := ⟨BelX.of b q1, r1⟩
  go_enter Tryz.func66, Tryz.ntmps66
  go_upto_region 1 with fail
  rw [← hbr, ← hW]
  clear hW hbr q1 r1
  obtain ⟨t, htp, hk⟩ := here_rd hw
  unfold tkV at hk
  have f4 := tkf4 t.kind t.val t.a t.b t.pl ⟨t.text.toArray⟩
  go_wp2_with fail
  refine hk.mono ?_
  rintro e U ⟨rfl, qU⟩
  go_upto_region 2 with fail
  obtain ⟨bc, hbc⟩ : ∃ b, b = U.heap.size := ⟨_, rfl⟩
  rw [← hbc]
  obtain ⟨V, hV⟩ : ∃ V, V = U.alloc (.cells #[.int .u32 0, .int .i64 0, .string ⟨#[]⟩, .int .i64 t.pl] 73) := ⟨_, rfl⟩
  rw [← hV]
  have HS : Hid (Sit w B b g cap ts br bc 73 #[.int .u32 0, .int .i64 0, .string ⟨#[]⟩, .int .i64 0] #[.int .u32 0, .int .i64 0, .string ⟨#[]⟩, .int .i64 t.pl] s V) := Sit.new (hw.below qU) (HB.out.1.below qU) (pf_block qU HB.out.2) hV hbc HO.out
  clear hk hw qU hV hbc f4
  have hp := word_pl (w := [115, 116, 97, 116, 105, 99]) htp
  have HR1 : Hid _ := HR0.out.trans (step_and (f := wordR [115, 116, 97, 116, 105, 99]) hp)
  have hk := take_any HS.out.r [115, 116, 97, 116, 105, 99] (by decide)
  obtain ⟨s1, hs⟩ : ∃ z, z = (stepS (wordR [115, 116, 97, 116, 105, 99]) s).1 := ⟨_, rfl⟩
  rw [← hs] at HR1 hk
  clear hs hp HR0 htp
  go_wp2_with fail
  refine hk.mono ?_
  rintro e Z1 ⟨rfl, hZ, qZ⟩
  replace HS : Hid _ := HS.out.call hZ qZ
  clear hk hZ qZ
  have hk := prefix_rd HS.out.r
  obtain ⟨p, ha⟩ : ∃ a, a = (stepS pfxR s1).2.getD (0, 0) := ⟨_, rfl⟩
  have hp : Agr p (stepS pfxR s1).2 := by rw [ha]; exact Agr.getD _ _
  rw [← ha] at hk
  clear ha
  have HR2 : Hid _ := HR1.out.trans (step_and (f := pfxR) hp)
  obtain ⟨s2, hs⟩ : ∃ z, z = (stepS pfxR s1).1 := ⟨_, rfl⟩
  rw [← hs] at HR2 hk
  clear hs hp HR1
  obtain ⟨a, bb⟩ := p
  unfold pfV2 at hk
  go_wp2_with fail
  refine hk.mono ?_
  rintro e Z2 ⟨rfl, hZ, qZ⟩
  replace HS : Hid _ := HS.out.call hZ qZ
  clear hk hZ qZ
  obtain ⟨c0, f0⟩ := HS.out.cell 0 rfl
  obtain ⟨c1, f1⟩ := HS.out.cell 1 rfl
  replace HS : Hid (Sit w B b g cap ts br bc 73 #[.int .u32 0, .int .i64 0, .string ⟨#[]⟩, .int .i64 0] #[.int .u32 a, .int .i64 bb, .string ⟨#[]⟩, .int .i64 t.pl] s2 ((Z2.setCell ⟨bc, 0, none⟩ (.int .u32 a)).setCell ⟨bc, 1, none⟩ (.int .i64 bb))) := (HS.out.put 0 (.int .u32 a)).put 1 (.int .i64 bb)
  obtain ⟨p2, hp⟩ := agr_any 0 (stepS (wordR [118, 105, 97]) s2).2
  have HR3 : Hid _ := HR2.out.trans (step_and (f := wordR [118, 105, 97]) hp)
  have hk := take_any HS.out.r [118, 105, 97] (by decide)
  obtain ⟨s3, hs⟩ : ∃ z, z = (stepS (wordR [118, 105, 97]) s2).1 := ⟨_, rfl⟩
  rw [← hs] at HR3 hk
  clear hs hp HR2
  go_wp2_with fail
  refine hk.mono ?_
  rintro e Z3 ⟨rfl, hZ, qZ⟩
  replace HS : Hid _ := HS.out.call hZ qZ
  clear hk hZ qZ
  have hk := name_rd HS.out.r
  obtain ⟨nm, ha⟩ : ∃ a, a = (stepS (nameR) s3).2.getD [] := ⟨_, rfl⟩
  have hp : Agr nm (stepS (nameR) s3).2 := by rw [ha]; exact Agr.getD _ _
  rw [← ha] at hk
  clear ha
  have HR4 : Hid _ := HR3.out.trans (step_and (f := nameR) hp)
  obtain ⟨s4, hs⟩ : ∃ z, z = (stepS (nameR) s3).1 := ⟨_, rfl⟩
  rw [← hs] at HR4 hk
  clear hs hp HR3
  go_wp2_with fail
  refine hk.mono ?_
  rintro e Z4 ⟨rfl, hZ, qZ⟩
  replace HS : Hid _ := HS.out.call hZ qZ
  clear hk hZ qZ
  obtain ⟨c0, f0⟩ := HS.out.cell 2 rfl
  replace HS : Hid (Sit w B b g cap ts br bc 73 #[.int .u32 0, .int .i64 0, .string ⟨#[]⟩, .int .i64 0] #[.int .u32 a, .int .i64 bb, .string ⟨nm.toArray⟩, .int .i64 t.pl] s4 (Z4.setCell ⟨bc, 2, none⟩ (.string ⟨nm.toArray⟩))) := HS.out.put 2 (.string ⟨nm.toArray⟩)
  obtain ⟨p4, hp⟩ := agr_any 0 (stepS (wordR [59]) s4).2
  have HR5 : Hid _ := HR4.out.trans (step_and (f := wordR [59]) hp)
  have hk := take_any HS.out.r [59] (by decide)
  obtain ⟨s5, hs⟩ : ∃ z, z = (stepS (wordR [59]) s4).1 := ⟨_, rfl⟩
  rw [← hs] at HR5 hk
  clear hs hp HR4
  go_wp2_with fail
  refine hk.mono ?_
  rintro e Z5 ⟨rfl, hZ, qZ⟩
  replace HS : Hid _ := HS.out.call hZ qZ
  clear hk hZ qZ
  obtain ⟨C0, C1, C2, C3⟩ := cells_four2 HS.out.c
  obtain ⟨D0, D1, D2, D3⟩ := cells_four2 HS.out.z
  have F0 := free_at HS.out.z 0
  have F1 := free_at HS.out.z 1
  have F2 := free_at HS.out.z 2
  have F3 := free_at HS.out.z 3
  go_wp2_with fail
  obtain ⟨xs, hxs⟩ : ∃ xs : List Value, xs = [.int .u32 a, .int .i64 bb, .string ⟨nm.toArray⟩, .int .i64 t.pl] := ⟨_, rfl⟩
  obtain ⟨X, hX⟩ : ∃ X, X = putL Z5 br 0 xs := ⟨_, rfl⟩
  have hf := HS.out.fin xs (by rw [hxs]; rfl)
  rw [← hX] at hf
  rw [hxs] at hX hf
  show bodyPost _ _ _ _ _ (putL Z5 br 0 [.int .u32 a, .int .i64 bb, .string ⟨nm.toArray⟩, .int .i64 t.pl])
  rw [← hX]
  clear hX hxs C0 D0 F0 C1 D1 F1 C2 D2 F2 C3 D3 F3
  obtain ⟨W0, W1, W2, W3⟩ := cells_four2 hf.1
  have hret := step_ret ((⟨a, bb, nm, (t.pl : Int)⟩ : StD)) s5
  have HE : R = stepS (fun r => .inr (((⟨a, bb, nm, (t.pl : Int)⟩ : StD)), r)) s5 := HR5.out
  refine bodyPost_ret (v := .agg #[.int .u32 a, .int .i64 bb, .string ⟨nm.toArray⟩, .int .i64 t.pl]) (by simp [results, Tryz.results66, go_sem, W0, W1, W2, W3]) rfl ?_
  exact ⟨_, rfl, by rw [HE]; exact hret.2, by rw [HE, hret.1]; exact hf.2.1, hf.2.2⟩
end
end Go.Proofs.YtejhgifadohbiaaGreatDoor
namespace Go.Proofs.YtejhgifadohbiaaGreatDoor
open Go.RowKit Go.Lib

section
variable {w Z Z' Y W : World} {B b g cap br bc T : Nat} {ts : List Tk} {zs cs : Array Value} {s s' : Sta}
theorem RdS.keptT {E L : List Nat} (h : RdS B b g cap ts s Z) (k : KeptT E L Z Z') (h1 : 84 ∉ E) (h2 : 103 ∉ E) (hb : b ∉ L) (hg : g ∉ L) : RdS B b g cap ts s Z' := by
  have key : ∀ n ev, Rd B b g cap ts n ev Z → Rd B b g cap ts n ev Z' := fun n ev h => ⟨k.2 _ _ _ _ h.c h1 hb, k.own h.o h2 (fun x hx => by injection hx with hx; rw [← hx]; exact hg), h.l⟩
  cases s with
  | inl r =>
    obtain ⟨n, e1, e2, e3⟩ := h
    exact ⟨n, e1, e2, key _ _ e3⟩
  | inr e =>
    obtain ⟨n, h⟩ := h
    exact ⟨n, key _ _ h⟩
/-- A row of its own grows: what was there at the beginning is as it was. -/
theorem BelX.grown {e z n : Nat} {v : Value} {xs : List Value} (h : BelX b w Z) (ho : Z.ownsRow w.heap.size e z v n xs) (hg : Z.grownBy W v.ownBlock) : BelX b w W := by
  refine ⟨hg.os.trans h.os, hg.tape.trans h.tape, hg.output.trans h.output, Nat.le_trans h.size hg.size, fun k hk hb => ?_⟩
  rw [hg.block k (Nat.lt_of_lt_of_le hk h.size) ?_]
  · exact h.block k hk hb
  · rcases ho.2 with ⟨h0, _⟩ | ⟨g', cap', cur, h1, h2, _⟩
    · rw [h0]; simp [Value.ownBlock]
    · rw [h1]; simp [Value.ownBlock]; omega
theorem Sit.grow {e z n : Nat} {v : Value} {xs : List Value} (h : Sit w B b g cap ts br bc T zs cs s Z) (ho : Z.ownsRow w.heap.size e z v n xs) (hg : Z.grownBy W v.ownBlock) (hT : T ≠ e) (h1 : 84 ≠ e) (h2 : 103 ≠ e) : Sit w B b g cap ts br bc T zs cs s W := by
  have k : KeptT [e] [] Z W := KeptT.grown ho hg (List.mem_singleton.2 rfl)
  have m : ∀ x, x ≠ e → x ∉ [e] := fun x hx => by simpa using hx
  exact ⟨h.r.keptT k (m _ h1) (m _ h2) (by simp) (by simp), h.x.grown ho hg, k.2 _ _ _ _ h.z (m _ hT) (by simp), k.2 _ _ _ _ h.c (m _ hT) (by simp), h.n⟩
theorem Sit.belX (h : Sit w B b g cap ts br bc T zs cs s Z) (q : BelX b Z Y) (hr : RdS B b g cap ts s' Y) : Sit w B b g cap ts br bc T zs cs s' Y := h.call hr q
theorem Sit.below (h : Sit w B b g cap ts br bc T zs cs s Z) (q : Below Z.heap.size Z Y) : Sit w B b g cap ts br bc T zs cs s Y := h.call (h.r.below q) (.of b q)
theorem rowX {e z n : Nat} {v : Value} {xs : List Value} (ho : Z.ownsRow w.heap.size e z v n xs) (hb : b < w.heap.size) (q : BelX b Z Y) : Y.ownsRow w.heap.size e z v n xs := by
  refine q.own ho fun k hk hkb => ?_
  rcases ho.2 with ⟨h0, _⟩ | ⟨g', cap', cur, h1, h2, _⟩
  · rw [h0] at hk; simp [Value.ownBlock] at hk
  · rw [h1] at hk
    simp [Value.ownBlock] at hk
    omega
/-- A row, while another one grows and is put into the thing. -/
theorem row_keep {e e' z n z' n' i : Nat} {v v' u : Value} {xs xs' : List Value} {fr : Nat × Nat} (ho : Z.ownsRow B e z v n xs) (hg : Z.grownBy W v.ownBlock) (hc : W.heap[bc]? = some (.cells cs T fr)) (hT : T ≠ e') (hne : e' ≠ e) (h' : Z.ownsRow B e' z' v' n' xs') :
    (W.setCell ⟨bc, i, none⟩ u).ownsRow B e' z' v' n' xs' := by
  have k : KeptT [e] [] Z W := KeptT.grown ho hg (List.mem_singleton.2 rfl)
  have h1 : W.ownsRow B e' z' v' n' xs' := k.own h' (by simpa using hne) (fun _ _ => by simp)
  exact (KeptT.setCell (E := []) (List.mem_singleton.2 rfl) u).own h1 (by simp) (own_off h1 hc hT)
theorem row_set {e z n i : Nat} {v u : Value} {xs : List Value} {fr : Nat × Nat} (h1 : W.ownsRow B e z v n xs) (hc : W.heap[bc]? = some (.cells cs T fr)) (hT : T ≠ e) : (W.setCell ⟨bc, i, none⟩ u).ownsRow B e z v n xs :=
  (KeptT.setCell (E := []) (List.mem_singleton.2 rfl) u).own h1 (by simp) (own_off h1 hc hT)
theorem putL_kept (b : Nat) (xs : List Value) (W : World) : KeptT [] [b] W (putL W b 0 xs) :=
  putL_keep (p := fun Z => KeptT [] [b] W Z) (fun _ _ x h => h.trans (KeptT.setCell (List.mem_singleton.2 rfl) x)) xs 0 W (KeptT.refl _ _ _)
theorem row_put {e z n : Nat} {v : Value} {xs ys : List Value} {fr : Nat × Nat} (h1 : W.ownsRow B e z v n xs) (hc : W.heap[bc]? = some (.cells cs T fr)) (hT : T ≠ e) : (putL W bc 0 ys).ownsRow B e z v n xs :=
  (putL_kept bc ys W).own h1 (by simp) (own_off h1 hc hT)
end
section
variable {B b g cap : Nat} {ts : List Tk} {w : World} {s : Sta}
set_option maxHeartbeats 8000000 in
set_option maxRecDepth 20000 in
theorem map_rd (h : RdS B b g cap ts s w) :
    Calls Tryz.prog 42 #[.pointer (some ⟨b, 0, none⟩)] w fun e w' => ∃ c : MpV, e = .returned (.agg #[.string ⟨c.1.name.toArray⟩, c.2, .int .i64 c.1.pl]) ∧ Agr c.1 (stepS mapR s).2 ∧ (Row1 w' w.heap.size c ∧ c.1.cls.length ≤ 16) ∧ RdS B b g cap ts (stepS mapR s).1 w' ∧ BelX b w w' := by
  obtain ⟨R, hR⟩ : ∃ R, R = stepS mapR s := ⟨_, rfl⟩
  rw [← hR]
  have HR0 : Hid (R = stepS mapR s) := hR
  clear hR
  obtain ⟨br, hbr⟩ : ∃ b, b = w.heap.size := ⟨_, rfl⟩
  obtain ⟨W, hW⟩ : ∃ W, W = w.alloc (.cells #[.string ⟨#[]⟩, .slice none 0 0, .int .i64 0] 57) := ⟨_, rfl⟩
  obtain ⟨q1, r1, _⟩ := box_at w _ hW hbr
  have HO : Hid (b < w.heap.size ∧ g < w.heap.size ∧ w.heap.size ≤ br) := ⟨h.old.2, h.old.1, by omega⟩
  have hw := h.below q1
  have HB : Hid (BelX b w W ∧ W.heap[br]? = some (.cells #[.string ⟨#[]⟩, .slice none 0 0, .int .i64 0] 57 (0, 0))) := ⟨BelX.of b q1, r1⟩
  go_enter Tryz.func42, Tryz.ntmps42
  go_upto_region 1 with fail
  rw [← hbr, ← hW]
  clear hW hbr q1 r1
  obtain ⟨t, htp, hk⟩ := here_rd hw
  unfold tkV at hk
  have f4 := tkf4 t.kind t.val t.a t.b t.pl ⟨t.text.toArray⟩
  go_wp2_with fail
  refine hk.mono ?_
  rintro e U ⟨rfl, qU⟩
  go_upto_region 2 with fail
  obtain ⟨bc, hbc⟩ : ∃ b, b = U.heap.size := ⟨_, rfl⟩
  rw [← hbc]
  obtain ⟨V, hV⟩ : ∃ V, V = U.alloc (.cells #[.string ⟨#[]⟩, .slice none 0 0, .int .i64 t.pl] 57) := ⟨_, rfl⟩
  rw [← hV]
  have HS : Hid (Sit w B b g cap ts br bc 57 #[.string ⟨#[]⟩, .slice none 0 0, .int .i64 0] #[.string ⟨#[]⟩, .slice none 0 0, .int .i64 t.pl] s V) := Sit.new (hw.below qU) (HB.out.1.below qU) (pf_block qU HB.out.2) hV hbc HO.out
  clear hk hw qU hV hbc f4
  have hp := word_pl (w := [109, 97, 112]) htp
  have HR1 : Hid _ := HR0.out.trans (step_and (f := wordR [109, 97, 112]) hp)
  have hk := take_any HS.out.r [109, 97, 112] (by decide)
  obtain ⟨s1, hs⟩ : ∃ z, z = (stepS (wordR [109, 97, 112]) s).1 := ⟨_, rfl⟩
  rw [← hs] at HR1 hk
  clear hs hp HR0 htp
  go_wp2_with fail
  refine hk.mono ?_
  rintro e Z1 ⟨rfl, hZ, qZ⟩
  replace HS : Hid _ := HS.out.call hZ qZ
  clear hk hZ qZ
  have hk := name_rd HS.out.r
  obtain ⟨nm, ha⟩ : ∃ a, a = (stepS (nameR) s1).2.getD [] := ⟨_, rfl⟩
  have hp : Agr nm (stepS (nameR) s1).2 := by rw [ha]; exact Agr.getD _ _
  rw [← ha] at hk
  clear ha
  have HR2 : Hid _ := HR1.out.trans (step_and (f := nameR) hp)
  obtain ⟨s2, hs⟩ : ∃ z, z = (stepS (nameR) s1).1 := ⟨_, rfl⟩
  rw [← hs] at HR2 hk
  clear hs hp HR1
  go_wp2_with fail
  refine hk.mono ?_
  rintro e Z2 ⟨rfl, hZ, qZ⟩
  replace HS : Hid _ := HS.out.call hZ qZ
  clear hk hZ qZ
  obtain ⟨c0, f0⟩ := HS.out.cell 0 rfl
  replace HS : Hid (Sit w B b g cap ts br bc 57 #[.string ⟨#[]⟩, .slice none 0 0, .int .i64 0] #[.string ⟨nm.toArray⟩, .slice none 0 0, .int .i64 t.pl] s2 (Z2.setCell ⟨bc, 0, none⟩ (.string ⟨nm.toArray⟩))) := HS.out.put 0 (.string ⟨nm.toArray⟩)
  obtain ⟨p2, hp⟩ := agr_any 0 (stepS (wordR [123]) s2).2
  have HR3 : Hid _ := HR2.out.trans (step_and (f := wordR [123]) hp)
  have hk := take_any HS.out.r [123] (by decide)
  obtain ⟨s3, hs⟩ : ∃ z, z = (stepS (wordR [123]) s2).1 := ⟨_, rfl⟩
  rw [← hs] at HR3 hk
  clear hs hp HR2
  go_wp2_with fail
  refine hk.mono ?_
  rintro e Z3 ⟨rfl, hZ, qZ⟩
  replace HS : Hid _ := HS.out.call hZ qZ
  clear hk hZ qZ
  go_upto_region 5 with fail
  obtain ⟨i0, hi0, hz0, hz1, hz2⟩ := info_parts infoCl
  go_loopg [] 16 (fun gm wr => ∃ (n : Nat) (l : List ClD) (cv : Value) (s' : Sta), n + gm = 16 ∧ Hid (n = l.length ∧ Sit w B b g cap ts br bc 57 #[.string ⟨#[]⟩, .slice none 0 0, .int .i64 0] #[.string ⟨nm.toArray⟩, cv, .int .i64 t.pl] s' wr ∧ (wr.ownsRow w.heap.size 65 10 (cv) n (l.flatMap clW)) ∧ R = stepS (fun r => andR (clasR (16 - n) r) fun cs r => andR (wordR [125] r) fun _ r => .inr ((⟨nm, l ++ cs, (t.pl : Int)⟩ : MpD), r)) s'))
  case atStart => exact ⟨0, [], .slice none 0 0, _, by omega, (⟨rfl, HS.out, World.ownsRow_nil _ _ _ _, HR3.out⟩ : _ ∧ _ ∧ _ ∧ _)⟩
  case round =>
    obtain ⟨n, l, cv, s', hn, HW⟩ := hrel
    obtain ⟨ca0, cc0, rfl⟩ := own_form (HW.out.2.2.1)
    obtain ⟨c1, f1⟩ := HW.out.2.1.cell 1 rfl
    have hk := moreCl_rd HW.out.2.1.r n
    obtain ⟨bo, hbo⟩ : ∃ x, x = (stepS (mclR n) s').2.getD false := ⟨_, rfl⟩
    obtain ⟨s4, hs4⟩ : ∃ z, z = (stepS (mclR n) s').1 := ⟨_, rfl⟩
    rw [← hbo, ← hs4] at hk
    have HE : Hid (bo = false → R = stepS (fun r => andR (wordR [125] r) fun _ r => .inr ((⟨nm, l, (t.pl : Int)⟩ : MpD), r)) s4) := by
      intro hb
      rw [HW.out.2.2.2, hs4]
      have h9 := clas_stop (n := n) (m := 16 - n) (s := s') (G := fun cs r => andR (wordR [125] r) fun _ r => .inr ((⟨nm, l ++ cs, (t.pl : Int)⟩ : MpD), r)) (by omega) (by rw [← hbo]; exact hb)
      simpa only [List.append_nil] using h9
    have HG : Hid (∀ a : ClD, bo = true → Agr a (stepS (claR) s4).2 → n < 16 ∧ R = stepS (fun r => andR (clasR (16 - (n + 1)) r) fun cs r => andR (wordR [125] r) fun _ r => .inr ((⟨nm, (l ++ [a]) ++ cs, (t.pl : Int)⟩ : MpD), r)) (stepS (claR) s4).1) := by
      intro a hb ha
      rw [hs4] at ha ⊢
      have h9 := clas_go (n := n) (m := 16 - n) (s := s') (G := fun cs r => andR (wordR [125] r) fun _ r => .inr ((⟨nm, l ++ cs, (t.pl : Int)⟩ : MpD), r)) (a := a) (by omega) hbo hb ha
      refine ⟨by omega, ?_⟩
      rw [HW.out.2.2.2, show 16 - (n + 1) = 16 - n - 1 by omega]
      simp only [List.append_assoc, List.cons_append, List.nil_append]
      exact h9.2
    clear hbo hs4
    cases bo with
    | false =>
      replace HE : Hid (R = stepS (fun r => andR (wordR [125] r) fun _ r => .inr ((⟨nm, l, (t.pl : Int)⟩ : MpD), r)) s4) := HE.out rfl
      go_wp2_with fail
      refine hk.mono ?_
      rintro e Y0 ⟨rfl, hY, qY⟩
      have HL : Hid (n = l.length ∧ n ≤ 16) := ⟨HW.out.1, by omega⟩
      have HL0 : Hid (n = l.length ∧ n ≤ 16) := HL
      have HS : Hid _ := HW.out.2.1.call hY qY
      have HRW : Hid (Y0.ownsRow w.heap.size 65 10 (.slice ca0 n cc0) n (l.flatMap clW)) := rowX (HW.out.2.2.1) HO.out.1 qY
      clear hk hY qY c1 f1 HW HG HL hn
      have HR4 : Hid _ := HE.out
      clear HE
      obtain ⟨p4, hp⟩ := agr_any 0 (stepS (wordR [125]) s4).2
      have HR5 : Hid _ := HR4.out.trans (step_and (f := wordR [125]) hp)
      have hk := take_any HS.out.r [125] (by decide)
      obtain ⟨s5, hs⟩ : ∃ z, z = (stepS (wordR [125]) s4).1 := ⟨_, rfl⟩
      rw [← hs] at HR5 hk
      clear hs hp HR4
      go_wp2_with fail
      refine hk.mono ?_
      rintro e Z5 ⟨rfl, hZ, qZ⟩
      replace HRW : Hid (Z5.ownsRow w.heap.size 65 10 (.slice ca0 n cc0) n (l.flatMap clW)) := rowX HRW.out HO.out.1 qZ
      replace HS : Hid _ := HS.out.call hZ qZ
      clear hk hZ qZ
      obtain ⟨C0, C1, C2⟩ := cells_three HS.out.c
      obtain ⟨D0, D1, D2⟩ := cells_three HS.out.z
      have F0 := free_at HS.out.z 0
      have F1 := free_at HS.out.z 1
      have F2 := free_at HS.out.z 2
      go_wp2_with fail
      obtain ⟨xs, hxs⟩ : ∃ xs : List Value, xs = [.string ⟨nm.toArray⟩, .slice ca0 n cc0, .int .i64 t.pl] := ⟨_, rfl⟩
      obtain ⟨X, hX⟩ : ∃ X, X = putL Z5 br 0 xs := ⟨_, rfl⟩
      have hf := HS.out.fin xs (by rw [hxs]; rfl)
      have hx0 : X.ownsRow w.heap.size 65 10 (.slice ca0 n cc0) n (l.flatMap clW) := by rw [hX]; exact row_put HRW.out HS.out.z (by decide)
      rw [← hX] at hf
      rw [hxs] at hX hf
      show bodyPost _ _ _ _ _ (putL Z5 br 0 [.string ⟨nm.toArray⟩, .slice ca0 n cc0, .int .i64 t.pl])
      rw [← hX]
      clear hX hxs C0 D0 F0 C1 D1 F1 C2 D2 F2
      obtain ⟨W0, W1, W2⟩ := cells_three hf.1
      have hret := step_ret ((⟨nm, l, (t.pl : Int)⟩ : MpD)) s5
      have HE : R = stepS (fun r => .inr (((⟨nm, l, (t.pl : Int)⟩ : MpD)), r)) s5 := HR5.out
      refine bodyPost_ret (v := .agg #[.string ⟨nm.toArray⟩, .slice ca0 n cc0, .int .i64 t.pl]) (by simp [results, Tryz.results42, go_sem, W0, W1, W2]) rfl ?_
      exact ⟨((⟨nm, l, (t.pl : Int)⟩ : MpD), .slice ca0 n cc0), rfl, by rw [HE]; exact hret.2, ⟨by have h9 := hx0; rw [HL0.out.1] at h9; show X.ownsRow _ _ _ (.slice ca0 n cc0) _ _; rw [HL0.out.1]; exact h9, by have := HL0.out; show l.length ≤ 16; omega⟩, by rw [HE, hret.1]; exact hf.2.1, hf.2.2⟩
    | true =>
      go_wp2_with fail
      refine hk.mono ?_
      rintro e Y ⟨rfl, hY, qY⟩
      have HS : Hid _ := HW.out.2.1.call hY qY
      have HRW : Hid (Y.ownsRow w.heap.size 65 10 (.slice ca0 n cc0) n (l.flatMap clW)) := rowX (HW.out.2.2.1) HO.out.1 qY
      have HL : Hid (n = l.length) := HW.out.1
      have c2 := (HS.out.cell 1 rfl).1
      have E0 : ∀ p : XOf b Y, p.w.cell? ⟨bc, 1, none⟩ = some (.slice ca0 n cc0) := x_cell c2 (Array.getElem?_eq_some_iff.1 HS.out.c).1 HS.out.n.2.1
      have hne := x_ne b Y
      clear hk qY c1 f1 HW HE c2
      go_wp2_with fail
      refine wp_region_from (C := fun w' => ∃ p : XOf b Y, w' = p.w) [0, 1, 2] [3, 4] [5, 6, 7] (by kernel_rfl) (by kernel_rfl) rfl ⟨⟨Y.drew, (BelX.refl _ _).drew⟩, rfl⟩ (fun _ _ d _ _ h => by cases d <;> exact h) ?_
      simp only [pickL, List.getElem?_cons_zero, List.getElem?_cons_succ]
      repeat (go_big_quiet_step (fail))
      refine wpQuiet_nil ?_
      clear E0 hne
      refine chain_go rfl fun Q2 hQ2 => ?_
      have hk := clause_rd (w := Y.drew) (hY.below (Below.refl _ _).drew)
      clear hY
      go_wp2_with fail
      refine hk.mono ?_
      rintro e Z ⟨c, rfl, ha, hZ, qZ⟩
      obtain ⟨an, a, bb, wi, ou, dr, se, cl, mo, pr⟩ := c
      unfold clV2
      have QZ : BelX b Y Z := ((BelX.refl b Y).drew).trans qZ
      have QA : BelX b Y (Z.alloc (.cells #[.bool an, .int .u32 a, .int .i64 bb, .int .u8 wi, .int .u8 ou, .bool dr, .int .u8 se, .int .u8 cl, .int .i64 mo, .int .i64 pr] 65)) := QZ.alloc _
      have HSA : Hid _ := HS.out.call (hZ.below (bel_alloc (Below.refl _ _) (.cells #[.bool an, .int .u32 a, .int .i64 bb, .int .u8 wi, .int .u8 ou, .bool dr, .int .u8 se, .int .u8 cl, .int .i64 mo, .int .i64 pr] 65))) QA
      have HRA : Hid ((Z.alloc (.cells #[.bool an, .int .u32 a, .int .i64 bb, .int .u8 wi, .int .u8 ou, .bool dr, .int .u8 se, .int .u8 cl, .int .i64 mo, .int .i64 pr] 65)).ownsRow w.heap.size 65 10 (.slice ca0 n cc0) n (l.flatMap clW)) := rowX HRW.out HO.out.1 QA
      replace HG : Hid _ := HG.out _ (by simp) ha
      clear hk ha hZ qZ HRW
      go_wp2_with fail
      refine hQ2 _ _ ⟨⟨Z, QZ⟩, rfl⟩ ?_
      clear hQ2 Q2
      refine chain_go rfl fun Q2 hQ2 => ?_
      go_wp2_with fail
      refine hQ2 _ _ ⟨⟨_, QA⟩, rfl⟩ (chain_end ?_)
      clear hQ2 Q2
      have hO := HRA.out
      have hsz : w.heap.size ≤ Z.heap.size := Nat.le_trans HS.out.x.size QZ.size
      have hnm : n < 16 := HG.out.1
      clear QA QZ HS
      go_wp2_with (at_builtin; refine wpList_append_lies _ rfl _ _ _ rfl w.heap.size 65 i0 _ 10 48 Tryz.underlying55 hi0 hz0 hz1 hz2 rfl (by omega) (.slice ca0 n cc0) n _ rfl hO ⟨Z.heap.size, 0, none⟩ 1 1 [.bool an, .int .u32 a, .int .i64 bb, .int .u8 wi, .int .u8 ou, .bool dr, .int .u8 se, .int .u8 cl, .int .i64 mo, .int .i64 pr] rfl rfl (World.news_of_block (cs := #[.bool an, .int .u32 a, .int .i64 bb, .int .u8 wi, .int .u8 ou, .bool dr, .int .u8 se, .int .u8 cl, .int .i64 mo, .int .i64 pr]) (t := 65) (fr := (0, 0)) (pf_new _ _ _ rfl)) (by simp [Value.oneCell']) (by omega) (by unfold maxLen; omega) (by omega) (by simp; omega) _ rfl ?_; intro g1 cap1 W1 hown1 hgrow hat hlt1; have HSB : Hid _ := HSA.out.grow hO hgrow (by decide) (by decide) (by decide); have hcb := HSB.out.c; obtain ⟨g0, f0⟩ := HSB.out.cell 1 rfl)
      have HX : Hid (Sit w B b g cap ts br bc 57 #[.string ⟨#[]⟩, .slice none 0 0, .int .i64 0] #[.string ⟨nm.toArray⟩, (.slice (some ⟨g1, 0, none⟩) (n + 1) cap1), .int .i64 t.pl] (stepS claR s4).1 (W1.setCell ⟨bc, 1, none⟩ (.slice (some ⟨g1, 0, none⟩) (n + 1) cap1))) := HSB.out.put 1 _
      have HX0 : Hid ((W1.setCell ⟨bc, 1, none⟩ (.slice (some ⟨g1, 0, none⟩) (n + 1) cap1)).ownsRow w.heap.size 65 10 ((.slice (some ⟨g1, 0, none⟩) (n + 1) cap1)) (n + 1) ((l ++ [(⟨an, a, bb, wi, ou, dr, se, cl, mo, pr⟩ : ClD)]).flatMap clW)) := by rw [List.flatMap_append, List.flatMap_singleton]; exact row_set hown1 hcb (by decide)
      have HLL : Hid (n + 1 = ((l ++ [(⟨an, a, bb, wi, ou, dr, se, cl, mo, pr⟩ : ClD)])).length) := by show _ = _; rw [List.length_append, ← HL.out]; rfl
      clear hown1 hgrow hat hlt1 g0 f0 hcb hO hsz
      go_roundg (16 - (n + 1))
      case measure => omega
      case rel => exact ⟨n + 1, (l ++ [(⟨an, a, bb, wi, ou, dr, se, cl, mo, pr⟩ : ClD)]), _, _, by omega, (⟨HLL.out, HX.out, HX0.out, HG.out.2⟩ : _ ∧ _ ∧ _ ∧ _)⟩
end
end Go.Proofs.YtejhgifadohbiaaGreatDoor
namespace Go.Proofs.YtejhgifadohbiaaGreatDoor
open Go.RowKit Go.Lib

section
variable {B b g cap : Nat} {ts : List Tk} {w : World} {s : Sta}
set_option maxHeartbeats 32000000 in
set_option maxRecDepth 20000 in
theorem router_rd (h : RdS B b g cap ts s w) :
    Calls Tryz.prog 43 #[.pointer (some ⟨b, 0, none⟩)] w fun e w' => ∃ c : RoV, e = .returned (.agg #[.string ⟨c.1.name.toArray⟩, c.2.1, c.2.2.1, c.2.2.2, .int .i64 c.1.pl]) ∧ Agr c.1 (stepS rouR s).2 ∧ (Rows3 w' w.heap.size c ∧ c.1.nets.length ≤ 8 ∧ c.1.lks.length ≤ 64 ∧ c.1.sts.length ≤ 8) ∧ RdS B b g cap ts (stepS rouR s).1 w' ∧ BelX b w w' := by
  obtain ⟨R, hR⟩ : ∃ R, R = stepS rouR s := ⟨_, rfl⟩
  rw [← hR]
  have HR0 : Hid (R = stepS rouR s) := hR
  clear hR
  obtain ⟨br, hbr⟩ : ∃ b, b = w.heap.size := ⟨_, rfl⟩
  obtain ⟨W, hW⟩ : ∃ W, W = w.alloc (.cells #[.string ⟨#[]⟩, .slice none 0 0, .slice none 0 0, .slice none 0 0, .int .i64 0] 51) := ⟨_, rfl⟩
  obtain ⟨q1, r1, _⟩ := box_at w _ hW hbr
  have HO : Hid (b < w.heap.size ∧ g < w.heap.size ∧ w.heap.size ≤ br) := ⟨h.old.2, h.old.1, by omega⟩
  have hw := h.below q1
  have HB : Hid (BelX b w W ∧ W.heap[br]? = some (.cells #[.string ⟨#[]⟩, .slice none 0 0, .slice none 0 0, .slice none 0 0, .int .i64 0] 51 (0, 0))) := ⟨BelX.of b q1, r1⟩
  go_enter Tryz.func43, Tryz.ntmps43
  go_upto_region 1 with fail
  rw [← hbr, ← hW]
  clear hW hbr q1 r1
  obtain ⟨t, htp, hk⟩ := here_rd hw
  unfold tkV at hk
  have f4 := tkf4 t.kind t.val t.a t.b t.pl ⟨t.text.toArray⟩
  go_wp2_with fail
  refine hk.mono ?_
  rintro e U ⟨rfl, qU⟩
  go_upto_region 2 with fail
  obtain ⟨bc, hbc⟩ : ∃ b, b = U.heap.size := ⟨_, rfl⟩
  rw [← hbc]
  obtain ⟨V, hV⟩ : ∃ V, V = U.alloc (.cells #[.string ⟨#[]⟩, .slice none 0 0, .slice none 0 0, .slice none 0 0, .int .i64 t.pl] 51) := ⟨_, rfl⟩
  rw [← hV]
  have HS : Hid (Sit w B b g cap ts br bc 51 #[.string ⟨#[]⟩, .slice none 0 0, .slice none 0 0, .slice none 0 0, .int .i64 0] #[.string ⟨#[]⟩, .slice none 0 0, .slice none 0 0, .slice none 0 0, .int .i64 t.pl] s V) := Sit.new (hw.below qU) (HB.out.1.below qU) (pf_block qU HB.out.2) hV hbc HO.out
  clear hk hw qU hV hbc f4
  have hp := word_pl (w := [114, 111, 117, 116, 101, 114]) htp
  have HR1 : Hid _ := HR0.out.trans (step_and (f := wordR [114, 111, 117, 116, 101, 114]) hp)
  have hk := take_any HS.out.r [114, 111, 117, 116, 101, 114] (by decide)
  obtain ⟨s1, hs⟩ : ∃ z, z = (stepS (wordR [114, 111, 117, 116, 101, 114]) s).1 := ⟨_, rfl⟩
  rw [← hs] at HR1 hk
  clear hs hp HR0 htp
  go_wp2_with fail
  refine hk.mono ?_
  rintro e Z1 ⟨rfl, hZ, qZ⟩
  replace HS : Hid _ := HS.out.call hZ qZ
  clear hk hZ qZ
  have hk := name_rd HS.out.r
  obtain ⟨nm, ha⟩ : ∃ a, a = (stepS (nameR) s1).2.getD [] := ⟨_, rfl⟩
  have hp : Agr nm (stepS (nameR) s1).2 := by rw [ha]; exact Agr.getD _ _
  rw [← ha] at hk
  clear ha
  have HR2 : Hid _ := HR1.out.trans (step_and (f := nameR) hp)
  obtain ⟨s2, hs⟩ : ∃ z, z = (stepS (nameR) s1).1 := ⟨_, rfl⟩
  rw [← hs] at HR2 hk
  clear hs hp HR1
  go_wp2_with fail
  refine hk.mono ?_
  rintro e Z2 ⟨rfl, hZ, qZ⟩
  replace HS : Hid _ := HS.out.call hZ qZ
  clear hk hZ qZ
  obtain ⟨c0, f0⟩ := HS.out.cell 0 rfl
  replace HS : Hid (Sit w B b g cap ts br bc 51 #[.string ⟨#[]⟩, .slice none 0 0, .slice none 0 0, .slice none 0 0, .int .i64 0] #[.string ⟨nm.toArray⟩, .slice none 0 0, .slice none 0 0, .slice none 0 0, .int .i64 t.pl] s2 (Z2.setCell ⟨bc, 0, none⟩ (.string ⟨nm.toArray⟩))) := HS.out.put 0 (.string ⟨nm.toArray⟩)
  obtain ⟨p2, hp⟩ := agr_any 0 (stepS (wordR [123]) s2).2
  have HR3 : Hid _ := HR2.out.trans (step_and (f := wordR [123]) hp)
  have hk := take_any HS.out.r [123] (by decide)
  obtain ⟨s3, hs⟩ : ∃ z, z = (stepS (wordR [123]) s2).1 := ⟨_, rfl⟩
  rw [← hs] at HR3 hk
  clear hs hp HR2
  go_wp2_with fail
  refine hk.mono ?_
  rintro e Z3 ⟨rfl, hZ, qZ⟩
  replace HS : Hid _ := HS.out.call hZ qZ
  clear hk hZ qZ
  go_upto_region 5 with fail
  obtain ⟨i0, hi0, hz0, hz1, hz2⟩ := info_parts infoPf
  go_loopg [] 8 (fun gm wr => ∃ (n1 : Nat) (ln : List (Nat × Int)) (nv : Value) (s' : Sta), n1 + gm = 8 ∧ Hid (n1 = ln.length ∧ Sit w B b g cap ts br bc 51 #[.string ⟨#[]⟩, .slice none 0 0, .slice none 0 0, .slice none 0 0, .int .i64 0] #[.string ⟨nm.toArray⟩, nv, .slice none 0 0, .slice none 0 0, .int .i64 t.pl] s' wr ∧ (wr.ownsRow w.heap.size 63 2 (nv) n1 (ln.flatMap pfL)) ∧ R = stepS (fun r => andR (manyR [110, 101, 116] netR (8 - n1) r) fun cs r => andR (manyR [108, 105, 110, 107] lnkR 64 r) fun ls r => andR (manyR [115, 116, 97, 116, 105, 99] staR 8 r) fun ss r => andR (wordR [125] r) fun _ r => .inr ((⟨nm, (ln ++ cs), ls, ss, (t.pl : Int)⟩ : RoD), r)) s'))
  case atStart => exact ⟨0, [], .slice none 0 0, _, by omega, (⟨rfl, HS.out, World.ownsRow_nil _ _ _ _, HR3.out⟩ : _ ∧ _ ∧ _ ∧ _)⟩
  case round =>
    obtain ⟨n1, ln, nv, s', hn, HW⟩ := hrel
    obtain ⟨ca0, cc0, rfl⟩ := own_form (HW.out.2.2.1)
    obtain ⟨c1, f1⟩ := HW.out.2.1.cell 1 rfl
    have hk := another_rd HW.out.2.1.r [110, 101, 116] n1 8
    obtain ⟨bo, hbo⟩ : ∃ x, x = (stepS (anoR [110, 101, 116] n1 8) s').2.getD false := ⟨_, rfl⟩
    obtain ⟨s4, hs4⟩ : ∃ z, z = (stepS (anoR [110, 101, 116] n1 8) s').1 := ⟨_, rfl⟩
    rw [← hbo, ← hs4] at hk
    have HE : Hid (bo = false → R = stepS (fun r => andR (manyR [108, 105, 110, 107] lnkR 64 r) fun ls r => andR (manyR [115, 116, 97, 116, 105, 99] staR 8 r) fun ss r => andR (wordR [125] r) fun _ r => .inr ((⟨nm, ln, ls, ss, (t.pl : Int)⟩ : RoD), r)) s4) := by
      intro hb
      rw [HW.out.2.2.2, hs4]
      have h9 := many_stop (n := n1) (m := 8 - n1) (s := s') (k := 8) (f := netR) (G := fun cs r => andR (manyR [108, 105, 110, 107] lnkR 64 r) fun ls r => andR (manyR [115, 116, 97, 116, 105, 99] staR 8 r) fun ss r => andR (wordR [125] r) fun _ r => .inr ((⟨nm, (ln ++ cs), ls, ss, (t.pl : Int)⟩ : RoD), r)) (by omega) (by rw [← hbo]; exact hb)
      simpa only [List.append_nil] using h9
    have HG : Hid (∀ a : (Nat × Int), bo = true → Agr a (stepS (netR) s4).2 → n1 < 8 ∧ R = stepS (fun r => andR (manyR [110, 101, 116] netR (8 - (n1 + 1)) r) fun cs r => andR (manyR [108, 105, 110, 107] lnkR 64 r) fun ls r => andR (manyR [115, 116, 97, 116, 105, 99] staR 8 r) fun ss r => andR (wordR [125] r) fun _ r => .inr ((⟨nm, ((ln ++ [a]) ++ cs), ls, ss, (t.pl : Int)⟩ : RoD), r)) (stepS (netR) s4).1) := by
      intro a hb ha
      rw [hs4] at ha ⊢
      have h9 := many_go (n := n1) (m := 8 - n1) (s := s') (k := 8) (f := netR) (G := fun cs r => andR (manyR [108, 105, 110, 107] lnkR 64 r) fun ls r => andR (manyR [115, 116, 97, 116, 105, 99] staR 8 r) fun ss r => andR (wordR [125] r) fun _ r => .inr ((⟨nm, (ln ++ cs), ls, ss, (t.pl : Int)⟩ : RoD), r)) (a := a) (by omega) hbo hb ha
      refine ⟨by omega, ?_⟩
      rw [HW.out.2.2.2, show 8 - (n1 + 1) = 8 - n1 - 1 by omega]
      simp only [List.append_assoc, List.cons_append, List.nil_append]
      exact h9.2
    clear hbo hs4
    cases bo with
    | false =>
      replace HE : Hid (R = stepS (fun r => andR (manyR [108, 105, 110, 107] lnkR 64 r) fun ls r => andR (manyR [115, 116, 97, 116, 105, 99] staR 8 r) fun ss r => andR (wordR [125] r) fun _ r => .inr ((⟨nm, ln, ls, ss, (t.pl : Int)⟩ : RoD), r)) s4) := HE.out rfl
      go_wp2_with fail
      refine hk.mono ?_
      rintro e Y0 ⟨rfl, hY, qY⟩
      have HL : Hid (n1 = ln.length ∧ n1 ≤ 8) := ⟨HW.out.1, by omega⟩
      have HL0 : Hid (n1 = ln.length ∧ n1 ≤ 8) := HL
      have HS : Hid _ := HW.out.2.1.call hY qY
      have HRW : Hid (Y0.ownsRow w.heap.size 63 2 (.slice ca0 n1 cc0) n1 (ln.flatMap pfL)) := rowX (HW.out.2.2.1) HO.out.1 qY
      clear hk hY qY c1 f1 HW HG HL hn
      go_upto_region 7 with fail
      obtain ⟨i0, hi0, hz0, hz1, hz2⟩ := info_parts infoLk
      go_loopg [] 64 (fun gm wr => ∃ (n2 : Nat) (ll : List (LkD)) (lv : Value) (s' : Sta), n2 + gm = 64 ∧ Hid (n2 = ll.length ∧ Sit w B b g cap ts br bc 51 #[.string ⟨#[]⟩, .slice none 0 0, .slice none 0 0, .slice none 0 0, .int .i64 0] #[.string ⟨nm.toArray⟩, .slice ca0 n1 cc0, lv, .slice none 0 0, .int .i64 t.pl] s' wr ∧ (wr.ownsRow w.heap.size 63 2 (.slice ca0 n1 cc0) n1 (ln.flatMap pfL) ∧ wr.ownsRow w.heap.size 70 5 (lv) n2 (ll.flatMap lkL)) ∧ R = stepS (fun r => andR (manyR [108, 105, 110, 107] lnkR (64 - n2) r) fun cs r => andR (manyR [115, 116, 97, 116, 105, 99] staR 8 r) fun ss r => andR (wordR [125] r) fun _ r => .inr ((⟨nm, ln, (ll ++ cs), ss, (t.pl : Int)⟩ : RoD), r)) s'))
      case atStart => exact ⟨0, [], .slice none 0 0, _, by omega, (⟨rfl, HS.out, ⟨HRW.out, World.ownsRow_nil _ _ _ _⟩, HE.out⟩ : _ ∧ _ ∧ _ ∧ _)⟩
      case round =>
        obtain ⟨n2, ll, lv, s', hn, HW⟩ := hrel
        obtain ⟨ca1, cc1, rfl⟩ := own_form (HW.out.2.2.1).2
        obtain ⟨c1, f1⟩ := HW.out.2.1.cell 2 rfl
        have hk := another_rd HW.out.2.1.r [108, 105, 110, 107] n2 64
        obtain ⟨bo, hbo⟩ : ∃ x, x = (stepS (anoR [108, 105, 110, 107] n2 64) s').2.getD false := ⟨_, rfl⟩
        obtain ⟨s4, hs4⟩ : ∃ z, z = (stepS (anoR [108, 105, 110, 107] n2 64) s').1 := ⟨_, rfl⟩
        rw [← hbo, ← hs4] at hk
        have HE : Hid (bo = false → R = stepS (fun r => andR (manyR [115, 116, 97, 116, 105, 99] staR 8 r) fun ss r => andR (wordR [125] r) fun _ r => .inr ((⟨nm, ln, ll, ss, (t.pl : Int)⟩ : RoD), r)) s4) := by
          intro hb
          rw [HW.out.2.2.2, hs4]
          have h9 := many_stop (n := n2) (m := 64 - n2) (s := s') (k := 64) (f := lnkR) (G := fun cs r => andR (manyR [115, 116, 97, 116, 105, 99] staR 8 r) fun ss r => andR (wordR [125] r) fun _ r => .inr ((⟨nm, ln, (ll ++ cs), ss, (t.pl : Int)⟩ : RoD), r)) (by omega) (by rw [← hbo]; exact hb)
          simpa only [List.append_nil] using h9
        have HG : Hid (∀ a : (LkD), bo = true → Agr a (stepS (lnkR) s4).2 → n2 < 64 ∧ R = stepS (fun r => andR (manyR [108, 105, 110, 107] lnkR (64 - (n2 + 1)) r) fun cs r => andR (manyR [115, 116, 97, 116, 105, 99] staR 8 r) fun ss r => andR (wordR [125] r) fun _ r => .inr ((⟨nm, ln, ((ll ++ [a]) ++ cs), ss, (t.pl : Int)⟩ : RoD), r)) (stepS (lnkR) s4).1) := by
          intro a hb ha
          rw [hs4] at ha ⊢
          have h9 := many_go (n := n2) (m := 64 - n2) (s := s') (k := 64) (f := lnkR) (G := fun cs r => andR (manyR [115, 116, 97, 116, 105, 99] staR 8 r) fun ss r => andR (wordR [125] r) fun _ r => .inr ((⟨nm, ln, (ll ++ cs), ss, (t.pl : Int)⟩ : RoD), r)) (a := a) (by omega) hbo hb ha
          refine ⟨by omega, ?_⟩
          rw [HW.out.2.2.2, show 64 - (n2 + 1) = 64 - n2 - 1 by omega]
          simp only [List.append_assoc, List.cons_append, List.nil_append]
          exact h9.2
        clear hbo hs4
        cases bo with
        | false =>
          replace HE : Hid (R = stepS (fun r => andR (manyR [115, 116, 97, 116, 105, 99] staR 8 r) fun ss r => andR (wordR [125] r) fun _ r => .inr ((⟨nm, ln, ll, ss, (t.pl : Int)⟩ : RoD), r)) s4) := HE.out rfl
          go_wp2_with fail
          refine hk.mono ?_
          rintro e Y1 ⟨rfl, hY, qY⟩
          have HL : Hid (n2 = ll.length ∧ n2 ≤ 64) := ⟨HW.out.1, by omega⟩
          have HL1 : Hid (n2 = ll.length ∧ n2 ≤ 64) := HL
          have HS : Hid _ := HW.out.2.1.call hY qY
          have HRW : Hid (Y1.ownsRow w.heap.size 63 2 (.slice ca0 n1 cc0) n1 (ln.flatMap pfL) ∧ Y1.ownsRow w.heap.size 70 5 (.slice ca1 n2 cc1) n2 (ll.flatMap lkL)) := ⟨rowX (HW.out.2.2.1).1 HO.out.1 qY, rowX (HW.out.2.2.1).2 HO.out.1 qY⟩
          clear hk hY qY c1 f1 HW HG HL hn
          go_upto_region 9 with fail
          obtain ⟨i0, hi0, hz0, hz1, hz2⟩ := info_parts infoSt
          go_loopg [] 8 (fun gm wr => ∃ (n3 : Nat) (lt : List (StD)) (sv : Value) (s' : Sta), n3 + gm = 8 ∧ Hid (n3 = lt.length ∧ Sit w B b g cap ts br bc 51 #[.string ⟨#[]⟩, .slice none 0 0, .slice none 0 0, .slice none 0 0, .int .i64 0] #[.string ⟨nm.toArray⟩, .slice ca0 n1 cc0, .slice ca1 n2 cc1, sv, .int .i64 t.pl] s' wr ∧ (wr.ownsRow w.heap.size 63 2 (.slice ca0 n1 cc0) n1 (ln.flatMap pfL) ∧ wr.ownsRow w.heap.size 70 5 (.slice ca1 n2 cc1) n2 (ll.flatMap lkL) ∧ wr.ownsRow w.heap.size 73 4 (sv) n3 (lt.flatMap stL)) ∧ R = stepS (fun r => andR (manyR [115, 116, 97, 116, 105, 99] staR (8 - n3) r) fun cs r => andR (wordR [125] r) fun _ r => .inr ((⟨nm, ln, ll, (lt ++ cs), (t.pl : Int)⟩ : RoD), r)) s'))
          case atStart => exact ⟨0, [], .slice none 0 0, _, by omega, (⟨rfl, HS.out, ⟨HRW.out.1, HRW.out.2, World.ownsRow_nil _ _ _ _⟩, HE.out⟩ : _ ∧ _ ∧ _ ∧ _)⟩
          case round =>
            obtain ⟨n3, lt, sv, s', hn, HW⟩ := hrel
            obtain ⟨ca2, cc2, rfl⟩ := own_form (HW.out.2.2.1).2.2
            obtain ⟨c1, f1⟩ := HW.out.2.1.cell 3 rfl
            have hk := another_rd HW.out.2.1.r [115, 116, 97, 116, 105, 99] n3 8
            obtain ⟨bo, hbo⟩ : ∃ x, x = (stepS (anoR [115, 116, 97, 116, 105, 99] n3 8) s').2.getD false := ⟨_, rfl⟩
            obtain ⟨s4, hs4⟩ : ∃ z, z = (stepS (anoR [115, 116, 97, 116, 105, 99] n3 8) s').1 := ⟨_, rfl⟩
            rw [← hbo, ← hs4] at hk
            have HE : Hid (bo = false → R = stepS (fun r => andR (wordR [125] r) fun _ r => .inr ((⟨nm, ln, ll, lt, (t.pl : Int)⟩ : RoD), r)) s4) := by
              intro hb
              rw [HW.out.2.2.2, hs4]
              have h9 := many_stop (n := n3) (m := 8 - n3) (s := s') (k := 8) (f := staR) (G := fun cs r => andR (wordR [125] r) fun _ r => .inr ((⟨nm, ln, ll, (lt ++ cs), (t.pl : Int)⟩ : RoD), r)) (by omega) (by rw [← hbo]; exact hb)
              simpa only [List.append_nil] using h9
            have HG : Hid (∀ a : (StD), bo = true → Agr a (stepS (staR) s4).2 → n3 < 8 ∧ R = stepS (fun r => andR (manyR [115, 116, 97, 116, 105, 99] staR (8 - (n3 + 1)) r) fun cs r => andR (wordR [125] r) fun _ r => .inr ((⟨nm, ln, ll, ((lt ++ [a]) ++ cs), (t.pl : Int)⟩ : RoD), r)) (stepS (staR) s4).1) := by
              intro a hb ha
              rw [hs4] at ha ⊢
              have h9 := many_go (n := n3) (m := 8 - n3) (s := s') (k := 8) (f := staR) (G := fun cs r => andR (wordR [125] r) fun _ r => .inr ((⟨nm, ln, ll, (lt ++ cs), (t.pl : Int)⟩ : RoD), r)) (a := a) (by omega) hbo hb ha
              refine ⟨by omega, ?_⟩
              rw [HW.out.2.2.2, show 8 - (n3 + 1) = 8 - n3 - 1 by omega]
              simp only [List.append_assoc, List.cons_append, List.nil_append]
              exact h9.2
            clear hbo hs4
            cases bo with
            | false =>
              replace HE : Hid (R = stepS (fun r => andR (wordR [125] r) fun _ r => .inr ((⟨nm, ln, ll, lt, (t.pl : Int)⟩ : RoD), r)) s4) := HE.out rfl
              go_wp2_with fail
              refine hk.mono ?_
              rintro e Y2 ⟨rfl, hY, qY⟩
              have HL : Hid (n3 = lt.length ∧ n3 ≤ 8) := ⟨HW.out.1, by omega⟩
              have HL2 : Hid (n3 = lt.length ∧ n3 ≤ 8) := HL
              have HS : Hid _ := HW.out.2.1.call hY qY
              have HRW : Hid (Y2.ownsRow w.heap.size 63 2 (.slice ca0 n1 cc0) n1 (ln.flatMap pfL) ∧ Y2.ownsRow w.heap.size 70 5 (.slice ca1 n2 cc1) n2 (ll.flatMap lkL) ∧ Y2.ownsRow w.heap.size 73 4 (.slice ca2 n3 cc2) n3 (lt.flatMap stL)) := ⟨rowX (HW.out.2.2.1).1 HO.out.1 qY, rowX (HW.out.2.2.1).2.1 HO.out.1 qY, rowX (HW.out.2.2.1).2.2 HO.out.1 qY⟩
              clear hk hY qY c1 f1 HW HG HL hn
              have HR4 : Hid _ := HE.out
              clear HE
              obtain ⟨p4, hp⟩ := agr_any 0 (stepS (wordR [125]) s4).2
              have HR5 : Hid _ := HR4.out.trans (step_and (f := wordR [125]) hp)
              have hk := take_any HS.out.r [125] (by decide)
              obtain ⟨s5, hs⟩ : ∃ z, z = (stepS (wordR [125]) s4).1 := ⟨_, rfl⟩
              rw [← hs] at HR5 hk
              clear hs hp HR4
              go_wp2_with fail
              refine hk.mono ?_
              rintro e Z5 ⟨rfl, hZ, qZ⟩
              replace HRW : Hid (Z5.ownsRow w.heap.size 63 2 (.slice ca0 n1 cc0) n1 (ln.flatMap pfL) ∧ Z5.ownsRow w.heap.size 70 5 (.slice ca1 n2 cc1) n2 (ll.flatMap lkL) ∧ Z5.ownsRow w.heap.size 73 4 (.slice ca2 n3 cc2) n3 (lt.flatMap stL)) := ⟨rowX HRW.out.1 HO.out.1 qZ, rowX HRW.out.2.1 HO.out.1 qZ, rowX HRW.out.2.2 HO.out.1 qZ⟩
              replace HS : Hid _ := HS.out.call hZ qZ
              clear hk hZ qZ
              obtain ⟨C0, C1, C2, C3, C4⟩ := cells_five HS.out.c
              obtain ⟨D0, D1, D2, D3, D4⟩ := cells_five HS.out.z
              have F0 := free_at HS.out.z 0
              have F1 := free_at HS.out.z 1
              have F2 := free_at HS.out.z 2
              have F3 := free_at HS.out.z 3
              have F4 := free_at HS.out.z 4
              go_wp2_with fail
              obtain ⟨xs, hxs⟩ : ∃ xs : List Value, xs = [.string ⟨nm.toArray⟩, .slice ca0 n1 cc0, .slice ca1 n2 cc1, .slice ca2 n3 cc2, .int .i64 t.pl] := ⟨_, rfl⟩
              obtain ⟨X, hX⟩ : ∃ X, X = putL Z5 br 0 xs := ⟨_, rfl⟩
              have hf := HS.out.fin xs (by rw [hxs]; rfl)
              have hx0 : X.ownsRow w.heap.size 63 2 (.slice ca0 n1 cc0) n1 (ln.flatMap pfL) := by rw [hX]; exact row_put HRW.out.1 HS.out.z (by decide)
              have hx1 : X.ownsRow w.heap.size 70 5 (.slice ca1 n2 cc1) n2 (ll.flatMap lkL) := by rw [hX]; exact row_put HRW.out.2.1 HS.out.z (by decide)
              have hx2 : X.ownsRow w.heap.size 73 4 (.slice ca2 n3 cc2) n3 (lt.flatMap stL) := by rw [hX]; exact row_put HRW.out.2.2 HS.out.z (by decide)
              rw [← hX] at hf
              rw [hxs] at hX hf
              show bodyPost _ _ _ _ _ (putL Z5 br 0 [.string ⟨nm.toArray⟩, .slice ca0 n1 cc0, .slice ca1 n2 cc1, .slice ca2 n3 cc2, .int .i64 t.pl])
              rw [← hX]
              clear hX hxs C0 D0 F0 C1 D1 F1 C2 D2 F2 C3 D3 F3 C4 D4 F4
              obtain ⟨W0, W1, W2, W3, W4⟩ := cells_five hf.1
              have hret := step_ret ((⟨nm, ln, ll, lt, (t.pl : Int)⟩ : RoD)) s5
              have HE : R = stepS (fun r => .inr (((⟨nm, ln, ll, lt, (t.pl : Int)⟩ : RoD)), r)) s5 := HR5.out
              refine bodyPost_ret (v := .agg #[.string ⟨nm.toArray⟩, .slice ca0 n1 cc0, .slice ca1 n2 cc1, .slice ca2 n3 cc2, .int .i64 t.pl]) (by simp [results, Tryz.results43, go_sem, W0, W1, W2, W3, W4]) rfl ?_
              exact ⟨((⟨nm, ln, ll, lt, (t.pl : Int)⟩ : RoD), .slice ca0 n1 cc0, .slice ca1 n2 cc1, .slice ca2 n3 cc2), rfl, by rw [HE]; exact hret.2, ⟨⟨by have h9 := hx0; show X.ownsRow _ _ _ (.slice ca0 n1 cc0) _ _; rw [HL0.out.1] at h9 ⊢; exact h9, by have h9 := hx1; show X.ownsRow _ _ _ (.slice ca1 n2 cc1) _ _; rw [HL1.out.1] at h9 ⊢; exact h9, by have h9 := hx2; show X.ownsRow _ _ _ (.slice ca2 n3 cc2) _ _; rw [HL2.out.1] at h9 ⊢; exact h9⟩, by have := HL0.out; show ln.length ≤ 8; omega, by have := HL1.out; show ll.length ≤ 64; omega, by have := HL2.out; show lt.length ≤ 8; omega⟩, by rw [HE, hret.1]; exact hf.2.1, hf.2.2⟩
            | true =>
              go_wp2_with fail
              refine hk.mono ?_
              rintro e Y ⟨rfl, hY, qY⟩
              have HS : Hid _ := HW.out.2.1.call hY qY
              have HRW : Hid (Y.ownsRow w.heap.size 63 2 (.slice ca0 n1 cc0) n1 (ln.flatMap pfL) ∧ Y.ownsRow w.heap.size 70 5 (.slice ca1 n2 cc1) n2 (ll.flatMap lkL) ∧ Y.ownsRow w.heap.size 73 4 (.slice ca2 n3 cc2) n3 (lt.flatMap stL)) := ⟨rowX (HW.out.2.2.1).1 HO.out.1 qY, rowX (HW.out.2.2.1).2.1 HO.out.1 qY, rowX (HW.out.2.2.1).2.2 HO.out.1 qY⟩
              have HL : Hid (n3 = lt.length) := HW.out.1
              have c2 := (HS.out.cell 3 rfl).1
              have E0 : ∀ p : XOf b Y, p.w.cell? ⟨bc, 3, none⟩ = some (.slice ca2 n3 cc2) := x_cell c2 (Array.getElem?_eq_some_iff.1 HS.out.c).1 HS.out.n.2.1
              have hne := x_ne b Y
              clear hk qY c1 f1 HW HE c2
              go_wp2_with fail
              refine wp_region_from (C := fun w' => ∃ p : XOf b Y, w' = p.w) [0, 1, 2] [3, 4] [5, 6, 7] (by kernel_rfl) (by kernel_rfl) rfl ⟨⟨Y.drew, (BelX.refl _ _).drew⟩, rfl⟩ (fun _ _ d _ _ h => by cases d <;> exact h) ?_
              simp only [pickL, List.getElem?_cons_zero, List.getElem?_cons_succ]
              repeat (go_big_quiet_step (fail))
              refine wpQuiet_nil ?_
              clear E0 hne
              refine chain_go rfl fun Q2 hQ2 => ?_
              have hk := static_rd (w := Y.drew) (hY.below (Below.refl _ _).drew)
              clear hY
              go_wp2_with fail
              refine hk.mono ?_
              rintro e Z ⟨c, rfl, ha, hZ, qZ⟩
              obtain ⟨a, bb, vi, pl⟩ := c
              unfold stV2
              have QZ : BelX b Y Z := ((BelX.refl b Y).drew).trans qZ
              have QA : BelX b Y (Z.alloc (.cells #[.int .u32 a, .int .i64 bb, .string ⟨vi.toArray⟩, .int .i64 pl] 73)) := QZ.alloc _
              have HSA : Hid _ := HS.out.call (hZ.below (bel_alloc (Below.refl _ _) (.cells #[.int .u32 a, .int .i64 bb, .string ⟨vi.toArray⟩, .int .i64 pl] 73))) QA
              have HRA : Hid ((Z.alloc (.cells #[.int .u32 a, .int .i64 bb, .string ⟨vi.toArray⟩, .int .i64 pl] 73)).ownsRow w.heap.size 63 2 (.slice ca0 n1 cc0) n1 (ln.flatMap pfL) ∧ (Z.alloc (.cells #[.int .u32 a, .int .i64 bb, .string ⟨vi.toArray⟩, .int .i64 pl] 73)).ownsRow w.heap.size 70 5 (.slice ca1 n2 cc1) n2 (ll.flatMap lkL) ∧ (Z.alloc (.cells #[.int .u32 a, .int .i64 bb, .string ⟨vi.toArray⟩, .int .i64 pl] 73)).ownsRow w.heap.size 73 4 (.slice ca2 n3 cc2) n3 (lt.flatMap stL)) := ⟨rowX HRW.out.1 HO.out.1 QA, rowX HRW.out.2.1 HO.out.1 QA, rowX HRW.out.2.2 HO.out.1 QA⟩
              replace HG : Hid _ := HG.out _ (by simp) ha
              clear hk ha hZ qZ HRW
              go_wp2_with fail
              refine hQ2 _ _ ⟨⟨Z, QZ⟩, rfl⟩ ?_
              clear hQ2 Q2
              refine chain_go rfl fun Q2 hQ2 => ?_
              go_wp2_with fail
              refine hQ2 _ _ ⟨⟨_, QA⟩, rfl⟩ (chain_end ?_)
              clear hQ2 Q2
              have hO := HRA.out.2.2
              have hsz : w.heap.size ≤ Z.heap.size := Nat.le_trans HS.out.x.size QZ.size
              have hnm : n3 < 8 := HG.out.1
              clear QA QZ HS
              go_wp2_with (at_builtin; refine wpList_append_lies _ rfl _ _ _ rfl w.heap.size 73 i0 _ 4 40 Tryz.underlying49 hi0 hz0 hz1 hz2 rfl (by omega) (.slice ca2 n3 cc2) n3 _ rfl hO ⟨Z.heap.size, 0, none⟩ 1 1 [.int .u32 a, .int .i64 bb, .string ⟨vi.toArray⟩, .int .i64 pl] rfl rfl (World.news_of_block (cs := #[.int .u32 a, .int .i64 bb, .string ⟨vi.toArray⟩, .int .i64 pl]) (t := 73) (fr := (0, 0)) (pf_new _ _ _ rfl)) (by simp [Value.oneCell']) (by omega) (by unfold maxLen; omega) (by omega) (by simp; omega) _ rfl ?_; intro g1 cap1 W1 hown1 hgrow hat hlt1; have HSB : Hid _ := HSA.out.grow hO hgrow (by decide) (by decide) (by decide); have hcb := HSB.out.c; obtain ⟨g0, f0⟩ := HSB.out.cell 3 rfl)
              have HX : Hid (Sit w B b g cap ts br bc 51 #[.string ⟨#[]⟩, .slice none 0 0, .slice none 0 0, .slice none 0 0, .int .i64 0] #[.string ⟨nm.toArray⟩, .slice ca0 n1 cc0, .slice ca1 n2 cc1, (.slice (some ⟨g1, 0, none⟩) (n3 + 1) cap1), .int .i64 t.pl] (stepS staR s4).1 (W1.setCell ⟨bc, 3, none⟩ (.slice (some ⟨g1, 0, none⟩) (n3 + 1) cap1))) := HSB.out.put 3 _
              have HX0 : Hid ((W1.setCell ⟨bc, 3, none⟩ (.slice (some ⟨g1, 0, none⟩) (n3 + 1) cap1)).ownsRow w.heap.size 63 2 (.slice ca0 n1 cc0) n1 (ln.flatMap pfL)) := row_keep hO hgrow hcb (by decide) (by decide) (HRA.out.1)
              have HX1 : Hid ((W1.setCell ⟨bc, 3, none⟩ (.slice (some ⟨g1, 0, none⟩) (n3 + 1) cap1)).ownsRow w.heap.size 70 5 (.slice ca1 n2 cc1) n2 (ll.flatMap lkL)) := row_keep hO hgrow hcb (by decide) (by decide) (HRA.out.2.1)
              have HX2 : Hid ((W1.setCell ⟨bc, 3, none⟩ (.slice (some ⟨g1, 0, none⟩) (n3 + 1) cap1)).ownsRow w.heap.size 73 4 ((.slice (some ⟨g1, 0, none⟩) (n3 + 1) cap1)) (n3 + 1) ((lt ++ [(⟨a, bb, vi, pl⟩ : StD)]).flatMap stL)) := by rw [List.flatMap_append, List.flatMap_singleton]; exact row_set hown1 hcb (by decide)
              have HLL : Hid (n3 + 1 = ((lt ++ [(⟨a, bb, vi, pl⟩ : StD)])).length) := by show _ = _; rw [List.length_append, ← HL.out]; rfl
              clear hown1 hgrow hat hlt1 g0 f0 hcb hO hsz
              go_roundg (8 - (n3 + 1))
              case measure => omega
              case rel => exact ⟨n3 + 1, (lt ++ [(⟨a, bb, vi, pl⟩ : StD)]), _, _, by omega, (⟨HLL.out, HX.out, ⟨HX0.out, HX1.out, HX2.out⟩, HG.out.2⟩ : _ ∧ _ ∧ _ ∧ _)⟩
        | true =>
          go_wp2_with fail
          refine hk.mono ?_
          rintro e Y ⟨rfl, hY, qY⟩
          have HS : Hid _ := HW.out.2.1.call hY qY
          have HRW : Hid (Y.ownsRow w.heap.size 63 2 (.slice ca0 n1 cc0) n1 (ln.flatMap pfL) ∧ Y.ownsRow w.heap.size 70 5 (.slice ca1 n2 cc1) n2 (ll.flatMap lkL)) := ⟨rowX (HW.out.2.2.1).1 HO.out.1 qY, rowX (HW.out.2.2.1).2 HO.out.1 qY⟩
          have HL : Hid (n2 = ll.length) := HW.out.1
          have c2 := (HS.out.cell 2 rfl).1
          have E0 : ∀ p : XOf b Y, p.w.cell? ⟨bc, 2, none⟩ = some (.slice ca1 n2 cc1) := x_cell c2 (Array.getElem?_eq_some_iff.1 HS.out.c).1 HS.out.n.2.1
          have hne := x_ne b Y
          clear hk qY c1 f1 HW HE c2
          go_wp2_with fail
          refine wp_region_from (C := fun w' => ∃ p : XOf b Y, w' = p.w) [0, 1, 2] [3, 4] [5, 6, 7] (by kernel_rfl) (by kernel_rfl) rfl ⟨⟨Y.drew, (BelX.refl _ _).drew⟩, rfl⟩ (fun _ _ d _ _ h => by cases d <;> exact h) ?_
          simp only [pickL, List.getElem?_cons_zero, List.getElem?_cons_succ]
          repeat (go_big_quiet_step (fail))
          refine wpQuiet_nil ?_
          clear E0 hne
          refine chain_go rfl fun Q2 hQ2 => ?_
          have hk := link_rd (w := Y.drew) (hY.below (Below.refl _ _).drew)
          clear hY
          go_wp2_with fail
          refine hk.mono ?_
          rintro e Z ⟨c, rfl, ha, hZ, qZ⟩
          obtain ⟨pe, co, im, ex, pl⟩ := c
          unfold lkV2
          have QZ : BelX b Y Z := ((BelX.refl b Y).drew).trans qZ
          have QA : BelX b Y (Z.alloc (.cells #[.string ⟨pe.toArray⟩, .int .i64 co, .string ⟨im.toArray⟩, .string ⟨ex.toArray⟩, .int .i64 pl] 70)) := QZ.alloc _
          have HSA : Hid _ := HS.out.call (hZ.below (bel_alloc (Below.refl _ _) (.cells #[.string ⟨pe.toArray⟩, .int .i64 co, .string ⟨im.toArray⟩, .string ⟨ex.toArray⟩, .int .i64 pl] 70))) QA
          have HRA : Hid ((Z.alloc (.cells #[.string ⟨pe.toArray⟩, .int .i64 co, .string ⟨im.toArray⟩, .string ⟨ex.toArray⟩, .int .i64 pl] 70)).ownsRow w.heap.size 63 2 (.slice ca0 n1 cc0) n1 (ln.flatMap pfL) ∧ (Z.alloc (.cells #[.string ⟨pe.toArray⟩, .int .i64 co, .string ⟨im.toArray⟩, .string ⟨ex.toArray⟩, .int .i64 pl] 70)).ownsRow w.heap.size 70 5 (.slice ca1 n2 cc1) n2 (ll.flatMap lkL)) := ⟨rowX HRW.out.1 HO.out.1 QA, rowX HRW.out.2 HO.out.1 QA⟩
          replace HG : Hid _ := HG.out _ (by simp) ha
          clear hk ha hZ qZ HRW
          go_wp2_with fail
          refine hQ2 _ _ ⟨⟨Z, QZ⟩, rfl⟩ ?_
          clear hQ2 Q2
          refine chain_go rfl fun Q2 hQ2 => ?_
          go_wp2_with fail
          refine hQ2 _ _ ⟨⟨_, QA⟩, rfl⟩ (chain_end ?_)
          clear hQ2 Q2
          have hO := HRA.out.2
          have hsz : w.heap.size ≤ Z.heap.size := Nat.le_trans HS.out.x.size QZ.size
          have hnm : n2 < 64 := HG.out.1
          clear QA QZ HS
          go_wp2_with (at_builtin; refine wpList_append_lies _ rfl _ _ _ rfl w.heap.size 70 i0 _ 5 64 Tryz.underlying48 hi0 hz0 hz1 hz2 rfl (by omega) (.slice ca1 n2 cc1) n2 _ rfl hO ⟨Z.heap.size, 0, none⟩ 1 1 [.string ⟨pe.toArray⟩, .int .i64 co, .string ⟨im.toArray⟩, .string ⟨ex.toArray⟩, .int .i64 pl] rfl rfl (World.news_of_block (cs := #[.string ⟨pe.toArray⟩, .int .i64 co, .string ⟨im.toArray⟩, .string ⟨ex.toArray⟩, .int .i64 pl]) (t := 70) (fr := (0, 0)) (pf_new _ _ _ rfl)) (by simp [Value.oneCell']) (by omega) (by unfold maxLen; omega) (by omega) (by simp; omega) _ rfl ?_; intro g1 cap1 W1 hown1 hgrow hat hlt1; have HSB : Hid _ := HSA.out.grow hO hgrow (by decide) (by decide) (by decide); have hcb := HSB.out.c; obtain ⟨g0, f0⟩ := HSB.out.cell 2 rfl)
          have HX : Hid (Sit w B b g cap ts br bc 51 #[.string ⟨#[]⟩, .slice none 0 0, .slice none 0 0, .slice none 0 0, .int .i64 0] #[.string ⟨nm.toArray⟩, .slice ca0 n1 cc0, (.slice (some ⟨g1, 0, none⟩) (n2 + 1) cap1), .slice none 0 0, .int .i64 t.pl] (stepS lnkR s4).1 (W1.setCell ⟨bc, 2, none⟩ (.slice (some ⟨g1, 0, none⟩) (n2 + 1) cap1))) := HSB.out.put 2 _
          have HX0 : Hid ((W1.setCell ⟨bc, 2, none⟩ (.slice (some ⟨g1, 0, none⟩) (n2 + 1) cap1)).ownsRow w.heap.size 63 2 (.slice ca0 n1 cc0) n1 (ln.flatMap pfL)) := row_keep hO hgrow hcb (by decide) (by decide) (HRA.out.1)
          have HX1 : Hid ((W1.setCell ⟨bc, 2, none⟩ (.slice (some ⟨g1, 0, none⟩) (n2 + 1) cap1)).ownsRow w.heap.size 70 5 ((.slice (some ⟨g1, 0, none⟩) (n2 + 1) cap1)) (n2 + 1) ((ll ++ [(⟨pe, co, im, ex, pl⟩ : LkD)]).flatMap lkL)) := by rw [List.flatMap_append, List.flatMap_singleton]; exact row_set hown1 hcb (by decide)
          have HLL : Hid (n2 + 1 = ((ll ++ [(⟨pe, co, im, ex, pl⟩ : LkD)])).length) := by show _ = _; rw [List.length_append, ← HL.out]; rfl
          clear hown1 hgrow hat hlt1 g0 f0 hcb hO hsz
          go_roundg (64 - (n2 + 1))
          case measure => omega
          case rel => exact ⟨n2 + 1, (ll ++ [(⟨pe, co, im, ex, pl⟩ : LkD)]), _, _, by omega, (⟨HLL.out, HX.out, ⟨HX0.out, HX1.out⟩, HG.out.2⟩ : _ ∧ _ ∧ _ ∧ _)⟩
    | true =>
      go_wp2_with fail
      refine hk.mono ?_
      rintro e Y ⟨rfl, hY, qY⟩
      have HS : Hid _ := HW.out.2.1.call hY qY
      have HRW : Hid (Y.ownsRow w.heap.size 63 2 (.slice ca0 n1 cc0) n1 (ln.flatMap pfL)) := rowX (HW.out.2.2.1) HO.out.1 qY
      have HL : Hid (n1 = ln.length) := HW.out.1
      have c2 := (HS.out.cell 1 rfl).1
      have E0 : ∀ p : XOf b Y, p.w.cell? ⟨bc, 1, none⟩ = some (.slice ca0 n1 cc0) := x_cell c2 (Array.getElem?_eq_some_iff.1 HS.out.c).1 HS.out.n.2.1
      have hne := x_ne b Y
      clear hk qY c1 f1 HW HE c2
      go_wp2_with fail
      refine wp_region_from (C := fun w' => ∃ p : XOf b Y, w' = p.w) [0, 1, 2] [3, 4] [5, 6, 7] (by kernel_rfl) (by kernel_rfl) rfl ⟨⟨Y.drew, (BelX.refl _ _).drew⟩, rfl⟩ (fun _ _ d _ _ h => by cases d <;> exact h) ?_
      simp only [pickL, List.getElem?_cons_zero, List.getElem?_cons_succ]
      repeat (go_big_quiet_step (fail))
      refine wpQuiet_nil ?_
      clear E0 hne
      refine chain_go rfl fun Q2 hQ2 => ?_
      have hk := net_rd (w := Y.drew) (hY.below (Below.refl _ _).drew)
      clear hY
      go_wp2_with fail
      refine hk.mono ?_
      rintro e Z ⟨c, rfl, ha, hZ, qZ⟩
      obtain ⟨a, bb⟩ := c
      unfold pfV2
      have QZ : BelX b Y Z := ((BelX.refl b Y).drew).trans qZ
      have QA : BelX b Y (Z.alloc (.cells #[.int .u32 a, .int .i64 bb] 63)) := QZ.alloc _
      have HSA : Hid _ := HS.out.call (hZ.below (bel_alloc (Below.refl _ _) (.cells #[.int .u32 a, .int .i64 bb] 63))) QA
      have HRA : Hid ((Z.alloc (.cells #[.int .u32 a, .int .i64 bb] 63)).ownsRow w.heap.size 63 2 (.slice ca0 n1 cc0) n1 (ln.flatMap pfL)) := rowX HRW.out HO.out.1 QA
      replace HG : Hid _ := HG.out _ (by simp) ha
      clear hk ha hZ qZ HRW
      go_wp2_with fail
      refine hQ2 _ _ ⟨⟨Z, QZ⟩, rfl⟩ ?_
      clear hQ2 Q2
      refine chain_go rfl fun Q2 hQ2 => ?_
      go_wp2_with fail
      refine hQ2 _ _ ⟨⟨_, QA⟩, rfl⟩ (chain_end ?_)
      clear hQ2 Q2
      have hO := HRA.out
      have hsz : w.heap.size ≤ Z.heap.size := Nat.le_trans HS.out.x.size QZ.size
      have hnm : n1 < 8 := HG.out.1
      clear QA QZ HS
      go_wp2_with (at_builtin; refine wpList_append_lies _ rfl _ _ _ rfl w.heap.size 63 i0 _ 2 16 Tryz.underlying47 hi0 hz0 hz1 hz2 rfl (by omega) (.slice ca0 n1 cc0) n1 _ rfl hO ⟨Z.heap.size, 0, none⟩ 1 1 [.int .u32 a, .int .i64 bb] rfl rfl (World.news_of_block (cs := #[.int .u32 a, .int .i64 bb]) (t := 63) (fr := (0, 0)) (pf_new _ _ _ rfl)) (by simp [Value.oneCell']) (by omega) (by unfold maxLen; omega) (by omega) (by simp; omega) _ rfl ?_; intro g1 cap1 W1 hown1 hgrow hat hlt1; have HSB : Hid _ := HSA.out.grow hO hgrow (by decide) (by decide) (by decide); have hcb := HSB.out.c; obtain ⟨g0, f0⟩ := HSB.out.cell 1 rfl)
      have HX : Hid (Sit w B b g cap ts br bc 51 #[.string ⟨#[]⟩, .slice none 0 0, .slice none 0 0, .slice none 0 0, .int .i64 0] #[.string ⟨nm.toArray⟩, (.slice (some ⟨g1, 0, none⟩) (n1 + 1) cap1), .slice none 0 0, .slice none 0 0, .int .i64 t.pl] (stepS netR s4).1 (W1.setCell ⟨bc, 1, none⟩ (.slice (some ⟨g1, 0, none⟩) (n1 + 1) cap1))) := HSB.out.put 1 _
      have HX0 : Hid ((W1.setCell ⟨bc, 1, none⟩ (.slice (some ⟨g1, 0, none⟩) (n1 + 1) cap1)).ownsRow w.heap.size 63 2 ((.slice (some ⟨g1, 0, none⟩) (n1 + 1) cap1)) (n1 + 1) ((ln ++ [((a, bb) : Nat × Int)]).flatMap pfL)) := by rw [List.flatMap_append, List.flatMap_singleton]; exact row_set hown1 hcb (by decide)
      have HLL : Hid (n1 + 1 = ((ln ++ [((a, bb) : Nat × Int)])).length) := by show _ = _; rw [List.length_append, ← HL.out]; rfl
      clear hown1 hgrow hat hlt1 g0 f0 hcb hO hsz
      go_roundg (8 - (n1 + 1))
      case measure => omega
      case rel => exact ⟨n1 + 1, (ln ++ [((a, bb) : Nat × Int)]), _, _, by omega, (⟨HLL.out, HX.out, HX0.out, HG.out.2⟩ : _ ∧ _ ∧ _ ∧ _)⟩
end
end Go.Proofs.YtejhgifadohbiaaGreatDoor
namespace Go.Proofs.YtejhgifadohbiaaGreatDoor
open Go.RowKit Go.Lib

theorem own_slc {w : World} {B e z n : Nat} {v : Value} {xs : List Value} (h : w.ownsRow B e z v n xs) : ∃ ad m cap, v = .slice ad m cap := by
  obtain ⟨ad, cap, h⟩ := own_form h
  exact ⟨ad, n, cap, h⟩
section
variable {B b g cap : Nat} {ts : List Tk} {w : World} {s : Sta}
/-- How a configuration's reading ends. -/
def EndR (R : Sta × Option CfD) (c : CfD) (s9 : Sta) : Prop := (∃ r r', R = (.inl r', some c) ∧ s9 = .inl r) ∨ ∃ e, R = (.inr e, none) ∧ s9 = .inr e
theorem endR_yes {c : CfD} (h : holdsB 0 s = true) : EndR (stepS (fun r => andR (endR r) fun _ r => .inr (c, r)) s) c s := by
  obtain ⟨t, r, rfl, ht⟩ := holds_some h
  refine .inl ⟨t :: r, r, step_ok ?_, rfl⟩
  unfold endR
  dsimp only
  rw [if_pos ht]
  rfl
theorem endR_no {c : CfD} {w : World} (h : holdsB 0 s = false) (hr : RdS B b g cap ts s w) : EndR (stepS (fun r => andR (endR r) fun _ r => .inr (c, r)) s) c (failS 2 s) := by
  obtain ⟨n, t, ev, _, _, hh⟩ := hr.ex
  rcases hh with ⟨r, rfl, _⟩ | ⟨e, rfl, _⟩
  · refine .inr ⟨(2, t.pl), step_no ?_, rfl⟩
    unfold endR
    dsimp only
    rw [if_neg (holds_not h rfl)]
    rfl
  · exact .inr ⟨e, rfl, rfl⟩
set_option maxHeartbeats 32000000 in
set_option maxRecDepth 20000 in
theorem config_rd (h : RdS B b g cap ts s w) :
    Calls Tryz.prog 27 #[.pointer (some ⟨b, 0, none⟩)] w fun e w' => ∃ (mv rv : Value) (lm : List MpV) (lr : List RoV) (s9 : Sta), e = .returned (.agg #[mv, rv]) ∧ ConfOwn w.heap.size w' mv rv lm lr ∧
      (lm.length ≤ 64 ∧ lr.length ≤ 64) ∧ EndR (stepS cfgR s) ⟨lm.map (·.1), lr.map (·.1)⟩ s9 ∧ RdS B b g cap ts s9 w' ∧ BelX b w w' := by
  obtain ⟨R, hR⟩ : ∃ R, R = stepS cfgR s := ⟨_, rfl⟩
  rw [← hR]
  have HR0 : Hid (R = stepS cfgR s) := hR
  clear hR
  go_enter Tryz.func27, Tryz.ntmps27
  go_upto_region 2 with fail
  obtain ⟨br, hbr⟩ : ∃ b, b = w.heap.size := ⟨_, rfl⟩
  obtain ⟨bc, hbc⟩ : ∃ b, b = w.heap.size + 1 := ⟨_, rfl⟩
  rw [← hbc, ← hbr]
  obtain ⟨W, hW⟩ : ∃ W, W = w.alloc (.cells #[.slice none 0 0, .slice none 0 0] 31) := ⟨_, rfl⟩
  rw [← hW]
  obtain ⟨V, hV⟩ : ∃ W', W' = W.alloc (.cells #[.slice none 0 0, .slice none 0 0] 31) := ⟨_, rfl⟩
  rw [← hV]
  obtain ⟨q1, r1, _⟩ := box_at w _ hW hbr
  obtain ⟨q2, r2, _⟩ := box_at W _ hV (b := bc) (by rw [hW, hbc]; simp)
  have HO : Hid (b < w.heap.size ∧ g < w.heap.size ∧ w.heap.size ≤ br) := ⟨h.old.2, h.old.1, by omega⟩
  have HS : Hid (Sit w B b g cap ts br bc 31 #[.slice none 0 0, .slice none 0 0] #[.slice none 0 0, .slice none 0 0] s V) := by
    have := h.old
    exact ⟨(h.below q1).below q2, (BelX.of b q1).below q2, pf_block q2 r1, r2, by omega, by omega, by omega, by omega, by omega, by omega, by omega⟩
  clear hW hV q1 q2 r1 r2 hbr hbc
  obtain ⟨i0, hi0, hz0, hz1, hz2⟩ := info_parts infoMp
  go_loopg [] 64 (fun gm wr => ∃ (n1 : Nat) (lm : List MpV) (mv : Value) (s' : Sta), n1 + gm = 64 ∧ Hid (n1 = lm.length ∧ Sit w B b g cap ts br bc 31 #[.slice none 0 0, .slice none 0 0] #[mv, .slice none 0 0] s' wr ∧ (wr.ownsRow w.heap.size 57 3 (mv) n1 (lm.flatMap mpL) ∧ (∀ p ∈ lm, Row1 wr w.heap.size p)) ∧ R = stepS (fun r => andR (manyR [109, 97, 112] mapR (64 - n1) r) fun cs r => andR (manyR [114, 111, 117, 116, 101, 114] rouR 64 r) fun rs r => andR (endR r) fun _ r => .inr ((⟨((lm.map (·.1)) ++ cs), rs⟩ : CfD), r)) s'))
  case atStart => exact ⟨0, [], .slice none 0 0, _, by omega, (⟨rfl, HS.out, ⟨World.ownsRow_nil _ _ _ _, fun p hp => by cases hp⟩, HR0.out⟩ : _ ∧ _ ∧ _ ∧ _)⟩
  case round =>
    obtain ⟨n1, lm, mv, s', hn, HW⟩ := hrel
    obtain ⟨ca0, cc0, rfl⟩ := own_form (HW.out.2.2.1).1
    obtain ⟨c1, f1⟩ := HW.out.2.1.cell 0 rfl
    have hk := another_rd HW.out.2.1.r [109, 97, 112] n1 64
    obtain ⟨bo, hbo⟩ : ∃ x, x = (stepS (anoR [109, 97, 112] n1 64) s').2.getD false := ⟨_, rfl⟩
    obtain ⟨s4, hs4⟩ : ∃ z, z = (stepS (anoR [109, 97, 112] n1 64) s').1 := ⟨_, rfl⟩
    rw [← hbo, ← hs4] at hk
    have HE : Hid (bo = false → R = stepS (fun r => andR (manyR [114, 111, 117, 116, 101, 114] rouR 64 r) fun rs r => andR (endR r) fun _ r => .inr ((⟨(lm.map (·.1)), rs⟩ : CfD), r)) s4) := by
      intro hb
      rw [HW.out.2.2.2, hs4]
      have h9 := many_stop (n := n1) (m := 64 - n1) (s := s') (k := 64) (f := mapR) (G := fun cs r => andR (manyR [114, 111, 117, 116, 101, 114] rouR 64 r) fun rs r => andR (endR r) fun _ r => .inr ((⟨((lm.map (·.1)) ++ cs), rs⟩ : CfD), r)) (by omega) (by rw [← hbo]; exact hb)
      simpa only [List.append_nil] using h9
    have HG : Hid (∀ a : MpD, bo = true → Agr a (stepS (mapR) s4).2 → n1 < 64 ∧ R = stepS (fun r => andR (manyR [109, 97, 112] mapR (64 - (n1 + 1)) r) fun cs r => andR (manyR [114, 111, 117, 116, 101, 114] rouR 64 r) fun rs r => andR (endR r) fun _ r => .inr ((⟨(((lm.map (·.1)) ++ [a]) ++ cs), rs⟩ : CfD), r)) (stepS (mapR) s4).1) := by
      intro a hb ha
      rw [hs4] at ha ⊢
      have h9 := many_go (n := n1) (m := 64 - n1) (s := s') (k := 64) (f := mapR) (G := fun cs r => andR (manyR [114, 111, 117, 116, 101, 114] rouR 64 r) fun rs r => andR (endR r) fun _ r => .inr ((⟨((lm.map (·.1)) ++ cs), rs⟩ : CfD), r)) (a := a) (by omega) hbo hb ha
      refine ⟨by omega, ?_⟩
      rw [HW.out.2.2.2, show 64 - (n1 + 1) = 64 - n1 - 1 by omega]
      simp only [List.append_assoc, List.cons_append, List.nil_append]
      exact h9.2
    clear hbo hs4
    cases bo with
    | false =>
      replace HE : Hid (R = stepS (fun r => andR (manyR [114, 111, 117, 116, 101, 114] rouR 64 r) fun rs r => andR (endR r) fun _ r => .inr ((⟨(lm.map (·.1)), rs⟩ : CfD), r)) s4) := HE.out rfl
      go_wp2_with fail
      refine hk.mono ?_
      rintro e Y0 ⟨rfl, hY, qY⟩
      have HL : Hid (n1 = lm.length ∧ n1 ≤ 64) := ⟨HW.out.1, by omega⟩
      have HL0 : Hid (n1 = lm.length ∧ n1 ≤ 64) := HL
      have HS : Hid _ := HW.out.2.1.call hY qY
      have HRW : Hid (Y0.ownsRow w.heap.size 57 3 (.slice ca0 n1 cc0) n1 (lm.flatMap mpL) ∧ (∀ p ∈ lm, Row1 Y0 w.heap.size p)) := ⟨rowX (HW.out.2.2.1).1 HO.out.1 qY, fun p hp => rowX ((HW.out.2.2.1).2 p hp) HO.out.1 qY⟩
      clear hk hY qY c1 f1 HW HG HL hn
      go_upto_region 4 with fail
      obtain ⟨i0, hi0, hz0, hz1, hz2⟩ := info_parts infoRo
      go_loopg [] 64 (fun gm wr => ∃ (n2 : Nat) (lr : List RoV) (rv : Value) (s' : Sta), n2 + gm = 64 ∧ Hid (n2 = lr.length ∧ Sit w B b g cap ts br bc 31 #[.slice none 0 0, .slice none 0 0] #[.slice ca0 n1 cc0, rv] s' wr ∧ (wr.ownsRow w.heap.size 57 3 (.slice ca0 n1 cc0) n1 (lm.flatMap mpL) ∧ (∀ p ∈ lm, Row1 wr w.heap.size p) ∧ wr.ownsRow w.heap.size 51 5 (rv) n2 (lr.flatMap roL) ∧ (∀ p ∈ lr, Rows3 wr w.heap.size p)) ∧ R = stepS (fun r => andR (manyR [114, 111, 117, 116, 101, 114] rouR (64 - n2) r) fun cs r => andR (endR r) fun _ r => .inr ((⟨(lm.map (·.1)), ((lr.map (·.1)) ++ cs)⟩ : CfD), r)) s'))
      case atStart => exact ⟨0, [], .slice none 0 0, _, by omega, (⟨rfl, HS.out, ⟨HRW.out.1, HRW.out.2, World.ownsRow_nil _ _ _ _, fun p hp => by cases hp⟩, HE.out⟩ : _ ∧ _ ∧ _ ∧ _)⟩
      case round =>
        obtain ⟨n2, lr, rv, s', hn, HW⟩ := hrel
        obtain ⟨ca1, cc1, rfl⟩ := own_form (HW.out.2.2.1).2.2.1
        obtain ⟨c1, f1⟩ := HW.out.2.1.cell 1 rfl
        have hk := another_rd HW.out.2.1.r [114, 111, 117, 116, 101, 114] n2 64
        obtain ⟨bo, hbo⟩ : ∃ x, x = (stepS (anoR [114, 111, 117, 116, 101, 114] n2 64) s').2.getD false := ⟨_, rfl⟩
        obtain ⟨s4, hs4⟩ : ∃ z, z = (stepS (anoR [114, 111, 117, 116, 101, 114] n2 64) s').1 := ⟨_, rfl⟩
        rw [← hbo, ← hs4] at hk
        have HE : Hid (bo = false → R = stepS (fun r => andR (endR r) fun _ r => .inr ((⟨(lm.map (·.1)), (lr.map (·.1))⟩ : CfD), r)) s4) := by
          intro hb
          rw [HW.out.2.2.2, hs4]
          have h9 := many_stop (n := n2) (m := 64 - n2) (s := s') (k := 64) (f := rouR) (G := fun cs r => andR (endR r) fun _ r => .inr ((⟨(lm.map (·.1)), ((lr.map (·.1)) ++ cs)⟩ : CfD), r)) (by omega) (by rw [← hbo]; exact hb)
          simpa only [List.append_nil] using h9
        have HG : Hid (∀ a : RoD, bo = true → Agr a (stepS (rouR) s4).2 → n2 < 64 ∧ R = stepS (fun r => andR (manyR [114, 111, 117, 116, 101, 114] rouR (64 - (n2 + 1)) r) fun cs r => andR (endR r) fun _ r => .inr ((⟨(lm.map (·.1)), (((lr.map (·.1)) ++ [a]) ++ cs)⟩ : CfD), r)) (stepS (rouR) s4).1) := by
          intro a hb ha
          rw [hs4] at ha ⊢
          have h9 := many_go (n := n2) (m := 64 - n2) (s := s') (k := 64) (f := rouR) (G := fun cs r => andR (endR r) fun _ r => .inr ((⟨(lm.map (·.1)), ((lr.map (·.1)) ++ cs)⟩ : CfD), r)) (a := a) (by omega) hbo hb ha
          refine ⟨by omega, ?_⟩
          rw [HW.out.2.2.2, show 64 - (n2 + 1) = 64 - n2 - 1 by omega]
          simp only [List.append_assoc, List.cons_append, List.nil_append]
          exact h9.2
        clear hbo hs4
        cases bo with
        | false =>
          replace HE : Hid (R = stepS (fun r => andR (endR r) fun _ r => .inr ((⟨(lm.map (·.1)), (lr.map (·.1))⟩ : CfD), r)) s4) := HE.out rfl
          go_wp2_with fail
          refine hk.mono ?_
          rintro e Y1 ⟨rfl, hY, qY⟩
          have HL : Hid (n2 = lr.length ∧ n2 ≤ 64) := ⟨HW.out.1, by omega⟩
          have HL1 : Hid (n2 = lr.length ∧ n2 ≤ 64) := HL
          have HS : Hid _ := HW.out.2.1.call hY qY
          have HRW : Hid (Y1.ownsRow w.heap.size 57 3 (.slice ca0 n1 cc0) n1 (lm.flatMap mpL) ∧ (∀ p ∈ lm, Row1 Y1 w.heap.size p) ∧ Y1.ownsRow w.heap.size 51 5 (.slice ca1 n2 cc1) n2 (lr.flatMap roL) ∧ (∀ p ∈ lr, Rows3 Y1 w.heap.size p)) := ⟨rowX (HW.out.2.2.1).1 HO.out.1 qY, fun p hp => rowX ((HW.out.2.2.1).2.1 p hp) HO.out.1 qY, rowX (HW.out.2.2.1).2.2.1 HO.out.1 qY, fun p hp => ⟨rowX ((HW.out.2.2.1).2.2.2 p hp).1 HO.out.1 qY, rowX ((HW.out.2.2.1).2.2.2 p hp).2.1 HO.out.1 qY, rowX ((HW.out.2.2.1).2.2.2 p hp).2.2 HO.out.1 qY⟩⟩
          clear hk hY qY c1 f1 HW HG HL hn
          have hk := holds_any HS.out.r 0
          cases hb : holdsB 0 s4 with
          | true =>
            have HE2 : Hid (EndR R (⟨(lm.map (·.1)), (lr.map (·.1))⟩ : CfD) s4) := by rw [HE.out]; exact endR_yes hb
            rw [hb] at hk
            clear hb HE
            go_wp2_with fail
            refine hk.mono ?_
            rintro e U ⟨rfl, qU⟩
            replace HRW : Hid (U.ownsRow w.heap.size 57 3 (.slice ca0 n1 cc0) n1 (lm.flatMap mpL) ∧ (∀ p ∈ lm, Row1 U w.heap.size p) ∧ U.ownsRow w.heap.size 51 5 (.slice ca1 n2 cc1) n2 (lr.flatMap roL) ∧ (∀ p ∈ lr, Rows3 U w.heap.size p)) := ⟨rowX HRW.out.1 HO.out.1 (BelX.of b qU), fun p hp => rowX (HRW.out.2.1 p hp) HO.out.1 (BelX.of b qU), rowX HRW.out.2.2.1 HO.out.1 (BelX.of b qU), fun p hp => ⟨rowX (HRW.out.2.2.2 p hp).1 HO.out.1 (BelX.of b qU), rowX (HRW.out.2.2.2 p hp).2.1 HO.out.1 (BelX.of b qU), rowX (HRW.out.2.2.2 p hp).2.2 HO.out.1 (BelX.of b qU)⟩⟩
            replace HS : Hid _ := HS.out.below qU
            clear hk qU
            obtain ⟨C0, C1⟩ := cells_two HS.out.c
            obtain ⟨D0, D1⟩ := cells_two HS.out.z
            have F0 := free_at HS.out.z 0
            have F1 := free_at HS.out.z 1
            go_wp2_with fail
            obtain ⟨xs, hxs⟩ : ∃ xs : List Value, xs = [.slice ca0 n1 cc0, .slice ca1 n2 cc1] := ⟨_, rfl⟩
            obtain ⟨X, hX⟩ : ∃ X, X = putL U br 0 xs := ⟨_, rfl⟩
            have hf := HS.out.fin xs (by rw [hxs]; rfl)
            have hx0 : X.ownsRow w.heap.size 57 3 (.slice ca0 n1 cc0) n1 (lm.flatMap mpL) := by rw [hX]; exact row_put HRW.out.1 HS.out.z (by decide)
            have hx1 : (∀ p ∈ lm, Row1 X w.heap.size p) := by rw [hX]; exact fun p hp => row_put (HRW.out.2.1 p hp) HS.out.z (by decide)
            have hx2 : X.ownsRow w.heap.size 51 5 (.slice ca1 n2 cc1) n2 (lr.flatMap roL) := by rw [hX]; exact row_put HRW.out.2.2.1 HS.out.z (by decide)
            have hx3 : (∀ p ∈ lr, Rows3 X w.heap.size p) := by rw [hX]; exact fun p hp => ⟨row_put (HRW.out.2.2.2 p hp).1 HS.out.z (by decide), row_put (HRW.out.2.2.2 p hp).2.1 HS.out.z (by decide), row_put (HRW.out.2.2.2 p hp).2.2 HS.out.z (by decide)⟩
            rw [← hX] at hf
            rw [hxs] at hX hf
            show bodyPost _ _ _ _ _ (putL U br 0 [.slice ca0 n1 cc0, .slice ca1 n2 cc1])
            rw [← hX]
            clear hX hxs C0 C1 D0 D1 F0 F1
            obtain ⟨W0, W1⟩ := cells_two hf.1
            refine bodyPost_ret (v := .agg #[.slice ca0 n1 cc0, .slice ca1 n2 cc1]) (by simp [results, Tryz.results27, go_sem, W0, W1]) rfl ?_
            refine ⟨_, _, lm, lr, s4, rfl, ⟨?_, hx1, ?_, hx3⟩, ⟨by have := HL0.out; omega, by have := HL1.out; omega⟩, HE2.out, hf.2.1, hf.2.2⟩
            · rw [HL0.out.1] at hx0 ⊢; exact hx0
            · rw [HL1.out.1] at hx2 ⊢; exact hx2
          | false =>
            have HE2 : Hid (EndR R (⟨(lm.map (·.1)), (lr.map (·.1))⟩ : CfD) (failS 2 s4)) := by rw [HE.out]; exact endR_no hb HS.out.r
            rw [hb] at hk
            clear hb HE
            go_wp2_with fail
            refine hk.mono ?_
            rintro e U ⟨rfl, qU⟩
            replace HRW : Hid (U.ownsRow w.heap.size 57 3 (.slice ca0 n1 cc0) n1 (lm.flatMap mpL) ∧ (∀ p ∈ lm, Row1 U w.heap.size p) ∧ U.ownsRow w.heap.size 51 5 (.slice ca1 n2 cc1) n2 (lr.flatMap roL) ∧ (∀ p ∈ lr, Rows3 U w.heap.size p)) := ⟨rowX HRW.out.1 HO.out.1 (BelX.of b qU), fun p hp => rowX (HRW.out.2.1 p hp) HO.out.1 (BelX.of b qU), rowX HRW.out.2.2.1 HO.out.1 (BelX.of b qU), fun p hp => ⟨rowX (HRW.out.2.2.2 p hp).1 HO.out.1 (BelX.of b qU), rowX (HRW.out.2.2.2 p hp).2.1 HO.out.1 (BelX.of b qU), rowX (HRW.out.2.2.2 p hp).2.2 HO.out.1 (BelX.of b qU)⟩⟩
            replace HS : Hid _ := HS.out.below qU
            clear hk qU
            have hk := fail_any HS.out.r 2
            go_wp2_with fail
            refine hk.mono ?_
            rintro e U2 ⟨rfl, hU, qU⟩
            replace HRW : Hid (U2.ownsRow w.heap.size 57 3 (.slice ca0 n1 cc0) n1 (lm.flatMap mpL) ∧ (∀ p ∈ lm, Row1 U2 w.heap.size p) ∧ U2.ownsRow w.heap.size 51 5 (.slice ca1 n2 cc1) n2 (lr.flatMap roL) ∧ (∀ p ∈ lr, Rows3 U2 w.heap.size p)) := ⟨rowX HRW.out.1 HO.out.1 qU, fun p hp => rowX (HRW.out.2.1 p hp) HO.out.1 qU, rowX HRW.out.2.2.1 HO.out.1 qU, fun p hp => ⟨rowX (HRW.out.2.2.2 p hp).1 HO.out.1 qU, rowX (HRW.out.2.2.2 p hp).2.1 HO.out.1 qU, rowX (HRW.out.2.2.2 p hp).2.2 HO.out.1 qU⟩⟩
            replace HS : Hid _ := HS.out.call hU qU
            clear hk qU hU
            obtain ⟨C0, C1⟩ := cells_two HS.out.c
            obtain ⟨D0, D1⟩ := cells_two HS.out.z
            have F0 := free_at HS.out.z 0
            have F1 := free_at HS.out.z 1
            go_wp2_with fail
            obtain ⟨xs, hxs⟩ : ∃ xs : List Value, xs = [.slice ca0 n1 cc0, .slice ca1 n2 cc1] := ⟨_, rfl⟩
            obtain ⟨X, hX⟩ : ∃ X, X = putL U2 br 0 xs := ⟨_, rfl⟩
            have hf := HS.out.fin xs (by rw [hxs]; rfl)
            have hx0 : X.ownsRow w.heap.size 57 3 (.slice ca0 n1 cc0) n1 (lm.flatMap mpL) := by rw [hX]; exact row_put HRW.out.1 HS.out.z (by decide)
            have hx1 : (∀ p ∈ lm, Row1 X w.heap.size p) := by rw [hX]; exact fun p hp => row_put (HRW.out.2.1 p hp) HS.out.z (by decide)
            have hx2 : X.ownsRow w.heap.size 51 5 (.slice ca1 n2 cc1) n2 (lr.flatMap roL) := by rw [hX]; exact row_put HRW.out.2.2.1 HS.out.z (by decide)
            have hx3 : (∀ p ∈ lr, Rows3 X w.heap.size p) := by rw [hX]; exact fun p hp => ⟨row_put (HRW.out.2.2.2 p hp).1 HS.out.z (by decide), row_put (HRW.out.2.2.2 p hp).2.1 HS.out.z (by decide), row_put (HRW.out.2.2.2 p hp).2.2 HS.out.z (by decide)⟩
            rw [← hX] at hf
            rw [hxs] at hX hf
            show bodyPost _ _ _ _ _ (putL U2 br 0 [.slice ca0 n1 cc0, .slice ca1 n2 cc1])
            rw [← hX]
            clear hX hxs C0 C1 D0 D1 F0 F1
            obtain ⟨W0, W1⟩ := cells_two hf.1
            refine bodyPost_ret (v := .agg #[.slice ca0 n1 cc0, .slice ca1 n2 cc1]) (by simp [results, Tryz.results27, go_sem, W0, W1]) rfl ?_
            refine ⟨_, _, lm, lr, (failS 2 s4), rfl, ⟨?_, hx1, ?_, hx3⟩, ⟨by have := HL0.out; omega, by have := HL1.out; omega⟩, HE2.out, hf.2.1, hf.2.2⟩
            · rw [HL0.out.1] at hx0 ⊢; exact hx0
            · rw [HL1.out.1] at hx2 ⊢; exact hx2
        | true =>
          go_wp2_with fail
          refine hk.mono ?_
          rintro e Y ⟨rfl, hY, qY⟩
          have HS : Hid _ := HW.out.2.1.call hY qY
          have HRW : Hid (Y.ownsRow w.heap.size 57 3 (.slice ca0 n1 cc0) n1 (lm.flatMap mpL) ∧ (∀ p ∈ lm, Row1 Y w.heap.size p) ∧ Y.ownsRow w.heap.size 51 5 (.slice ca1 n2 cc1) n2 (lr.flatMap roL) ∧ (∀ p ∈ lr, Rows3 Y w.heap.size p)) := ⟨rowX (HW.out.2.2.1).1 HO.out.1 qY, fun p hp => rowX ((HW.out.2.2.1).2.1 p hp) HO.out.1 qY, rowX (HW.out.2.2.1).2.2.1 HO.out.1 qY, fun p hp => ⟨rowX ((HW.out.2.2.1).2.2.2 p hp).1 HO.out.1 qY, rowX ((HW.out.2.2.1).2.2.2 p hp).2.1 HO.out.1 qY, rowX ((HW.out.2.2.1).2.2.2 p hp).2.2 HO.out.1 qY⟩⟩
          have HL : Hid (n2 = lr.length) := HW.out.1
          have c2 := (HS.out.cell 1 rfl).1
          have E0 : ∀ p : XOf b Y, p.w.cell? ⟨bc, 1, none⟩ = some (.slice ca1 n2 cc1) := x_cell c2 (Array.getElem?_eq_some_iff.1 HS.out.c).1 HS.out.n.2.1
          have hne := x_ne b Y
          clear hk qY c1 f1 HW HE c2
          go_wp2_with fail
          refine wp_region_from (C := fun w' => ∃ p : XOf b Y, w' = p.w) [0, 1, 2] [3, 4] [5, 6, 7] (by kernel_rfl) (by kernel_rfl) rfl ⟨⟨Y.drew, (BelX.refl _ _).drew⟩, rfl⟩ (fun _ _ d _ _ h => by cases d <;> exact h) ?_
          simp only [pickL, List.getElem?_cons_zero, List.getElem?_cons_succ]
          repeat (go_big_quiet_step (fail))
          refine wpQuiet_nil ?_
          clear E0 hne
          refine chain_go rfl fun Q2 hQ2 => ?_
          have hk := router_rd (w := Y.drew) (hY.below (Below.refl _ _).drew)
          clear hY
          go_wp2_with fail
          refine hk.mono ?_
          rintro e Z ⟨c, rfl, ha, ⟨hrow, _⟩, hZ, qZ⟩
          obtain ⟨⟨nm, nets, lks, sts, pl⟩, nv, lv, sv⟩ := c
          obtain ⟨da, dn, dc, rfl⟩ := own_slc hrow.1
          obtain ⟨ea, en, ec, rfl⟩ := own_slc hrow.2.1
          obtain ⟨fa, fn, fc, rfl⟩ := own_slc hrow.2.2
          dsimp only at ha ⊢
          have QZ : BelX b Y Z := ((BelX.refl b Y).drew).trans qZ
          have QA : BelX b Y (Z.alloc (.cells #[.string ⟨nm.toArray⟩, .slice da dn dc, .slice ea en ec, .slice fa fn fc, .int .i64 pl] 51)) := QZ.alloc _
          have HSA : Hid _ := HS.out.call (hZ.below (bel_alloc (Below.refl _ _) (.cells #[.string ⟨nm.toArray⟩, .slice da dn dc, .slice ea en ec, .slice fa fn fc, .int .i64 pl] 51))) QA
          have HRA : Hid ((Z.alloc (.cells #[.string ⟨nm.toArray⟩, .slice da dn dc, .slice ea en ec, .slice fa fn fc, .int .i64 pl] 51)).ownsRow w.heap.size 57 3 (.slice ca0 n1 cc0) n1 (lm.flatMap mpL) ∧ (∀ p ∈ lm, Row1 (Z.alloc (.cells #[.string ⟨nm.toArray⟩, .slice da dn dc, .slice ea en ec, .slice fa fn fc, .int .i64 pl] 51)) w.heap.size p) ∧ (Z.alloc (.cells #[.string ⟨nm.toArray⟩, .slice da dn dc, .slice ea en ec, .slice fa fn fc, .int .i64 pl] 51)).ownsRow w.heap.size 51 5 (.slice ca1 n2 cc1) n2 (lr.flatMap roL) ∧ (∀ p ∈ lr, Rows3 (Z.alloc (.cells #[.string ⟨nm.toArray⟩, .slice da dn dc, .slice ea en ec, .slice fa fn fc, .int .i64 pl] 51)) w.heap.size p)) := ⟨rowX HRW.out.1 HO.out.1 QA, fun p hp => rowX (HRW.out.2.1 p hp) HO.out.1 QA, rowX HRW.out.2.2.1 HO.out.1 QA, fun p hp => ⟨rowX (HRW.out.2.2.2 p hp).1 HO.out.1 QA, rowX (HRW.out.2.2.2 p hp).2.1 HO.out.1 QA, rowX (HRW.out.2.2.2 p hp).2.2 HO.out.1 QA⟩⟩
          have HNR : Hid (Rows3 (Z.alloc (.cells #[.string ⟨nm.toArray⟩, .slice da dn dc, .slice ea en ec, .slice fa fn fc, .int .i64 pl] 51)) w.heap.size (((⟨nm, nets, lks, sts, pl⟩ : RoD), Value.slice da dn dc, Value.slice ea en ec, Value.slice fa fn fc) : RoV)) := ⟨own_le (own_bel hrow.1 (bel_alloc (Below.refl _ _) _)) HS.out.x.size, own_le (own_bel hrow.2.1 (bel_alloc (Below.refl _ _) _)) HS.out.x.size, own_le (own_bel hrow.2.2 (bel_alloc (Below.refl _ _) _)) HS.out.x.size⟩
          clear hrow
          replace HG : Hid _ := HG.out _ (by simp) ha
          clear hk ha hZ qZ HRW
          go_wp2_with fail
          refine hQ2 _ _ ⟨⟨Z, QZ⟩, rfl⟩ ?_
          clear hQ2 Q2
          refine chain_go rfl fun Q2 hQ2 => ?_
          go_wp2_with fail
          refine hQ2 _ _ ⟨⟨_, QA⟩, rfl⟩ (chain_end ?_)
          clear hQ2 Q2
          have hO := HRA.out.2.2.1
          have hsz : w.heap.size ≤ Z.heap.size := Nat.le_trans HS.out.x.size QZ.size
          have hnm : n2 < 64 := HG.out.1
          clear QA QZ HS
          go_wp2_with (at_builtin; refine wpList_append_lies _ rfl _ _ _ rfl w.heap.size 51 i0 _ 5 96 Tryz.underlying29 hi0 hz0 hz1 hz2 rfl (by omega) (.slice ca1 n2 cc1) n2 _ rfl hO ⟨Z.heap.size, 0, none⟩ 1 1 [.string ⟨nm.toArray⟩, .slice da dn dc, .slice ea en ec, .slice fa fn fc, .int .i64 pl] rfl rfl (World.news_of_block (cs := #[.string ⟨nm.toArray⟩, .slice da dn dc, .slice ea en ec, .slice fa fn fc, .int .i64 pl]) (t := 51) (fr := (0, 0)) (pf_new _ _ _ rfl)) (by simp [Value.oneCell']) (by omega) (by unfold maxLen; omega) (by omega) (by simp; omega) _ rfl ?_; intro g1 cap1 W1 hown1 hgrow hat hlt1; have HSB : Hid _ := HSA.out.grow hO hgrow (by decide) (by decide) (by decide); have hcb := HSB.out.c; obtain ⟨g0, f0⟩ := HSB.out.cell 1 rfl)
          have HX : Hid (Sit w B b g cap ts br bc 31 #[.slice none 0 0, .slice none 0 0] #[.slice ca0 n1 cc0, (.slice (some ⟨g1, 0, none⟩) (n2 + 1) cap1)] (stepS rouR s4).1 (W1.setCell ⟨bc, 1, none⟩ (.slice (some ⟨g1, 0, none⟩) (n2 + 1) cap1))) := HSB.out.put 1 _
          have HX0 : Hid ((W1.setCell ⟨bc, 1, none⟩ (.slice (some ⟨g1, 0, none⟩) (n2 + 1) cap1)).ownsRow w.heap.size 57 3 (.slice ca0 n1 cc0) n1 (lm.flatMap mpL)) := row_keep hO hgrow hcb (by decide) (by decide) (HRA.out.1)
          have HX1 : Hid ((∀ p ∈ lm, Row1 (W1.setCell ⟨bc, 1, none⟩ (.slice (some ⟨g1, 0, none⟩) (n2 + 1) cap1)) w.heap.size p)) := fun p hp => row_keep hO hgrow hcb (by decide) (by decide) (HRA.out.2.1 p hp)
          have HX2 : Hid ((W1.setCell ⟨bc, 1, none⟩ (.slice (some ⟨g1, 0, none⟩) (n2 + 1) cap1)).ownsRow w.heap.size 51 5 ((.slice (some ⟨g1, 0, none⟩) (n2 + 1) cap1)) (n2 + 1) ((lr ++ [(((⟨nm, nets, lks, sts, pl⟩ : RoD), Value.slice da dn dc, Value.slice ea en ec, Value.slice fa fn fc) : RoV)]).flatMap roL)) := by rw [List.flatMap_append, List.flatMap_singleton]; exact row_set hown1 hcb (by decide)
          have HX3 : Hid ((∀ p ∈ (lr ++ [(((⟨nm, nets, lks, sts, pl⟩ : RoD), Value.slice da dn dc, Value.slice ea en ec, Value.slice fa fn fc) : RoV)]), Rows3 (W1.setCell ⟨bc, 1, none⟩ (.slice (some ⟨g1, 0, none⟩) (n2 + 1) cap1)) w.heap.size p)) := by
            intro p hp
            rcases List.mem_append.1 hp with hp | hp
            · exact ⟨row_keep hO hgrow hcb (by decide) (by decide) (HRA.out.2.2.2 p hp).1, row_keep hO hgrow hcb (by decide) (by decide) (HRA.out.2.2.2 p hp).2.1, row_keep hO hgrow hcb (by decide) (by decide) (HRA.out.2.2.2 p hp).2.2⟩
            · rw [List.mem_singleton] at hp
              subst hp
              exact ⟨row_keep hO hgrow hcb (by decide) (by decide) HNR.out.1, row_keep hO hgrow hcb (by decide) (by decide) HNR.out.2.1, row_keep hO hgrow hcb (by decide) (by decide) HNR.out.2.2⟩
          have HLL : Hid (n2 + 1 = ((lr ++ [(((⟨nm, nets, lks, sts, pl⟩ : RoD), Value.slice da dn dc, Value.slice ea en ec, Value.slice fa fn fc) : RoV)])).length) := by show _ = _; rw [List.length_append, ← HL.out]; rfl
          clear hown1 hgrow hat hlt1 g0 f0 hcb hO hsz
          go_roundg (64 - (n2 + 1))
          case measure => omega
          case rel => exact ⟨n2 + 1, (lr ++ [(((⟨nm, nets, lks, sts, pl⟩ : RoD), Value.slice da dn dc, Value.slice ea en ec, Value.slice fa fn fc) : RoV)]), _, _, by omega, (⟨HLL.out, HX.out, ⟨HX0.out, HX1.out, HX2.out, HX3.out⟩, (by have h9 := HG.out.2; rw [List.map_append]; exact h9)⟩ : _ ∧ _ ∧ _ ∧ _)⟩
    | true =>
      go_wp2_with fail
      refine hk.mono ?_
      rintro e Y ⟨rfl, hY, qY⟩
      have HS : Hid _ := HW.out.2.1.call hY qY
      have HRW : Hid (Y.ownsRow w.heap.size 57 3 (.slice ca0 n1 cc0) n1 (lm.flatMap mpL) ∧ (∀ p ∈ lm, Row1 Y w.heap.size p)) := ⟨rowX (HW.out.2.2.1).1 HO.out.1 qY, fun p hp => rowX ((HW.out.2.2.1).2 p hp) HO.out.1 qY⟩
      have HL : Hid (n1 = lm.length) := HW.out.1
      have c2 := (HS.out.cell 0 rfl).1
      have E0 : ∀ p : XOf b Y, p.w.cell? ⟨bc, 0, none⟩ = some (.slice ca0 n1 cc0) := x_cell c2 (Array.getElem?_eq_some_iff.1 HS.out.c).1 HS.out.n.2.1
      have hne := x_ne b Y
      clear hk qY c1 f1 HW HE c2
      go_wp2_with fail
      refine wp_region_from (C := fun w' => ∃ p : XOf b Y, w' = p.w) [0, 1, 2] [3, 4] [5, 6, 7] (by kernel_rfl) (by kernel_rfl) rfl ⟨⟨Y.drew, (BelX.refl _ _).drew⟩, rfl⟩ (fun _ _ d _ _ h => by cases d <;> exact h) ?_
      simp only [pickL, List.getElem?_cons_zero, List.getElem?_cons_succ]
      repeat (go_big_quiet_step (fail))
      refine wpQuiet_nil ?_
      clear E0 hne
      refine chain_go rfl fun Q2 hQ2 => ?_
      have hk := map_rd (w := Y.drew) (hY.below (Below.refl _ _).drew)
      clear hY
      go_wp2_with fail
      refine hk.mono ?_
      rintro e Z ⟨c, rfl, ha, ⟨hrow, _⟩, hZ, qZ⟩
      obtain ⟨⟨nm, cls, pl⟩, cv⟩ := c
      obtain ⟨da, dn, dc, rfl⟩ := own_slc hrow
      dsimp only at ha ⊢
      have QZ : BelX b Y Z := ((BelX.refl b Y).drew).trans qZ
      have QA : BelX b Y (Z.alloc (.cells #[.string ⟨nm.toArray⟩, .slice da dn dc, .int .i64 pl] 57)) := QZ.alloc _
      have HSA : Hid _ := HS.out.call (hZ.below (bel_alloc (Below.refl _ _) (.cells #[.string ⟨nm.toArray⟩, .slice da dn dc, .int .i64 pl] 57))) QA
      have HRA : Hid ((Z.alloc (.cells #[.string ⟨nm.toArray⟩, .slice da dn dc, .int .i64 pl] 57)).ownsRow w.heap.size 57 3 (.slice ca0 n1 cc0) n1 (lm.flatMap mpL) ∧ (∀ p ∈ lm, Row1 (Z.alloc (.cells #[.string ⟨nm.toArray⟩, .slice da dn dc, .int .i64 pl] 57)) w.heap.size p)) := ⟨rowX HRW.out.1 HO.out.1 QA, fun p hp => rowX (HRW.out.2 p hp) HO.out.1 QA⟩
      have HNR : Hid (Row1 (Z.alloc (.cells #[.string ⟨nm.toArray⟩, .slice da dn dc, .int .i64 pl] 57)) w.heap.size (((⟨nm, cls, pl⟩ : MpD), Value.slice da dn dc) : MpV)) := own_le (own_bel hrow (bel_alloc (Below.refl _ _) _)) HS.out.x.size
      clear hrow
      replace HG : Hid _ := HG.out _ (by simp) ha
      clear hk ha hZ qZ HRW
      go_wp2_with fail
      refine hQ2 _ _ ⟨⟨Z, QZ⟩, rfl⟩ ?_
      clear hQ2 Q2
      refine chain_go rfl fun Q2 hQ2 => ?_
      go_wp2_with fail
      refine hQ2 _ _ ⟨⟨_, QA⟩, rfl⟩ (chain_end ?_)
      clear hQ2 Q2
      have hO := HRA.out.1
      have hsz : w.heap.size ≤ Z.heap.size := Nat.le_trans HS.out.x.size QZ.size
      have hnm : n1 < 64 := HG.out.1
      clear QA QZ HS
      go_wp2_with (at_builtin; refine wpList_append_lies _ rfl _ _ _ rfl w.heap.size 57 i0 _ 3 48 Tryz.underlying28 hi0 hz0 hz1 hz2 rfl (by omega) (.slice ca0 n1 cc0) n1 _ rfl hO ⟨Z.heap.size, 0, none⟩ 1 1 [.string ⟨nm.toArray⟩, .slice da dn dc, .int .i64 pl] rfl rfl (World.news_of_block (cs := #[.string ⟨nm.toArray⟩, .slice da dn dc, .int .i64 pl]) (t := 57) (fr := (0, 0)) (pf_new _ _ _ rfl)) (by simp [Value.oneCell']) (by omega) (by unfold maxLen; omega) (by omega) (by simp; omega) _ rfl ?_; intro g1 cap1 W1 hown1 hgrow hat hlt1; have HSB : Hid _ := HSA.out.grow hO hgrow (by decide) (by decide) (by decide); have hcb := HSB.out.c; obtain ⟨g0, f0⟩ := HSB.out.cell 0 rfl)
      have HX : Hid (Sit w B b g cap ts br bc 31 #[.slice none 0 0, .slice none 0 0] #[(.slice (some ⟨g1, 0, none⟩) (n1 + 1) cap1), .slice none 0 0] (stepS mapR s4).1 (W1.setCell ⟨bc, 0, none⟩ (.slice (some ⟨g1, 0, none⟩) (n1 + 1) cap1))) := HSB.out.put 0 _
      have HX0 : Hid ((W1.setCell ⟨bc, 0, none⟩ (.slice (some ⟨g1, 0, none⟩) (n1 + 1) cap1)).ownsRow w.heap.size 57 3 ((.slice (some ⟨g1, 0, none⟩) (n1 + 1) cap1)) (n1 + 1) ((lm ++ [(((⟨nm, cls, pl⟩ : MpD), Value.slice da dn dc) : MpV)]).flatMap mpL)) := by rw [List.flatMap_append, List.flatMap_singleton]; exact row_set hown1 hcb (by decide)
      have HX1 : Hid ((∀ p ∈ (lm ++ [(((⟨nm, cls, pl⟩ : MpD), Value.slice da dn dc) : MpV)]), Row1 (W1.setCell ⟨bc, 0, none⟩ (.slice (some ⟨g1, 0, none⟩) (n1 + 1) cap1)) w.heap.size p)) := by
        intro p hp
        rcases List.mem_append.1 hp with hp | hp
        · exact row_keep hO hgrow hcb (by decide) (by decide) (HRA.out.2 p hp)
        · rw [List.mem_singleton] at hp
          subst hp
          exact row_keep hO hgrow hcb (by decide) (by decide) HNR.out
      have HLL : Hid (n1 + 1 = ((lm ++ [(((⟨nm, cls, pl⟩ : MpD), Value.slice da dn dc) : MpV)])).length) := by show _ = _; rw [List.length_append, ← HL.out]; rfl
      clear hown1 hgrow hat hlt1 g0 f0 hcb hO hsz
      go_roundg (64 - (n1 + 1))
      case measure => omega
      case rel => exact ⟨n1 + 1, (lm ++ [(((⟨nm, cls, pl⟩ : MpD), Value.slice da dn dc) : MpV)]), _, _, by omega, (⟨HLL.out, HX.out, ⟨HX0.out, HX1.out⟩, (by have h9 := HG.out.2; rw [List.map_append]; exact h9)⟩ : _ ∧ _ ∧ _ ∧ _)⟩
end
end Go.Proofs.YtejhgifadohbiaaGreatDoor
namespace Go.Proofs.YtejhgifadohbiaaGreatDoor
open Go.RowKit Go.Lib

/-- What Config answers of a text. -/
def PaOut (w : World) : (Nat × Nat) ⊕ CfD → Ending → World → Prop
  | .inl x, e, w' => e = .returned (.tuple #[.agg #[.slice none 0 0, .slice none 0 0], faV x.1 x.2]) ∧ Below w.heap.size w w'
  | .inr c, e, w' => ∃ (mv rv : Value) (lm : List MpV) (lr : List RoV), e = .returned (.tuple #[.agg #[mv, rv], .nilIface]) ∧ ConfOwn w.heap.size w' mv rv lm lr ∧ (lm.length ≤ 64 ∧ lr.length ≤ 64) ∧ (lm.map (·.1) = c.maps ∧ lr.map (·.1) = c.ros) ∧ Below w.heap.size w w'
theorem toks_tail {l : Bs} {ts : List Tk} (h : toks l 0 0 = .inr ts) : Tail ts := by
  obtain ⟨us, rfl, _⟩ := toks_wf l.length l (Nat.le_refl _) 0 0 ts h
  exact ⟨us, _, rfl, rfl, rfl⟩
theorem read_is {l : Bs} (hl : l.length ≤ 65536) {ts : List Tk} (h : toks l 0 0 = .inr ts) : readP l = match cfgR ts with | .inl e => .inl e | .inr (c, _) => .inr c := by
  unfold readP
  rw [if_neg (by omega), h]
  rfl
theorem read_bad {l : Bs} (hl : l.length ≤ 65536) {k : Nat} (h : toks l 0 0 = .inl k) : readP l = .inl (1, k) := by
  unfold readP
  rw [if_neg (by omega), h]
theorem end_ok {ts : List Tk} {c : CfD} {s9 : Sta} {l : Bs} (hl : l.length ≤ 65536) (ht : toks l 0 0 = .inr ts) (h : EndR (stepS cfgR (.inl ts)) c s9) : ((∃ r, s9 = .inl r) ∧ readP l = .inr c) ∨ ∃ e, s9 = .inr e ∧ readP l = .inl e := by
  rw [read_is hl ht]
  have e0 : stepS cfgR (.inl ts) = resS (cfgR ts) := rfl
  rw [e0] at h
  cases hc : cfgR ts with
  | inl e =>
    rw [hc] at h
    rcases h with ⟨r, r', h, _⟩ | ⟨e', h, h2⟩
    · cases h
    · have : e = e' := by
        have := congrArg Prod.fst h
        injection this
      subst this
      exact .inr ⟨e, h2, rfl⟩
  | inr p =>
    obtain ⟨c', r1⟩ := p
    rw [hc] at h
    rcases h with ⟨r, r', h, h2⟩ | ⟨e', h, _⟩
    · have : c' = c := by
        have := congrArg Prod.snd h
        injection this
      subst this
      exact .inl ⟨⟨r, h2⟩, rfl⟩
    · cases congrArg Prod.snd h
set_option maxHeartbeats 8000000 in
set_option maxRecDepth 20000 in
theorem paconfig_any (l : Bs) (hl : l.length ≤ 65536) (w : World) : Calls Tryz.prog 10 #[.string ⟨l.toArray⟩] w (PaOut w (readP l)) := by
  have hc := cut_any ⟨l.toArray⟩ (by rw [str_size]; exact hl)
  rw [show (⟨l.toArray⟩ : ByteArray).data.toList = l from rfl] at hc
  obtain ⟨A, hA⟩ : ∃ A : ByteArray, A = ⟨l.toArray⟩ := ⟨_, rfl⟩
  rw [← hA] at hc ⊢
  clear hA
  obtain ⟨br, hbr⟩ : ∃ b, b = w.heap.size := ⟨_, rfl⟩
  obtain ⟨W, hW⟩ : ∃ W, W = w.alloc (.cells #[.slice none 0 0, .slice none 0 0] 31) := ⟨_, rfl⟩
  obtain ⟨q1, r1, _⟩ := box_at w _ hW hbr
  have hcW := hc W
  clear hc
  cases ht : toks l 0 0 with
  | inl k =>
    have HP : Hid (readP l = .inl (1, k)) := read_bad hl ht
    rw [ht] at hcW
    clear ht
    go_enter Tryz.func10, Tryz.ntmps10
    go_upto_region 1 with fail
    rw [← hbr, ← hW]
    have HB : Hid (w.heap.size ≤ br) := by show _ ≤ _; omega
    clear hW hbr
    unfold CutOut faV at hcW
    go_wp2_with fail
    refine hcW.mono ?_
    rintro e U ⟨rfl, qU⟩
    have rU := pf_block qU r1
    have QU : Hid (Below w.heap.size w U) := bel_up q1 qU q1.size
    clear hcW r1 q1 qU
    obtain ⟨D0, D1⟩ := cells_two rU
    have F0 := free_at rU 0
    have F1 := free_at rU 1
    go_wp2_with fail
    obtain ⟨X, hX⟩ : ∃ X, X = (U.setCell ⟨br, 0, none⟩ (.slice none 0 0)).setCell ⟨br, 1, none⟩ (.slice none 0 0) := ⟨_, rfl⟩
    rw [← hX]
    have rX : X.heap[br]? = some (.cells #[.slice none 0 0, .slice none 0 0] 31 (0, 0)) := by rw [hX]; exact set_at (i := 1) (set_at (i := 0) rU _) _
    have qX : Below w.heap.size w X := by rw [hX]; exact (QU.out.setCell HB.out _).setCell HB.out _
    clear hX D0 D1 F0 F1 rU
    obtain ⟨W0, W1⟩ := cells_two rX
    rw [HP.out]
    refine bodyPost_ret (v := .tuple #[.agg #[.slice none 0 0, .slice none 0 0], .iface 88 (.agg #[.int .i64 1, .int .i64 k])]) (by simp [results, Tryz.results10, go_sem, W0, W1]) rfl ?_
    exact ⟨rfl, qX⟩
  | inr ts =>
    have HP : Hid (∀ c s9, EndR (stepS cfgR (.inl ts)) c s9 → ((∃ r, s9 = .inl r) ∧ readP l = .inr c) ∨ ∃ e, s9 = .inr e ∧ readP l = .inl e) := fun c s9 h => end_ok hl ht h
    have HT : Hid (Tail ts) := toks_tail ht
    rw [ht] at hcW
    clear ht
    go_enter Tryz.func10, Tryz.ntmps10
    go_upto_region 1 with fail
    rw [← hbr, ← hW]
    have HB : Hid (w.heap.size ≤ br) := by show _ ≤ _; omega
    clear hW hbr
    unfold CutOut at hcW
    go_wp2_with fail
    refine hcW.mono ?_
    rintro e U ⟨g, cap, rfl, ho, qU⟩
    have rU := pf_block qU r1
    have HU : Hid (Below w.heap.size w U ∧ U.ownsRow w.heap.size 103 6 (.slice (some ⟨g, 0, none⟩) ts.length cap) ts.length (ts.flatMap tkL) ∧ U.heap[br]? = some (.cells #[.slice none 0 0, .slice none 0 0] 31 (0, 0))) := ⟨bel_up q1 qU q1.size, own_le ho q1.size, rU⟩
    clear hcW r1 q1 qU ho rU
    go_upto_region 5 with fail
    obtain ⟨b, hb⟩ : ∃ b, b = U.heap.size := ⟨_, rfl⟩
    rw [← hb]
    obtain ⟨V, hV⟩ : ∃ V, V = U.alloc (.cells #[.slice (some ⟨g, 0, none⟩) ts.length cap, .int .i64 0, .nilIface] 84) := ⟨_, rfl⟩
    rw [← hV]
    obtain ⟨q2, r2, _⟩ := box_at U _ hV hb
    have hrd : RdS w.heap.size b g cap ts (.inl ts) V := by
      refine ⟨0, rfl, HT.out, r2, own_bel HU.out.2.1 q2, ?_⟩
      obtain ⟨t, r, h⟩ := HT.out.cons
      rw [h]
      simp
    have HV : Hid (Below w.heap.size w V ∧ V.heap[br]? = some (.cells #[.slice none 0 0, .slice none 0 0] 31 (0, 0)) ∧ w.heap.size ≤ b ∧ br ≠ b) := by
      have h1 := HU.out.1.size
      have h2 := (Array.getElem?_eq_some_iff.1 HU.out.2.2).1
      exact ⟨bel_up HU.out.1 q2 h1, pf_block q2 HU.out.2.2, by omega, by omega⟩
    have hk := config_rd hrd
    clear hV hb q2 r2 hrd HU
    go_wp2_with fail
    refine hk.mono ?_
    rintro e Y ⟨mv, rv, lm, lr, s9, rfl, hown, hlen, hend, hY, qY⟩
    have hval := HP.out _ _ hend
    obtain ⟨ma, mn, mc, rfl⟩ := own_slc hown.m
    obtain ⟨ra, rn, rc, rfl⟩ := own_slc hown.r
    have HO : Hid (ConfOwn w.heap.size Y (.slice ma mn mc) (.slice ra rn rc) lm lr ∧ lm.length ≤ 64 ∧ lr.length ≤ 64) := ⟨⟨own_le hown.m HV.out.1.size, fun p hp => own_le (hown.mc p hp) HV.out.1.size, own_le hown.r HV.out.1.size, fun p hp => ⟨own_le (hown.rc p hp).1 HV.out.1.size, own_le (hown.rc p hp).2.1 HV.out.1.size, own_le (hown.rc p hp).2.2 HV.out.1.size⟩⟩, hlen⟩
    have HY : Hid (Below w.heap.size w Y ∧ Y.heap[br]? = some (.cells #[.slice none 0 0, .slice none 0 0] 31 (0, 0))) := ⟨qY.bel HV.out.1 HV.out.2.2.1, qY.get HV.out.2.1 HV.out.2.2.2⟩
    clear hk hown hlen hend qY
    go_upto_region 6 with fail
    obtain ⟨b7, hb7⟩ : ∃ b, b = Y.heap.size := ⟨_, rfl⟩
    rw [← hb7]
    obtain ⟨Q, hQ⟩ : ∃ Q, Q = Y.alloc (.cells #[.slice ma mn mc, .slice ra rn rc] 31) := ⟨_, rfl⟩
    rw [← hQ]
    obtain ⟨q3, r3, _⟩ := box_at Y _ hQ hb7
    have hQ1 := hY.below q3
    have rQ := pf_block q3 HY.out.2
    have HQ : Hid (Below w.heap.size w Q ∧ Q.heap[br]? = some (.cells #[.slice none 0 0, .slice none 0 0] 31 (0, 0)) ∧ ConfOwn w.heap.size Q (.slice ma mn mc) (.slice ra rn rc) lm lr ∧ lm.length ≤ 64 ∧ lr.length ≤ 64) := ⟨bel_up HY.out.1 q3 HY.out.1.size, rQ, HO.out.1.kept q3, HO.out.2⟩
    clear hQ hb7 q3 hY
    rcases hval with ⟨⟨r, rfl⟩, hp⟩ | ⟨⟨k, p⟩, rfl, hp⟩
    · obtain ⟨n, _, _, hrd⟩ := hQ1
      obtain ⟨C0, C1, C2⟩ := cells_three hrd.c
      obtain ⟨T0, T1⟩ := cells_two r3
      obtain ⟨D0, D1⟩ := cells_two rQ
      have F0 := free_at rQ 0
      have F1 := free_at rQ 1
      have HPP : Hid (readP l = .inr ⟨lm.map (·.1), lr.map (·.1)⟩) := hp
      clear hrd r3 rQ hp
      go_wp2_with fail
      obtain ⟨X, hX⟩ : ∃ X, X = (Q.setCell ⟨br, 0, none⟩ (.slice ma mn mc)).setCell ⟨br, 1, none⟩ (.slice ra rn rc) := ⟨_, rfl⟩
      rw [← hX]
      have rX : X.heap[br]? = some (.cells #[.slice ma mn mc, .slice ra rn rc] 31 (0, 0)) := by rw [hX]; exact set_at (i := 1) (set_at (i := 0) HQ.out.2.1 _) _
      have qX : Below w.heap.size w X := by rw [hX]; exact (HQ.out.1.setCell HB.out _).setCell HB.out _
      have oX : ConfOwn w.heap.size X (.slice ma mn mc) (.slice ra rn rc) lm lr := by
        have key : ∀ {e z n : Nat} {v : Value} {xs : List Value}, 31 ≠ e → Q.ownsRow w.heap.size e z v n xs → X.ownsRow w.heap.size e z v n xs := fun he ho => by
          rw [hX]
          exact row_set (row_set ho HQ.out.2.1 he) (set_at (i := 0) HQ.out.2.1 _) he
        exact ⟨key (by decide) HQ.out.2.2.1.m, fun p hp => key (by decide) (HQ.out.2.2.1.mc p hp), key (by decide) HQ.out.2.2.1.r, fun p hp => ⟨key (by decide) (HQ.out.2.2.1.rc p hp).1, key (by decide) (HQ.out.2.2.1.rc p hp).2.1, key (by decide) (HQ.out.2.2.1.rc p hp).2.2⟩⟩
      clear hX C0 C1 C2 T0 T1 D0 D1 F0 F1
      obtain ⟨W0, W1⟩ := cells_two rX
      rw [HPP.out]
      refine bodyPost_ret (v := .tuple #[.agg #[.slice ma mn mc, .slice ra rn rc], .nilIface]) (by simp [results, Tryz.results10, go_sem, W0, W1]) rfl ?_
      exact ⟨_, _, lm, lr, rfl, oX, HQ.out.2.2.2, ⟨rfl, rfl⟩, qX⟩
    · obtain ⟨n, hrd⟩ := hQ1
      obtain ⟨C0, C1, C2⟩ := cells_three hrd.c
      obtain ⟨D0, D1⟩ := cells_two rQ
      have F0 := free_at rQ 0
      have F1 := free_at rQ 1
      have HPP : Hid (readP l = .inl (k, p)) := hp
      unfold faV at C2
      dsimp only at C2
      clear hrd r3 rQ hp
      go_wp2_with fail
      go_region
      obtain ⟨X, hX⟩ : ∃ X, X = ((Q.setCell ⟨br, 0, none⟩ (.slice none 0 0)).setCell ⟨br, 1, none⟩ (.slice none 0 0)).drew := ⟨_, rfl⟩
      rw [← hX]
      have rX : X.heap[br]? = some (.cells #[.slice none 0 0, .slice none 0 0] 31 (0, 0)) := by rw [hX, heap_drew]; exact set_at (i := 1) (set_at (i := 0) HQ.out.2.1 _) _
      have qX : Below w.heap.size w X := by rw [hX]; exact ((HQ.out.1.setCell HB.out _).setCell HB.out _).drew
      clear hX C0 C1 C2 D0 D1 F0 F1
      obtain ⟨W0, W1⟩ := cells_two rX
      go_wp2_with fail
      rw [HPP.out]
      refine bodyPost_ret (v := .tuple #[.agg #[.slice none 0 0, .slice none 0 0], .iface 88 (.agg #[.int .i64 k, .int .i64 p])]) (by simp [results, Tryz.results10, go_sem, W0, W1]) rfl ?_
      exact ⟨rfl, qX⟩
end Go.Proofs.YtejhgifadohbiaaGreatDoor
