/- What a reader does with a clause. -/
import Derived.Test.YtejhgifadohbiaaDoorVF
import Derived.Test.YtejhgifadohbiaaDoorHM
namespace Go.Proofs.YtejhgifadohbiaaDoor
open Go.RowKit Go.Lib

/-- Cells written, one behind the other. -/
def putL (w : World) (b : Nat) : Nat → List Value → World
  | _, [] => w
  | i, x :: r => putL (w.setCell ⟨b, i, none⟩ x) b (i + 1) r
theorem putL_at {b T : Nat} {fr : Nat × Nat} : ∀ (xs : List Value) (i : Nat) (zs : Array Value) (w : World), w.heap[b]? = some (.cells zs T fr) → i + xs.length = zs.size → (putL w b i xs).heap[b]? = some (.cells (zs.toList.take i ++ xs).toArray T fr)
  | [], i, zs, w, h, hl => by
    rw [List.append_nil, List.take_of_length_le (by simp at hl ⊢; omega)]
    exact h
  | x :: r, i, zs, w, h, hl => by
    rw [List.length_cons] at hl
    have := putL_at r (i + 1) (zs.setIfInBounds i x) (w.setCell ⟨b, i, none⟩ x) (set_at h x) (by simp; omega)
    show (putL (w.setCell ⟨b, i, none⟩ x) b (i + 1) r).heap[b]? = _
    rw [this]
    congr 3
    rw [Array.toList_setIfInBounds, List.take_add_one]
    simp only [List.take_set, List.getElem?_set, if_true]
    rw [if_pos (by simp; omega)]
    simp only [Option.toList_some, List.append_assoc, List.singleton_append]
    rw [List.set_eq_of_length_le (by simp; omega)]
theorem putL_keep {p : World → Prop} {b : Nat} (hp : ∀ w i x, p w → p (w.setCell ⟨b, i, none⟩ x)) : ∀ (xs : List Value) (i : Nat) (w : World), p w → p (putL w b i xs)
  | [], _, _, h => h
  | x :: r, i, w, h => putL_keep hp r (i + 1) _ (hp w i x h)
/-- What lies while a reader makes a thing. -/
structure Sit (w : World) (B b g cap : Nat) (ts : List Tk) (br bc T : Nat) (zs cs : Array Value) (s : Sta) (Z : World) : Prop where
  r : RdS B b g cap ts s Z
  x : BelX b w Z
  z : Z.heap[br]? = some (.cells zs T (0, 0))
  c : Z.heap[bc]? = some (.cells cs T (0, 0))
  n : br ≠ b ∧ bc ≠ b ∧ br ≠ bc ∧ br ≠ g ∧ bc ≠ g ∧ w.heap.size ≤ br ∧ w.heap.size ≤ bc
section
variable {w Z Z' : World} {B b g cap br bc T : Nat} {ts : List Tk} {zs cs : Array Value} {s s' : Sta}
theorem Sit.call (h : Sit w B b g cap ts br bc T zs cs s Z) (hr : RdS B b g cap ts s' Z') (q : BelX b Z Z') : Sit w B b g cap ts br bc T zs cs s' Z' :=
  ⟨hr, h.x.trans q, q.get h.z h.n.1, q.get h.c h.n.2.1, h.n⟩
theorem Sit.put (h : Sit w B b g cap ts br bc T zs cs s Z) (i : Nat) (v : Value) : Sit w B b g cap ts br bc T zs (cs.setIfInBounds i v) s (Z.setCell ⟨bc, i, none⟩ v) :=
  ⟨h.r.cell h.n.2.1 h.n.2.2.2.2.1 v, h.x.set (.inr h.n.2.2.2.2.2.2) v, set_off h.z h.n.2.2.1 v, set_at h.c v, h.n⟩
theorem Sit.cell (h : Sit w B b g cap ts br bc T zs cs s Z) (i : Nat) {v : Value} (hv : cs[i]? = some v) : Z.cell? ⟨bc, i, none⟩ = some v ∧ Z.frozen? ⟨bc, i, none⟩ = false := by
  refine ⟨?_, free_at h.c i⟩
  simp [World.cell?, h.c, hv]
theorem Sit.fin (h : Sit w B b g cap ts br bc T zs cs s Z) (xs : List Value) (hx : xs.length = zs.size) : (putL Z br 0 xs).heap[br]? = some (.cells xs.toArray T (0, 0)) ∧ RdS B b g cap ts s (putL Z br 0 xs) ∧ BelX b w (putL Z br 0 xs) := by
  refine ⟨?_, putL_keep (p := fun Z => RdS B b g cap ts s Z) (fun Z i x hZ => hZ.cell h.n.1 h.n.2.2.2.1 x) xs 0 Z h.r, putL_keep (p := fun Z => BelX b w Z) (fun Z i x hZ => hZ.set (.inr h.n.2.2.2.2.2.1) x) xs 0 Z h.x⟩
  have := putL_at xs 0 zs Z h.z (by omega)
  simpa using this
end
def clV2 (c : ClD) : Value := .agg #[.bool c.any, .int .u32 c.a, .int .i64 c.b, .int .u8 c.wi, .int .u8 c.ou, .bool c.drop, .int .u8 c.se, .int .u8 c.cl, .int .i64 c.more, .int .i64 c.pref]
section
variable {B b g cap : Nat} {ts : List Tk} {w : World} {s : Sta}
theorem onR_step (s : Sta) : stepS onR s = stepS (fun r => if (stepS (optB [97, 110, 121]) s).2.getD false = true then .inr ((true, 0, 0), r) else andR (pfxR r) fun p r => .inr ((false, p.1, p.2), r)) (stepS (optB [97, 110, 121]) s).1 :=
  (step_congr fun r _ => onR_is r).trans (step_and (f := optB [97, 110, 121]) (Agr.getD false _))
set_option maxHeartbeats 16000000 in
set_option maxRecDepth 20000 in
theorem clause_rd (h : RdS B b g cap ts s w) :
    Calls Tryd.prog 36 #[.pointer (some ⟨b, 0, none⟩)] w fun e w' => ∃ c : ClD, e = .returned (clV2 c) ∧ Agr c (stepS claR s).2 ∧ RdS B b g cap ts (stepS claR s).1 w' ∧ BelX b w w' := by
  obtain ⟨R, hR⟩ : ∃ R, R = stepS claR s := ⟨_, rfl⟩
  rw [← hR]
  have HR0 : Hid (R = stepS claR s) := hR
  clear hR
  go_enter Tryd.func36, Tryd.ntmps36
  go_upto_region 2 with fail
  obtain ⟨br, hbr⟩ : ∃ b, b = w.heap.size := ⟨_, rfl⟩
  obtain ⟨bc, hbc⟩ : ∃ b, b = w.heap.size + 1 := ⟨_, rfl⟩
  rw [← hbc, ← hbr]
  obtain ⟨W, hW⟩ : ∃ W, W = w.alloc (.cells #[.bool false, .int .u32 0, .int .i64 0, .int .u8 0, .int .u8 0, .bool false, .int .u8 0, .int .u8 0, .int .i64 0, .int .i64 0] 97) := ⟨_, rfl⟩
  rw [← hW]
  obtain ⟨V, hV⟩ : ∃ W', W' = W.alloc (.cells #[.bool false, .int .u32 0, .int .i64 0, .int .u8 0, .int .u8 0, .bool false, .int .u8 0, .int .u8 0, .int .i64 0, .int .i64 0] 97) := ⟨_, rfl⟩
  rw [← hV]
  obtain ⟨q1, r1, _⟩ := box_at w _ hW hbr
  obtain ⟨q2, r2, _⟩ := box_at W _ hV (b := bc) (by rw [hW, hbc]; simp)
  have HS : Hid (Sit w B b g cap ts br bc 97 #[.bool false, .int .u32 0, .int .i64 0, .int .u8 0, .int .u8 0, .bool false, .int .u8 0, .int .u8 0, .int .i64 0, .int .i64 0] #[.bool false, .int .u32 0, .int .i64 0, .int .u8 0, .int .u8 0, .bool false, .int .u8 0, .int .u8 0, .int .i64 0, .int .i64 0] s V) := by
    have := h.old
    exact ⟨(h.below q1).below q2, (BelX.of b q1).below q2, pf_block q2 r1, r2, by omega, by omega, by omega, by omega, by omega, by omega, by omega⟩
  clear hW hV q1 q2 r1 r2 hbr hbc
  obtain ⟨p0, hp⟩ := agr_any 0 (stepS (wordR [105, 102]) s).2
  have HR1 : Hid _ := HR0.out.trans (step_and (f := wordR [105, 102]) hp)
  have hk := take_any HS.out.r [105, 102] (by decide)
  obtain ⟨s1, hs⟩ : ∃ z, z = (stepS (wordR [105, 102]) s).1 := ⟨_, rfl⟩
  rw [← hs] at HR1 hk
  clear hs hp HR0
  go_wp2_with fail
  refine hk.mono ?_
  rintro e Z1 ⟨rfl, hZ, qZ⟩
  replace HS : Hid _ := HS.out.call hZ qZ
  clear hk hZ qZ
  have hk := took_any HS.out.r [97, 110, 121] (by decide)
  have HO := onR_step s1
  obtain ⟨an, han⟩ : ∃ a, a = (stepS (optB [97, 110, 121]) s1).2.getD false := ⟨_, rfl⟩
  obtain ⟨t2, ht2⟩ : ∃ z, z = (stepS (optB [97, 110, 121]) s1).1 := ⟨_, rfl⟩
  rw [← han, ← ht2] at HO hk
  have HO : Hid _ := HO
  clear han ht2
  go_wp2_with fail
  refine hk.mono ?_
  rintro e Z2 ⟨rfl, hZ, qZ⟩
  replace HS : Hid _ := HS.out.call hZ qZ
  clear hk hZ qZ
  obtain ⟨c0, f0⟩ := HS.out.cell 0 rfl
  replace HS : Hid (Sit w B b g cap ts br bc 97 #[.bool false, .int .u32 0, .int .i64 0, .int .u8 0, .int .u8 0, .bool false, .int .u8 0, .int .u8 0, .int .i64 0, .int .i64 0] #[.bool an, .int .u32 0, .int .i64 0, .int .u8 0, .int .u8 0, .bool false, .int .u8 0, .int .u8 0, .int .i64 0, .int .i64 0] t2 (Z2.setCell ⟨bc, 0, none⟩ (.bool an))) := HS.out.put 0 (.bool an)
  go_upto_region 4 with fail
  obtain ⟨Y, hY⟩ : ∃ Y, Y = Z2.setCell ⟨bc, 0, none⟩ (.bool an) := ⟨_, rfl⟩
  rw [← hY] at HS ⊢
  clear hY c0 f0
  obtain ⟨c0, f0⟩ := HS.out.cell 0 rfl
  go_upto_if 11 with fail
  clear c0 f0
  go_cut [] from 12 to 40 (fun wx => ∃ (a : Nat) (bb : Int) (s2 : Sta), Hid (Sit w B b g cap ts br bc 97 #[.bool false, .int .u32 0, .int .i64 0, .int .u8 0, .int .u8 0, .bool false, .int .u8 0, .int .u8 0, .int .i64 0, .int .i64 0] #[.bool an, .int .u32 a, .int .i64 bb, .int .u8 0, .int .u8 0, .bool false, .int .u8 0, .int .u8 0, .int .i64 0, .int .i64 0] s2 wx ∧ s2 = (stepS onR s1).1 ∧ Agr (an, a, bb) (stepS onR s1).2))
  case first =>
    cases an with
    | true =>
      go_wp2_with fail
      go_meet
      case rel =>
        have h9 := step_ret (true, (0 : Nat), (0 : Int)) t2
        have HO2 : stepS onR s1 = stepS (fun r => .inr ((true, 0, 0), r)) t2 := HO.out
        exact ⟨0, 0, t2, HS.out, by rw [HO2, h9.1], by rw [HO2]; exact h9.2⟩
    | false =>
      have hk := prefix_rd HS.out.r
      obtain ⟨p, hp⟩ : ∃ p, p = (stepS pfxR t2).2.getD (0, 0) := ⟨_, rfl⟩
      have hpa : Agr p (stepS pfxR t2).2 := by rw [hp]; exact Agr.getD _ _
      rw [← hp] at hk
      have HO2 : stepS onR s1 = stepS (fun r => andR (pfxR r) fun p r => .inr ((false, p.1, p.2), r)) t2 := HO.out
      have HO3 : Hid _ := HO2.trans (step_and (f := pfxR) hpa)
      clear hp hpa HO2
      obtain ⟨a, bb⟩ := p
      unfold pfV2 at hk
      go_wp2_with fail
      refine hk.mono ?_
      rintro e Z ⟨rfl, hZ, qZ⟩
      replace HS : Hid _ := HS.out.call hZ qZ
      obtain ⟨c1, f1⟩ := HS.out.cell 1 rfl
      obtain ⟨c2, f2⟩ := HS.out.cell 2 rfl
      clear hk hZ qZ
      go_wp2_with fail
      go_meet
      case rel =>
        have h9 := step_ret (false, a, bb) (stepS pfxR t2).1
        have HO4 : stepS onR s1 = stepS (fun r => .inr ((false, a, bb), r)) (stepS pfxR t2).1 := HO3.out
        exact ⟨a, bb, _, (HS.out.put 1 (.int .u32 a)).put 2 (.int .i64 bb), by rw [HO4, h9.1], by rw [HO4]; exact h9.2⟩
  case rest =>
    obtain ⟨a, bb, s2, HC⟩ := hcut
    have HR2 := HR1.out.trans (step_and (f := onR) HC.out.2.2)
    rw [← HC.out.2.1] at HR2
    replace HR2 : Hid _ := HR2
    clear HS
    have HS : Hid _ := HC.out.1
    clear HC HR1 HO
    have Z2 := wc
    have hk := tags_rd HS.out.r [119, 105, 116, 104] (by decide)
    go_wp2_with fail
    refine hk.mono ?_
    rintro e Z3 ⟨wi, rfl, hp, hZ, qZ⟩
    have HR3 : Hid _ := HR2.out.trans (step_and (f := optT [119, 105, 116, 104]) hp)
    obtain ⟨s3, hs⟩ : ∃ z, z = (stepS (optT [119, 105, 116, 104]) s2).1 := ⟨_, rfl⟩
    rw [← hs] at HR3 hZ
    replace HS : Hid _ := HS.out.call hZ qZ
    clear hk hZ qZ hs hp HR2
    obtain ⟨c0, f0⟩ := HS.out.cell 3 rfl
    replace HS : Hid (Sit w B b g cap ts br bc 97 #[.bool false, .int .u32 0, .int .i64 0, .int .u8 0, .int .u8 0, .bool false, .int .u8 0, .int .u8 0, .int .i64 0, .int .i64 0] #[.bool an, .int .u32 a, .int .i64 bb, .int .u8 wi, .int .u8 0, .bool false, .int .u8 0, .int .u8 0, .int .i64 0, .int .i64 0] s3 (Z3.setCell ⟨bc, 3, none⟩ (.int .u8 wi))) := HS.out.put 3 (.int .u8 wi)
    have hk := tags_rd HS.out.r [111, 117, 116] (by decide)
    go_wp2_with fail
    refine hk.mono ?_
    rintro e Z4 ⟨ou, rfl, hp, hZ, qZ⟩
    have HR4 : Hid _ := HR3.out.trans (step_and (f := optT [111, 117, 116]) hp)
    obtain ⟨s4, hs⟩ : ∃ z, z = (stepS (optT [111, 117, 116]) s3).1 := ⟨_, rfl⟩
    rw [← hs] at HR4 hZ
    replace HS : Hid _ := HS.out.call hZ qZ
    clear hk hZ qZ hs hp HR3
    obtain ⟨c0, f0⟩ := HS.out.cell 4 rfl
    replace HS : Hid (Sit w B b g cap ts br bc 97 #[.bool false, .int .u32 0, .int .i64 0, .int .u8 0, .int .u8 0, .bool false, .int .u8 0, .int .u8 0, .int .i64 0, .int .i64 0] #[.bool an, .int .u32 a, .int .i64 bb, .int .u8 wi, .int .u8 ou, .bool false, .int .u8 0, .int .u8 0, .int .i64 0, .int .i64 0] s4 (Z4.setCell ⟨bc, 4, none⟩ (.int .u8 ou))) := HS.out.put 4 (.int .u8 ou)
    obtain ⟨p4, hp⟩ := agr_any 0 (stepS (wordR [116, 104, 101, 110]) s4).2
    have HR5 : Hid _ := HR4.out.trans (step_and (f := wordR [116, 104, 101, 110]) hp)
    have hk := take_any HS.out.r [116, 104, 101, 110] (by decide)
    obtain ⟨s5, hs⟩ : ∃ z, z = (stepS (wordR [116, 104, 101, 110]) s4).1 := ⟨_, rfl⟩
    rw [← hs] at HR5 hk
    clear hs hp HR4
    go_wp2_with fail
    refine hk.mono ?_
    rintro e Z5 ⟨rfl, hZ, qZ⟩
    replace HS : Hid _ := HS.out.call hZ qZ
    clear hk hZ qZ
    have hk := took_any HS.out.r [100, 114, 111, 112] (by decide)
    obtain ⟨dr, ha⟩ : ∃ a, a = (stepS (optB [100, 114, 111, 112]) s5).2.getD false := ⟨_, rfl⟩
    have hp : Agr dr (stepS (optB [100, 114, 111, 112]) s5).2 := by rw [ha]; exact Agr.getD _ _
    rw [← ha] at hk
    clear ha
    have HR6 : Hid _ := HR5.out.trans (step_and (f := optB [100, 114, 111, 112]) hp)
    obtain ⟨s6, hs⟩ : ∃ z, z = (stepS (optB [100, 114, 111, 112]) s5).1 := ⟨_, rfl⟩
    rw [← hs] at HR6 hk
    clear hs hp HR5
    go_wp2_with fail
    refine hk.mono ?_
    rintro e Z6 ⟨rfl, hZ, qZ⟩
    replace HS : Hid _ := HS.out.call hZ qZ
    clear hk hZ qZ
    obtain ⟨c0, f0⟩ := HS.out.cell 5 rfl
    replace HS : Hid (Sit w B b g cap ts br bc 97 #[.bool false, .int .u32 0, .int .i64 0, .int .u8 0, .int .u8 0, .bool false, .int .u8 0, .int .u8 0, .int .i64 0, .int .i64 0] #[.bool an, .int .u32 a, .int .i64 bb, .int .u8 wi, .int .u8 ou, .bool dr, .int .u8 0, .int .u8 0, .int .i64 0, .int .i64 0] s6 (Z6.setCell ⟨bc, 5, none⟩ (.bool dr))) := HS.out.put 5 (.bool dr)
    have hk := tags_rd HS.out.r [115, 101, 116] (by decide)
    go_wp2_with fail
    refine hk.mono ?_
    rintro e Z7 ⟨se, rfl, hp, hZ, qZ⟩
    have HR7 : Hid _ := HR6.out.trans (step_and (f := optT [115, 101, 116]) hp)
    obtain ⟨s7, hs⟩ : ∃ z, z = (stepS (optT [115, 101, 116]) s6).1 := ⟨_, rfl⟩
    rw [← hs] at HR7 hZ
    replace HS : Hid _ := HS.out.call hZ qZ
    clear hk hZ qZ hs hp HR6
    obtain ⟨c0, f0⟩ := HS.out.cell 6 rfl
    replace HS : Hid (Sit w B b g cap ts br bc 97 #[.bool false, .int .u32 0, .int .i64 0, .int .u8 0, .int .u8 0, .bool false, .int .u8 0, .int .u8 0, .int .i64 0, .int .i64 0] #[.bool an, .int .u32 a, .int .i64 bb, .int .u8 wi, .int .u8 ou, .bool dr, .int .u8 se, .int .u8 0, .int .i64 0, .int .i64 0] s7 (Z7.setCell ⟨bc, 6, none⟩ (.int .u8 se))) := HS.out.put 6 (.int .u8 se)
    have hk := tags_rd HS.out.r [99, 108, 101, 97, 114] (by decide)
    go_wp2_with fail
    refine hk.mono ?_
    rintro e Z8 ⟨cl, rfl, hp, hZ, qZ⟩
    have HR8 : Hid _ := HR7.out.trans (step_and (f := optT [99, 108, 101, 97, 114]) hp)
    obtain ⟨s8, hs⟩ : ∃ z, z = (stepS (optT [99, 108, 101, 97, 114]) s7).1 := ⟨_, rfl⟩
    rw [← hs] at HR8 hZ
    replace HS : Hid _ := HS.out.call hZ qZ
    clear hk hZ qZ hs hp HR7
    obtain ⟨c0, f0⟩ := HS.out.cell 7 rfl
    replace HS : Hid (Sit w B b g cap ts br bc 97 #[.bool false, .int .u32 0, .int .i64 0, .int .u8 0, .int .u8 0, .bool false, .int .u8 0, .int .u8 0, .int .i64 0, .int .i64 0] #[.bool an, .int .u32 a, .int .i64 bb, .int .u8 wi, .int .u8 ou, .bool dr, .int .u8 se, .int .u8 cl, .int .i64 0, .int .i64 0] s8 (Z8.setCell ⟨bc, 7, none⟩ (.int .u8 cl))) := HS.out.put 7 (.int .u8 cl)
    have hk := numB_rd HS.out.r [109, 111, 114, 101] (by decide) 15
    obtain ⟨mo, ha⟩ : ∃ a, a = (stepS (optN [109, 111, 114, 101] 15) s8).2.getD 0 := ⟨_, rfl⟩
    have hp : Agr mo (stepS (optN [109, 111, 114, 101] 15) s8).2 := by rw [ha]; exact Agr.getD _ _
    rw [← ha] at hk
    clear ha
    have HR9 : Hid _ := HR8.out.trans (step_and (f := optN [109, 111, 114, 101] 15) hp)
    obtain ⟨s9, hs⟩ : ∃ z, z = (stepS (optN [109, 111, 114, 101] 15) s8).1 := ⟨_, rfl⟩
    rw [← hs] at HR9 hk
    clear hs hp HR8
    go_wp2_with fail
    refine hk.mono ?_
    rintro e Z9 ⟨rfl, hZ, qZ⟩
    replace HS : Hid _ := HS.out.call hZ qZ
    clear hk hZ qZ
    obtain ⟨c0, f0⟩ := HS.out.cell 8 rfl
    replace HS : Hid (Sit w B b g cap ts br bc 97 #[.bool false, .int .u32 0, .int .i64 0, .int .u8 0, .int .u8 0, .bool false, .int .u8 0, .int .u8 0, .int .i64 0, .int .i64 0] #[.bool an, .int .u32 a, .int .i64 bb, .int .u8 wi, .int .u8 ou, .bool dr, .int .u8 se, .int .u8 cl, .int .i64 mo, .int .i64 0] s9 (Z9.setCell ⟨bc, 8, none⟩ (.int .i64 mo))) := HS.out.put 8 (.int .i64 mo)
    have hk := numB_rd HS.out.r [112, 114, 101, 102] (by decide) 255
    obtain ⟨pr, ha⟩ : ∃ a, a = (stepS (optN [112, 114, 101, 102] 255) s9).2.getD 0 := ⟨_, rfl⟩
    have hp : Agr pr (stepS (optN [112, 114, 101, 102] 255) s9).2 := by rw [ha]; exact Agr.getD _ _
    rw [← ha] at hk
    clear ha
    have HR10 : Hid _ := HR9.out.trans (step_and (f := optN [112, 114, 101, 102] 255) hp)
    obtain ⟨s10, hs⟩ : ∃ z, z = (stepS (optN [112, 114, 101, 102] 255) s9).1 := ⟨_, rfl⟩
    rw [← hs] at HR10 hk
    clear hs hp HR9
    go_wp2_with fail
    refine hk.mono ?_
    rintro e Z10 ⟨rfl, hZ, qZ⟩
    replace HS : Hid _ := HS.out.call hZ qZ
    clear hk hZ qZ
    obtain ⟨c0, f0⟩ := HS.out.cell 9 rfl
    replace HS : Hid (Sit w B b g cap ts br bc 97 #[.bool false, .int .u32 0, .int .i64 0, .int .u8 0, .int .u8 0, .bool false, .int .u8 0, .int .u8 0, .int .i64 0, .int .i64 0] #[.bool an, .int .u32 a, .int .i64 bb, .int .u8 wi, .int .u8 ou, .bool dr, .int .u8 se, .int .u8 cl, .int .i64 mo, .int .i64 pr] s10 (Z10.setCell ⟨bc, 9, none⟩ (.int .i64 pr))) := HS.out.put 9 (.int .i64 pr)
    obtain ⟨p10, hp⟩ := agr_any 0 (stepS (wordR [59]) s10).2
    have HR11 : Hid _ := HR10.out.trans (step_and (f := wordR [59]) hp)
    have hk := take_any HS.out.r [59] (by decide)
    obtain ⟨s11, hs⟩ : ∃ z, z = (stepS (wordR [59]) s10).1 := ⟨_, rfl⟩
    rw [← hs] at HR11 hk
    clear hs hp HR10
    go_wp2_with fail
    refine hk.mono ?_
    rintro e Z11 ⟨rfl, hZ, qZ⟩
    replace HS : Hid _ := HS.out.call hZ qZ
    clear hk hZ qZ
    obtain ⟨C0, C1, C2, C3, C4, C5, C6, C7, C8, C9⟩ := cells_ten HS.out.c
    obtain ⟨D0, D1, D2, D3, D4, D5, D6, D7, D8, D9⟩ := cells_ten HS.out.z
    have F0 := free_at HS.out.z 0
    have F1 := free_at HS.out.z 1
    have F2 := free_at HS.out.z 2
    have F3 := free_at HS.out.z 3
    have F4 := free_at HS.out.z 4
    have F5 := free_at HS.out.z 5
    have F6 := free_at HS.out.z 6
    have F7 := free_at HS.out.z 7
    have F8 := free_at HS.out.z 8
    have F9 := free_at HS.out.z 9
    go_wp2_with fail
    obtain ⟨xs, hxs⟩ : ∃ xs : List Value, xs = [.bool an, .int .u32 a, .int .i64 bb, .int .u8 wi, .int .u8 ou, .bool dr, .int .u8 se, .int .u8 cl, .int .i64 mo, .int .i64 pr] := ⟨_, rfl⟩
    obtain ⟨X, hX⟩ : ∃ X, X = putL Z11 br 0 xs := ⟨_, rfl⟩
    have hf := HS.out.fin xs (by rw [hxs]; rfl)
    rw [← hX] at hf
    rw [hxs] at hX hf
    show bodyPost _ _ _ _ _ (putL Z11 br 0 [.bool an, .int .u32 a, .int .i64 bb, .int .u8 wi, .int .u8 ou, .bool dr, .int .u8 se, .int .u8 cl, .int .i64 mo, .int .i64 pr])
    rw [← hX]
    clear hX hxs C0 C1 C2 C3 C4 C5 C6 C7 C8 C9 D0 D1 D2 D3 D4 D5 D6 D7 D8 D9 F0 F1 F2 F3 F4 F5 F6 F7 F8 F9
    obtain ⟨W0, W1, W2, W3, W4, W5, W6, W7, W8, W9⟩ := cells_ten hf.1
    have hret := step_ret (⟨an, a, bb, wi, ou, dr, se, cl, mo, pr⟩ : ClD) s11
    have HE : R = stepS (fun r => .inr ((⟨an, a, bb, wi, ou, dr, se, cl, mo, pr⟩ : ClD), r)) s11 := HR11.out
    refine bodyPost_ret (v := clV2 ⟨an, a, bb, wi, ou, dr, se, cl, mo, pr⟩) (by unfold clV2; simp [results, Tryd.results36, go_sem, W0, W1, W2, W3, W4, W5, W6, W7, W8, W9]) rfl ?_
    exact ⟨_, rfl, by rw [HE]; exact hret.2, by rw [HE, hret.1]; exact hf.2.1, hf.2.2⟩
end
end Go.Proofs.YtejhgifadohbiaaDoor
