/- ClauseFew: the walk. -/
import Derived.Test.YthhonljejkjicaaFJ
import Derived.Test.YthhonljejkjicaaFM
import Derived.Test.YthhonljejkjicaaVQ
import Derived.Deep.CutBlock
import Derived.Deep.CutRange
import Derived.Deep.DeepCutAuto
namespace Go.Proofs.Ythhonljejkjicaa
open Go.RowKit Go.Lib

theorem or_int {a b : Nat} (ha : a < 256) (hb : b < 256) : (bits BinOp.or IntKind.u8 (a : Int) (b : Int) == 0) = (decide (a = 0) && decide (b = 0)) := by
  rw [u8_or_nat a b ha hb, Bool.eq_iff_iff, beq_iff_eq, Bool.and_eq_true, decide_eq_true_iff, decide_eq_true_iff]
  constructor
  · intro h
    have h0 : a ||| b = 0 := by omega
    exact Nat.or_eq_zero_iff.1 h0
  · rintro ⟨rfl, rfl⟩
    rfl
theorem cl_el {G : World} {ad : Option Addr} {n cap : Nat} {l : List ClD} (h : SliceAt G.heap.size 10 (ClAt G) (.slice ad n cap) l) (k : Nat) (c : ClD) (hc : l[k]? = some c) : ∃ g o, ad = some ⟨g, o, none⟩ ∧ g < G.heap.size ∧ ClAt G g (o + k * 10) c := by
  obtain ⟨ad', cap', e, _, hel⟩ := h
  injection e with e1 e2 e3
  subst e1
  exact hel k c hc
theorem cl_all {G : World} {g o : Nat} {c : ClD} (hl : g < G.heap.size) (h : ClAt G g o c) :
    (∀ p : BelOf G, p.w.cell? ⟨g, o, none⟩ = some (.bool c.any)) ∧ (∀ p : BelOf G, p.w.cell? ⟨g, o + 1, none⟩ = some (.int .u32 c.a)) ∧ (∀ p : BelOf G, p.w.cell? ⟨g, o + 2, none⟩ = some (.int .i64 c.b)) ∧ (∀ p : BelOf G, p.w.cell? ⟨g, o + 3, none⟩ = some (.int .u8 c.wi)) ∧ (∀ p : BelOf G, p.w.cell? ⟨g, o + 4, none⟩ = some (.int .u8 c.ou)) ∧
    (∀ p : BelOf G, p.w.cell? ⟨g, o + 5, none⟩ = some (.bool c.drop)) ∧ (∀ p : BelOf G, p.w.cell? ⟨g, o + 6, none⟩ = some (.int .u8 c.se)) ∧ (∀ p : BelOf G, p.w.cell? ⟨g, o + 7, none⟩ = some (.int .u8 c.cl)) ∧ (∀ p : BelOf G, p.w.cell? ⟨g, o + 8, none⟩ = some (.int .i64 c.more)) ∧ (∀ p : BelOf G, p.w.cell? ⟨g, o + 9, none⟩ = some (.int .i64 c.pref)) :=
  ⟨bel_cell hl h.1, bel_cell hl h.2.1, bel_cell hl h.2.2.1, bel_cell hl h.2.2.2.1, bel_cell hl h.2.2.2.2.1, bel_cell hl h.2.2.2.2.2.1, bel_cell hl h.2.2.2.2.2.2.1, bel_cell hl h.2.2.2.2.2.2.2.1, bel_cell hl h.2.2.2.2.2.2.2.2.1, bel_cell hl h.2.2.2.2.2.2.2.2.2⟩
set_option maxHeartbeats 16000000 in
set_option maxRecDepth 20000 in
theorem lclfew_walk {vr : Value} {rs : List RlD} (hrs : ∀ r ∈ rs, r.ok) (n : Nat) (hn : n < 256) {vw : Value} {lw : List ClD} (hl : ∀ c ∈ lw, c.ok) (hlw : lw.length * 48 ≤ 140737488355328) (a : Nat) (b : Int) (ha : a < 4294967296) (w : World)
    (hr : SliceAt w.heap.size 6 (RlAt w) vr rs) (h : SliceAt w.heap.size 10 (ClAt w) vw lw) :
    Calls Try.prog 6 #[vr, .int .u8 n, vw, pfV a b] w fun e w' => e = .returned (.bool true) ∧ Below w.heap.size w w' := by
  have hwk := awake11_any
  have hmk := make_any n hn
  have hcl := fun (X : World) (q : Below w.heap.size w X) => clausesS_any hrs (B := w.heap.size) q.size (rls_keep hr q)
  have HRW : Hid ((∀ c ∈ lw, c.ok) ∧ a < 4294967296 ∧ lw.length * 48 ≤ 140737488355328 ∧ SliceAt w.heap.size 10 (ClAt w) vw lw) := ⟨hl, ha, hlw, h⟩
  have HRS : Hid (∀ r ∈ rs, r.ok) := hrs
  obtain ⟨i0, hi0, hz0, hz1, hz2⟩ := info_parts infoCl
  obtain ⟨adw, capw, rfl, _, _⟩ := h
  clear hr hrs hl hlw
  unfold pfV
  unfold pfV at hmk
  go_enter Try.func6, Try.ntmps6
  go_wp2_with fail
  obtain ⟨b7, hb7⟩ : ∃ n, n = w.heap.size := ⟨_, rfl⟩
  obtain ⟨U, hU⟩ : ∃ U, U = w.alloc (.cells #[.int .u32 a, .int .i64 b] 28) := ⟨_, rfl⟩
  have hwU : Below w.heap.size w U := by rw [hU]; exact bel_alloc (Below.refl _ _) _
  have h7 : U.heap[b7]? = some (.cells #[.int .u32 a, .int .i64 b] 28 (0, 0)) := by rw [hU]; exact pf_new _ _ _ hb7
  rw [← hU, ← hb7]
  clear hU hb7
  refine (hwk _).mono ?_
  rintro e W ⟨rfl, q1⟩
  replace h7 := pf_block q1 h7
  have hwW := bel_up hwU q1 hwU.size
  clear hwU q1 U hwk
  go_wp2_with fail
  refine (hmk _).mono ?_
  rintro e Y ⟨rfl, q3⟩
  replace h7 := pf_block q3 h7
  have hwY := bel_up hwW q3 hwW.size
  clear hmk q3 hwW
  go_upto_region 4 with fail
  obtain ⟨A, hA⟩ : ∃ k, k = mkA n := ⟨_, rfl⟩
  obtain ⟨B, hB⟩ : ∃ k, k = mkB n := ⟨_, rfl⟩
  have HA2 : Hid (A < 4294967296) := by rw [hA]; exact mkA_lt hn
  rw [← hA, ← hB]
  obtain ⟨b9, h9⟩ : ∃ n, n = Y.heap.size := ⟨_, rfl⟩
  obtain ⟨Z, hZ⟩ : ∃ U, U = Y.alloc (.cells #[.int .u32 A, .int .i64 B] 28) := ⟨_, rfl⟩
  have hYZ : Below Y.heap.size Y Z := by rw [hZ]; exact bel_alloc (Below.refl _ _) _
  have k9 : Z.heap[b9]? = some (.cells #[.int .u32 A, .int .i64 B] 28 (0, 0)) := by rw [hZ]; exact pf_new _ _ _ h9
  rw [← hZ, ← h9]
  replace h7 := pf_block hYZ h7
  have HWZ : Hid (Below w.heap.size w Z) := bel_up hwY hYZ hwY.size
  clear hZ h9 hYZ hwY hA hB
  have hne := bel_ne Z
  obtain ⟨P0, P1⟩ := pf_cells h7
  obtain ⟨R0, R1⟩ := pf_cells k9
  clear h7 k9
  refine wp_region_plan (C := fun w' => ∃ p : BelOf Z, w' = p.w) [([0, 2, 4, 5, 6, 9], 1), ([3], 7), ([], 8)] [] (by kernel_rfl) (by kernel_rfl) rfl ⟨⟨Z.drew, (Below.refl _ _).drew⟩, rfl⟩ (fun _ _ d _ _ h => by cases d <;> exact h) ?_
  refine plan_go rfl ?_
  simp only [pickL, List.getElem?_cons_zero, List.getElem?_cons_succ]
  repeat (go_big_quiet_step (fail))
  refine wpQuiet_nil ?_
  intro Q2 hQ2
  have hcw := hcl Z.drew HWZ.out.drew
  go_wp2_with fail
  refine hcw.mono ?_
  rintro e F ⟨cv, rfl, ho, qF⟩
  have QF : Below Z.heap.size Z F := ((Below.refl Z.heap.size Z).drew).trans qF
  have hsc := cls_of_own (by have := clausesS_len rs; omega) ho
  have HSC : Hid (SliceAt F.heap.size 10 (ClAt F) cv (clausesS rs)) := hsc
  obtain ⟨cad, ccap, rfl, _, _⟩ := hsc
  clear hcw hcl qF ho
  go_wp2_with fail
  refine hQ2 _ _ ⟨⟨F, QF⟩, rfl⟩ ?_
  clear hQ2 Q2
  refine plan_go rfl ?_
  simp only [pickL, List.getElem?_cons_zero, List.getElem?_cons_succ]
  repeat (go_big_quiet_step (fail))
  refine wpQuiet_nil ?_
  intro Q2 hQ2
  go_wp2_with fail
  obtain ⟨bs, hbs⟩ : ∃ n, n = F.heap.size := ⟨_, rfl⟩
  obtain ⟨S, hS⟩ : ∃ S, S = F.alloc (.cells #[.slice cad (clausesS rs).length ccap, .int .u32 A, .int .i64 B, .slice adw lw.length capw, .int .u32 a, .int .i64 b] 44) := ⟨_, rfl⟩
  have hFS : Below F.heap.size F S := by rw [hS]; exact bel_alloc (Below.refl _ _) _
  have kS : S.heap[bs]? = some (.cells #[.slice cad (clausesS rs).length ccap, .int .u32 A, .int .i64 B, .slice adw lw.length capw, .int .u32 a, .int .i64 b] 44 (0, 0)) := by rw [hS]; exact pf_new _ _ _ hbs
  have HZS : Hid (Below Z.heap.size Z S) := bel_up QF hFS QF.size
  rw [← hS, ← hbs]
  have HWS : Hid (Below w.heap.size w S) := bel_up HWZ.out HZS.out HWZ.out.size
  have HEL : Hid (∀ k, k < 2 → ∃ (v : Value) (l : List ClD) (a' : Nat) (b' : Int), (∀ c ∈ l, c.ok) ∧ a' < 4294967296 ∧ l.length * 48 ≤ 140737488355328 ∧ SliceAt S.heap.size 10 (ClAt S) v l ∧ S.cell? ⟨bs, k * 3, none⟩ = some v ∧ S.cell? ⟨bs, k * 3 + 1, none⟩ = some (.int .u32 a') ∧ S.cell? ⟨bs, k * 3 + 2, none⟩ = some (.int .i64 b')) := by
    obtain ⟨s0, s1, s2, s3, s4, s5⟩ := cells_six' kS
    intro k hk
    match k, hk with
    | 0, _ => exact ⟨_, clausesS rs, A, B, clausesS_ok HRS.out, HA2.out, by have := clausesS_len rs; omega, cls_keep HSC.out hFS, s0, s1, s2⟩
    | 1, _ => exact ⟨_, lw, a, b, HRW.out.1, HRW.out.2.1, HRW.out.2.2.1, cls_keep HRW.out.2.2.2 HWS.out, s3, s4, s5⟩
  have HLB : Hid (bs < S.heap.size) := (Array.getElem?_eq_some_iff.1 kS).1
  clear hS hbs hFS kS QF P0 P1 R0 R1 HSC HRS HRW HA2
  refine hQ2 _ _ ⟨⟨S, HZS.out⟩, rfl⟩ ?_
  clear hQ2 Q2
  refine plan_go rfl ?_
  simp only [pickL]
  refine wpQuiet_nil ?_
  intro Q2 hQ2
  go_wp2_with fail
  refine hQ2 _ _ ⟨⟨S, HZS.out⟩, rfl⟩ (plan_end ?_)
  clear hQ2 Q2 HZS HWZ
  go_wp2_with fail
  go_loopg [31] 2 (fun g i wr => ∃ k : Nat, k + g = 2 ∧ i = .int .i64 k ∧ Below S.heap.size S wr)
  case atStart => exact ⟨0, rfl, rfl, Below.refl _ _⟩
  case round =>
    obtain ⟨k, hk, rfl, hw⟩ := hrel
    by_cases hlt : k < 2
    · have d4 : decide ((k : Int) < 2) = true := decide_eq_true (by omega)
      have k0 : (0 : Int) ≤ k := by omega
      obtain ⟨v, l, a', b', hl, ha', hn', hs', m0, m1, m2⟩ := HEL.out k hlt
      have c0 := cells_below hw (Nat.le_refl _) _ _ _ HLB.out m0
      have c1 := cells_below hw (Nat.le_refl _) _ _ _ HLB.out m1
      have c2 := cells_below hw (Nat.le_refl _) _ _ _ HLB.out m2
      have HE : Hid ((∀ c ∈ l, c.ok) ∧ a' < 4294967296 ∧ l.length * 48 ≤ 140737488355328) := ⟨hl, ha', hn'⟩
      obtain ⟨ad, cap, rfl, hlen, hel⟩ := hs'
      clear m0 m1 m2 hl ha' hn'
      go_upto_block 2 with fail
      obtain ⟨V, hV⟩ : ∃ V, V = wr.alloc (.cells #[.slice ad l.length cap, .int .u32 a', .int .i64 b'] 44) := ⟨_, rfl⟩
      obtain ⟨b11, hb11⟩ : ∃ n, n = wr.heap.size := ⟨_, rfl⟩
      have kV : V.heap[b11]? = some (.cells #[.slice ad l.length cap, .int .u32 a', .int .i64 b'] 44 (0, 0)) := by rw [hV]; exact pf_new _ _ _ hb11
      have hSV : Below S.heap.size S V := by rw [hV]; exact bel_up hw (bel_alloc (Below.refl _ _) _) hw.size
      rw [← hV, ← hb11]
      have HSV : Hid (Below S.heap.size S V) := hSV
      have HSL : Hid (∀ i x, l[i]? = some x → ∃ b off, ad = some ⟨b, off, none⟩ ∧ b < V.heap.size ∧ ClAt V b (off + i * 10) x) := fun i x hx => by
        obtain ⟨b, off, h1, h2, h3⟩ := hel i x hx
        exact ⟨b, off, h1, Nat.lt_of_lt_of_le h2 hSV.size, h3.keep h2 (cells_below hSV (Nat.le_refl _))⟩
      have lv := (Array.getElem?_eq_some_iff.1 kV).1
      obtain ⟨v0, v1, v2⟩ := cells_three kV
      have E0 : ∀ p : BelOf V, p.w.cell? ⟨b11, 0, none⟩ = some _ := bel_cell lv v0
      have E1 : ∀ p : BelOf V, p.w.cell? ⟨b11, 1, none⟩ = some _ := bel_cell lv v1
      have E2 : ∀ p : BelOf V, p.w.cell? ⟨b11, 2, none⟩ = some _ := bel_cell lv v2
      obtain ⟨nl, hnl⟩ : ∃ m, m = l.length := ⟨_, rfl⟩
      have HNL : Hid (nl = l.length) := hnl
      rw [← hnl] at hlen E0 ⊢
      clear hV hb11 hSV kV v0 v1 v2 lv hel c0 c1 c2 hw hnl
      go_cut [12] (fun v wx => ∃ v5 : Value, v5 = v ∧ Hid (wx.ownsRow V.heap.size 35 10 v5 (forP a' b' l).length ((forP a' b' l).flatMap clW) ∧ Below V.heap.size V wx))
      case first =>
        go_wp2_with fail
        go_loopg [12, 38] nl (fun g v i wr => ∃ (k2 : Nat) (L : List ClD) (v5 : Value), k2 + g = nl ∧ i = .int .i64 k2 ∧ v5 = v ∧ Hid (L ++ forP a' b' (l.drop k2) = forP a' b' l ∧ L.length ≤ k2 ∧ wr.ownsRow V.heap.size 35 10 v5 L.length (L.flatMap clW) ∧ Below V.heap.size V wr))
        case atStart => exact ⟨0, [], _, Nat.zero_add _, rfl, rfl, (⟨rfl, Nat.le_refl _, World.ownsRow_nil _ _ _ _, Below.refl _ _⟩ : _ ∧ _ ∧ _ ∧ _)⟩
        case round =>
          obtain ⟨k2, L, v5, hk2, rfl, rfl, HW⟩ := hrel
          obtain ⟨m, hm⟩ : ∃ m, m = L.length := ⟨_, rfl⟩
          have HM : Hid (m = L.length) := hm
          by_cases hlt2 : k2 < nl
          · obtain ⟨c, hc⟩ : ∃ c, l[k2]? = some c := ⟨l[k2]'(by have := HNL.out; omega), List.getElem?_eq_getElem _⟩
            obtain ⟨bc, off, rfl, hb, hat⟩ := HSL.out k2 c hc
            have HCK : Hid c.ok := HE.out.1 c (List.mem_of_getElem? hc)
            obtain ⟨c0, c1, c2, c3, c4, c5, c6, c7, c8, c9⟩ := hat.keep hb (cells_below HW.out.2.2.2 (Nat.le_refl _))
            have d5 : decide ((k2 : Int) < nl) = true := decide_eq_true (by omega)
            have k20 : (0 : Int) ≤ k2 := by omega
            have hcv := covers_any c.a a' c.b b' HCK.out.a HE.out.2.1
            obtain ⟨y, hy⟩ : ∃ y, y = covP c.a c.b a' b' := ⟨_, rfl⟩
            rw [← hy] at hcv
            have HF : Hid (forP a' b' (l.drop k2) = (if forC c a' b' = true then (if lastP c then [bareP c] else bareP c :: forP a' b' (l.drop (k2 + 1))) else forP a' b' (l.drop (k2 + 1)))) := by
              show _ = _
              rw [drop_next hc, forP]
            have HFC : Hid (forC c a' b' = (c.any || y)) := by show _ = _; unfold forC; rw [hy]
            obtain ⟨T, hT⟩ : ∃ V, V = wr.alloc (clB c) := ⟨_, rfl⟩
            have hwT : Below wr.heap.size wr T := by rw [hT]; exact bel_alloc (Below.refl _ _) _
            have htT : T.heap[wr.heap.size]? = some (clB c) := by rw [hT]; exact pf_new _ _ _ rfl
            obtain ⟨q, rfl⟩ : ∃ q : BelOf V, T = q.w := ⟨⟨T, bel_up HW.out.2.2.2 hwT HW.out.2.2.2.size⟩, rfl⟩
            have p0 := E0 q
            have p1 := E1 q
            have p2 := E2 q
            rw [hT] at p0 p1 p2
            unfold clB at hT p0 p1 p2
            unfold pfV at hcv
            clear hc hat hb hy
            cases hany : c.any
            · have HYY : Hid (forC c a' b' = y) := by show _ = _; rw [HFC.out, hany]; rfl
              rw [hany] at c0 hT p0 p1 p2
              go_wp2_with fail
              rw [← hT]
              refine (hcv _).mono ?_
              rintro e W ⟨rfl, q1⟩
              have htW := pf_block q1 htT
              have hwW := bel_up hwT q1 hwT.size
              obtain ⟨bt, hbt⟩ : ∃ bt, bt = wr.heap.size := ⟨_, rfl⟩
              rw [← hbt] at htW ⊢
              have hUW := bel_up q.h q1 q.h.size
              clear hT p0 p1 p2 c0 c1 c2 c3 c4 c5 c6 c7 c8 c9 hcv htT q1 hany hwT HFC
              cases y
              · have HN2 : Hid (L ++ forP a' b' (l.drop (k2 + 1)) = forP a' b' l ∧ L.length ≤ k2 + 1 ∧ W.ownsRow V.heap.size 35 10 v5 L.length (L.flatMap clW) ∧ Below V.heap.size V W) := by
                  refine ⟨?_, Nat.le_succ_of_le HW.out.2.1, own_bel HW.out.2.2.1 hwW, hUW⟩
                  rw [← HW.out.1, HF.out, HYY.out]
                  rfl
                clear htW hwW hUW hm
                go_wp2_with fail
                go_roundg (nl - (k2 + 1))
                case measure => omega
                case rel => exact ⟨k2 + 1, L, _, by omega, by go_num, rfl, HN2⟩
              · have x0 := set_at (i := 0) htW (.bool true)
                have x1 := set_at (i := 1) x0 (.int .u32 0)
                have x2 := set_at (i := 2) x1 (.int .i64 0)
                have hX : (((W.setCell ⟨bt, 0, none⟩ (.bool true)).setCell ⟨bt, 1, none⟩ (.int .u32 0)).setCell ⟨bt, 2, none⟩ (.int .i64 0)).heap[bt]? = some (clB (bareP c)) := x2
                have hwX : Below wr.heap.size wr (((W.setCell ⟨bt, 0, none⟩ (.bool true)).setCell ⟨bt, 1, none⟩ (.int .u32 0)).setCell ⟨bt, 2, none⟩ (.int .i64 0)) := ((hwW.setCell (Nat.le_of_eq hbt.symm) _).setCell (Nat.le_of_eq hbt.symm) _).setCell (Nat.le_of_eq hbt.symm) _
                have hoX := own_bel HW.out.2.2.1 hwX
                have hUX := bel_up HW.out.2.2.2 hwX HW.out.2.2.2.size
                have HNE : Hid (∀ g1, v5.ownBlock = some g1 → g1 ≠ bt) := fun g1 hg => by
                  have := (HW.out.2.2.1.lt g1 hg).2
                  omega
                have f := fun i => free_at htW i
                obtain ⟨z0, z1, z2, g3, g4, g5, g6, g7, g8, g9⟩ := cl_cell htW
                have HOX : Hid ((((W.setCell ⟨bt, 0, none⟩ (.bool true)).setCell ⟨bt, 1, none⟩ (.int .u32 0)).setCell ⟨bt, 2, none⟩ (.int .i64 0)).ownsRow V.heap.size 35 10 v5 m (L.flatMap clW)) := by rw [hm]; exact hoX
                have HUX : Hid (Below V.heap.size V (((W.setCell ⟨bt, 0, none⟩ (.bool true)).setCell ⟨bt, 1, none⟩ (.int .u32 0)).setCell ⟨bt, 2, none⟩ (.int .i64 0))) := hUX
                have HX : Hid ((((W.setCell ⟨bt, 0, none⟩ (.bool true)).setCell ⟨bt, 1, none⟩ (.int .u32 0)).setCell ⟨bt, 2, none⟩ (.int .i64 0)).heap[bt]? = some (clB (bareP c))) := hX
                have hbs : V.heap.size ≤ W.heap.size := hUW.size
                have hlen : m + 1 ≤ nl := by have := HW.out.2.1; omega
                have hby : (m + 1) * 48 ≤ 140737488355328 := by have := HE.out.2.2; have := HNL.out; omega
                have HBK : Hid (∀ W1 o, ((((W.setCell ⟨bt, 0, none⟩ (.bool true)).setCell ⟨bt, 1, none⟩ (.int .u32 0)).setCell ⟨bt, 2, none⟩ (.int .i64 0)).alloc o).grownBy W1 v5.ownBlock → W1.heap[bt]? = some (clB (bareP c))) := fun W1 o hg => by
                  have h := pf_block (bel_alloc (Below.refl _ _) o) HX.out
                  rw [hg.block bt (Array.getElem?_eq_some_iff.1 h).1 (fun e => HNE.out bt e.symm rfl)]
                  exact h
                clear htW hwW hUW hX hwX hoX hUX hbt x0 x1 x2 hm
                obtain ⟨ls, hls⟩ : ∃ ls, ls = lastP c := ⟨_, rfl⟩
                have hor : (bits BinOp.or IntKind.u8 (c.wi : Int) (c.ou : Int) == 0) = ls := by rw [or_int HCK.out.wi HCK.out.ou, hls]; rfl
                have HLS : Hid (lastP c = ls) := hls.symm
                clear hls
                cases ls
                all_goals
                  go_wp2_with (at_builtin; refine wpList_append_lies _ rfl _ _ _ rfl V.heap.size 35 i0 _ 10 48 Try.underlying25 hi0 hz0 hz1 hz2 rfl (by omega) _ m _ rfl (HOX.out.alloc _) ⟨W.heap.size, 0, none⟩ 1 1 (clW (bareP c)) rfl rfl (World.news_of_block (cs := #[.bool true, .int .u32 0, .int .i64 0, .int .u8 c.wi, .int .u8 c.ou, .bool c.drop, .int .u8 c.se, .int .u8 c.cl, .int .i64 c.more, .int .i64 c.pref]) (t := 35) (fr := (0, 0)) (pf_new _ _ _ (by simp))) (clW_one _) (by omega) (by unfold maxLen; omega) hby (by simp; omega) _ rfl ?_; intro g1 cap1 W1 hown1 hgrow _ _; have hbx := HBK.out W1 _ hgrow; have j3 : W1.cell? ⟨bt, 3, none⟩ = some (.int .u8 c.wi) := (cl_cell hbx).2.2.2.1; have j4 : W1.cell? ⟨bt, 4, none⟩ = some (.int .u8 c.ou) := (cl_cell hbx).2.2.2.2.1; have HOW : Hid (W1.ownsRow V.heap.size 35 10 (.slice (some ⟨g1, 0, none⟩) (m + 1) cap1) (m + 1) (L.flatMap clW ++ clW (bareP c)) ∧ Below V.heap.size V W1) := ⟨hown1, own_up (HOX.out.alloc _) hgrow (bel_up HUX.out (bel_alloc (Below.refl _ _) _) HUX.out.size)⟩; clear hown1 hgrow hbx)
                · have HN2 : Hid ((L ++ [bareP c]) ++ forP a' b' (l.drop (k2 + 1)) = forP a' b' l ∧ (L ++ [bareP c]).length ≤ k2 + 1 ∧ W1.ownsRow V.heap.size 35 10 (.slice (some ⟨g1, 0, none⟩) (m + 1) cap1) (L ++ [bareP c]).length ((L ++ [bareP c]).flatMap clW) ∧ Below V.heap.size V W1) := by
                    refine ⟨?_, ?_, ?_, HOW.out.2⟩
                    · rw [← HW.out.1, HF.out, HYY.out, if_pos rfl, HLS.out]
                      simp
                    · rw [List.length_append]
                      exact Nat.succ_le_succ HW.out.2.1
                    · rw [List.flatMap_append, List.length_append, ← HM.out, show [bareP c].flatMap clW = clW (bareP c) by simp]
                      exact HOW.out.1
                  clear HOW
                  go_roundg (nl - (k2 + 1))
                  case measure => omega
                  case rel => exact ⟨k2 + 1, _, _, by omega, by go_num, rfl, HN2⟩
                · go_meet
                  case rel =>
                    refine ⟨_, rfl, ?_, HOW.out.2⟩
                    have e9 : L ++ [bareP c] = forP a' b' l := by
                      rw [← HW.out.1, HF.out, HYY.out, if_pos rfl, if_pos HLS.out]
                    rw [← e9, List.flatMap_append, List.length_append, ← HM.out, show [bareP c].flatMap clW = clW (bareP c) by simp]
                    exact HOW.out.1
            · have HYY : Hid (forC c a' b' = true) := by show _ = _; rw [HFC.out, hany]; rfl
              rw [hany] at c0 hT p0 p1 p2
              go_upto_if 52 with fail
              rw [← hT]
              have htW := htT
              have hwW := hwT
              have hUW := q.h
              obtain ⟨bt, hbt⟩ : ∃ bt, bt = wr.heap.size := ⟨_, rfl⟩
              rw [← hbt] at htW ⊢
              obtain ⟨W, hWq⟩ : ∃ W, W = q.w := ⟨_, rfl⟩
              rw [← hWq] at htW hwW hUW ⊢
              clear hT p0 p1 p2 c0 c1 c2 c3 c4 c5 c6 c7 c8 c9 hcv htT hany hwT HFC hWq
              have x0 := set_at (i := 0) htW (.bool true)
              have x1 := set_at (i := 1) x0 (.int .u32 0)
              have x2 := set_at (i := 2) x1 (.int .i64 0)
              have hX : (((W.setCell ⟨bt, 0, none⟩ (.bool true)).setCell ⟨bt, 1, none⟩ (.int .u32 0)).setCell ⟨bt, 2, none⟩ (.int .i64 0)).heap[bt]? = some (clB (bareP c)) := x2
              have hwX : Below wr.heap.size wr (((W.setCell ⟨bt, 0, none⟩ (.bool true)).setCell ⟨bt, 1, none⟩ (.int .u32 0)).setCell ⟨bt, 2, none⟩ (.int .i64 0)) := ((hwW.setCell (Nat.le_of_eq hbt.symm) _).setCell (Nat.le_of_eq hbt.symm) _).setCell (Nat.le_of_eq hbt.symm) _
              have hoX := own_bel HW.out.2.2.1 hwX
              have hUX := bel_up HW.out.2.2.2 hwX HW.out.2.2.2.size
              have HNE : Hid (∀ g1, v5.ownBlock = some g1 → g1 ≠ bt) := fun g1 hg => by
                have := (HW.out.2.2.1.lt g1 hg).2
                omega
              have f := fun i => free_at htW i
              obtain ⟨z0, z1, z2, g3, g4, g5, g6, g7, g8, g9⟩ := cl_cell htW
              have HOX : Hid ((((W.setCell ⟨bt, 0, none⟩ (.bool true)).setCell ⟨bt, 1, none⟩ (.int .u32 0)).setCell ⟨bt, 2, none⟩ (.int .i64 0)).ownsRow V.heap.size 35 10 v5 m (L.flatMap clW)) := by rw [hm]; exact hoX
              have HUX : Hid (Below V.heap.size V (((W.setCell ⟨bt, 0, none⟩ (.bool true)).setCell ⟨bt, 1, none⟩ (.int .u32 0)).setCell ⟨bt, 2, none⟩ (.int .i64 0))) := hUX
              have HX : Hid ((((W.setCell ⟨bt, 0, none⟩ (.bool true)).setCell ⟨bt, 1, none⟩ (.int .u32 0)).setCell ⟨bt, 2, none⟩ (.int .i64 0)).heap[bt]? = some (clB (bareP c))) := hX
              have hbs : V.heap.size ≤ W.heap.size := hUW.size
              have hlen : m + 1 ≤ nl := by have := HW.out.2.1; omega
              have hby : (m + 1) * 48 ≤ 140737488355328 := by have := HE.out.2.2; have := HNL.out; omega
              have HBK : Hid (∀ W1 o, ((((W.setCell ⟨bt, 0, none⟩ (.bool true)).setCell ⟨bt, 1, none⟩ (.int .u32 0)).setCell ⟨bt, 2, none⟩ (.int .i64 0)).alloc o).grownBy W1 v5.ownBlock → W1.heap[bt]? = some (clB (bareP c))) := fun W1 o hg => by
                have h := pf_block (bel_alloc (Below.refl _ _) o) HX.out
                rw [hg.block bt (Array.getElem?_eq_some_iff.1 h).1 (fun e => HNE.out bt e.symm rfl)]
                exact h
              clear htW hwW hUW hX hwX hoX hUX hbt x0 x1 x2 hm
              obtain ⟨ls, hls⟩ : ∃ ls, ls = lastP c := ⟨_, rfl⟩
              have hor : (bits BinOp.or IntKind.u8 (c.wi : Int) (c.ou : Int) == 0) = ls := by rw [or_int HCK.out.wi HCK.out.ou, hls]; rfl
              have HLS : Hid (lastP c = ls) := hls.symm
              clear hls
              cases ls
              all_goals
                go_wp2_with (at_builtin; refine wpList_append_lies _ rfl _ _ _ rfl V.heap.size 35 i0 _ 10 48 Try.underlying25 hi0 hz0 hz1 hz2 rfl (by omega) _ m _ rfl (HOX.out.alloc _) ⟨W.heap.size, 0, none⟩ 1 1 (clW (bareP c)) rfl rfl (World.news_of_block (cs := #[.bool true, .int .u32 0, .int .i64 0, .int .u8 c.wi, .int .u8 c.ou, .bool c.drop, .int .u8 c.se, .int .u8 c.cl, .int .i64 c.more, .int .i64 c.pref]) (t := 35) (fr := (0, 0)) (pf_new _ _ _ (by simp))) (clW_one _) (by omega) (by unfold maxLen; omega) hby (by simp; omega) _ rfl ?_; intro g1 cap1 W1 hown1 hgrow _ _; have hbx := HBK.out W1 _ hgrow; have j3 : W1.cell? ⟨bt, 3, none⟩ = some (.int .u8 c.wi) := (cl_cell hbx).2.2.2.1; have j4 : W1.cell? ⟨bt, 4, none⟩ = some (.int .u8 c.ou) := (cl_cell hbx).2.2.2.2.1; have HOW : Hid (W1.ownsRow V.heap.size 35 10 (.slice (some ⟨g1, 0, none⟩) (m + 1) cap1) (m + 1) (L.flatMap clW ++ clW (bareP c)) ∧ Below V.heap.size V W1) := ⟨hown1, own_up (HOX.out.alloc _) hgrow (bel_up HUX.out (bel_alloc (Below.refl _ _) _) HUX.out.size)⟩; clear hown1 hgrow hbx)
              · have HN2 : Hid ((L ++ [bareP c]) ++ forP a' b' (l.drop (k2 + 1)) = forP a' b' l ∧ (L ++ [bareP c]).length ≤ k2 + 1 ∧ W1.ownsRow V.heap.size 35 10 (.slice (some ⟨g1, 0, none⟩) (m + 1) cap1) (L ++ [bareP c]).length ((L ++ [bareP c]).flatMap clW) ∧ Below V.heap.size V W1) := by
                  refine ⟨?_, ?_, ?_, HOW.out.2⟩
                  · rw [← HW.out.1, HF.out, HYY.out, if_pos rfl, HLS.out]
                    simp
                  · rw [List.length_append]
                    exact Nat.succ_le_succ HW.out.2.1
                  · rw [List.flatMap_append, List.length_append, ← HM.out, show [bareP c].flatMap clW = clW (bareP c) by simp]
                    exact HOW.out.1
                clear HOW
                go_roundg (nl - (k2 + 1))
                case measure => omega
                case rel => exact ⟨k2 + 1, _, _, by omega, by go_num, rfl, HN2⟩
              · go_meet
                case rel =>
                  refine ⟨_, rfl, ?_, HOW.out.2⟩
                  have e9 : L ++ [bareP c] = forP a' b' l := by
                    rw [← HW.out.1, HF.out, HYY.out, if_pos rfl, if_pos HLS.out]
                  rw [← e9, List.flatMap_append, List.length_append, ← HM.out, show [bareP c].flatMap clW = clW (bareP c) by simp]
                  exact HOW.out.1
          · obtain rfl : k2 = nl := by omega
            have d5 : decide ((k2 : Int) < k2) = false := decide_eq_false (by omega)
            have HN2 : Hid (L = forP a' b' l) := by
              show L = _
              have h := HW.out.1
              rw [HNL.out, List.drop_length] at h
              rw [← h]
              exact (List.append_nil L).symm
            go_wp2_with fail
            go_meet
            case rel =>
              refine ⟨_, rfl, ?_, HW.out.2.2.2⟩
              rw [← HN2.out]
              exact HW.out.2.2.1
      case rest =>
        obtain ⟨v5, rfl, HC⟩ := hcut
        obtain ⟨fl, hfl⟩ : ∃ fl, fl = forP a' b' l := ⟨_, rfl⟩
        obtain ⟨M, hM⟩ : ∃ M, M = fl.length := ⟨_, rfl⟩
        have HM : Hid (M = fl.length) := hM
        have hMl : M ≤ l.length := by rw [hM, hfl]; exact for_len a' b' l
        have hMb : M * 48 ≤ 140737488355328 := by have := HE.out.2.2; omega
        have hfo : ∀ c ∈ fl, c.ok := by rw [hfl]; exact for_ok HE.out.1
        have hff : forP 0 0 fl = fl := by rw [hfl]; exact for_for a' b' 0 0 l
        have hf := for_any HE.out.1 a' b' HE.out.2.1 wc HE.out.2.2 (v := .slice ad l.length cap) ⟨ad, cap, rfl, by have := HNL.out; omega, fun i x hx => by
          obtain ⟨b, off, h1, h2, h3⟩ := HSL.out i x hx
          exact ⟨b, off, h1, Nat.lt_of_lt_of_le h2 HC.out.2.size, h3.keep h2 (cells_below HC.out.2 (Nat.le_refl _))⟩⟩
        rw [← HNL.out, ← hfl, ← hM] at hf
        rw [← hfl, ← hM] at HC
        have ho5 := HC.out.1
        have hVc := HC.out.2
        obtain ⟨ad5, cap5, rfl, _⟩ := own_form ho5
        have e0 := E0 ⟨wc, hVc⟩
        have e1 := E1 ⟨wc, hVc⟩
        have e2 := E2 ⟨wc, hVc⟩
        dsimp only at e0 e1 e2
        unfold pfV at hf
        clear hfl hM HC E0 E1 E2
        go_wp2_with fail
        refine hf.mono ?_
        rintro e F ⟨fv, rfl, fo, qF⟩
        obtain ⟨ad6, cap6, rfl, _⟩ := own_form fo
        replace ho5 := own_bel ho5 qF
        have fo2 := fo
        rw [HM.out] at fo2
        have hg := for_any hfo 0 0 (by decide) F (by rw [← HM.out]; exact hMb) (cls_of_own (by rw [← HM.out]; omega) fo2)
        rw [hff, ← HM.out] at hg
        unfold pfV at hg
        have hVF := bel_up hVc qF hVc.size
        clear hf qF hVc e0 e1 e2 fo2
        go_wp2_with fail
        refine hg.mono ?_
        rintro e G ⟨gv, rfl, go, qG⟩
        obtain ⟨ad7, cap7, rfl, _⟩ := own_form go
        replace ho5 := own_bel ho5 qG
        replace fo := own_bel fo qG
        have HVG : Hid (Below S.heap.size S G) := bel_up HSV.out (bel_up hVF qG hVF.size) HSV.out.size
        rw [HM.out] at ho5 fo go
        have H5 : Hid (SliceAt G.heap.size 10 (ClAt G) (.slice ad5 fl.length cap5) fl) := cls_of_own (by rw [← HM.out]; omega) ho5
        have H6 : Hid (SliceAt G.heap.size 10 (ClAt G) (.slice ad6 fl.length cap6) fl) := cls_of_own (by rw [← HM.out]; omega) fo
        have H7 : Hid (SliceAt G.heap.size 10 (ClAt G) (.slice ad7 fl.length cap7) fl) := cls_of_own (by rw [← HM.out]; omega) go
        clear hg qG hVF ho5 fo go hfo hff HSV HSL HNL
        have dM : ((M : Int) != M) = false := by simp
        have hne := bel_ne G
        go_wp2_with fail
        go_loopg [89] M (fun g i wr => ∃ k3 : Nat, k3 + g = M ∧ i = .int .i64 k3 ∧ Below G.heap.size G wr)
        case atStart => exact ⟨0, Nat.zero_add _, rfl, Below.refl _ _⟩
        case round =>
          obtain ⟨k3, hk3, rfl, hw3⟩ := hrel
          by_cases hlt3 : k3 < M
          · have d5 : decide ((k3 : Int) < M) = true := decide_eq_true (by omega)
            have k30 : (0 : Int) ≤ k3 := by omega
            have d6 : decide ((0 : Int) ≤ k3) = true := decide_eq_true k30
            obtain ⟨c, hc⟩ : ∃ c, fl[k3]? = some c := ⟨fl[k3]'(by have := HM.out; omega), List.getElem?_eq_getElem _⟩
            obtain ⟨g5, o5, rfl, L5, C5⟩ := (cl_el H5.out k3 c hc)
            obtain ⟨g6, o6, rfl, L6, C6⟩ := (cl_el H6.out k3 c hc)
            obtain ⟨g7, o7, rfl, L7, C7⟩ := (cl_el H7.out k3 c hc)
            obtain ⟨p, rfl⟩ : ∃ p : BelOf G, wr = p.w := ⟨⟨wr, hw3⟩, rfl⟩
            obtain ⟨s0, s1, s2, s3, s4, s5, s6, s7, s8, s9⟩ := cl_all L5 C5
            obtain ⟨t0, t1, t2, t3, t4, t5, t6, t7, t8, t9⟩ := cl_all L6 C6
            obtain ⟨r0, r1, r2, r3, r4, r5, r6, r7, r8, r9⟩ := cl_all L7 C7
            clear C5 C6 C7 L5 L6 L7 hc hw3
            go_upto_region 23 with fail
            refine wp_region_belU (by kernel_rfl) (by kernel_rfl) ?_
            repeat (go_big_quiet_step (fail))
            refine wpQuiet_nil ?_
            rintro V' ⟨⟨V2, hV2⟩, rfl⟩
            clear s0 s1 s2 s3 s4 s5 s6 s7 s8 s9 t0 t1 t2 t3 t4 t5 t6 t7 t8 t9 r0 r1 r2 r3 r4 r5 r6 r7 r8 r9
            go_wp2_with fail
            go_roundg (M - (k3 + 1))
            case measure => omega
            case rel => exact ⟨k3 + 1, by omega, by go_num, hV2⟩
          · obtain rfl : k3 = M := by omega
            have d5 : decide ((k3 : Int) < k3) = false := decide_eq_false (by omega)
            have HWR : Hid (Below S.heap.size S wr) := bel_up HVG.out hw3 HVG.out.size
            clear hw3
            go_wp2_with fail
            go_roundg (2 - (k + 1))
            case measure => omega
            case rel => exact ⟨k + 1, by omega, by go_num, HWR.out⟩
    · obtain rfl : k = 2 := by omega
      have d4 : decide (((2 : Nat) : Int) < 2) = false := by decide
      go_wp2_with fail
      go_ret
      exact ⟨rfl, bel_up HWS.out hw HWS.out.size⟩
end Go.Proofs.Ythhonljejkjicaa
