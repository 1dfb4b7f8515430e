/- ClauseMatches: the walk. -/
import Derived.Test.YthhonljejkjicaaFJ
import Derived.Test.YthhonljejkjicaaVQ
namespace Go.Proofs.Ythhonljejkjicaa
open Go.RowKit Go.Lib

theorem wout_int {t w : Nat} (ht : t < 256) (hw : w < 256) : (bits BinOp.andNot IntKind.u8 (w : Int) (t : Int) == 0) = decide (w &&& t = w) := by
  rw [u8_andNot_nat w t hw ht, Bool.eq_iff_iff, beq_iff_eq, decide_eq_true_iff, ← with_bits hw ht]
  omega
theorem oout_int {t w : Nat} (ht : t < 256) (hw : w < 256) : (bits BinOp.and IntKind.u8 (w : Int) (t : Int) == 0) = decide (w &&& t = 0) := by
  rw [u8_and_nat w t hw ht, Bool.eq_iff_iff, beq_iff_eq, decide_eq_true_iff]
  omega
/-- Two clauses in a block of their own. -/
def clB2 (c d : ClD) : Obj := .cells #[.bool c.any, .int .u32 c.a, .int .i64 c.b, .int .u8 c.wi, .int .u8 c.ou, .bool c.drop, .int .u8 c.se, .int .u8 c.cl, .int .i64 c.more, .int .i64 c.pref, .bool d.any, .int .u32 d.a, .int .i64 d.b, .int .u8 d.wi, .int .u8 d.ou, .bool d.drop, .int .u8 d.se, .int .u8 d.cl, .int .i64 d.more, .int .i64 d.pref] 35 (0, 0)
theorem two_cl {X : World} {b : Nat} {c d : ClD} (h : X.heap[b]? = some (clB2 c d)) : SliceAt X.heap.size 10 (ClAt X) (.slice (some ⟨b, 0, none⟩) 2 2) [c, d] := by
  refine ⟨some ⟨b, 0, none⟩, 2, rfl, by simp, fun i x hx => ⟨b, 0, rfl, (Array.getElem?_eq_some_iff.1 h).1, ?_⟩⟩
  match i, hx with
  | 0, hx =>
    obtain rfl : c = x := by simpa using hx
    refine ⟨?_, ?_, ?_, ?_, ?_, ?_, ?_, ?_, ?_, ?_⟩ <;> simp [World.cell?, h, clB2]
  | 1, hx =>
    obtain rfl : d = x := by simpa using hx
    refine ⟨?_, ?_, ?_, ?_, ?_, ?_, ?_, ?_, ?_, ?_⟩ <;> simp [World.cell?, h, clB2]
  | i + 2, hx => simp at hx
set_option maxHeartbeats 8000000 in
set_option maxRecDepth 20000 in
theorem lclmatches_walk (c : ClD) (hc : c.ok) (r : RlD) (hr : r.ok) (n : Nat) (hn : n < 256) (t : Nat) (ht : t < 256) (w : World) :
    Calls Try.prog 4 #[clV c, rlV r, .int .u8 n, .int .u8 t] w fun e w' => e = .returned (.bool true) ∧ Below w.heap.size w w' := by
  have hwk := awake11_any
  have hmk := make_any n hn
  have hru := rule_any r hr
  obtain ⟨D, hD⟩ : ∃ D, D = ruleC r := ⟨_, rfl⟩
  have hDo : D.ok := by rw [hD]; exact ruleC_ok hr
  rw [← hD] at hru
  have HOK : Hid (∀ d ∈ [c, D], d.ok) := fun d hd => by
    rcases List.mem_cons.1 hd with rfl | hd
    · exact hc
    · obtain rfl := List.mem_singleton.1 hd
      exact hDo
  clear hD hDo hr hc
  obtain ⟨rt, rw', ro, ract, rm, rp⟩ := r
  obtain ⟨cB, hcB⟩ : ∃ o, o = clB c := ⟨_, rfl⟩
  unfold rlV clV at hru ⊢
  unfold pfV at hmk
  dsimp only at hru ⊢
  go_enter Try.func4, Try.ntmps4
  go_wp2_with fail
  obtain ⟨b4, hb4⟩ : ∃ n, n = w.heap.size := ⟨_, rfl⟩
  obtain ⟨b5, hb5⟩ : ∃ n, n = w.heap.size + 1 := ⟨_, rfl⟩
  obtain ⟨U, hU⟩ : ∃ U, U = (w.alloc (clB c)).alloc (.cells #[.int .u8 rt, .int .u8 rw', .int .u8 ro, .int .u8 ract, .int .u8 rm, .int .u8 rp] 37) := ⟨_, rfl⟩
  have hwU : Below w.heap.size w U := by rw [hU]; exact bel_alloc2 _ _ _
  have h4 : U.heap[b4]? = some (clB c) := by rw [hU]; exact pf_block (bel_alloc (Below.refl _ _) _) (pf_new _ _ _ hb4)
  have h5 : U.heap[b5]? = some (.cells #[.int .u8 rt, .int .u8 rw', .int .u8 ro, .int .u8 ract, .int .u8 rm, .int .u8 rp] 37 (0, 0)) := by rw [hU]; exact pf_new _ _ _ (by rw [hb5]; simp)
  unfold clB at hU
  rw [← hU, ← hb5, ← hb4]
  clear hU hb4 hb5 hcB cB
  refine (hwk _).mono ?_
  rintro e W ⟨rfl, q1⟩
  replace h4 := pf_block q1 h4
  replace h5 := pf_block q1 h5
  have hwW := bel_up hwU q1 hwU.size
  clear hwU q1 U hwk
  go_wp2_with fail
  refine (hmk _).mono ?_
  rintro e Y ⟨rfl, q3⟩
  replace h4 := pf_block q3 h4
  replace h5 := pf_block q3 h5
  have hwY := bel_up hwW q3 hwW.size
  clear hmk q3 hwW
  go_upto_region 4 with fail
  obtain ⟨A, hA⟩ : ∃ k, k = mkA n := ⟨_, rfl⟩
  obtain ⟨B, hB⟩ : ∃ k, k = mkB n := ⟨_, rfl⟩
  have hA2 : A < 4294967296 := by rw [hA]; exact mkA_lt hn
  rw [← hA, ← hB]
  obtain ⟨b9, h9⟩ : ∃ n, n = Y.heap.size := ⟨_, rfl⟩
  obtain ⟨Z, hZ⟩ : ∃ U, U = Y.alloc (.cells #[.int .u32 A, .int .i64 B] 28) := ⟨_, rfl⟩
  have hYZ : Below Y.heap.size Y Z := by rw [hZ]; exact bel_alloc (Below.refl _ _) _
  have k9 : Z.heap[b9]? = some (.cells #[.int .u32 A, .int .i64 B] 28 (0, 0)) := by rw [hZ]; exact pf_new _ _ _ h9
  rw [← hZ, ← h9]
  replace h4 := pf_block hYZ h4
  replace h5 := pf_block hYZ h5
  have HWZ : Hid (Below w.heap.size w Z) := bel_up hwY hYZ hwY.size
  clear hZ h9 hYZ hwY hA hB
  have hne := bel_ne Z
  have HK9 : Hid (Z.heap[b9]? = some (.cells #[.int .u32 A, .int .i64 B] 28 (0, 0))) := k9
  obtain ⟨c0, c1, c2, c3, c4, c5, c6, c7, c8, c9⟩ : (∀ p : BelOf Z, p.w.cell? ⟨b4, 0, none⟩ = some (.bool c.any)) ∧ (∀ p : BelOf Z, p.w.cell? ⟨b4, 1, none⟩ = some (.int .u32 c.a)) ∧ (∀ p : BelOf Z, p.w.cell? ⟨b4, 2, none⟩ = some (.int .i64 c.b)) ∧ (∀ p : BelOf Z, p.w.cell? ⟨b4, 3, none⟩ = some (.int .u8 c.wi)) ∧ (∀ p : BelOf Z, p.w.cell? ⟨b4, 4, none⟩ = some (.int .u8 c.ou)) ∧ (∀ p : BelOf Z, p.w.cell? ⟨b4, 5, none⟩ = some (.bool c.drop)) ∧ (∀ p : BelOf Z, p.w.cell? ⟨b4, 6, none⟩ = some (.int .u8 c.se)) ∧ (∀ p : BelOf Z, p.w.cell? ⟨b4, 7, none⟩ = some (.int .u8 c.cl)) ∧ (∀ p : BelOf Z, p.w.cell? ⟨b4, 8, none⟩ = some (.int .i64 c.more)) ∧ (∀ p : BelOf Z, p.w.cell? ⟨b4, 9, none⟩ = some (.int .i64 c.pref)) :=
    ⟨fun p => (cl_cell (pf_block p.h h4)).1, fun p => (cl_cell (pf_block p.h h4)).2.1, fun p => (cl_cell (pf_block p.h h4)).2.2.1, fun p => (cl_cell (pf_block p.h h4)).2.2.2.1, fun p => (cl_cell (pf_block p.h h4)).2.2.2.2.1, fun p => (cl_cell (pf_block p.h h4)).2.2.2.2.2.1, fun p => (cl_cell (pf_block p.h h4)).2.2.2.2.2.2.1, fun p => (cl_cell (pf_block p.h h4)).2.2.2.2.2.2.2.1, fun p => (cl_cell (pf_block p.h h4)).2.2.2.2.2.2.2.2.1, fun p => (cl_cell (pf_block p.h h4)).2.2.2.2.2.2.2.2.2⟩
  obtain ⟨r0, r1, r2, r3, r4, r5⟩ : (∀ p : BelOf Z, p.w.cell? ⟨b5, 0, none⟩ = some (.int .u8 rt)) ∧ (∀ p : BelOf Z, p.w.cell? ⟨b5, 1, none⟩ = some (.int .u8 rw')) ∧ (∀ p : BelOf Z, p.w.cell? ⟨b5, 2, none⟩ = some (.int .u8 ro)) ∧ (∀ p : BelOf Z, p.w.cell? ⟨b5, 3, none⟩ = some (.int .u8 ract)) ∧ (∀ p : BelOf Z, p.w.cell? ⟨b5, 4, none⟩ = some (.int .u8 rm)) ∧ (∀ p : BelOf Z, p.w.cell? ⟨b5, 5, none⟩ = some (.int .u8 rp)) :=
    ⟨fun p => (cells_six' (pf_block p.h h5)).1, fun p => (cells_six' (pf_block p.h h5)).2.1, fun p => (cells_six' (pf_block p.h h5)).2.2.1, fun p => (cells_six' (pf_block p.h h5)).2.2.2.1, fun p => (cells_six' (pf_block p.h h5)).2.2.2.2.1, fun p => (cells_six' (pf_block p.h h5)).2.2.2.2.2⟩
  clear h4 h5 k9
  refine wp_region_plan (C := fun w' => ∃ p : BelOf Z, w' = p.w) [([0, 1, 5], 2), ([], 3), ([], 4)] [] (by kernel_rfl) (by kernel_rfl) rfl ⟨⟨Z.drew, (Below.refl _ _).drew⟩, rfl⟩ (fun _ _ d _ _ h => by cases d <;> exact h) ?_
  refine plan_go rfl ?_
  simp only [pickL, List.getElem?_cons_zero, List.getElem?_cons_succ]
  repeat (go_big_quiet_step (fail))
  refine wpQuiet_nil ?_
  intro Q2 hQ2
  go_wp2_with fail
  refine (hru _).mono ?_
  rintro e F ⟨rfl, qF⟩
  have QF : Below Z.heap.size Z F := ((Below.refl Z.heap.size Z).drew).trans qF
  clear hru qF
  go_wp2_with fail
  refine hQ2 _ _ ⟨⟨F, QF⟩, rfl⟩ ?_
  clear hQ2 Q2
  refine plan_go rfl ?_
  simp only [pickL]
  refine wpQuiet_nil ?_
  intro Q2 hQ2
  go_wp2_with fail
  obtain ⟨bs, hbs⟩ : ∃ n, n = F.heap.size := ⟨_, rfl⟩
  obtain ⟨S, hS⟩ : ∃ S, S = F.alloc (clB2 c D) := ⟨_, rfl⟩
  have hFS : Below F.heap.size F S := by rw [hS]; exact bel_alloc (Below.refl _ _) _
  have kS : S.heap[bs]? = some (clB2 c D) := by rw [hS]; exact pf_new _ _ _ hbs
  have HZS : Hid (Below Z.heap.size Z S) := bel_up QF hFS QF.size
  unfold clB2 at hS
  rw [← hS, ← hbs]
  have HSL : Hid (SliceAt S.heap.size 10 (ClAt S) (.slice (some ⟨bs, 0, none⟩) 2 2) [c, D]) := two_cl kS
  clear hS hbs hFS kS QF c0 c1 c2 c3 c4 c5 c6 c7 c8 c9 r0 r1 r2 r3 r4 r5
  refine hQ2 _ _ ⟨⟨S, HZS.out⟩, rfl⟩ ?_
  clear hQ2 Q2
  refine plan_go rfl ?_
  simp only [pickL]
  refine wpQuiet_nil ?_
  intro Q2 hQ2
  go_wp2_with fail
  refine hQ2 _ _ ⟨⟨S, HZS.out⟩, rfl⟩ (plan_end ?_)
  clear hQ2 Q2
  have HWS : Hid (Below w.heap.size w S) := bel_up HWZ.out HZS.out HWZ.out.size
  obtain ⟨P0, P1⟩ := pf_cells (pf_block HZS.out HK9.out)
  have hne2 := bel_ne S
  go_wp2_with fail
  go_loopw [22] (fun i wr => ∃ k : Nat, k ≤ 2 ∧ i = .int .i64 k ∧ Below S.heap.size S wr) (fun i _ => 2 - (RowKit.intOf i).toNat)
  case atStart => exact ⟨0, by decide, rfl, Below.refl _ _⟩
  case round =>
    obtain ⟨k, hk, rfl, hw⟩ := hrel
    by_cases hlt : k < 2
    · have d4 : decide ((k : Int) < 2) = true := decide_eq_true (by omega)
      obtain ⟨d, hd⟩ : ∃ d, [c, D][k]? = some d := ⟨[c, D][k]'hlt, List.getElem?_eq_getElem _⟩
      have hdo := HOK.out d (List.mem_of_getElem? hd)
      obtain ⟨ad, cap, e1, _, hel⟩ := HSL.out
      injection e1 with e1 e7 e8
      subst e1
      clear e7 e8
      obtain ⟨bc, off, e4, hbc, hat⟩ := hel k d hd
      injection e4 with e4
      injection e4 with e4 e5 e6
      subst e4
      subst e5
      obtain ⟨c0, c1, c2, c3, c4, c5, c6, c7, c8, c9⟩ := hat.keep hbc (cells_below hw (Nat.le_refl _))
      simp only [Nat.zero_add] at c0 c1 c2 c3 c4 c5 c6 c7 c8 c9
      clear hel hat hbc hd
      have hcv := covers_any d.a A d.b B hdo.a hA2
      have hma := matches_any d hdo A B hA2 t ht
      have e3 := wout_int ht hdo.wi
      have e4 := oout_int ht hdo.ou
      obtain ⟨x, hx⟩ : ∃ x, x = decide (d.wi &&& t = d.wi) := ⟨_, rfl⟩
      obtain ⟨y, hy⟩ : ∃ y, y = decide (d.ou &&& t = 0) := ⟨_, rfl⟩
      obtain ⟨f, hf⟩ : ∃ f, f = covP d.a d.b A B := ⟨_, rfl⟩
      have hmat : matP d A B t = ((d.any || f) && (x && y)) := by
        unfold matP forC tagP
        rw [hx, hy, hf]
      rw [← hx] at e3
      rw [← hy] at e4
      rw [← hf] at hcv
      rw [hmat] at hma
      obtain ⟨p, rfl⟩ : ∃ p : BelOf S, wr = p.w := ⟨⟨wr, hw⟩, rfl⟩
      obtain ⟨V, hV⟩ : ∃ V, V = p.w.alloc (clB d) := ⟨_, rfl⟩
      have hpV : Below p.w.heap.size p.w V := by rw [hV]; exact bel_alloc (Below.refl _ _) _
      have htV : V.heap[p.w.heap.size]? = some (clB d) := by rw [hV]; exact pf_new _ _ _ rfl
      obtain ⟨q, rfl⟩ : ∃ q : BelOf S, V = q.w := ⟨⟨V, bel_up p.h hpV p.h.size⟩, rfl⟩
      have p0 := P0 q
      have p1 := P1 q
      rw [hV] at p0 p1
      unfold clB at hV p0 p1
      unfold pfV at hcv
      unfold clV pfV at hma
      clear hmat hx hy hf hdo hpV hw e6
      cases hany : d.any
      · rw [hany] at c0 hV p0 p1 hma
        go_wp2_with fail
        rw [← hV]
        refine (hcv _).mono ?_
        rintro e W ⟨rfl, q1⟩
        have htW := pf_block q1 htV
        obtain ⟨bt, hbt⟩ : ∃ bt, bt = p.w.heap.size := ⟨_, rfl⟩
        rw [← hbt] at htW ⊢
        obtain ⟨r, rfl⟩ : ∃ r : BelOf S, W = r.w := ⟨⟨W, bel_up q.h q1 q.h.size⟩, rfl⟩
        obtain ⟨g0, g1, g2, g3, g4, g5, g6, g7, g8, g9⟩ := cl_cell htW
        rw [hany] at g0
        have s0 := P0 r
        have s1 := P1 r
        have HR : Hid (Below S.heap.size S r.w) := r.h
        clear hV p0 p1 c0 c1 c2 c3 c4 c5 c6 c7 c8 c9 hcv htV htW hbt q1 hany
        cases f <;> cases x <;> cases y
        all_goals
          go_wp2_with fail
          refine (hma _).mono ?_
          rintro e W2 ⟨rfl, q2⟩
          have HR2 : Hid (Below S.heap.size S W2) := bel_up HR.out q2 HR.out.size
          clear q2 hma
          go_wp2_with fail
          go_roundw
          case rel => exact ⟨k + 1, by omega, by go_num, HR2.out⟩
          case measure => simp [RowKit.intOf]; omega
      · rw [hany] at c0 hV p0 p1 hma
        have HQ : Hid (Below S.heap.size S q.w) := q.h
        clear hany htV hcv
        cases x <;> cases y
        all_goals
          go_wp2_with fail
          rw [← hV]
          refine (hma _).mono ?_
          rintro e W2 ⟨rfl, q2⟩
          have HR2 : Hid (Below S.heap.size S W2) := bel_up HQ.out q2 HQ.out.size
          clear q2 hma hV p0 p1
          go_wp2_with fail
          go_roundw
          case rel => exact ⟨k + 1, by omega, by go_num, HR2.out⟩
          case measure => simp [RowKit.intOf]; omega
    · obtain rfl : k = 2 := by omega
      have d4 : decide (((2 : Nat) : Int) < 2) = false := by decide
      go_wp2_with fail
      go_ret
      exact ⟨rfl, bel_up HWS.out hw HWS.out.size⟩
end Go.Proofs.Ythhonljejkjicaa
