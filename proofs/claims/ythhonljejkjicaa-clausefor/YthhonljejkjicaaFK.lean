/- ClauseFor: the walk. -/
import Derived.Test.YthhonljejkjicaaFJ
import Derived.Test.YthhonljejkjicaaVQ
namespace Go.Proofs.Ythhonljejkjicaa
open Go.RowKit Go.Lib

set_option maxHeartbeats 8000000 in
set_option maxRecDepth 20000 in
theorem lclfor_walk {vr : Value} {rs : List RlD} (hrs : ∀ r ∈ rs, r.ok) (n : Nat) (hn : n < 256) (x : At) (ht : 0 ≤ x.tags ∧ x.tags < 256) (_hco : -9223372036854775808 ≤ x.cost ∧ x.cost ≤ 9223372036854775807) (a : Nat) (b : Int) (ha : a < 4294967296) (w : World)
    (hr : SliceAt w.heap.size 6 (RlAt w) vr rs) :
    Calls Try.prog 5 #[vr, .int .u8 n, atV x, pfV a b] w fun e w' => e = .returned (.bool true) ∧ Below w.heap.size w w' := by
  have hwk := awake11_any
  have hmk := make_any n hn
  have hcl := fun (X : World) (q : Below w.heap.size w X) => clausesS_any hrs (B := w.heap.size) q.size (rls_keep hr q)
  have HX : Hid (0 ≤ x.tags ∧ x.tags < 256) := ht
  have HRS : Hid (∀ r ∈ rs, r.ok) := hrs
  clear hr ht _hco hrs
  obtain ⟨xo, xp, xc, xt⟩ := x
  unfold atV pfV
  unfold pfV at hmk
  dsimp only
  go_enter Try.func5, Try.ntmps5
  go_wp2_with fail
  obtain ⟨b6, hb6⟩ : ∃ n, n = w.heap.size := ⟨_, rfl⟩
  obtain ⟨b7, hb7⟩ : ∃ n, n = w.heap.size + 1 := ⟨_, rfl⟩
  obtain ⟨U, hU⟩ : ∃ U, U = (w.alloc (.cells #[.bool xo, .int .i64 xp, .int .i64 xc, .int .u8 xt] 24)).alloc (.cells #[.int .u32 a, .int .i64 b] 28) := ⟨_, rfl⟩
  have hwU : Below w.heap.size w U := by rw [hU]; exact bel_alloc2 _ _ _
  have h6 : U.heap[b6]? = some (atB ⟨xo, xp, xc, xt⟩) := by rw [hU]; exact pf_block (bel_alloc (Below.refl _ _) _) (pf_new _ _ _ hb6)
  have h7 : U.heap[b7]? = some (.cells #[.int .u32 a, .int .i64 b] 28 (0, 0)) := by rw [hU]; exact pf_new _ _ _ (by rw [hb7]; simp)
  rw [← hU, ← hb7, ← hb6]
  clear hU hb6 hb7
  refine (hwk _).mono ?_
  rintro e W ⟨rfl, q1⟩
  replace h6 := pf_block q1 h6
  replace h7 := pf_block q1 h7
  have hwW := bel_up hwU q1 hwU.size
  clear hwU q1 U hwk
  have hcw := hcl W hwW
  go_wp2_with fail
  refine hcw.mono ?_
  rintro e X ⟨cv, rfl, ho, q2⟩
  replace h6 := pf_block q2 h6
  replace h7 := pf_block q2 h7
  have hwX := bel_up hwW q2 hwW.size
  clear hcw hcl q2
  go_wp2_with fail
  refine (hmk _).mono ?_
  rintro e Y ⟨rfl, q3⟩
  replace h6 := pf_block q3 h6
  replace h7 := pf_block q3 h7
  replace ho := own_bel ho q3
  have hwY := bel_up hwX q3 hwX.size
  clear hmk q3 hwX hwW
  go_wp2_with fail
  obtain ⟨A, hA⟩ : ∃ k, k = mkA n := ⟨_, rfl⟩
  obtain ⟨B, hB⟩ : ∃ k, k = mkB n := ⟨_, rfl⟩
  have hA2 : A < 4294967296 := by rw [hA]; exact mkA_lt hn
  rw [← hA, ← hB]
  obtain ⟨b10, h10⟩ : ∃ n, n = Y.heap.size := ⟨_, rfl⟩
  obtain ⟨Z, hZ⟩ : ∃ U, U = Y.alloc (.cells #[.int .u32 A, .int .i64 B] 28) := ⟨_, rfl⟩
  have hYZ : Below Y.heap.size Y Z := by rw [hZ]; exact bel_alloc (Below.refl _ _) _
  have k10 : Z.heap[b10]? = some (.cells #[.int .u32 A, .int .i64 B] 28 (0, 0)) := by rw [hZ]; exact pf_new _ _ _ h10
  rw [← hZ, ← h10]
  replace h6 := pf_block hYZ h6
  replace h7 := pf_block hYZ h7
  replace ho := own_bel ho hYZ
  have HWZ : Hid (Below w.heap.size w Z) := bel_up hwY hYZ hwY.size
  clear hZ h10 hYZ hwY hA hB
  obtain ⟨X0, X1, X2, X3⟩ := at_cells h6
  obtain ⟨P0, P1⟩ := pf_cells h7
  obtain ⟨R0, R1⟩ := pf_cells k10
  have hs0 := cls_of_own (by have := clausesS_len rs; omega) ho
  have HS : Hid (∀ p : BelOf Z, SliceAt p.w.heap.size 10 (ClAt p.w) cv (clausesS rs)) := fun p : BelOf Z => cls_keep hs0 p.h
  have HCO : Hid (∀ c ∈ clausesS rs, c.ok) := clausesS_ok HRS.out
  have HLN : Hid ((clausesS rs).length ≤ 5) := clausesS_len rs
  clear h6 h7 k10 ho hs0 HRS
  obtain ⟨cs, hcs⟩ : ∃ cs, cs = clausesS rs := ⟨_, rfl⟩
  rw [← hcs] at HS HCO HLN
  clear hcs
  go_loopw [19] (fun i wr => ∃ k : Nat, k ≤ 16 ∧ i = .int .u8 k ∧ Below Z.heap.size Z wr) (fun i _ => 16 - (RowKit.intOf i).toNat)
  case atStart => exact ⟨0, by decide, rfl, Below.refl _ _⟩
  case round =>
    obtain ⟨k, hk, rfl, hw⟩ := hrel
    by_cases hlt : k < 16
    · have d4 : decide ((k : Int) < 16) = true := decide_eq_true (by omega)
      go_upto_region 9 with fail
      obtain ⟨b12, h12⟩ : ∃ n, n = wr.heap.size := ⟨_, rfl⟩
      obtain ⟨X, hX⟩ : ∃ X, X = wr.alloc (.cells #[.bool true, .int .i64 50, .int .i64 3, .int .u8 k] 24) := ⟨_, rfl⟩
      have hwX : Below wr.heap.size wr X := by rw [hX]; exact bel_alloc (Below.refl _ _) _
      have kX : X.heap[b12]? = some (.cells #[.bool true, .int .i64 50, .int .i64 3, .int .u8 k] 24 (0, 0)) := by rw [hX]; exact pf_new _ _ _ h12
      rw [← hX, ← h12]
      have hZX := bel_up hw hwX hw.size
      clear hX h12 hwX hw
      obtain ⟨y0, y1, y2, y3⟩ := at_cells kX
      have p0 := fun q : BelOf X => P0 ⟨q.w, bel_up hZX q.h hZX.size⟩
      have p1 := fun q : BelOf X => P1 ⟨q.w, bel_up hZX q.h hZX.size⟩
      have r0 := fun q : BelOf X => R0 ⟨q.w, bel_up hZX q.h hZX.size⟩
      have r1 := fun q : BelOf X => R1 ⟨q.w, bel_up hZX q.h hZX.size⟩
      dsimp only at p0 p1 r0 r1
      have HZX : Hid (∀ V : World, Below X.heap.size X V → SliceAt V.heap.size 10 (ClAt V) cv cs) := fun V h => HS.out ⟨V, bel_up hZX h hZX.size⟩
      have HW2 : Hid (Below Z.heap.size Z X) := hZX
      clear kX hZX P0 P1 R0 R1 X0 X1 X2 X3
      have hb0 : 0 ≤ (k : Int) ∧ (k : Int) < 256 := by omega
      refine wp_region_plan (C := fun w' => ∃ p : BelOf X, w' = p.w) [([0, 1, 3, 4, 6, 7, 8], 2), ([], 5), ([], 9)] [10] (by kernel_rfl) (by kernel_rfl) rfl ⟨⟨X.drew, (Below.refl _ _).drew⟩, rfl⟩ (fun _ _ d _ _ h => by cases d <;> exact h) ?_
      have hne := bel_ne X
      refine plan_go rfl ?_
      simp only [pickL, List.getElem?_cons_zero, List.getElem?_cons_succ]
      repeat (go_big_quiet_step (fail))
      refine wpQuiet_nil ?_
      intro Q2 hQ2
      have hf := for_any HCO.out A B hA2 X.drew (by have := HLN.out; omega) (HZX.out X.drew (Below.refl _ _).drew)
      unfold pfV at hf
      go_wp2_with fail
      refine hf.mono ?_
      rintro e F ⟨fv, rfl, fo, qF⟩
      have QF : Below X.heap.size X F := ((Below.refl X.heap.size X).drew).trans qF
      have hd1 := do_any (for_ok HCO.out) a b ha ⟨true, 50, 3, k⟩ hb0 F (cls_of_own (by have := for_len A B cs; have := HLN.out; omega) fo)
      rw [doP_for] at hd1
      obtain ⟨z, hz⟩ : ∃ z, z = doP cs A B ⟨true, 50, 3, k⟩ := ⟨_, rfl⟩
      rw [← hz] at hd1
      unfold atV pfV at hd1
      dsimp only at hd1
      clear hf fo qF
      go_wp2_with fail
      refine hQ2 _ _ ⟨⟨F, QF⟩, rfl⟩ ?_
      clear hQ2 Q2
      refine plan_go rfl ?_
      simp only [pickL]
      refine wpQuiet_nil ?_
      intro Q2 hQ2
      go_wp2_with fail
      refine hd1.mono ?_
      rintro e G ⟨rfl, qG⟩
      have QG : Below X.heap.size X G := bel_up QF qG QF.size
      have hd2 := do_any HCO.out A B hA2 ⟨true, 50, 3, k⟩ hb0 G (HZX.out G QG)
      rw [← hz] at hd2
      unfold atV pfV at hd2
      dsimp only at hd2
      clear hd1 qG hz QF
      go_wp2_with fail
      refine hQ2 _ _ ⟨⟨G, QG⟩, rfl⟩ ?_
      clear hQ2 Q2
      refine plan_go rfl ?_
      simp only [pickL]
      refine wpQuiet_nil ?_
      intro Q2 hQ2
      go_wp2_with fail
      refine hd2.mono ?_
      rintro e D ⟨rfl, qD⟩
      have QD : Below X.heap.size X D := bel_up QG qD QG.size
      clear hd2 qD QG
      go_wp2_with fail
      refine hQ2 _ _ ⟨⟨D, QD⟩, rfl⟩ ?_
      clear hQ2 Q2
      unfold planC
      simp only [pickL, List.getElem?_cons_zero, List.getElem?_cons_succ]
      repeat (go_big_quiet_step (fail))
      refine wpQuiet_nil ?_
      go_wp2_with fail
      go_roundw
      case rel => exact ⟨k + 1, by omega, by go_num, bel_up HW2.out QD HW2.out.size⟩
      case measure => simp [RowKit.intOf]; omega
    · obtain rfl : k = 16 := by omega
      have d4 : decide (((16 : Nat) : Int) < 16) = false := by decide
      go_upto_region 12 with fail
      have p0 := fun q : BelOf wr => P0 ⟨q.w, bel_up hw q.h hw.size⟩
      have p1 := fun q : BelOf wr => P1 ⟨q.w, bel_up hw q.h hw.size⟩
      have r0 := fun q : BelOf wr => R0 ⟨q.w, bel_up hw q.h hw.size⟩
      have r1 := fun q : BelOf wr => R1 ⟨q.w, bel_up hw q.h hw.size⟩
      have y0 := fun q : BelOf wr => X0 ⟨q.w, bel_up hw q.h hw.size⟩
      have y1 := fun q : BelOf wr => X1 ⟨q.w, bel_up hw q.h hw.size⟩
      have y2 := fun q : BelOf wr => X2 ⟨q.w, bel_up hw q.h hw.size⟩
      have y3 := fun q : BelOf wr => X3 ⟨q.w, bel_up hw q.h hw.size⟩
      dsimp only at p0 p1 r0 r1 y0 y1 y2 y3
      have HZX : Hid (∀ V : World, Below wr.heap.size wr V → SliceAt V.heap.size 10 (ClAt V) cv cs) := fun V h => HS.out ⟨V, bel_up hw h hw.size⟩
      have HW2 : Hid (Below Z.heap.size Z wr) := hw
      clear hw P0 P1 R0 R1 X0 X1 X2 X3
      refine wp_region_plan (C := fun w' => ∃ p : BelOf wr, w' = p.w) [([0, 1, 3, 4, 6, 7, 8], 2), ([], 5), ([], 9), ([10], 11)] [] (by kernel_rfl) (by kernel_rfl) rfl ⟨⟨wr.drew, (Below.refl _ _).drew⟩, rfl⟩ (fun _ _ d _ _ h => by cases d <;> exact h) ?_
      have hne := bel_ne wr
      refine plan_go rfl ?_
      simp only [pickL, List.getElem?_cons_zero, List.getElem?_cons_succ]
      repeat (go_big_quiet_step (fail))
      refine wpQuiet_nil ?_
      intro Q2 hQ2
      have hf := for_any HCO.out A B hA2 wr.drew (by have := HLN.out; omega) (HZX.out wr.drew (Below.refl _ _).drew)
      unfold pfV at hf
      go_wp2_with fail
      refine hf.mono ?_
      rintro e F ⟨fv, rfl, fo, qF⟩
      have QF : Below wr.heap.size wr F := ((Below.refl wr.heap.size wr).drew).trans qF
      have hd1 := do_any (for_ok HCO.out) a b ha ⟨xo, xp, xc, xt⟩ HX.out F (cls_of_own (by have := for_len A B cs; have := HLN.out; omega) fo)
      rw [doP_for] at hd1
      obtain ⟨z, hz⟩ : ∃ z, z = doP cs A B ⟨xo, xp, xc, xt⟩ := ⟨_, rfl⟩
      rw [← hz] at hd1
      unfold atV pfV at hd1
      dsimp only at hd1
      clear hf fo qF
      go_wp2_with fail
      refine hQ2 _ _ ⟨⟨F, QF⟩, rfl⟩ ?_
      clear hQ2 Q2
      refine plan_go rfl ?_
      simp only [pickL]
      refine wpQuiet_nil ?_
      intro Q2 hQ2
      go_wp2_with fail
      refine hd1.mono ?_
      rintro e G ⟨rfl, qG⟩
      have QG : Below wr.heap.size wr G := bel_up QF qG QF.size
      have hd2 := do_any HCO.out A B hA2 ⟨xo, xp, xc, xt⟩ HX.out G (HZX.out G QG)
      rw [← hz] at hd2
      unfold atV pfV at hd2
      dsimp only at hd2
      clear hd1 qG hz QF
      go_wp2_with fail
      refine hQ2 _ _ ⟨⟨G, QG⟩, rfl⟩ ?_
      clear hQ2 Q2
      refine plan_go rfl ?_
      simp only [pickL]
      refine wpQuiet_nil ?_
      intro Q2 hQ2
      go_wp2_with fail
      refine hd2.mono ?_
      rintro e D ⟨rfl, qD⟩
      have QD : Below wr.heap.size wr D := bel_up QG qD QG.size
      clear hd2 qD QG
      go_wp2_with fail
      refine hQ2 _ _ ⟨⟨D, QD⟩, rfl⟩ ?_
      clear hQ2 Q2
      refine plan_go rfl ?_
      simp only [pickL, List.getElem?_cons_zero, List.getElem?_cons_succ]
      repeat (go_big_quiet_step (fail))
      refine wpQuiet_nil ?_
      intro Q2 hQ2
      go_wp2_with fail
      refine hQ2 _ _ ⟨⟨D, QD⟩, rfl⟩ (plan_end ?_)
      clear hQ2 Q2
      go_wp2_with fail
      go_ret
      have h1 := bel_up HW2.out QD HW2.out.size
      exact ⟨rfl, bel_up HWZ.out h1 HWZ.out.size⟩
end Go.Proofs.Ythhonljejkjicaa
