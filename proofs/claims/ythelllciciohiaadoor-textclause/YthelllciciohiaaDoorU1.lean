/- TextClause: what it walks. -/
import Derived.Test.YthelllciciohiaaDoorUL
namespace Go.Proofs.YthelllciciohiaaDoor
open Go.RowKit Go.Lib

set_option maxHeartbeats 8000000 in
set_option maxRecDepth 20000 in
theorem tclause_any (c : ClD) (hc : c.ok) (r : RlD) (hr : r.ok) (w : World) (ht : TabP w) :
    Calls Tryd.prog 3 #[clV c, rlV r] w fun e w' => e = .returned (.bool true) ∧ Below w.heap.size w w' := by
  have ha := fun w h => awake7_any w h
  have hcc := fun w h => clause_ways c hc w h
  have hr1 := fun w => rule_any r hr w
  have hr2 := fun w h => clause_ways (ruleC r) (ruleC_ok hr) w h
  have hr3 := fun w h => lline_any (ruleC r) (ruleC_ok hr) (ruleC_far r).1 (ruleC_far r).2 w h
  have hcl : -999999 ≤ c.more → -999999 ≤ c.pref → ∀ w, TabP w → Calls Tryd.prog 11 #[clV c] w fun e w' => e = .returned (.string ⟨(lineT c).toArray⟩) ∧ Below w.heap.size w w' := fun h1 h2 w h => lline_any c hc (by omega) (by omega) w h
  have HCL : Hid _ := hcl
  clear hcl
  obtain ⟨D, hD⟩ : ∃ D, D = clV (ruleC r) := ⟨_, rfl⟩
  have hDa : ∃ cs : Array Value, D = .agg cs := ⟨_, hD⟩
  rw [← hD] at hr1 hr2 hr3
  obtain ⟨L1, hL1⟩ : ∃ L : ByteArray, L = ⟨(lineT c).toArray⟩ := ⟨_, rfl⟩
  obtain ⟨L2, hL2⟩ : ∃ L : ByteArray, L = ⟨(lineT (ruleC r)).toArray⟩ := ⟨_, rfl⟩
  rw [← hL1] at hcc HCL
  rw [← hL2] at hr2 hr3
  have e1 : (L1.toList == L1.toList) = true := by simp
  have e2 : (L2.toList == L2.toList) = true := by simp
  clear hD hL1 hL2 hc hr
  obtain ⟨any, a, b, wi, ou, drop, se, cl, more, pref⟩ := c
  obtain ⟨tg, rwi, rou, act, rmore, rpref⟩ := r
  unfold clV at hcc HCL
  unfold rlV at hr1
  unfold clV rlV
  dsimp only at hcc HCL hr1 ⊢
  go_enter Tryd.func3, Tryd.ntmps3
  go_wp2_with fail
  obtain ⟨b1, hb1⟩ : ∃ b, b = w.heap.size := ⟨_, rfl⟩
  obtain ⟨b2, hb2⟩ : ∃ b, b = w.heap.size + 1 := ⟨_, rfl⟩
  rw [← hb2, ← hb1]
  obtain ⟨U1, hU1⟩ : ∃ U, U = w.alloc (.cells #[.bool any, .int .u32 a, .int .i64 b, .int .u8 wi, .int .u8 ou, .bool drop, .int .u8 se, .int .u8 cl, .int .i64 more, .int .i64 pref] 26) := ⟨_, rfl⟩
  rw [← hU1]
  obtain ⟨U, hU⟩ : ∃ U, U = U1.alloc (.cells #[.int .u8 tg, .int .u8 rwi, .int .u8 rou, .int .u8 act, .int .u8 rmore, .int .u8 rpref] 28) := ⟨_, rfl⟩
  rw [← hU]
  obtain ⟨q1, r1, _⟩ := box_at w _ hU1 hb1
  obtain ⟨q2, r2, _⟩ := box_at U1 _ hU (b := b2) (by rw [hU1, hb2]; simp)
  have qU := bel_up q1 q2 q1.size
  have r1U := pf_block q2 r1
  have htU := ht.below qU
  clear hU hU1 hb1 hb2 q1 q2 r1
  refine (ha _ htU).mono ?_
  rintro e V ⟨rfl, qV⟩
  have r1V := pf_block qV r1U
  have r2V := pf_block qV r2
  have QV : Hid (Below w.heap.size w V) := bel_up qU qV qU.size
  have htV := htU.below qV
  clear ha htU qV r1U r2 qU
  obtain ⟨C0, C1, C2, C3, C4, C5, C6, C7, C8, C9⟩ := cells_ten r1V
  obtain ⟨D0, D1, D2, D3, D4, D5⟩ := cells_six' r2V
  by_cases h1 : more < -999999
  · have d1 : decide (more < -999999) = true := decide_eq_true h1
    go_wp2_with fail
    go_ret
    exact ⟨rfl, QV.out⟩
  · have d1 : decide (more < -999999) = false := decide_eq_false h1
    by_cases h2 : pref < -999999
    · have d2 : decide (pref < -999999) = true := decide_eq_true h2
      go_wp2_with fail
      go_ret
      exact ⟨rfl, QV.out⟩
    · have d2 : decide (pref < -999999) = false := decide_eq_false h2
      have hcl := HCL.out (by omega) (by omega)
      clear HCL
      have l1 := (Array.getElem?_eq_some_iff.1 r1V).1
      have l2 := (Array.getElem?_eq_some_iff.1 r2V).1
      have E0 := fun p => bel_cell l1 C0 p
      have E1 := fun p => bel_cell l1 C1 p
      have E2 := fun p => bel_cell l1 C2 p
      have E3 := fun p => bel_cell l1 C3 p
      have E4 := fun p => bel_cell l1 C4 p
      have E5 := fun p => bel_cell l1 C5 p
      have E6 := fun p => bel_cell l1 C6 p
      have E7 := fun p => bel_cell l1 C7 p
      have E8 := fun p => bel_cell l1 C8 p
      have E9 := fun p => bel_cell l1 C9 p
      have F0 := fun p => bel_cell l2 D0 p
      have F1 := fun p => bel_cell l2 D1 p
      have F2 := fun p => bel_cell l2 D2 p
      have F3 := fun p => bel_cell l2 D3 p
      have F4 := fun p => bel_cell l2 D4 p
      have F5 := fun p => bel_cell l2 D5 p
      have HT : ∀ p : BelOf V, TabP p.w := fun p => htV.below p.h
      clear r1V r2V htV l1 l2
      go_wp2_with fail
      clear C0 C1 C2 C3 C4 C5 C6 C7 C8 C9 D0 D1 D2 D3 D4 D5
      have hne := bel_ne V
      refine wp_region_bel (by kernel_rfl) (by kernel_rfl) ?_
      repeat (go_big_quiet_step (first
        | (go_at_call 12; exact bel_of (hr1 _))
        | (go_at_call 10; first | (with_reducible exact bel_of (hcc _ (HT _))) | (with_reducible exact bel_of (hr2 _ (HT _))))
        | (go_at_call 11; first | (with_reducible exact bel_of (hcl _ (HT _))) | (with_reducible exact bel_of (hr3 _ (HT _))))))
      refine wpQuiet_nil ?_
      rintro W ⟨⟨W', hW⟩, rfl⟩
      clear hcc hcl hr1 hr2 hr3 HT E0 E1 E2 E3 E4 E5 E6 E7 E8 E9 F0 F1 F2 F3 F4 F5 hne
      go_wp2_with fail
      go_ret
      exact ⟨rfl, bel_up QV.out hW QV.out.size⟩
end Go.Proofs.YthelllciciohiaaDoor
