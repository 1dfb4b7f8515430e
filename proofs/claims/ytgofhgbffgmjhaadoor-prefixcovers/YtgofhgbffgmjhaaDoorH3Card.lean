/- PrefixCovers holds: for every two numbers that make prefixes, and every two prefixes, whatever their numbers are, one covers another one just if both may be and its bits are that one's first ones: the law returns true and its arguments are as they were. No condition of ours; the row's own: the listed tables of the library read as the program's text lays them. -/
import Derived.Test.YtgofhgbffgmjhaaDoorHCard
import Derived.Test.YtgofhgbffgmjhaaDoorH3
namespace Go.Proofs.YtgofhgbffgmjhaaDoor
open Go.ChangeShapes Go.WideShapes Go.RowKit Go.Joins
open Go.ChangeMaps (open_string shut_string)

set_option maxRecDepth 100000 in
theorem lifted (os : Os) (started : os.Started) (H : Type) (enc : TypeId × Value → H) :
    ReturnsInHanded {} Tryd.checked os 5 .any (fun w args => (Rows.prefixCoversSpec.pre enc Tryd.prog Tryd.f5 [] false w args ∧ laidMetH Tryd.prog laid3 w) ∧ sizedMet enc Tryd.prog Tryd.f5 (OpenSpec.ofChange Rows.prefixCoversSpec) false w args)
      (Rows.prefixCoversSpec.post enc Tryd.prog Tryd.f5 false true false false) := by
  refine returnsInHanded_of_change_and (C := Tryd.checked) (X := fun w _ => laidMetH Tryd.prog laid3 w) (fun _ _ _ hh h => h.of_heap hh) ownKnob_none started (by kernel_rfl) Tryd.func5
    (ChangeSpec.witness_at (enc := enc) (C := Tryd.checked) (os := os) (X := fun w _ => laidMetH Tryd.prog laid3 w) false (layTabs (World.holding Tryd.prog os ⟨#[], #[], []⟩)) #[.int .u8 0, .int .u8 0, .agg #[.int .u32 0, .int .i64 0], .agg #[.int .u32 0, .int .i64 0]] 8 rfl (by kernel_rfl) (by kernel_rfl) (by kernel_rfl) (by kernel_rfl) (by kernel_rfl) (laid_met os _)) ?_
  intro W base args ds gs before hval0 hW _ _ hL _
  have hval : ∀ (j : Nat) t v, Tryd.f5.params[j]? = some t → args[j]? = some v → Value.okWide Tryd.prog W .any base t v := hval0
  have hW' := hW
  obtain ⟨p, q, hA0, hV0, rfl, hfz, hnd⟩ := hW
  have hA : DataW.TrodAll enc Tryd.prog W 0 (fun _ => true) true Tryd.f5.params.toList args.toList ds p := hA0
  have hV : DataW.TrodVars enc Tryd.prog W (fun _ => true) [] gs q := hV0
  rw [Tryd.params5] at hA hval
  obtain ⟨v0, v1, v2, v3, d0, d1, d2, d3, p0, p1, p2, p3, hargs, rfl, rfl, h0, h1, h2, h3⟩ := trodAll_four hA
  obtain rfl : args = #[v0, v1, v2, v3] := by cases args; simp_all
  obtain ⟨a0, rfl, rfl, rfl, wa0⟩ := open_int Tryd.underlying5 (hval 0 5 v0 rfl rfl) h0
  obtain ⟨a0, rfl, hb0⟩ := bounds_u8' wa0
  obtain ⟨a1, rfl, rfl, rfl, wa1⟩ := open_int Tryd.underlying5 (hval 1 5 v1 rfl rfl) h1
  obtain ⟨a1, rfl, hb1⟩ := bounds_u8' wa1
  obtain ⟨c0, c1, y0, y1, m, rfl, rfl, rfl, hy0, hy1⟩ := open_agg2 Tryd.underlying24 (by kernel_rfl) cellsPf (hval 2 24 v2 rfl rfl) h2
  obtain ⟨a2, e0, rfl, wa2⟩ := DataW.trod_int Tryd.underlying22 hy0
  obtain ⟨b2, e1, rfl, wb2⟩ := DataW.trod_int Tryd.underlying3 hy1
  simp only [List.cons.injEq, and_true] at e0 e1
  subst e0 e1
  obtain ⟨a2, rfl, hb2⟩ := bounds_u32' wa2
  clear hy0 hy1
  obtain ⟨c0, c1, y0, y1, m, rfl, rfl, rfl, hy0, hy1⟩ := open_agg2 Tryd.underlying24 (by kernel_rfl) cellsPf (hval 3 24 v3 rfl rfl) h3
  obtain ⟨a3, e0, rfl, wa3⟩ := DataW.trod_int Tryd.underlying22 hy0
  obtain ⟨b3, e1, rfl, wb3⟩ := DataW.trod_int Tryd.underlying3 hy1
  simp only [List.cons.injEq, and_true] at e0 e1
  subst e0 e1
  obtain ⟨a3, rfl, hb3⟩ := bounds_u32' wa3
  clear hy0 hy1
  have hT := tab_of_laid hL
  obtain ⟨rfl, rfl⟩ : gs = [] ∧ q = [] := by
    cases gs with
    | nil => exact ⟨rfl, hV⟩
    | cons g r => exact absurd hV (by intro h; cases h)
  have e1 : Rows.prefixCoversSpec.fn H ([.lit (.int .u8 a0), .lit (.int .u8 a1), .agg [.lit (.int .u32 a2), .lit (.int .i64 b2)], .agg [.lit (.int .u32 a3), .lit (.int .i64 b3)]] ++ []) = { results := [.lit (.bool true)], args := [.lit (.int .u8 a0), .lit (.int .u8 a1), .agg [.lit (.int .u32 a2), .lit (.int .i64 b2)], .agg [.lit (.int .u32 a3), .lit (.int .i64 b3)]] } := by simp [Rows.prefixCoversSpec]
  refine (covers_walk a0 a1 a2 b2 a3 b3 hb0 hb1 hb2 hb3 W hT).mono fun e W' ⟨he, hbel⟩ => ?_
  subst he
  refine ⟨_, rfl, _, _, _, [], [], [], hW', ?_, ?_, ?_, hbel.frame _, fun h => by cases h⟩
  · rw [e1]; exact trodAll_mk1 (shut_bool Tryd.underlying4 true)
  · rw [e1]; exact trodAll_cons_mk (shut_int Tryd.underlying5 wa0) (trodAll_cons_mk (shut_int Tryd.underlying5 wa1) (trodAll_cons_mk (shut_agg2 (y0 := (.lit (.int .u32 a2), [])) (y1 := (.lit (.int .i64 b2), [])) Tryd.underlying24 (by kernel_rfl) cellsPf ⟨1, by simp [DataW.trod, Tryd.underlying22, wa2]⟩ ⟨1, by simp [DataW.trod, Tryd.underlying3, wb2]⟩) (trodAll_cons_mk (shut_agg2 (y0 := (.lit (.int .u32 a3), [])) (y1 := (.lit (.int .i64 b3), [])) Tryd.underlying24 (by kernel_rfl) cellsPf ⟨1, by simp [DataW.trod, Tryd.underlying22, wa3]⟩ ⟨1, by simp [DataW.trod, Tryd.underlying3, wb3]⟩) trodAll_mk0)))
  · rw [e1]; rfl

theorem covers_said : Rows.PrefixCoversSaid :=
  OpenClaim.holds_of_wide 5 Tryd.f5 rfl rfl rfl rfl rfl rfl rfl ⟨rfl, rfl, rfl, rfl, rfl⟩ rfl rfl rfl rfl rfl (by kernel_rfl) Tryd.func5 (by kernel_rfl)
    (of_decide_eq_true (by kernel_rfl)) (by unfold Func.isWrapper; rw [if_neg (of_decide_eq_false (by kernel_rfl))]; exact ⟨rfl, rfl⟩)
    (fun os started H enc _ => lifted os started H enc)

theorem plainLaw (f : FuncId) (fn : Func) (hf : Tryd.pinned.checked.prog.funcNamed "maquette/maquettelaw05.PrefixCovers" = some f) (hfn : Tryd.pinned.checked.prog.funcs[f]? = some fn) :
    false = Tryd.pinned.checked.prog.looks [] ∧ ∀ (j : Nat) t, fn.params[j]? = some t → Tryd.pinned.checked.prog.wantsStandIn t = false := by
  obtain rfl : f = 5 := Option.some.inj ((show Tryd.prog.funcNamed "maquette/maquettelaw05.PrefixCovers" = some 5 by kernel_rfl).symm.trans hf) |>.symm
  obtain rfl : fn = Tryd.f5 := (Option.some.inj (Tryd.func5.symm.trans hfn)).symm
  refine ⟨by kernel_rfl, fun j t ht => ?_⟩
  rw [Tryd.params5] at ht
  have ht' : t = 5 ∨ t = 24 := by simpa using Array.mem_of_getElem? ht
  rcases ht' with rfl | rfl
  · exact (show Tryd.prog.wantsStandIn 5 = false by kernel_rfl)
  · exact (show Tryd.prog.wantsStandIn 24 = false by kernel_rfl)

theorem covers_card : Rows.PrefixCoversCardSaid :=
  Claim7.holds_tied_plain_at .later [] _ _ _ _ covers_said (fun _ h => by cases h) (by kernel_rfl) (fun _ h => by cases h) prefixCovers_row_tie rfl ⟨rfl, rfl⟩ (by kernel_rfl) rfl plainLaw (by kernel_rfl)
end Go.Proofs.YtgofhgbffgmjhaaDoor
