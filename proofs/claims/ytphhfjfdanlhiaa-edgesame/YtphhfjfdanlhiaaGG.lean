/- Whether an edge sets how routes are liked; whether two edges are the same. -/
import Derived.Test.YtphhfjfdanlhiaaGD
import Derived.Deep.CutRange
import Derived.Deep.DeepCutAuto
namespace Go.Proofs.Ytphhfjfdanlhiaa
open Go.RowKit Go.Lib

set_option maxHeartbeats 8000000 in
set_option maxRecDepth 20000 in
theorem likes_any {ve vi : Value} {ex im : List ClD} (fr cost : Int) (w : World) (h : EdS w ve vi ex im) :
    Calls Try.prog 14 #[edV fr cost ve vi] w fun e w' => e = .returned (.bool (likesP ex im cost 16)) ∧ Below w.heap.size w w' := by
  obtain ⟨U, hU⟩ : ∃ U, U = w.alloc (edB fr cost ve vi) := ⟨_, rfl⟩
  have hwU : Below w.heap.size w U := by rw [hU]; exact bel_alloc (Below.refl _ _) _
  obtain ⟨be, hbe⟩ : ∃ b, b = w.heap.size := ⟨_, rfl⟩
  have he : U.heap[be]? = some (edB fr cost ve vi) := by rw [hU]; exact pf_new _ _ _ hbe
  have hrow := fun (k : Nat) (hk : k < 256) (p : BelOf U) => row_any fr cost k hk p.w ((h.keep hwU).keep p.h)
  have HWU : Hid (Below w.heap.size w U) := hwU
  obtain ⟨ae, ce, ai, ci, rfl, rfl⟩ := h.form
  obtain ⟨E0, E1, E2, E3⟩ := at_cells he
  obtain ⟨z, hz⟩ : ∃ z, z = likesP ex im cost 16 := ⟨_, rfl⟩
  have HZ : Hid (z = likesP ex im cost 16) := hz
  rw [← hz]
  clear h hwU he hz
  unfold edV at hrow ⊢
  unfold edB at hU
  go_enter Try.func14, Try.ntmps14
  go_wp2_with fail
  rw [← hU, ← hbe]
  clear hU hbe
  go_loopw [6] (fun i wr => ∃ k : Nat, k ≤ 16 ∧ i = .int .u8 k ∧ likesP ex im cost k = false ∧ Below U.heap.size U wr) (fun i _ => 16 - (RowKit.intOf i).toNat)
  case atStart => exact ⟨0, by decide, rfl, rfl, Below.refl _ _⟩
  case round =>
    obtain ⟨k, hk, rfl, hL, hw⟩ := hrel
    have HL : Hid (likesP ex im cost k = false) := hL
    obtain ⟨p, rfl⟩ : ∃ p : BelOf U, wr = p.w := ⟨⟨wr, hw⟩, rfl⟩
    clear hL hw
    by_cases hlt : k < 16
    · have d4 : decide ((k : Int) < 16) = true := decide_eq_true (by omega)
      have hr := hrow k (by omega) p
      obtain ⟨y, hy⟩ : ∃ y, y = rowP ex im cost k := ⟨_, rfl⟩
      have HY : Hid (likesP ex im cost (k + 1) = likeP y) := by
        show likesP ex im cost (k + 1) = _
        rw [likesP, HL.out, ← hy]
        rfl
      rw [← hy] at hr
      clear hy
      obtain ⟨yo, yp, yc, yt⟩ := y
      unfold atV at hr
      dsimp only at hr
      obtain ⟨e0, e1, e2, e3⟩ : p.w.cell? ⟨be, 0, none⟩ = some (.int .i64 fr) ∧ p.w.cell? ⟨be, 1, none⟩ = some (.int .i64 cost) ∧ p.w.cell? ⟨be, 2, none⟩ = some (.slice ae ex.length ce) ∧ p.w.cell? ⟨be, 3, none⟩ = some (.slice ai im.length ci) := ⟨E0 p, E1 p, E2 p, E3 p⟩
      go_wp2_with fail
      refine hr.mono ?_
      rintro e W ⟨rfl, q⟩
      have HW : Hid (Below U.heap.size U W) := bel_up p.h q p.h.size
      clear hr q e0 e1 e2 e3 E0 E1 E2 E3 hrow
      cases yo
      · go_wp2_with fail
        go_roundw
        case rel => exact ⟨k + 1, by omega, by go_num, HY.out.trans rfl, bel_alloc HW.out _⟩
        case measure => simp [RowKit.intOf]; omega
      · by_cases hp : yp = 100
        · subst hp
          go_wp2_with fail
          go_roundw
          case rel => exact ⟨k + 1, by omega, by go_num, HY.out.trans (by simp [likeP]), bel_alloc HW.out _⟩
          case measure => simp [RowKit.intOf]; omega
        · have d5 : (yp != 100) = true := by rw [bne_iff_ne]; exact hp
          have HT : Hid (z = true) := by
            show z = true
            rw [HZ.out]
            refine likes_up (k := k + 1) (HY.out.trans ?_) (by omega)
            unfold likeP
            simp [hp]
          have HW2 := fun o => bel_up HWU.out (bel_alloc HW.out o) HWU.out.size
          go_wp2_with fail
          rw [HT.out]
          go_ret
          exact ⟨rfl, HW2 _⟩
    · obtain rfl : k = 16 := by omega
      have d4 : decide (((16 : Nat) : Int) < 16) = false := by decide
      have HB := bel_up HWU.out p.h HWU.out.size
      go_wp2_with fail
      rw [HZ.out, HL.out]
      go_ret
      exact ⟨rfl, HB⟩
set_option maxHeartbeats 8000000 in
set_option maxRecDepth 20000 in
theorem same_any {ve vi ve' vi' : Value} {ex im ex' im' : List ClD} (fr cost fr' cost' : Int) (w : World) (h : EdS w ve vi ex im) (h' : EdS w ve' vi' ex' im') :
    Calls Try.prog 15 #[edV fr cost ve vi, edV fr' cost' ve' vi'] w fun e w' => e = .returned (.bool (sameE ex im cost ex' im' cost' 16)) ∧ Below w.heap.size w w' := by
  obtain ⟨U, hU⟩ : ∃ U, U = (w.alloc (edB fr cost ve vi)).alloc (edB fr' cost' ve' vi') := ⟨_, rfl⟩
  have hwU : Below w.heap.size w U := by rw [hU]; exact bel_alloc2 _ _ _
  obtain ⟨be, hbe⟩ : ∃ b, b = w.heap.size := ⟨_, rfl⟩
  obtain ⟨bf, hbf⟩ : ∃ b, b = w.heap.size + 1 := ⟨_, rfl⟩
  have he : U.heap[be]? = some (edB fr cost ve vi) := by rw [hU]; exact pf_block (bel_alloc (Below.refl _ _) _) (pf_new _ _ _ hbe)
  have hf : U.heap[bf]? = some (edB fr' cost' ve' vi') := by rw [hU]; exact pf_new _ _ _ (by rw [hbf]; simp)
  have hrow := fun (k : Nat) (hk : k < 256) (p : BelOf U) => row_any fr cost k hk p.w ((h.keep hwU).keep p.h)
  have hrow' := fun (k : Nat) (hk : k < 256) (p : BelOf U) => row_any fr' cost' k hk p.w ((h'.keep hwU).keep p.h)
  have HWU : Hid (Below w.heap.size w U) := hwU
  obtain ⟨ae, ce, ai, ci, rfl, rfl⟩ := h.form
  obtain ⟨ae', ce', ai', ci', rfl, rfl⟩ := h'.form
  obtain ⟨E0, E1, E2, E3⟩ := at_cells he
  obtain ⟨F0, F1, F2, F3⟩ := at_cells hf
  obtain ⟨z, hz⟩ : ∃ z, z = sameE ex im cost ex' im' cost' 16 := ⟨_, rfl⟩
  have HZ : Hid (z = sameE ex im cost ex' im' cost' 16) := hz
  rw [← hz]
  clear h h' hwU he hf hz
  unfold edV at hrow hrow' ⊢
  unfold edB at hU
  go_enter Try.func15, Try.ntmps15
  go_wp2_with fail
  rw [← hU, ← hbf, ← hbe]
  clear hU hbe hbf
  go_loopw [10] (fun i wr => ∃ k : Nat, k ≤ 16 ∧ i = .int .u8 k ∧ sameE ex im cost ex' im' cost' k = true ∧ Below U.heap.size U wr) (fun i _ => 16 - (RowKit.intOf i).toNat)
  case atStart => exact ⟨0, by decide, rfl, rfl, Below.refl _ _⟩
  case round =>
    obtain ⟨k, hk, rfl, hL, hw⟩ := hrel
    have HL : Hid (sameE ex im cost ex' im' cost' k = true) := hL
    obtain ⟨p, rfl⟩ : ∃ p : BelOf U, wr = p.w := ⟨⟨wr, hw⟩, rfl⟩
    clear hL hw
    by_cases hlt : k < 16
    · have d4 : decide ((k : Int) < 16) = true := decide_eq_true (by omega)
      have hr := hrow k (by omega) p
      have hr2 := hrow' k (by omega)
      obtain ⟨y, hy⟩ : ∃ y, y = rowP ex im cost k := ⟨_, rfl⟩
      obtain ⟨x, hx⟩ : ∃ x, x = rowP ex' im' cost' k := ⟨_, rfl⟩
      have HY : Hid (sameE ex im cost ex' im' cost' (k + 1) = eqP y x) := by
        show sameE ex im cost ex' im' cost' (k + 1) = _
        rw [sameE, HL.out, ← hy, ← hx]
        rfl
      rw [← hy] at hr
      rw [← hx] at hr2
      clear hy hx
      unfold atV at hr hr2
      obtain ⟨e0, e1, e2, e3⟩ : p.w.cell? ⟨be, 0, none⟩ = some (.int .i64 fr) ∧ p.w.cell? ⟨be, 1, none⟩ = some (.int .i64 cost) ∧ p.w.cell? ⟨be, 2, none⟩ = some (.slice ae ex.length ce) ∧ p.w.cell? ⟨be, 3, none⟩ = some (.slice ai im.length ci) := ⟨E0 p, E1 p, E2 p, E3 p⟩
      go_wp2_with fail
      refine hr.mono ?_
      rintro e W ⟨rfl, q⟩
      clear hr e0 e1 e2 e3 hrow hrow'
      go_upto_region 5 with fail
      obtain ⟨by', hby⟩ : ∃ b, b = W.heap.size := ⟨_, rfl⟩
      obtain ⟨V, hV⟩ : ∃ V, V = W.alloc (atB y) := ⟨_, rfl⟩
      have hyV : V.heap[by']? = some (atB y) := by rw [hV]; exact pf_new _ _ _ hby
      have qV : Below U.heap.size U V := by rw [hV]; exact bel_up (bel_up p.h q p.h.size) (bel_alloc (Below.refl _ _) _) (bel_up p.h q p.h.size).size
      unfold atB at hV
      rw [← hV, ← hby]
      clear hV hby q
      obtain ⟨r, rfl⟩ : ∃ r : BelOf U, V = r.w := ⟨⟨V, qV⟩, rfl⟩
      have hr3 := hr2 r
      obtain ⟨f0, f1, f2, f3⟩ : r.w.cell? ⟨bf, 0, none⟩ = some (.int .i64 fr') ∧ r.w.cell? ⟨bf, 1, none⟩ = some (.int .i64 cost') ∧ r.w.cell? ⟨bf, 2, none⟩ = some (.slice ae' ex'.length ce') ∧ r.w.cell? ⟨bf, 3, none⟩ = some (.slice ai' im'.length ci') := ⟨F0 r, F1 r, F2 r, F3 r⟩
      clear hr2 E0 E1 E2 E3 F0 F1 F2 F3
      go_wp2_with fail
      refine hr3.mono ?_
      rintro e X ⟨rfl, q2⟩
      have hyX := pf_block q2 hyV
      have HX : Hid (Below U.heap.size U X) := bel_up qV q2 qV.size
      clear hr3 f0 f1 f2 f3 hyV qV q2
      go_upto_region 6 with fail
      obtain ⟨bx, hbx⟩ : ∃ b, b = X.heap.size := ⟨_, rfl⟩
      obtain ⟨Y, hYX⟩ : ∃ V, V = X.alloc (atB x) := ⟨_, rfl⟩
      have hxY : Y.heap[bx]? = some (atB x) := by rw [hYX]; exact pf_new _ _ _ hbx
      have hyY : Y.heap[by']? = some (atB y) := by rw [hYX]; exact pf_block (bel_alloc (Below.refl _ _) _) hyX
      have HYB : Hid (Below U.heap.size U Y) := by rw [hYX]; exact bel_alloc HX.out _
      unfold atB at hYX
      rw [← hYX, ← hbx]
      clear hYX hbx hyX HX
      obtain ⟨y0, y1, y2, y3⟩ := at_cell hyY
      obtain ⟨x0, x1, x2, x3⟩ := at_cell hxY
      have HW2 : Hid (Below w.heap.size w Y) := bel_up HWU.out HYB.out HWU.out.size
      clear hyY hxY
      go_upto_if 27 with fail
      case isTrue.isTrue.isTrue.isTrue h1 h2 h3 h4 =>
        have HE : Hid (eqP y x = true) := by
          show eqP y x = true
          unfold eqP
          rw [decide_eq_true h1, decide_eq_true h2, decide_eq_true h3, decide_eq_true h4]
          rfl
        clear h1 h2 h3 h4
        go_wp2_with fail
        go_roundw
        case rel => exact ⟨k + 1, by omega, by go_num, HY.out.trans HE.out, HYB.out⟩
        case measure => simp [RowKit.intOf]; omega
      all_goals
        have HE : Hid (z = false) := by
          refine HZ.out.trans (same_not (k := k + 1) (HY.out.trans ?_) (by omega))
          rw [Bool.eq_false_iff]
          intro h
          have e := (eqP_iff y x).1 h
          first
            | exact absurd (congrArg At.ok e) (by assumption)
            | exact absurd (congrArg At.pref e) (by assumption)
            | exact absurd (congrArg At.cost e) (by assumption)
            | exact absurd (congrArg At.tags e) (by assumption)
        go_wp2_with fail
        rw [HE.out]
        go_ret
        exact ⟨rfl, HW2.out⟩
    · obtain rfl : k = 16 := by omega
      have d4 : decide (((16 : Nat) : Int) < 16) = false := by decide
      have HB := bel_up HWU.out p.h HWU.out.size
      go_wp2_with fail
      rw [HZ.out, HL.out]
      go_ret
      exact ⟨rfl, HB⟩
end Go.Proofs.Ytphhfjfdanlhiaa
