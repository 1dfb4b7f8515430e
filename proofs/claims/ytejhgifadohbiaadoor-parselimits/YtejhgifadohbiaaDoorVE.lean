/- What a reader does with one thing: take, name, prefix, number, and what may stand behind a word. -/
import Derived.Test.YtejhgifadohbiaaDoorVD
namespace Go.Proofs.YtejhgifadohbiaaDoor
open Go.RowKit Go.Lib

section
variable {B b g cap : Nat} {ts : List Tk} {w : World} {s : Sta}
theorem fail_at (h : RdS B b g cap ts s w) {α : Type} {f : List Tk → Res α} {no : Nat} (hf : ∀ t r, s = .inl (t :: r) → f (t :: r) = .inl (no, t.pl)) : failS no s = (stepS f s).1 ∧ (stepS f s).2 = none := by
  obtain ⟨n, t, ev, _, _, hh⟩ := h.ex
  rcases hh with ⟨r, rfl, _⟩ | ⟨e, rfl, _⟩
  · rw [step_no (hf t r rfl)]
    exact ⟨rfl, rfl⟩
  · exact ⟨rfl, rfl⟩
theorem take_yes {x : Bs} (h : hasB x s = true) : (stepS (wordR x) s).1 = (stepS (optB x) s).1 ∧ (stepS (optB x) s).2.getD false = true := by
  obtain ⟨t, r, hs, ht⟩ := has_some h
  rw [took_yes hs ht]
  subst hs
  rw [step_ok (f := wordR x) (r' := r) (a := t.pl) (by unfold wordR; dsimp only; rw [if_pos ht])]
  exact ⟨rfl, rfl⟩
theorem has_not {x : Bs} {t : Tk} {r : List Tk} (h : hasB x s = false) (hs : s = .inl (t :: r)) : t.text ≠ x := by
  subst hs
  exact of_decide_eq_false h
theorem holds_not {k : Nat} {t : Tk} {r : List Tk} (h : holdsB k s = false) (hs : s = .inl (t :: r)) : t.kind ≠ k := by
  subst hs
  exact of_decide_eq_false h
set_option maxHeartbeats 2000000 in
set_option maxRecDepth 20000 in
theorem take_any (h : RdS B b g cap ts s w) (x : Bs) (hx : x ≠ []) :
    Calls Tryd.prog 33 #[.pointer (some ⟨b, 0, none⟩), .string ⟨x.toArray⟩] w fun e w' => e = .returned (.tuple #[]) ∧ RdS B b g cap ts (stepS (wordR x) s).1 w' ∧ BelX b w w' := by
  have h1 := took_any h x hx
  obtain ⟨X, hX⟩ : ∃ X : ByteArray, X = ⟨x.toArray⟩ := ⟨_, rfl⟩
  rw [← hX] at h1 ⊢
  clear hX
  cases hb : hasB x s with
  | true =>
    have HN : Hid _ := take_yes hb
    rw [HN.out.2] at h1
    clear hb
    go_enter Tryd.func33, Tryd.ntmps33
    go_wp2_with fail
    refine h1.mono ?_
    rintro e U ⟨rfl, hU, qU⟩
    clear h1
    go_wp2_with fail
    go_returns
    exact ⟨rfl, by rw [HN.out.1]; exact hU, qU⟩
  | false =>
    have HN : Hid _ := took_no hb
    have HF : Hid _ := fail_at h (f := wordR x) (no := 2) fun t r hs => by unfold wordR; dsimp only; rw [if_neg (has_not hb hs)]
    rw [HN.out.2, HN.out.1] at h1
    clear hb
    go_enter Tryd.func33, Tryd.ntmps33
    go_wp2_with fail
    refine h1.mono ?_
    rintro e U ⟨rfl, hU, qU⟩
    have h2 := fail_any hU 2
    clear h1
    go_wp2_with fail
    refine h2.mono ?_
    rintro e Y ⟨rfl, hY, qY⟩
    clear h2
    go_wp2_with fail
    go_returns
    exact ⟨rfl, by rw [← HF.out.1]; exact hY, qU.trans qY⟩
set_option maxHeartbeats 2000000 in
set_option maxRecDepth 20000 in
theorem name_rd (h : RdS B b g cap ts s w) :
    Calls Tryd.prog 34 #[.pointer (some ⟨b, 0, none⟩)] w fun e w' => e = .returned (.string ⟨((stepS nameR s).2.getD []).toArray⟩) ∧ RdS B b g cap ts (stepS nameR s).1 w' ∧ BelX b w w' := by
  have h1 := holds_any h 1
  cases hb : holdsB 1 s with
  | true =>
    obtain ⟨t, r, hs, ht⟩ := holds_some hb
    have HN : Hid (stepS nameR s = (.inl r, some t.text)) := by
      show _ = _
      rw [hs]
      exact step_ok (by unfold nameR; dsimp only; rw [if_pos ht])
    have HT : Hid (∀ U, RdS B b g cap ts s U → Calls Tryd.prog 50 #[.pointer (some ⟨b, 0, none⟩)] U fun e w' => e = .returned (tkV t) ∧ RdS B b g cap ts (.inl r) w' ∧ BelX b U w') := fun U hU => hU.take hs (.inl (by rw [ht]; decide))
    rw [hb] at h1
    clear hb hs ht
    go_enter Tryd.func34, Tryd.ntmps34
    go_wp2_with fail
    refine h1.mono ?_
    rintro e U ⟨rfl, qU⟩
    clear h1
    have h2 := HT.out U (h.below qU)
    unfold tkV at h2
    go_wp2_with fail
    refine h2.mono ?_
    rintro e Y ⟨rfl, hY, qY⟩
    clear h2
    have f1 := tkf1 t.kind t.val t.a t.b t.pl ⟨t.text.toArray⟩
    go_wp2_with fail
    go_ret
    exact ⟨by rw [HN.out]; rfl, by rw [HN.out]; exact hY, (BelX.of b qU).trans qY⟩
  | false =>
    have HF : Hid _ := fail_at h (f := nameR) (no := 2) fun t r hs => by unfold nameR; dsimp only; rw [if_neg (holds_not hb hs)]
    rw [hb] at h1
    clear hb
    go_enter Tryd.func34, Tryd.ntmps34
    go_wp2_with fail
    refine h1.mono ?_
    rintro e U ⟨rfl, qU⟩
    clear h1
    have h2 := fail_any (h.below qU) 2
    go_wp2_with fail
    refine h2.mono ?_
    rintro e Y ⟨rfl, hY, qY⟩
    clear h2
    go_wp2_with fail
    go_ret
    exact ⟨by rw [HF.out.2]; rfl, by rw [← HF.out.1]; exact hY, (BelX.of b qU).trans qY⟩
def pfV2 (p : Nat × Int) : Value := .agg #[.int .u32 p.1, .int .i64 p.2]
set_option maxHeartbeats 2000000 in
set_option maxRecDepth 20000 in
theorem prefix_rd (h : RdS B b g cap ts s w) :
    Calls Tryd.prog 51 #[.pointer (some ⟨b, 0, none⟩)] w fun e w' => e = .returned (pfV2 ((stepS pfxR s).2.getD (0, 0))) ∧ RdS B b g cap ts (stepS pfxR s).1 w' ∧ BelX b w w' := by
  obtain ⟨br, hbr⟩ : ∃ b, b = w.heap.size := ⟨_, rfl⟩
  obtain ⟨W, hW⟩ : ∃ W, W = w.alloc (.cells #[.int .u32 0, .int .i64 0] 59) := ⟨_, rfl⟩
  obtain ⟨qW, hr, _⟩ := box_at w _ hW hbr
  have HB : Hid (br ≠ b ∧ br ≠ g ∧ w.heap.size ≤ br) := by have := h.old; exact ⟨by omega, by omega, by omega⟩
  have hw := h.below qW
  have h1 := holds_any hw 3
  cases hb : holdsB 3 s with
  | true =>
    obtain ⟨t, r, hs, ht⟩ := holds_some hb
    have HN : Hid (stepS pfxR s = (.inl r, some (t.a, (t.b : Int)))) := by
      show _ = _
      rw [hs]
      exact step_ok (by unfold pfxR; dsimp only; rw [if_pos ht])
    have HT : Hid (∀ U, RdS B b g cap ts s U → Calls Tryd.prog 50 #[.pointer (some ⟨b, 0, none⟩)] U fun e w' => e = .returned (tkV t) ∧ RdS B b g cap ts (.inl r) w' ∧ BelX b U w') := fun U hU => hU.take hs (.inl (by rw [ht]; decide))
    rw [hb] at h1
    clear hb hs ht
    go_enter Tryd.func51, Tryd.ntmps51
    go_wp2_with fail
    rw [← hbr, ← hW]
    clear hW hbr
    refine h1.mono ?_
    rintro e U ⟨rfl, qU⟩
    clear h1
    have h2 := HT.out U (hw.below qU)
    unfold tkV at h2
    go_wp2_with fail
    refine h2.mono ?_
    rintro e Y ⟨rfl, hY, qY⟩
    have hr2 := qY.get (pf_block qU hr) HB.out.1
    have QY : Hid (BelX b w Y) := ((BelX.of b qW).below qU).trans qY
    clear h2 qW qU qY hr hw
    obtain ⟨R0, R1⟩ := cells_two hr2
    have F0 := free_at hr2 0
    have F1 := free_at hr2 1
    have f1 := tkf3 t.kind t.val t.a t.b t.pl ⟨t.text.toArray⟩
    go_wp2_with fail
    obtain ⟨X, hX⟩ : ∃ X, X = (Y.setCell ⟨br, 0, none⟩ (.int .u32 t.a)).setCell ⟨br, 1, none⟩ (.int .i64 t.b) := ⟨_, rfl⟩
    rw [← hX]
    have rX : X.heap[br]? = some (.cells #[.int .u32 t.a, .int .i64 t.b] 59 (0, 0)) := by rw [hX]; exact set_at (i := 1) (set_at (i := 0) hr2 _) _
    have hx : RdS B b g cap ts (.inl r) X := by rw [hX]; exact (hY.cell HB.out.1 HB.out.2.1 _).cell HB.out.1 HB.out.2.1 _
    have qx : BelX b w X := by rw [hX]; exact (QY.out.set (.inr HB.out.2.2) _).set (.inr HB.out.2.2) _
    clear hX R0 R1 F0 F1
    obtain ⟨W0, W1⟩ := cells_two rX
    refine bodyPost_ret (v := .agg #[.int .u32 t.a, .int .i64 t.b]) (by simp [results, Tryd.results51, go_sem, W0, W1]) rfl ?_
    exact ⟨by rw [HN.out]; rfl, by rw [HN.out]; exact hx, qx⟩
  | false =>
    have HF : Hid _ := fail_at h (f := pfxR) (no := 2) fun t r hs => by unfold pfxR; dsimp only; rw [if_neg (holds_not hb hs)]
    rw [hb] at h1
    clear hb
    go_enter Tryd.func51, Tryd.ntmps51
    go_wp2_with fail
    rw [← hbr, ← hW]
    clear hW hbr
    refine h1.mono ?_
    rintro e U ⟨rfl, qU⟩
    clear h1
    have h2 := fail_any (hw.below qU) 2
    go_wp2_with fail
    refine h2.mono ?_
    rintro e Y ⟨rfl, hY, qY⟩
    have hr2 := qY.get (pf_block qU hr) HB.out.1
    have QY : Hid (BelX b w Y) := ((BelX.of b qW).below qU).trans qY
    clear h2 qW qU qY hr hw
    obtain ⟨R0, R1⟩ := cells_two hr2
    have F0 := free_at hr2 0
    have F1 := free_at hr2 1
    go_wp2_with fail
    obtain ⟨X, hX⟩ : ∃ X, X = (Y.setCell ⟨br, 0, none⟩ (.int .u32 0)).setCell ⟨br, 1, none⟩ (.int .i64 0) := ⟨_, rfl⟩
    rw [← hX]
    have rX : X.heap[br]? = some (.cells #[.int .u32 0, .int .i64 0] 59 (0, 0)) := by rw [hX]; exact set_at (i := 1) (set_at (i := 0) hr2 _) _
    have hx : RdS B b g cap ts (failS 2 s) X := by rw [hX]; exact (hY.cell HB.out.1 HB.out.2.1 _).cell HB.out.1 HB.out.2.1 _
    have qx : BelX b w X := by rw [hX]; exact (QY.out.set (.inr HB.out.2.2) _).set (.inr HB.out.2.2) _
    clear hX R0 R1 F0 F1
    obtain ⟨W0, W1⟩ := cells_two rX
    refine bodyPost_ret (v := .agg #[.int .u32 0, .int .i64 0]) (by simp [results, Tryd.results51, go_sem, W0, W1]) rfl ?_
    exact ⟨by rw [HF.out.2]; rfl, by rw [← HF.out.1]; exact hx, qx⟩
set_option maxHeartbeats 2000000 in
set_option maxRecDepth 20000 in
theorem number_rd (h : RdS B b g cap ts s w) (least most : Nat) :
    Calls Tryd.prog 54 #[.pointer (some ⟨b, 0, none⟩), .int .i64 least, .int .i64 most] w fun e w' => e = .returned (.int .i64 ((stepS (numR least most) s).2.getD 0 : Nat)) ∧ RdS B b g cap ts (stepS (numR least most) s).1 w' ∧ BelX b w w' := by
  have h1 := holds_any h 2
  cases hb : holdsB 2 s with
  | true =>
    obtain ⟨t, r, hs, ht⟩ := holds_some hb
    have HH : Hid (∀ U, RdS B b g cap ts s U → Calls Tryd.prog 32 #[.pointer (some ⟨b, 0, none⟩)] U fun e w' => e = .returned (tkV t) ∧ Below U.heap.size U w') := by
      intro U hU
      obtain ⟨n, t', ev, ht', hr, hh⟩ := hU.ex
      rcases hh with ⟨r', hs', _⟩ | ⟨e, hs', _⟩
      · rw [hs] at hs'
        injection hs' with hs'
        injection hs' with e1 _
        subst e1
        exact here_any hr t ht'
      · rw [hs] at hs'
        cases hs'
    rw [hb] at h1
    clear hb
    by_cases hw1 : t.val < least ∨ most < t.val
    · have HN : Hid (stepS (numR least most) s = (failS 6 s, none)) := by
        show _ = _
        rw [hs]
        exact step_no (by unfold numR; dsimp only; rw [if_pos ht, if_pos hw1])
      clear hs ht
      go_enter Tryd.func54, Tryd.ntmps54
      go_wp2_with fail
      refine h1.mono ?_
      rintro e U ⟨rfl, qU⟩
      clear h1
      have hU := h.below qU
      have h2 := HH.out U hU
      unfold tkV at h2
      go_wp2_with fail
      refine h2.mono ?_
      rintro e Y ⟨rfl, qY⟩
      clear h2
      have hY := hU.below qY
      have h3 := fail_any hY 6
      have f1 := tkf2 t.kind t.val t.a t.b t.pl ⟨t.text.toArray⟩
      have HR : Hid (BelX b w Y) := (BelX.of b qU).below qY
      clear hU qU qY
      by_cases hl : t.val < least
      · have d1 : decide ((t.val : Int) < least) = true := decide_eq_true (by omega)
        go_wp2_with fail
        refine h3.mono ?_
        rintro e Z ⟨rfl, hZ, qZ⟩
        clear h3
        go_wp2_with fail
        go_ret
        exact ⟨by rw [HN.out]; rfl, by rw [HN.out]; exact hZ, HR.out.trans qZ⟩
      · have d1 : decide ((t.val : Int) < least) = false := decide_eq_false (by omega)
        have d2 : decide ((most : Int) < t.val) = true := decide_eq_true (by omega)
        go_wp2_with fail
        refine h3.mono ?_
        rintro e Z ⟨rfl, hZ, qZ⟩
        clear h3
        go_wp2_with fail
        go_ret
        exact ⟨by rw [HN.out]; rfl, by rw [HN.out]; exact hZ, HR.out.trans qZ⟩
    · have HN : Hid (stepS (numR least most) s = (.inl r, some t.val)) := by
        show _ = _
        rw [hs]
        exact step_ok (by unfold numR; dsimp only; rw [if_pos ht, if_neg hw1])
      have HT : Hid (∀ U, RdS B b g cap ts s U → Calls Tryd.prog 50 #[.pointer (some ⟨b, 0, none⟩)] U fun e w' => e = .returned (tkV t) ∧ RdS B b g cap ts (.inl r) w' ∧ BelX b U w') := fun U hU => hU.take hs (.inl (by rw [ht]; decide))
      clear hs ht
      go_enter Tryd.func54, Tryd.ntmps54
      go_wp2_with fail
      refine h1.mono ?_
      rintro e U ⟨rfl, qU⟩
      clear h1
      have hU := h.below qU
      have h2 := HH.out U hU
      unfold tkV at h2
      go_wp2_with fail
      refine h2.mono ?_
      rintro e Y ⟨rfl, qY⟩
      clear h2
      have hY := hU.below qY
      have h3 := HT.out Y hY
      unfold tkV at h3
      have f1 := tkf2 t.kind t.val t.a t.b t.pl ⟨t.text.toArray⟩
      have HR : Hid (BelX b w Y) := (BelX.of b qU).below qY
      have d1 : decide ((t.val : Int) < least) = false := decide_eq_false (by omega)
      have d2 : decide ((most : Int) < t.val) = false := decide_eq_false (by omega)
      have n1 : ¬ t.val < least := by omega
      have n2 : ¬ most < t.val := by omega
      clear hU qU qY hw1
      go_wp2_with fail
      refine h3.mono ?_
      rintro e Z ⟨rfl, hZ, qZ⟩
      clear h3
      go_wp2_with fail
      go_ret
      exact ⟨by rw [HN.out]; rfl, by rw [HN.out]; exact hZ, HR.out.trans qZ⟩
  | false =>
    have HF : Hid _ := fail_at h (f := numR least most) (no := 2) fun t r hs => by unfold numR; dsimp only; rw [if_neg (holds_not hb hs)]
    rw [hb] at h1
    clear hb
    go_enter Tryd.func54, Tryd.ntmps54
    go_wp2_with fail
    refine h1.mono ?_
    rintro e U ⟨rfl, qU⟩
    clear h1
    have h2 := fail_any (h.below qU) 2
    go_wp2_with fail
    refine h2.mono ?_
    rintro e Y ⟨rfl, hY, qY⟩
    clear h2
    go_wp2_with fail
    go_ret
    exact ⟨by rw [HF.out.2]; rfl, by rw [← HF.out.1]; exact hY, (BelX.of b qU).trans qY⟩
theorem getD_ret {α β : Type} {f : List Tk → Res α} {φ : α → β} {d : α} {d' : β} {s : Sta} (hd : φ d = d') : (stepS (fun r => (.inr (φ ((stepS f s).2.getD d), r) : Res β)) (stepS f s).1).2.getD d' = φ ((stepS f s).2.getD d) := by
  subst hd
  cases s with
  | inr e => rfl
  | inl r =>
    cases h : f r with
    | inl e => rw [step_no h]; rfl
    | inr p => rw [step_ok (r' := p.2) (a := p.1) (by rw [h])]; rfl
set_option maxHeartbeats 2000000 in
set_option maxRecDepth 20000 in
theorem numB_rd (h : RdS B b g cap ts s w) (x : Bs) (hx : x ≠ []) (most : Nat) :
    Calls Tryd.prog 53 #[.pointer (some ⟨b, 0, none⟩), .string ⟨x.toArray⟩, .int .i64 most] w fun e w' => e = .returned (.int .i64 ((stepS (optN x most) s).2.getD 0)) ∧ RdS B b g cap ts (stepS (optN x most) s).1 w' ∧ BelX b w w' := by
  have h1 := took_any h x hx
  have HO : Hid (stepS (optN x most) s = stepS (fun r => andR (optB x r) fun b r => if b = true then andR (numR 1 most r) (fun n r => .inr ((n : Int), r)) else .inr (0, r)) s) := step_congr fun r _ => optN_is x most r
  have HA : Hid (∀ bo, Agr bo (stepS (optB x) s).2 → stepS (optN x most) s = stepS (fun r => if bo = true then andR (numR 1 most r) (fun n r => .inr ((n : Int), r)) else .inr (0, r)) (stepS (optB x) s).1) := fun bo hb => HO.out.trans (step_and (f := optB x) hb)
  have HB := HA.out _ (Agr.getD false _)
  obtain ⟨X, hX⟩ : ∃ X : ByteArray, X = ⟨x.toArray⟩ := ⟨_, rfl⟩
  rw [← hX] at h1 ⊢
  clear hX HO HA
  obtain ⟨s1, hs1⟩ : ∃ s1, s1 = (stepS (optB x) s).1 := ⟨_, rfl⟩
  rw [← hs1] at h1 HB
  clear hs1
  cases hb : (stepS (optB x) s).2.getD false with
  | false =>
    rw [hb] at h1 HB
    have HN : Hid (stepS (optN x most) s = stepS (fun r => .inr ((0 : Int), r)) s1) := HB
    clear hb HB
    go_enter Tryd.func53, Tryd.ntmps53
    go_wp2_with fail
    refine h1.mono ?_
    rintro e U ⟨rfl, hU, qU⟩
    clear h1
    go_wp2_with fail
    go_ret
    refine ⟨?_, by rw [HN.out, (step_ret (0 : Int) s1).1]; exact hU, qU⟩
    rw [HN.out]
    cases s1 <;> rfl
  | true =>
    rw [hb] at h1 HB
    have HN : Hid (stepS (optN x most) s = stepS (fun r => .inr ((((stepS (numR 1 most) s1).2.getD 0 : Nat) : Int), r)) (stepS (numR 1 most) s1).1) := HB.trans (step_and (f := numR 1 most) (g := fun n r => (.inr ((n : Int), r) : Res Int)) (Agr.getD 0 _))
    clear hb HB
    go_enter Tryd.func53, Tryd.ntmps53
    go_wp2_with fail
    refine h1.mono ?_
    rintro e U ⟨rfl, hU, qU⟩
    clear h1
    have h2 := number_rd hU 1 most
    go_wp2_with fail
    refine h2.mono ?_
    rintro e Y ⟨rfl, hY, qY⟩
    clear h2
    go_wp2_with fail
    go_ret
    refine ⟨?_, by rw [HN.out, (step_ret _ _).1]; exact hY, qU.trans qY⟩
    rw [HN.out, getD_ret (f := numR 1 most) (φ := fun n : Nat => (n : Int)) (d := 0) (d' := 0) rfl]
    rfl
set_option maxHeartbeats 2000000 in
set_option maxRecDepth 20000 in
theorem nameB_rd (h : RdS B b g cap ts s w) (x : Bs) (hx : x ≠ []) :
    Calls Tryd.prog 55 #[.pointer (some ⟨b, 0, none⟩), .string ⟨x.toArray⟩] w fun e w' => e = .returned (.string ⟨((stepS (optS x) s).2.getD []).toArray⟩) ∧ RdS B b g cap ts (stepS (optS x) s).1 w' ∧ BelX b w w' := by
  have h1 := took_any h x hx
  have HB : stepS (optS x) s = stepS (fun r => if (stepS (optB x) s).2.getD false = true then nameR r else .inr ([], r)) (stepS (optB x) s).1 := (step_congr fun r _ => optS_is x r).trans (step_and (f := optB x) (Agr.getD false _))
  obtain ⟨X, hX⟩ : ∃ X : ByteArray, X = ⟨x.toArray⟩ := ⟨_, rfl⟩
  rw [← hX] at h1 ⊢
  clear hX
  obtain ⟨s1, hs1⟩ : ∃ s1, s1 = (stepS (optB x) s).1 := ⟨_, rfl⟩
  rw [← hs1] at h1 HB
  clear hs1
  cases hb : (stepS (optB x) s).2.getD false with
  | false =>
    rw [hb] at h1 HB
    have HN : Hid (stepS (optS x) s = stepS (fun r => .inr (([] : Bs), r)) s1) := HB
    clear hb HB
    go_enter Tryd.func55, Tryd.ntmps55
    go_wp2_with fail
    refine h1.mono ?_
    rintro e U ⟨rfl, hU, qU⟩
    clear h1
    go_wp2_with fail
    go_ret
    refine ⟨?_, by rw [HN.out, (step_ret ([] : Bs) s1).1]; exact hU, qU⟩
    rw [HN.out]
    cases s1 <;> rfl
  | true =>
    rw [hb] at h1 HB
    have HN : Hid (stepS (optS x) s = stepS nameR s1) := HB
    clear hb HB
    go_enter Tryd.func55, Tryd.ntmps55
    go_wp2_with fail
    refine h1.mono ?_
    rintro e U ⟨rfl, hU, qU⟩
    clear h1
    have h2 := name_rd hU
    go_wp2_with fail
    refine h2.mono ?_
    rintro e Y ⟨rfl, hY, qY⟩
    clear h2
    go_wp2_with fail
    go_ret
    exact ⟨by rw [HN.out]; rfl, by rw [HN.out]; exact hY, qU.trans qY⟩
theorem ano_no {x : Bs} {n m : Nat} (h : hasB x s = false) : (stepS (anoR x n m) s).1 = s ∧ (stepS (anoR x n m) s).2.getD false = false := by
  cases s with
  | inr e => exact ⟨rfl, rfl⟩
  | inl r =>
    cases r with
    | nil => exact ⟨rfl, rfl⟩
    | cons t r =>
      rw [step_ok (r' := t :: r) (a := false) (by unfold anoR; dsimp only; rw [if_neg (has_not h rfl)])]
      exact ⟨rfl, rfl⟩
set_option maxHeartbeats 2000000 in
set_option maxRecDepth 20000 in
theorem another_rd (h : RdS B b g cap ts s w) (x : Bs) (n m : Nat) :
    Calls Tryd.prog 17 #[.pointer (some ⟨b, 0, none⟩), .string ⟨x.toArray⟩, .int .i64 n, .int .i64 m] w fun e w' => e = .returned (.bool ((stepS (anoR x n m) s).2.getD false)) ∧ RdS B b g cap ts (stepS (anoR x n m) s).1 w' ∧ BelX b w w' := by
  have h1 := has_any h x
  obtain ⟨X, hX⟩ : ∃ X : ByteArray, X = ⟨x.toArray⟩ := ⟨_, rfl⟩
  rw [← hX] at h1 ⊢
  clear hX
  cases hb : hasB x s with
  | false =>
    have HN : Hid _ := ano_no (n := n) (m := m) hb
    rw [hb] at h1
    clear hb
    go_enter Tryd.func17, Tryd.ntmps17
    go_wp2_with fail
    refine h1.mono ?_
    rintro e U ⟨rfl, qU⟩
    clear h1
    go_wp2_with fail
    go_ret
    exact ⟨by rw [HN.out.2]; rfl, by rw [HN.out.1]; exact h.below qU, BelX.of b qU⟩
  | true =>
    obtain ⟨t, r, hs, ht⟩ := has_some hb
    rw [hb] at h1
    clear hb
    by_cases hnm : n = m
    · have HN : Hid (stepS (anoR x n m) s = (failS 7 s, none)) := by
        show _ = _
        rw [hs]
        exact step_no (by unfold anoR; dsimp only; rw [if_pos ht, if_pos hnm])
      have e1 : ((n : Int) == m) = true := by rw [beq_iff_eq]; omega
      clear hs
      go_enter Tryd.func17, Tryd.ntmps17
      go_wp2_with fail
      refine h1.mono ?_
      rintro e U ⟨rfl, qU⟩
      clear h1
      have h2 := fail_any (h.below qU) 7
      go_wp2_with fail
      refine h2.mono ?_
      rintro e Y ⟨rfl, hY, qY⟩
      clear h2
      go_wp2_with fail
      go_ret
      exact ⟨by rw [HN.out]; rfl, by rw [HN.out]; exact hY, (BelX.of b qU).trans qY⟩
    · have HN : Hid (stepS (anoR x n m) s = (s, some true)) := by
        show _ = _
        rw [hs]
        exact step_ok (by unfold anoR; dsimp only; rw [if_pos ht, if_neg hnm])
      have e1 : ((n : Int) == m) = false := by rw [beq_eq_false_iff_ne]; omega
      clear hs
      go_enter Tryd.func17, Tryd.ntmps17
      go_wp2_with fail
      refine h1.mono ?_
      rintro e U ⟨rfl, qU⟩
      clear h1
      go_wp2_with fail
      go_ret
      exact ⟨by rw [HN.out]; rfl, by rw [HN.out]; exact h.below qU, BelX.of b qU⟩
/-- Whether nothing was wrong. -/
theorem RdS.nil (h : RdS B b g cap ts s w) : ∃ n ev, Rd B b g cap ts n ev w ∧ ((∃ t r, s = .inl (t :: r) ∧ ev = .nilIface) ∨ ∃ e, s = .inr e ∧ ev = faV e.1 e.2) := by
  obtain ⟨n, t, ev, _, hr, hh⟩ := h.ex
  refine ⟨n, ev, hr, ?_⟩
  rcases hh with ⟨r, hs, _, _, he⟩ | ⟨e, hs, he⟩
  · exact .inl ⟨t, r, hs, he⟩
  · exact .inr ⟨e, hs, he⟩
set_option maxHeartbeats 2000000 in
set_option maxRecDepth 20000 in
theorem moreCl_rd (h : RdS B b g cap ts s w) (n : Nat) :
    Calls Tryd.prog 35 #[.pointer (some ⟨b, 0, none⟩), .int .i64 n] w fun e w' => e = .returned (.bool ((stepS (mclR n) s).2.getD false)) ∧ RdS B b g cap ts (stepS (mclR n) s).1 w' ∧ BelX b w w' := by
  have h1 := has_any h [125]
  obtain ⟨k, ev, hr, hh⟩ := h.nil
  obtain ⟨C0, C1, C2⟩ := cells_three hr.c
  clear hr
  rcases hh with ⟨t, r, hs, rfl⟩ | ⟨e, hs, rfl⟩
  · by_cases ht : t.text = [125]
    · have HN : Hid (stepS (mclR n) s = (s, some false)) := by
        show _ = _
        rw [hs]
        exact step_ok (by unfold mclR; dsimp only; rw [if_pos ht])
      rw [show hasB [125] s = true by rw [hs]; exact decide_eq_true ht] at h1
      clear hs
      go_enter Tryd.func35, Tryd.ntmps35
      go_wp2_with fail
      refine h1.mono ?_
      rintro e U ⟨rfl, qU⟩
      clear h1 C0 C1 C2
      go_wp2_with fail
      go_ret
      exact ⟨by rw [HN.out]; rfl, by rw [HN.out]; exact h.below qU, BelX.of b qU⟩
    · rw [show hasB [125] s = false by rw [hs]; exact decide_eq_false ht] at h1
      by_cases hn : n = 16
      · have HN : Hid (stepS (mclR n) s = (failS 7 s, none)) := by
          show _ = _
          rw [hs]
          exact step_no (by unfold mclR; dsimp only; rw [if_neg ht, if_pos hn])
        have e1 : ((n : Int) == 16) = true := by rw [beq_iff_eq]; omega
        clear hs
        go_enter Tryd.func35, Tryd.ntmps35
        go_wp2_with fail
        refine h1.mono ?_
        rintro e U ⟨rfl, qU⟩
        clear h1 C0 C1 C2
        have h2 := fail_any (h.below qU) 7
        go_wp2_with fail
        refine h2.mono ?_
        rintro e Y ⟨rfl, hY, qY⟩
        clear h2
        go_wp2_with fail
        go_ret
        exact ⟨by rw [HN.out]; rfl, by rw [HN.out]; exact hY, (BelX.of b qU).trans qY⟩
      · have HN : Hid (stepS (mclR n) s = (s, some true)) := by
          show _ = _
          rw [hs]
          exact step_ok (by unfold mclR; dsimp only; rw [if_neg ht, if_neg hn])
        have e1 : ((n : Int) == 16) = false := by rw [beq_eq_false_iff_ne]; omega
        clear hs
        go_enter Tryd.func35, Tryd.ntmps35
        go_wp2_with fail
        refine h1.mono ?_
        rintro e U ⟨rfl, qU⟩
        clear h1 C0 C1 C2
        go_wp2_with fail
        go_ret
        exact ⟨by rw [HN.out]; rfl, by rw [HN.out]; exact h.below qU, BelX.of b qU⟩
  · have HN : Hid (stepS (mclR n) s = (s, none)) := by show _ = _; rw [hs]; rfl
    unfold faV at C2
    clear hs h1
    go_enter Tryd.func35, Tryd.ntmps35
    go_wp2_with fail
    go_ret
    exact ⟨by rw [HN.out]; rfl, by rw [HN.out]; exact h, BelX.refl _ _⟩
end
end Go.Proofs.YtejhgifadohbiaaDoor
