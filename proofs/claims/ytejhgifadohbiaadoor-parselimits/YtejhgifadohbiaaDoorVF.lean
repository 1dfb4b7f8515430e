/- What a reader does with tags. -/
import Derived.Test.YtejhgifadohbiaaDoorVE
import Derived.Deep.LoopGhost
import Derived.Laws.BitsAllLaws
import Derived.Laws.ShiftsVarLaws
namespace Go.Proofs.YtejhgifadohbiaaDoor
open Go.RowKit Go.Lib

theorem optT_is (w : Bs) (ts : List Tk) : optT w ts = andR (optB w ts) fun b r => if b = true then tag1 r else .inr (0, r) := by
  cases ts with
  | nil => rfl
  | cons t r =>
    unfold optT optB
    dsimp only
    by_cases h : t.text = w
    · rw [if_pos h, if_pos h]
      rfl
    · rw [if_neg h, if_neg h]
      rfl
theorem tag1_is (ts : List Tk) : tag1 ts = andR (numR 0 3 ts) fun v r => tagsR r (2 ^ v) (v + 1) := by
  cases ts with
  | nil => rfl
  | cons t r =>
    unfold tag1 numR
    dsimp only
    by_cases h : t.kind = 2
    · rw [if_pos h, if_pos h, tagsR.eq_def]
      dsimp only
      rw [if_pos h]
      by_cases h3 : 3 < t.val
      · rw [if_pos h3, if_pos (.inr h3)]
        rfl
      · rw [if_neg h3, if_neg (by omega), if_neg (by omega), Nat.zero_add]
        rfl
    · rw [if_neg h, if_neg h]
      rfl
theorem tags_next {t : Tk} {r : List Tk} {acc v : Nat} (hk : t.kind = 2) (hv : v < t.val) : tagsR (t :: r) acc (v + 1) = andR (numR 0 3 (t :: r)) fun v' r => tagsR r (acc + 2 ^ v') (v' + 1) := by
  rw [tagsR.eq_def]
  unfold numR
  dsimp only
  rw [if_pos hk, if_pos hk]
  by_cases h3 : 3 < t.val
  · rw [if_pos h3, if_pos (.inr h3)]
    rfl
  · rw [if_neg h3, if_neg (by omega), if_neg (by omega)]
    rfl
theorem tags_twice {t : Tk} {r : List Tk} {acc v : Nat} (hk : t.kind = 2) (hv : t.val ≤ v) (h3 : v ≤ 3) : tagsR (t :: r) acc (v + 1) = .inl (4, t.pl) := by
  rw [tagsR.eq_def]
  dsimp only
  rw [if_pos hk, if_neg (by omega), if_pos (by omega)]
theorem tags_stop {s : Sta} {acc v : Nat} (h : holdsB 2 s = false) : (stepS (fun r => tagsR r acc (v + 1)) s).1 = s ∧ Agr acc (stepS (fun r => tagsR r acc (v + 1)) s).2 := by
  cases s with
  | inr e => exact ⟨rfl, Agr.none _⟩
  | inl r =>
    cases r with
    | nil => exact ⟨rfl, Agr.some _⟩
    | cons t r =>
      rw [step_ok (r' := t :: r) (a := acc) (by rw [tagsR.eq_def]; dsimp only; rw [if_neg (holds_not h rfl)])]
      exact ⟨rfl, Agr.some _⟩
theorem pow_mod {v : Nat} (h : v ≤ 3) : ((2 : Int) ^ v % 256) = ((2 ^ v : Nat) : Int) := by
  rcases (show v = 0 ∨ v = 1 ∨ v = 2 ∨ v = 3 by omega) with rfl | rfl | rfl | rfl <;> rfl
def szS : Sta → Nat
  | .inl r => r.length
  | .inr _ => 0
def okS : Sta → Prop
  | .inl _ => True
  | .inr _ => False
theorem num_lt {s : Sta} (least most : Nat) : (stepS (numR least most) s).2.getD 0 ≤ most := by
  cases s with
  | inr e => exact Nat.zero_le _
  | inl r =>
    cases r with
    | nil => exact Nat.zero_le _
    | cons t r =>
      show (resS (numR least most (t :: r))).2.getD 0 ≤ most
      unfold numR
      dsimp only
      split
      · split
        · exact Nat.zero_le _
        · show t.val ≤ most
          omega
      · exact Nat.zero_le _
theorem num_ok {s : Sta} {least most : Nat} (h : okS (stepS (numR least most) s).1) : ∃ t r, s = .inl (t :: r) ∧ (stepS (numR least most) s) = (.inl r, some t.val) := by
  cases s with
  | inr e => exact h.elim
  | inl r =>
    cases r with
    | nil => exact h.elim
    | cons t r =>
      refine ⟨t, r, rfl, ?_⟩
      by_cases hk : t.kind = 2
      · by_cases h2 : t.val < least ∨ most < t.val
        · rw [step_no (e := (6, t.pl)) (by unfold numR; dsimp only; rw [if_pos hk, if_pos h2])] at h
          exact h.elim
        · exact step_ok (by unfold numR; dsimp only; rw [if_pos hk, if_neg h2])
      · rw [step_no (e := (2, t.pl)) (by unfold numR; dsimp only; rw [if_neg hk])] at h
        exact h.elim
theorem num_sz {s : Sta} {least most : Nat} (h : 0 < szS s) : szS (stepS (numR least most) s).1 < szS s := by
  by_cases hk : okS (stepS (numR least most) s).1
  · obtain ⟨t, r, rfl, h2⟩ := num_ok hk
    rw [h2]
    show r.length < (t :: r).length
    simp
  · cases h2 : (stepS (numR least most) s).1 with
    | inl r => rw [h2] at hk; exact absurd trivial hk
    | inr e => exact h
theorem or_add {acc v v' : Nat} (h : acc < 2 ^ (v + 1)) (hv : v < v') : acc ||| 2 ^ v' = acc + 2 ^ v' := by
  have h1 : acc < 2 ^ v' := Nat.lt_of_lt_of_le h (Nat.pow_le_pow_right (by decide) hv)
  have := Nat.two_pow_add_eq_or_of_lt h1 1
  rw [Nat.mul_one] at this
  rw [Nat.or_comm, ← this, Nat.add_comm]
section
variable {B b g cap : Nat} {ts : List Tk} {w : World} {s : Sta}
set_option maxHeartbeats 4000000 in
set_option maxRecDepth 20000 in
theorem tags_rd (h : RdS B b g cap ts s w) (x : Bs) (hx : x ≠ []) :
    Calls Tryd.prog 52 #[.pointer (some ⟨b, 0, none⟩), .string ⟨x.toArray⟩] w fun e w' => ∃ a : Nat, e = .returned (.int .u8 a) ∧ Agr a (stepS (optT x) s).2 ∧ RdS B b g cap ts (stepS (optT x) s).1 w' ∧ BelX b w w' := by
  have h1 := took_any h x hx
  have HB : stepS (optT x) s = stepS (fun r => if (stepS (optB x) s).2.getD false = true then tag1 r else .inr (0, r)) (stepS (optB x) s).1 := (step_congr fun r _ => optT_is x r).trans (step_and (f := optB x) (Agr.getD false _))
  obtain ⟨X, hX⟩ : ∃ X : ByteArray, X = ⟨x.toArray⟩ := ⟨_, rfl⟩
  rw [← hX] at h1 ⊢
  clear hX
  obtain ⟨s1, hs1⟩ : ∃ s1, s1 = (stepS (optB x) s).1 := ⟨_, rfl⟩
  rw [← hs1] at h1 HB
  clear hs1
  obtain ⟨R, hR⟩ : ∃ R, R = stepS (optT x) s := ⟨_, rfl⟩
  rw [← hR] at HB ⊢
  clear hR
  cases hb : (stepS (optB x) s).2.getD false with
  | false =>
    rw [hb] at h1 HB
    have HN : Hid (R = stepS (fun r => .inr ((0 : Nat), r)) s1) := HB
    clear hb HB
    go_enter Tryd.func52, Tryd.ntmps52
    go_wp2_with fail
    refine h1.mono ?_
    rintro e U ⟨rfl, hU, qU⟩
    clear h1
    go_wp2_with fail
    go_ret
    refine ⟨0, rfl, ?_, ?_, qU⟩
    · rw [HN.out]; exact (step_ret (0 : Nat) s1).2
    · rw [HN.out, (step_ret (0 : Nat) s1).1]; exact hU
  | true =>
    rw [hb] at h1 HB
    obtain ⟨v, hv⟩ : ∃ v, v = (stepS (numR 0 3) s1).2.getD 0 := ⟨_, rfl⟩
    have v3 : v ≤ 3 := by rw [hv]; exact num_lt 0 3
    have HN : Hid (R = stepS (fun r => tagsR r (2 ^ v) (v + 1)) (stepS (numR 0 3) s1).1) := by
      have h9 : R = stepS tag1 s1 := HB
      rw [h9, hv]
      exact (step_congr fun r _ => tag1_is r).trans (step_and (f := numR 0 3) (g := fun v r => tagsR r (2 ^ v) (v + 1)) (Agr.getD 0 _))
    have HH : Hid (∀ U, RdS B b g cap ts s1 U → Calls Tryd.prog 54 #[.pointer (some ⟨b, 0, none⟩), .int .i64 0, .int .i64 3] U fun e w' => e = .returned (.int .i64 v) ∧ RdS B b g cap ts (stepS (numR 0 3) s1).1 w' ∧ BelX b U w') := fun U hU => by
      rw [hv]
      exact number_rd hU 0 3
    clear hb HB hv
    go_enter Tryd.func52, Tryd.ntmps52
    go_wp2_with fail
    refine h1.mono ?_
    rintro e U ⟨rfl, hU, qU⟩
    clear h1
    have h2 := HH.out U hU
    go_wp2_with fail
    refine h2.mono ?_
    rintro e Y ⟨rfl, hY, qY⟩
    clear h2
    have HY : Hid (RdS B b g cap ts (stepS (numR 0 3) s1).1 Y ∧ BelX b w Y) := ⟨hY, qU.trans qY⟩
    clear hY qU qY hU
    have v0 : (0 : Int) ≤ v := by omega
    go_wp2_with fail
    rw [pow_mod v3]
    have HV : Hid (v ≤ 3) := v3
    clear v3 v0
    obtain ⟨s2, hs2⟩ : ∃ s2, s2 = (stepS (numR 0 3) s1).1 := ⟨_, rfl⟩
    rw [← hs2] at HN HY
    clear hs2 HH
    go_loopg [5, 6] (szS s2) (fun gm vl vb wr => ∃ (v acc : Nat) (s' : Sta), gm = szS s' ∧ vl = .int .i64 v ∧ vb = .int .u8 acc ∧ Hid (v ≤ 3 ∧ acc < 256 ∧ (okS s' → acc < 2 ^ (v + 1)) ∧ R = stepS (fun r => tagsR r acc (v + 1)) s' ∧ RdS B b g cap ts s' wr ∧ BelX b w wr))
    case atStart =>
      refine ⟨v, 2 ^ v, s2, rfl, rfl, rfl, (⟨HV.out, ?_, fun _ => ?_, HN.out, HY.out.1, HY.out.2⟩ : _ ∧ _ ∧ _ ∧ _ ∧ _ ∧ _)⟩
      · have := Nat.pow_le_pow_right (show 0 < 2 by decide) HV.out
        omega
      · exact Nat.pow_lt_pow_right (by decide) (Nat.lt_succ_self v)
    case round =>
      obtain ⟨v', acc, s', rfl, rfl, rfl, HW⟩ := hrel
      have h1 := holds_any HW.out.2.2.2.2.1 2
      cases hb : holdsB 2 s' with
      | false =>
        have HT : Hid _ := tags_stop (acc := acc) (v := v') hb
        rw [hb] at h1
        clear hb
        go_wp2_with fail
        refine h1.mono ?_
        rintro e Z ⟨rfl, qZ⟩
        clear h1
        go_wp2_with fail
        go_ret
        refine ⟨acc, rfl, ?_, ?_, HW.out.2.2.2.2.2.below qZ⟩
        · rw [HW.out.2.2.2.1]; exact HT.out.2
        · rw [HW.out.2.2.2.1, HT.out.1]; exact HW.out.2.2.2.2.1.below qZ
      | true =>
        obtain ⟨t, r, hs, ht⟩ := holds_some hb
        have HH : Hid (∀ U, RdS B b g cap ts s' U → Calls Tryd.prog 32 #[.pointer (some ⟨b, 0, none⟩)] U fun e w' => e = .returned (tkV t) ∧ Below U.heap.size U w') := by
          intro U hU
          obtain ⟨n, t', ev, ht', hr, hh⟩ := hU.ex
          rcases hh with ⟨r', hs', _⟩ | ⟨e, hs', _⟩
          · rw [hs] at hs'
            injection hs' with hs'
            injection hs' with e1 _
            subst e1
            exact here_any hr t ht'
          · rw [hs] at hs'
            cases hs'
        have HS : Hid (s' = .inl (t :: r) ∧ t.kind = 2) := ⟨hs, ht⟩
        rw [hb] at h1
        clear hb hs ht
        go_wp2_with fail
        refine h1.mono ?_
        rintro e Z ⟨rfl, qZ⟩
        clear h1
        have hZ := HW.out.2.2.2.2.1.below qZ
        have h2 := HH.out Z hZ
        unfold tkV at h2
        go_wp2_with fail
        refine h2.mono ?_
        rintro e Y2 ⟨rfl, qY⟩
        clear h2
        have hY := hZ.below qY
        have HQ : Hid (BelX b w Y2) := (HW.out.2.2.2.2.2.below qZ).below qY
        have f1 := tkf2 t.kind t.val t.a t.b t.pl ⟨t.text.toArray⟩
        clear qZ qY hZ
        by_cases hle : t.val ≤ v'
        · have d1 : decide ((t.val : Int) ≤ v') = true := decide_eq_true (by omega)
          have h3 := fail_any hY 4
          go_wp2_with fail
          refine h3.mono ?_
          rintro e Z ⟨rfl, hZ, qZ⟩
          clear h3
          have HT : Hid (R = (failS 4 s', none)) := by
            show R = _
            rw [HW.out.2.2.2.1, HS.out.1]
            exact step_no (tags_twice HS.out.2 hle HW.out.1)
          go_wp2_with fail
          go_ret
          refine ⟨acc, rfl, ?_, ?_, HQ.out.trans qZ⟩
          · rw [HT.out]; exact Agr.none _
          · rw [HT.out]; exact hZ
        · have d1 : decide ((t.val : Int) ≤ v') = false := decide_eq_false (by omega)
          have n1 : ¬ t.val ≤ v' := hle
          have h3 := number_rd hY 0 3
          obtain ⟨u, hu⟩ : ∃ u, u = (stepS (numR 0 3) s').2.getD 0 := ⟨_, rfl⟩
          have u3 : u ≤ 3 := by rw [hu]; exact num_lt 0 3
          rw [← hu] at h3
          have HU : Hid (u = (stepS (numR 0 3) s').2.getD 0) := hu
          have HG : Hid (szS (stepS (numR 0 3) s').1 < szS s') := num_sz (by rw [HS.out.1]; show 0 < (t :: r).length; simp)
          have hnext : ∃ acc', acc' = acc ||| 2 ^ u ∧ acc' < 256 ∧ (okS (stepS (numR 0 3) s').1 → acc' < 2 ^ (u + 1)) ∧ R = stepS (fun r => tagsR r acc' (u + 1)) (stepS (numR 0 3) s').1 := by
            have hp : (2 : Nat) ^ u < 2 ^ 8 := Nat.pow_lt_pow_right (by decide) (by omega)
            refine ⟨_, rfl, Nat.or_lt_two_pow (n := 8) HW.out.2.1 hp, ?_, ?_⟩
            · intro hok
              obtain ⟨t2, r2, e1, e2⟩ := num_ok hok
              have hacc := HW.out.2.2.1 (by rw [HS.out.1]; trivial)
              have e3 : t2 = t := by
                rw [HS.out.1] at e1
                injection e1 with e1
                injection e1 with e1 _
                exact e1.symm
              have e4 : u = t.val := by rw [hu, e2, e3]; rfl
              rw [or_add hacc (by omega)]
              have : acc < 2 ^ u := Nat.lt_of_lt_of_le hacc (Nat.pow_le_pow_right (by decide) (by omega))
              rw [Nat.pow_succ]
              omega
            · rw [HW.out.2.2.2.1]
              by_cases hok : okS (stepS (numR 0 3) s').1
              · obtain ⟨t2, r2, e1, e2⟩ := num_ok hok
                have hacc := HW.out.2.2.1 (by rw [HS.out.1]; trivial)
                have e3 : t2 = t := by
                  rw [HS.out.1] at e1
                  injection e1 with e1
                  injection e1 with e1 _
                  exact e1.symm
                have e4 : u = t.val := by rw [hu, e2, e3]; rfl
                rw [or_add hacc (by omega), hu]
                refine Eq.trans (step_congr fun r' hr' => ?_) (step_and (f := numR 0 3) (g := fun v r => tagsR r (acc + 2 ^ v) (v + 1)) (Agr.getD 0 _))
                rw [HS.out.1] at hr'
                injection hr' with hr'
                rw [← hr']
                exact tags_next HS.out.2 (by omega)
              · have e5 : stepS (fun r => tagsR r acc (v' + 1)) s' = stepS (fun r => tagsR r (acc + 2 ^ u) (u + 1)) (stepS (numR 0 3) s').1 := by
                  rw [hu]
                  refine Eq.trans (step_congr fun r' hr' => ?_) (step_and (f := numR 0 3) (g := fun v r => tagsR r (acc + 2 ^ v) (v + 1)) (Agr.getD 0 _))
                  rw [HS.out.1] at hr'
                  injection hr' with hr'
                  rw [← hr']
                  exact tags_next HS.out.2 (by omega)
                rw [e5]
                cases h2 : (stepS (numR 0 3) s').1 with
                | inl r => rw [h2] at hok; exact absurd trivial hok
                | inr e => rfl
          obtain ⟨acc', ha1, ha2, ha3, ha4⟩ := hnext
          have HA : Hid ((okS (stepS (numR 0 3) s').1 → acc' < 2 ^ (u + 1)) ∧ R = stepS (fun r => tagsR r acc' (u + 1)) (stepS (numR 0 3) s').1 ∧ u ≤ 3 ∧ acc' < 256) := ⟨ha3, ha4, u3, ha2⟩
          have hor : bits .or .u8 (acc : Int) ((2 : Int) ^ u % 256) = (acc' : Int) := by
            rw [pow_mod u3, ha1]
            exact u8_or_nat acc (2 ^ u) HW.out.2.1 (Nat.lt_of_lt_of_le (Nat.pow_lt_pow_right (by decide) (show u < 8 by omega)) (by decide))
          have hor2 : bits .or .u8 (acc : Int) ((2 : Int) ^ min u 8 % 256) = (acc' : Int) := by rw [Nat.min_eq_left (by omega)]; exact hor
          have u0 : (0 : Int) ≤ u := by omega
          clear ha1 ha2 ha3 ha4 hu u3
          go_wp2_with fail
          refine h3.mono ?_
          rintro e Z ⟨rfl, hZ, qZ⟩
          clear h3
          go_wp2_with fail
          go_roundg (szS (stepS (numR 0 3) s').1)
          case measure => exact HG.out
          case rel => exact ⟨u, acc', _, rfl, rfl, rfl, (⟨HA.out.2.2.1, HA.out.2.2.2, HA.out.1, HA.out.2.1, hZ, HQ.out.trans qZ⟩ : _ ∧ _ ∧ _ ∧ _ ∧ _ ∧ _)⟩
end
end Go.Proofs.YtejhgifadohbiaaDoor
