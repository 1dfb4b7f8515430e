/- What a reader that goes from token to token does, as a function of where it is. Plain data, no program. -/
import Derived.Test.YtejhgifadohbiaaDoorPE
namespace Go.Proofs.YtejhgifadohbiaaDoor
open Go.Lib

/-- Where a reader is: what is left, or an error and where. -/
abbrev Sta := (List Tk) ⊕ (Nat × Nat)
def resS {α : Type} : Res α → Sta × Option α
  | .inl e => (.inr e, none)
  | .inr (a, r') => (.inl r', some a)
def stepS {α : Type} (f : List Tk → Res α) : Sta → Sta × Option α
  | .inr e => (.inr e, none)
  | .inl r => resS (f r)
/-- What was answered is what was asked, where anything was. -/
def Agr {α : Type} (a : α) (o : Option α) : Prop := ∀ x, o = some x → a = x
section
variable {α β : Type}
theorem Agr.none (a : α) : Agr a none := fun _ h => by cases h
theorem Agr.some (a : α) : Agr a (some a) := fun _ h => by injection h
theorem agr_any (d : α) (o : Option α) : ∃ a, Agr a o := by
  cases o with
  | none => exact ⟨d, Agr.none d⟩
  | some a => exact ⟨a, Agr.some a⟩
theorem Agr.getD (d : α) (o : Option α) : Agr (o.getD d) o := fun x h => by rw [h]; rfl
theorem step_inr (f : List Tk → Res α) (e : Nat × Nat) : stepS f (.inr e) = (.inr e, none) := rfl
theorem step_ok {f : List Tk → Res α} {r r' : List Tk} {a : α} (h : f r = .inr (a, r')) : stepS f (.inl r) = (.inl r', some a) := by show resS (f r) = _; rw [h]; rfl
theorem step_no {f : List Tk → Res α} {r : List Tk} {e : Nat × Nat} (h : f r = .inl e) : stepS f (.inl r) = (.inr e, none) := by show resS (f r) = _; rw [h]; rfl
theorem step_ret (a : α) (s : Sta) : (stepS (fun r => (.inr (a, r) : Res α)) s).1 = s ∧ Agr a (stepS (fun r => (.inr (a, r) : Res α)) s).2 := by
  cases s with
  | inl r => exact ⟨rfl, Agr.some a⟩
  | inr e => exact ⟨rfl, Agr.none a⟩
/-- One after the other. -/
theorem step_and {f : List Tk → Res α} {g : α → List Tk → Res β} {s : Sta} {a : α} (h : Agr a (stepS f s).2) : stepS (fun r => andR (f r) g) s = stepS (g a) (stepS f s).1 := by
  cases s with
  | inr e => rfl
  | inl r =>
    cases hf : f r with
    | inl e =>
      rw [step_no hf, step_no (f := fun r => andR (f r) g) (e := e) (by show andR (f r) g = _; rw [hf]; rfl)]
      rfl
    | inr p =>
      obtain ⟨x, r'⟩ := p
      rw [step_ok hf] at h ⊢
      have : a = x := h x rfl
      subst this
      show stepS (fun r => andR (f r) g) (.inl r) = stepS (g a) (.inl r')
      show resS (andR (f r) g) = resS (g a r')
      rw [andR_ok hf]
theorem step_congr {f g : List Tk → Res α} {s : Sta} (h : ∀ r, s = .inl r → f r = g r) : stepS f s = stepS g s := by
  cases s with
  | inr e => rfl
  | inl r => show resS (f r) = resS (g r); rw [h r rfl]
end
/-- A reader's own pieces. -/
def numR (least most : Nat) : List Tk → Res Nat
  | [] => .inl (2, 0)
  | t :: r => if t.kind = 2 then (if t.val < least ∨ most < t.val then .inl (6, t.pl) else .inr (t.val, r)) else .inl (2, t.pl)
theorem nbr_num (most : Nat) (ts : List Tk) : nbrR most ts = andR (numR 1 most ts) fun n r => .inr ((n : Int), r) := by
  cases ts with
  | nil => rfl
  | cons t r =>
    unfold nbrR numR
    dsimp only
    by_cases h : t.kind = 2
    · rw [if_pos h, if_pos h]
      by_cases h2 : 1 ≤ t.val ∧ t.val ≤ most
      · rw [if_pos h2, if_neg (by omega)]
        rfl
      · rw [if_neg h2, if_pos (by omega)]
        rfl
    · rw [if_neg h, if_neg h]
      rfl
theorem optN_is (w : Bs) (most : Nat) (ts : List Tk) : optN w most ts = andR (optB w ts) fun b r => if b = true then andR (numR 1 most r) (fun n r => .inr ((n : Int), r)) else .inr (0, r) := by
  cases ts with
  | nil => rfl
  | cons t r =>
    unfold optN optB
    dsimp only
    by_cases h : t.text = w
    · rw [if_pos h, if_pos h, nbr_num]
      rfl
    · rw [if_neg h, if_neg h]
      rfl
theorem optS_is (w : Bs) (ts : List Tk) : optS w ts = andR (optB w ts) fun b r => if b = true then nameR r else .inr ([], r) := by
  cases ts with
  | nil => rfl
  | cons t r =>
    unfold optS optB
    dsimp only
    by_cases h : t.text = w
    · rw [if_pos h, if_pos h]
      rfl
    · rw [if_neg h, if_neg h]
      rfl
theorem onR_is (ts : List Tk) : onR ts = andR (optB [97, 110, 121] ts) fun b r => if b = true then .inr ((true, 0, 0), r) else andR (pfxR r) fun p r => .inr ((false, p.1, p.2), r) := by
  cases ts with
  | nil => rfl
  | cons t r =>
    unfold onR optB
    dsimp only
    by_cases h : t.text = [97, 110, 121]
    · rw [if_pos h, if_pos h]
      rfl
    · rw [if_neg h, if_neg h]
      show _ = andR (pfxR (t :: r)) _
      unfold pfxR
      dsimp only
      by_cases h3 : t.kind = 3
      · rw [if_pos h3, if_pos h3]
        rfl
      · rw [if_neg h3, if_neg h3]
        rfl
def anoR (w : Bs) (have' most : Nat) : List Tk → Res Bool
  | [] => .inr (false, [])
  | t :: r => if t.text = w then (if have' = most then .inl (7, t.pl) else .inr (true, t :: r)) else .inr (false, t :: r)
def mclR (have' : Nat) : List Tk → Res Bool
  | [] => .inr (false, [])
  | t :: r => if t.text = [125] then .inr (false, t :: r) else if have' = 16 then .inl (7, t.pl) else .inr (true, t :: r)
/-- Where another one begins: it is read, and the others behind it. -/
theorem many_go {α β : Type} {w : Bs} {f : List Tk → Res α} {n m k : Nat} {s : Sta} {G : List α → List Tk → Res β} {a : α} {b : Bool} (hn : n + m = k) (hb : b = (stepS (anoR w n k) s).2.getD false) (ht : b = true) (ha : Agr a (stepS f (stepS (anoR w n k) s).1).2) :
    0 < m ∧ stepS (fun r => andR (manyR w f m r) G) s = stepS (fun r => andR (manyR w f (m - 1) r) fun l => G (a :: l)) (stepS f (stepS (anoR w n k) s).1).1 := by
  subst ht
  cases s with
  | inr e => cases hb
  | inl r =>
    cases r with
    | nil => cases hb
    | cons t r =>
      by_cases h : t.text = w
      · by_cases hk : n = k
        · rw [step_no (e := (7, t.pl)) (by unfold anoR; dsimp only; rw [if_pos h, if_pos hk])] at hb
          cases hb
        · have e1 : stepS (anoR w n k) (.inl (t :: r)) = (.inl (t :: r), some true) := step_ok (by unfold anoR; dsimp only; rw [if_pos h, if_neg hk])
          rw [e1] at ha ⊢
          obtain ⟨m', rfl⟩ : ∃ m', m = m' + 1 := ⟨m - 1, by omega⟩
          refine ⟨by omega, ?_⟩
          rw [Nat.add_sub_cancel, ← step_and (g := fun a r => andR (manyR w f m' r) fun l => G (a :: l)) ha]
          refine step_congr fun r' hr' => ?_
          injection hr' with hr'
          subst hr'
          rw [manyR.eq_def]
          dsimp only
          rw [if_pos h]
          cases f (t :: r) with
          | inl e => rfl
          | inr p =>
            obtain ⟨x, r2⟩ := p
            show andR (andR (manyR w f m' r2) fun cs r => .inr (x :: cs, r)) G = andR (manyR w f m' r2) fun l => G (x :: l)
            cases manyR w f m' r2 <;> rfl
      · rw [step_ok (r' := t :: r) (a := false) (by unfold anoR; dsimp only; rw [if_neg h])] at hb
        cases hb
/-- Where none begins, or none may: the end. -/
theorem many_stop {α β : Type} {w : Bs} {f : List Tk → Res α} {n m k : Nat} {s : Sta} {G : List α → List Tk → Res β} (hn : n + m = k) (hb : (stepS (anoR w n k) s).2.getD false = false) :
    stepS (fun r => andR (manyR w f m r) G) s = stepS (G []) (stepS (anoR w n k) s).1 := by
  cases s with
  | inr e => rfl
  | inl r =>
    cases r with
    | nil =>
      show stepS _ (.inl []) = stepS (G []) (.inl [])
      refine step_congr fun r hr => ?_
      injection hr with hr
      subst hr
      cases m <;> rfl
    | cons t r =>
      by_cases h : t.text = w
      · by_cases hk : n = k
        · rw [step_no (f := anoR w n k) (e := (7, t.pl)) (by unfold anoR; dsimp only; rw [if_pos h, if_pos hk])]
          obtain rfl : m = 0 := by omega
          refine step_no ?_
          rw [manyR.eq_def]
          dsimp only
          rw [if_pos h]
          rfl
        · rw [step_ok (r' := t :: r) (a := true) (by unfold anoR; dsimp only; rw [if_pos h, if_neg hk])] at hb
          cases hb
      · rw [step_ok (f := anoR w n k) (r' := t :: r) (a := false) (by unfold anoR; dsimp only; rw [if_neg h])]
        refine step_congr fun r' hr' => ?_
        injection hr' with hr'
        subst hr'
        rw [manyR.eq_def]
        dsimp only
        rw [if_neg h]
        rfl
/-- The same of clauses. -/
theorem clas_go {β : Type} {n m : Nat} {s : Sta} {G : List ClD → List Tk → Res β} {a : ClD} {b : Bool} (hn : n + m = 16) (hb : b = (stepS (mclR n) s).2.getD false) (ht : b = true) (ha : Agr a (stepS claR (stepS (mclR n) s).1).2) :
    0 < m ∧ stepS (fun r => andR (clasR m r) G) s = stepS (fun r => andR (clasR (m - 1) r) fun l => G (a :: l)) (stepS claR (stepS (mclR n) s).1).1 := by
  subst ht
  cases s with
  | inr e => cases hb
  | inl r =>
    cases r with
    | nil => cases hb
    | cons t r =>
      by_cases h : t.text = [125]
      · rw [step_ok (r' := t :: r) (a := false) (by unfold mclR; dsimp only; rw [if_pos h])] at hb
        cases hb
      · by_cases hk : n = 16
        · rw [step_no (e := (7, t.pl)) (by unfold mclR; dsimp only; rw [if_neg h, if_pos hk])] at hb
          cases hb
        · have e1 : stepS (mclR n) (.inl (t :: r)) = (.inl (t :: r), some true) := step_ok (by unfold mclR; dsimp only; rw [if_neg h, if_neg hk])
          rw [e1] at ha ⊢
          obtain ⟨m', rfl⟩ : ∃ m', m = m' + 1 := ⟨m - 1, by omega⟩
          refine ⟨by omega, ?_⟩
          rw [Nat.add_sub_cancel, ← step_and (g := fun a r => andR (clasR m' r) fun l => G (a :: l)) ha]
          refine step_congr fun r' hr' => ?_
          injection hr' with hr'
          subst hr'
          rw [clasR.eq_def]
          dsimp only
          rw [if_neg h]
          cases claR (t :: r) with
          | inl e => rfl
          | inr p =>
            obtain ⟨x, r2⟩ := p
            show andR (andR (clasR m' r2) fun cs r => .inr (x :: cs, r)) G = andR (clasR m' r2) fun l => G (x :: l)
            cases clasR m' r2 <;> rfl
theorem clas_stop {β : Type} {n m : Nat} {s : Sta} {G : List ClD → List Tk → Res β} (hn : n + m = 16) (hb : (stepS (mclR n) s).2.getD false = false) :
    stepS (fun r => andR (clasR m r) G) s = stepS (G []) (stepS (mclR n) s).1 := by
  cases s with
  | inr e => rfl
  | inl r =>
    cases r with
    | nil =>
      show stepS _ (.inl []) = stepS (G []) (.inl [])
      refine step_congr fun r hr => ?_
      injection hr with hr
      subst hr
      cases m <;> rfl
    | cons t r =>
      by_cases h : t.text = [125]
      · rw [step_ok (f := mclR n) (r' := t :: r) (a := false) (by unfold mclR; dsimp only; rw [if_pos h])]
        refine step_congr fun r' hr' => ?_
        injection hr' with hr'
        subst hr'
        rw [clasR.eq_def]
        dsimp only
        rw [if_pos h]
        rfl
      · by_cases hk : n = 16
        · rw [step_no (f := mclR n) (e := (7, t.pl)) (by unfold mclR; dsimp only; rw [if_neg h, if_pos hk])]
          obtain rfl : m = 0 := by omega
          refine step_no ?_
          rw [clasR.eq_def]
          dsimp only
          rw [if_neg h]
          rfl
        · rw [step_ok (r' := t :: r) (a := true) (by unfold mclR; dsimp only; rw [if_neg h, if_neg hk])] at hb
          cases hb
/-- A word's place is where the reader is. -/
theorem word_pl {w : Bs} {s : Sta} {p : Nat} (h : ∀ t r, s = .inl (t :: r) → p = t.pl) : Agr p (stepS (wordR w) s).2 := by
  cases s with
  | inr e => exact Agr.none p
  | inl r =>
    cases r with
    | nil => exact Agr.none p
    | cons t r =>
      by_cases hw : t.text = w
      · rw [step_ok (r' := r) (a := t.pl) (by unfold wordR; dsimp only; rw [if_pos hw]), h t r rfl]
        exact Agr.some _
      · rw [step_no (e := (2, t.pl)) (by unfold wordR; dsimp only; rw [if_neg hw])]
        exact Agr.none p
end Go.Proofs.YtejhgifadohbiaaDoor
