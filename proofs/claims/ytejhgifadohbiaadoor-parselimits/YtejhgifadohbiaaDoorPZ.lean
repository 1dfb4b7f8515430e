/- Which errors there are, and where. No program. A text of which the end is cut off. No program. The text of ParseNumbers, and what is read of it. No program. The text of ParseLimits, and what is read of it. No program. -/
import Derived.Test.YtejhgifadohbiaaDoorPH
namespace Go.Proofs.YtejhgifadohbiaaDoor
open Go.Lib

/-- An error that may be told of tokens, at one of them. -/
def ErrAt (ts : List Tk) (e : Nat × Nat) : Prop := (e.1 = 2 ∨ e.1 = 4 ∨ e.1 = 6 ∨ e.1 = 7) ∧ (e.2 = 0 ∨ ∃ t ∈ ts, t.pl = e.2)
theorem ErrAt.suf {ts r : List Tk} {e : Nat × Nat} (h : ErrAt r e) (hs : r <:+ ts) : ErrAt ts e := ⟨h.1, h.2.imp id fun ⟨t, ht, hp⟩ => ⟨t, hs.subset ht, hp⟩⟩
theorem andR_inl {α β : Type} {x : Res α} {f : α → List Tk → Res β} {e : Nat × Nat} (h : andR x f = .inl e) : x = .inl e ∨ ∃ a r, x = .inr (a, r) ∧ f a r = .inl e := by
  cases x with
  | inl e' => exact .inl (by rw [show (Sum.inl e' : Res α) = .inl e' from rfl]; exact congrArg Sum.inl (Sum.inl.inj h))
  | inr p => exact .inr ⟨p.1, p.2, rfl, h⟩
theorem err_nil (ts : List Tk) : ErrAt ts (2, 0) := ⟨.inl rfl, .inl rfl⟩
theorem err_at {n : Nat} {t : Tk} {r : List Tk} (h : n = 2 ∨ n = 4 ∨ n = 6 ∨ n = 7) : ErrAt (t :: r) (n, t.pl) := ⟨h, .inr ⟨t, by simp, rfl⟩⟩
section
variable {ts : List Tk} {e : Nat × Nat}
theorem wordR_err {w : Bs} (h : wordR w ts = .inl e) : ErrAt ts e := by
  cases ts with
  | nil => cases h; exact err_nil _
  | cons t us =>
    rw [wordR] at h
    split at h
    · cases h
    · cases h; exact err_at (.inl rfl)
theorem nameR_err (h : nameR ts = .inl e) : ErrAt ts e := by
  cases ts with
  | nil => cases h; exact err_nil _
  | cons t us =>
    rw [nameR] at h
    split at h
    · cases h
    · cases h; exact err_at (.inl rfl)
theorem pfxR_err (h : pfxR ts = .inl e) : ErrAt ts e := by
  cases ts with
  | nil => cases h; exact err_nil _
  | cons t us =>
    rw [pfxR] at h
    split at h
    · cases h
    · cases h; exact err_at (.inl rfl)
theorem nbrR_err {most : Nat} (h : nbrR most ts = .inl e) : ErrAt ts e := by
  cases ts with
  | nil => cases h; exact err_nil _
  | cons t us =>
    rw [nbrR] at h
    split at h
    · split at h
      · cases h
      · cases h; exact err_at (.inr (.inr (.inl rfl)))
    · cases h; exact err_at (.inl rfl)
theorem optN_err {w : Bs} {most : Nat} (h : optN w most ts = .inl e) : ErrAt ts e := by
  cases ts with
  | nil => cases h
  | cons t us =>
    rw [optN] at h
    split at h
    · exact (nbrR_err h).suf suf_cons
    · cases h
theorem optS_err {w : Bs} (h : optS w ts = .inl e) : ErrAt ts e := by
  cases ts with
  | nil => cases h
  | cons t us =>
    rw [optS] at h
    split at h
    · exact (nameR_err h).suf suf_cons
    · cases h
theorem optB_err {w : Bs} (h : optB w ts = .inl e) : ErrAt ts e := by
  cases ts with
  | nil => cases h
  | cons t us =>
    rw [optB] at h
    split at h
    · cases h
    · cases h
theorem tagsR_err : ∀ {ts : List Tk} {b lo : Nat} {e : Nat × Nat}, tagsR ts b lo = .inl e → ErrAt ts e
  | [], _, _, _, h => by cases h
  | t :: us, b, lo, e, h => by
    rw [tagsR] at h
    split at h
    · split at h
      · cases h; exact err_at (.inr (.inr (.inl rfl)))
      · split at h
        · cases h; exact err_at (.inr (.inl rfl))
        · exact (tagsR_err h).suf suf_cons
    · cases h
theorem optT_err {w : Bs} (h : optT w ts = .inl e) : ErrAt ts e := by
  cases ts with
  | nil => cases h
  | cons t us =>
    rw [optT] at h
    split at h
    · cases us with
      | nil => cases h; exact err_nil _
      | cons u us =>
        rw [tag1] at h
        split at h
        · exact (tagsR_err h).suf suf_cons
        · cases h; exact (err_at (t := u) (.inl rfl)).suf suf_cons
    · cases h
theorem onR_err (h : onR ts = .inl e) : ErrAt ts e := by
  cases ts with
  | nil => cases h; exact err_nil _
  | cons t us =>
    rw [onR] at h
    split at h
    · cases h
    · split at h
      · cases h
      · cases h; exact err_at (.inl rfl)
theorem claR_err (hw : Wf ts) (h : claR ts = .inl e) : ErrAt ts e := by
  unfold claR at h
  rcases andR_inl h with g | ⟨_, r0, h0, g0⟩
  · exact wordR_err g
  obtain ⟨t0, rfl, _⟩ := wordR_ok h0
  refine ErrAt.suf ?_ (suf_cons (r := r0))
  have w0 : Wf r0 := hw.suf suf_cons
  rcases andR_inl g0 with g | ⟨o, r1, h1, g1⟩
  · exact onR_err g
  refine ErrAt.suf ?_ (onR_ok w0 h1).1
  rcases andR_inl g1 with g | ⟨_, r2, h2, g2⟩
  · exact optT_err g
  refine ErrAt.suf ?_ (optT_ok h2)
  rcases andR_inl g2 with g | ⟨_, r3, h3, g3⟩
  · exact optT_err g
  refine ErrAt.suf ?_ (optT_ok h3)
  rcases andR_inl g3 with g | ⟨_, r4, h4, g4⟩
  · exact wordR_err g
  obtain ⟨t4, rfl, _⟩ := wordR_ok h4
  refine ErrAt.suf ?_ (suf_cons (r := r4))
  rcases andR_inl g4 with g | ⟨_, r5, h5, g5⟩
  · exact optB_err g
  refine ErrAt.suf ?_ (optB_ok h5)
  rcases andR_inl g5 with g | ⟨_, r6, h6, g6⟩
  · exact optT_err g
  refine ErrAt.suf ?_ (optT_ok h6)
  rcases andR_inl g6 with g | ⟨_, r7, h7, g7⟩
  · exact optT_err g
  refine ErrAt.suf ?_ (optT_ok h7)
  rcases andR_inl g7 with g | ⟨_, r8, h8, g8⟩
  · exact optN_err g
  refine ErrAt.suf ?_ (optN_ok h8).1
  rcases andR_inl g8 with g | ⟨_, r9, h9, g9⟩
  · exact optN_err g
  refine ErrAt.suf ?_ (optN_ok h9).1
  rcases andR_inl g9 with g | ⟨_, r10, h10, g10⟩
  · exact wordR_err g
  cases g10
end
theorem clasR_err : ∀ (n : Nat) (ts : List Tk) (e : Nat × Nat), Wf ts → clasR n ts = .inl e → ErrAt ts e
  | n, [], e, _, h => by cases n <;> (rw [clasR] at h; cases h)
  | 0, t :: us, e, _, h => by
    rw [clasR] at h
    split at h
    · cases h
    · cases h; exact err_at (.inr (.inr (.inr rfl)))
  | n + 1, t :: us, e, hw, h => by
    rw [clasR] at h
    split at h
    · cases h
    · rcases andR_inl h with h | ⟨c, r1, h1, h⟩
      · exact claR_err hw h
      have s1 := (claR_ok hw h1).1
      rcases andR_inl h with h | ⟨cs, r2, h2, h⟩
      · exact (clasR_err n r1 e (hw.suf s1) h).suf s1
      · cases h
theorem manyR_err {α : Type} {w : Bs} {f : List Tk → Res α} (hf : ∀ ts r x, Wf ts → f ts = .inr (x, r) → r <:+ ts) (he : ∀ ts e, Wf ts → f ts = .inl e → ErrAt ts e) : ∀ (n : Nat) (ts : List Tk) (e : Nat × Nat), Wf ts → manyR w f n ts = .inl e → ErrAt ts e
  | n, [], e, _, h => by cases n <;> (rw [manyR] at h; cases h)
  | 0, t :: us, e, _, h => by
    rw [manyR] at h
    split at h
    · cases h; exact err_at (.inr (.inr (.inr rfl)))
    · cases h
  | n + 1, t :: us, e, hw, h => by
    rw [manyR] at h
    split at h
    · rcases andR_inl h with h | ⟨c, r1, h1, h⟩
      · exact he _ _ hw h
      have s1 := hf _ _ _ hw h1
      rcases andR_inl h with h | ⟨cs, r2, h2, h⟩
      · exact (manyR_err hf he n r1 e (hw.suf s1) h).suf s1
      · cases h
    · cases h
theorem mapR_err (ts : List Tk) (e : Nat × Nat) (hw : Wf ts) (h : mapR ts = .inl e) : ErrAt ts e := by
  unfold mapR at h
  rcases andR_inl h with g | ⟨p, r0, h0, g0⟩
  · exact wordR_err g
  obtain ⟨t0, rfl, _⟩ := wordR_ok h0
  refine ErrAt.suf ?_ (suf_cons (r := r0))
  have w0 : Wf r0 := hw.suf suf_cons
  rcases andR_inl g0 with g | ⟨n, r1, h1, g1⟩
  · exact nameR_err g
  obtain ⟨t1, rfl, _⟩ := nameR_ok h1
  refine ErrAt.suf ?_ (suf_cons (r := r1))
  have w1 : Wf r1 := w0.suf suf_cons
  rcases andR_inl g1 with g | ⟨_, r2, h2, g2⟩
  · exact wordR_err g
  obtain ⟨t2, rfl, _⟩ := wordR_ok h2
  refine ErrAt.suf ?_ (suf_cons (r := r2))
  have w2 : Wf r2 := w1.suf suf_cons
  rcases andR_inl g2 with g | ⟨cs, r3, h3, g3⟩
  · exact clasR_err _ _ _ w2 g
  refine ErrAt.suf ?_ (clasR_ok _ _ _ _ w2 h3).1
  rcases andR_inl g3 with g | ⟨_, r4, h4, g4⟩
  · exact wordR_err g
  cases g4
theorem netR_err (ts : List Tk) (e : Nat × Nat) (_ : Wf ts) (h : netR ts = .inl e) : ErrAt ts e := by
  unfold netR at h
  rcases andR_inl h with g | ⟨p, r0, h0, g0⟩
  · exact wordR_err g
  obtain ⟨t0, rfl, _⟩ := wordR_ok h0
  refine ErrAt.suf ?_ (suf_cons (r := r0))
  rcases andR_inl g0 with g | ⟨n, r1, h1, g1⟩
  · exact pfxR_err g
  obtain ⟨t1, rfl, _⟩ := pfxR_ok h1
  refine ErrAt.suf ?_ (suf_cons (r := r1))
  rcases andR_inl g1 with g | ⟨_, r2, h2, g2⟩
  · exact wordR_err g
  cases g2
theorem lnkR_err (ts : List Tk) (e : Nat × Nat) (hw : Wf ts) (h : lnkR ts = .inl e) : ErrAt ts e := by
  unfold lnkR at h
  rcases andR_inl h with g | ⟨p, r0, h0, g0⟩
  · exact wordR_err g
  obtain ⟨t0, rfl, _⟩ := wordR_ok h0
  refine ErrAt.suf ?_ (suf_cons (r := r0))
  have w0 : Wf r0 := hw.suf suf_cons
  rcases andR_inl g0 with g | ⟨n, r1, h1, g1⟩
  · exact nameR_err g
  obtain ⟨t1, rfl, _⟩ := nameR_ok h1
  refine ErrAt.suf ?_ (suf_cons (r := r1))
  have w1 : Wf r1 := w0.suf suf_cons
  rcases andR_inl g1 with g | ⟨_, r2, h2, g2⟩
  · exact wordR_err g
  obtain ⟨t2, rfl, _⟩ := wordR_ok h2
  refine ErrAt.suf ?_ (suf_cons (r := r2))
  have w2 : Wf r2 := w1.suf suf_cons
  rcases andR_inl g2 with g | ⟨c, r3, h3, g3⟩
  · exact nbrR_err g
  obtain ⟨t3, rfl, _⟩ := nbrR_ok h3
  refine ErrAt.suf ?_ (suf_cons (r := r3))
  have w3 : Wf r3 := w2.suf suf_cons
  rcases andR_inl g3 with g | ⟨i, r4, h4, g4⟩
  · exact optS_err g
  have s4 := (optS_ok w3 h4).1
  refine ErrAt.suf ?_ s4
  rcases andR_inl g4 with g | ⟨x, r5, h5, g5⟩
  · exact optS_err g
  refine ErrAt.suf ?_ (optS_ok (w3.suf s4) h5).1
  rcases andR_inl g5 with g | ⟨_, r6, h6, g6⟩
  · exact wordR_err g
  cases g6
theorem staR_err (ts : List Tk) (e : Nat × Nat) (_ : Wf ts) (h : staR ts = .inl e) : ErrAt ts e := by
  unfold staR at h
  rcases andR_inl h with g | ⟨p, r0, h0, g0⟩
  · exact wordR_err g
  obtain ⟨t0, rfl, _⟩ := wordR_ok h0
  refine ErrAt.suf ?_ (suf_cons (r := r0))
  rcases andR_inl g0 with g | ⟨n, r1, h1, g1⟩
  · exact pfxR_err g
  obtain ⟨t1, rfl, _⟩ := pfxR_ok h1
  refine ErrAt.suf ?_ (suf_cons (r := r1))
  rcases andR_inl g1 with g | ⟨_, r2, h2, g2⟩
  · exact wordR_err g
  obtain ⟨t2, rfl, _⟩ := wordR_ok h2
  refine ErrAt.suf ?_ (suf_cons (r := r2))
  rcases andR_inl g2 with g | ⟨_, r3, h3, g3⟩
  · exact nameR_err g
  obtain ⟨t3, rfl, _⟩ := nameR_ok h3
  refine ErrAt.suf ?_ (suf_cons (r := r3))
  rcases andR_inl g3 with g | ⟨_, r4, h4, g4⟩
  · exact wordR_err g
  cases g4
theorem rouR_err (ts : List Tk) (e : Nat × Nat) (hw : Wf ts) (h : rouR ts = .inl e) : ErrAt ts e := by
  unfold rouR at h
  rcases andR_inl h with g | ⟨p, r0, h0, g0⟩
  · exact wordR_err g
  obtain ⟨t0, rfl, _⟩ := wordR_ok h0
  refine ErrAt.suf ?_ (suf_cons (r := r0))
  have w0 : Wf r0 := hw.suf suf_cons
  rcases andR_inl g0 with g | ⟨n, r1, h1, g1⟩
  · exact nameR_err g
  obtain ⟨t1, rfl, _⟩ := nameR_ok h1
  refine ErrAt.suf ?_ (suf_cons (r := r1))
  have w1 : Wf r1 := w0.suf suf_cons
  rcases andR_inl g1 with g | ⟨_, r2, h2, g2⟩
  · exact wordR_err g
  obtain ⟨t2, rfl, _⟩ := wordR_ok h2
  refine ErrAt.suf ?_ (suf_cons (r := r2))
  have w2 : Wf r2 := w1.suf suf_cons
  rcases andR_inl g2 with g | ⟨ns, r3, h3, g3⟩
  · exact manyR_err (fun ts r x hw h => (netR_ok ts r x hw h).1) netR_err _ _ _ w2 g
  have s3 := (manyR_ok (S := fun _ => True) (fun ts r x hw h => ⟨(netR_ok ts r x hw h).1, trivial⟩) _ _ _ _ w2 h3).1
  refine ErrAt.suf ?_ s3
  have w3 := w2.suf s3
  rcases andR_inl g3 with g | ⟨ls, r4, h4, g4⟩
  · exact manyR_err (fun ts r x hw h => (lnkR_ok ts r x hw h).1) lnkR_err _ _ _ w3 g
  have s4 := (manyR_ok (S := fun _ => True) (fun ts r x hw h => ⟨(lnkR_ok ts r x hw h).1, trivial⟩) _ _ _ _ w3 h4).1
  refine ErrAt.suf ?_ s4
  have w4 := w3.suf s4
  rcases andR_inl g4 with g | ⟨ss, r5, h5, g5⟩
  · exact manyR_err (fun ts r x hw h => (staR_ok ts r x hw h).1) staR_err _ _ _ w4 g
  have s5 := (manyR_ok (S := fun _ => True) (fun ts r x hw h => ⟨(staR_ok ts r x hw h).1, trivial⟩) _ _ _ _ w4 h5).1
  refine ErrAt.suf ?_ s5
  rcases andR_inl g5 with g | ⟨_, r6, h6, g6⟩
  · exact wordR_err g
  cases g6
theorem cfgR_err {ts : List Tk} {e : Nat × Nat} (hw : Wf ts) (h : cfgR ts = .inl e) : ErrAt ts e := by
  unfold cfgR at h
  rcases andR_inl h with g | ⟨ms, r1, h1, g0⟩
  · exact manyR_err (fun ts r x hw h => (mapR_ok ts r x hw h).1.suf) mapR_err _ _ _ hw g
  have s1 := (manyR_ok (S := fun _ => True) (fun ts r x hw h => ⟨(mapR_ok ts r x hw h).1.suf, trivial⟩) _ _ _ _ hw h1).1
  refine ErrAt.suf ?_ s1
  have w1 := hw.suf s1
  rcases andR_inl g0 with g | ⟨rs, r2, h2, g1⟩
  · exact manyR_err (fun ts r x hw h => (rouR_ok ts r x hw h).1.suf) rouR_err _ _ _ w1 g
  have s2 := (manyR_ok (S := fun _ => True) (fun ts r x hw h => ⟨(rouR_ok ts r x hw h).1.suf, trivial⟩) _ _ _ _ w1 h2).1
  refine ErrAt.suf ?_ s2
  rcases andR_inl g1 with g | ⟨_, r3, h3, g2⟩
  · cases r2 with
    | nil => cases g; exact err_nil _
    | cons t us =>
      rw [endR] at g
      split at g
      · cases g
      · cases g; exact err_at (.inl rfl)
  cases g2
theorem toks_bad : ∀ (n : Nat) (l : Bs), l.length ≤ n → ∀ k i p, toks l k i = .inl p → p ≤ i + l.length
  | n, [], _, k, i, p, h => by rw [toks] at h; cases h
  | 0, c :: r, hn, _, _, _, _ => by simp at hn
  | n + 1, c :: r, hn, k + 1, i, p, h => by
    rw [toks] at h
    have := toks_bad n r (by simpa using hn) k (i + 1) p h
    rw [List.length_cons]
    omega
  | n + 1, c :: r, hn, 0, i, p, h => by
    have hrn : r.length ≤ n := by simpa using hn
    have step : ∀ k, toks r k (i + 1) = .inl p → p ≤ i + (c :: r).length := by
      intro k h'
      have := toks_bad n r hrn k (i + 1) p h'
      rw [List.length_cons]
      omega
    have add : ∀ (t : Tk) k, addT [t] (toks r k (i + 1)) = .inl p → p ≤ i + (c :: r).length := by
      intro t k h'
      cases hq : toks r k (i + 1) with
      | inl x => rw [hq] at h'; cases h'; exact step k hq
      | inr us => rw [hq] at h'; cases h'
    rw [toks] at h
    split at h
    · exact step 0 h
    · split at h
      · exact step _ h
      · split at h
        · exact add _ 0 h
        · split at h
          · cases h; omega
          · exact add _ _ h
/-- Which error is told of a text that is short enough, and where. -/
theorem read_err {l : Bs} {e : Nat × Nat} (h : readP l = .inl e) : (e.1 = 1 ∨ e.1 = 2 ∨ e.1 = 4 ∨ e.1 = 6 ∨ e.1 = 7) ∧ e.2 ≤ l.length := by
  unfold readP at h
  split at h
  · cases h; exact ⟨.inr (.inr (.inr (.inr rfl))), Nat.zero_le _⟩
  · cases ht : toks l 0 0 with
    | inl k =>
      rw [ht] at h
      cases h
      exact ⟨.inl rfl, by have := toks_bad _ l (Nat.le_refl _) 0 0 k ht; omega⟩
    | inr ts =>
      rw [ht] at h
      simp only at h
      obtain ⟨us, eu, hu⟩ := toks_wf _ l (Nat.le_refl _) 0 0 ts ht
      have hw : Wf ts ∧ ∀ t ∈ ts, t.pl ≤ l.length := by
        refine ⟨fun t ht => ?_, fun t ht => ?_⟩
        all_goals
          rw [eu] at ht
          rcases List.mem_append.1 ht with ht | ht
        · exact (hu t ht).1
        · rw [List.mem_singleton] at ht
          subst ht
          exact wf_of (fun h => by cases h) (fun h => by cases h)
        · have := (hu t ht).2.2.2
          omega
        · rw [List.mem_singleton] at ht
          subst ht
          show 0 + l.length ≤ l.length
          omega
      cases hc : cfgR ts with
      | inr y => rw [hc] at h; cases h
      | inl x =>
        rw [hc] at h
        cases h
        obtain ⟨h1, h2⟩ := cfgR_err hw.1 hc
        refine ⟨.inr h1, ?_⟩
        rcases h2 with h2 | ⟨t, ht, h2⟩
        · omega
        · rw [← h2]
          exact hw.2 t ht
end Go.Proofs.YtejhgifadohbiaaDoor
namespace Go.Proofs.YtejhgifadohbiaaDoor
open Go.Lib

/-- No closing brace. -/
def okC (c : UInt8) : Bool := prtP c || blkP c || decide (c.toNat = 59) || decide (c.toNat = 123)
def AllC (l : Bs) : Prop := ∀ c ∈ l, okC c = true
theorem AllC.app {a b : Bs} (h1 : AllC a) (h2 : AllC b) : AllC (a ++ b) := fun c hc => (List.mem_append.1 hc).elim (h1 c) (h2 c)
theorem AllC.cons {c : UInt8} {b : Bs} (h1 : okC c = true) (h2 : AllC b) : AllC (c :: b) := fun x hx => (List.mem_cons.1 hx).elim (fun h => h ▸ h1) (h2 x)
theorem AllC.nil : AllC [] := fun c hc => by cases hc
theorem AllC.prt {x : Bs} (h : ∀ c ∈ x, prtP c = true) : AllC x := fun c hc => by unfold okC; rw [h c hc]; rfl
theorem AllC.dec {x : Bs} (h : x.all okC = true) : AllC x := fun c hc => List.all_eq_true.1 h c hc
theorem AllC.flat {α : Type} {f : α → Bs} {l : List α} (h : ∀ x ∈ l, AllC (f x)) : AllC (l.flatMap f) := fun c hc => by
  obtain ⟨x, hx, hc⟩ := List.mem_flatMap.1 hc
  exact h x hx c hc
theorem allC_name {x : Bs} (h : nameP x = true) : AllC x := AllC.prt (name_prt h)
theorem allC_itoa {n : Int} (h : 0 ≤ n) : AllC (itoa n) := by
  rw [itoa_at h]
  exact AllC.prt fun c hc => dig_prt (dec_dig _ c hc)
theorem allC_pf (a : Nat) (b : Int) : AllC (pfT a b) := by
  unfold pfT
  split
  · exact AllC.prt text_prt
  · exact AllC.nil
theorem tag_digsC : ∀ k : Fin 4, okC (UInt8.ofNat (48 + k.val)) = true := by decide
theorem allC_tag (bits : Nat) : ∀ f k, f + k ≤ 4 → AllC (tagN bits f k)
  | 0, _, _ => AllC.nil
  | f + 1, k, h => by
    unfold tagN
    refine AllC.app ?_ (allC_tag bits f (k + 1) (by omega))
    split
    · exact AllC.cons (by decide) (AllC.cons (tag_digsC ⟨k, by omega⟩) AllC.nil)
    · exact AllC.nil
theorem allC_tags {word : Bs} (h : AllC word) (bits : Nat) : AllC (tagsT word bits) := by
  unfold tagsT
  split
  · exact AllC.nil
  · exact (AllC.cons (by decide) h).app (allC_tag bits 4 0 (by omega))
theorem allC_num {word : Bs} (h : AllC word) {n : Int} (h0 : 0 ≤ n) : AllC (numT word n) := by
  unfold numT
  split
  · exact AllC.nil
  · exact (AllC.cons (by decide) h).app (AllC.cons (by decide) (allC_itoa h0))
theorem allC_nm {word s : Bs} (h : AllC word) (hs : s ≠ [] → nameP s = true) : AllC (nmT word s) := by
  unfold nmT
  split
  · exact AllC.nil
  · rename_i h2
    exact (AllC.cons (by decide) h).app (AllC.cons (by decide) (allC_name (hs h2)))
theorem allC_inn {l : Bs} (h : AllC l) : AllC (innT l) := (AllC.cons (by decide) h).app (AllC.dec (by decide))
theorem allC_line {c : ClD} (h : c.sound) : AllC (lineT c) := by
  have h1 : AllC (onT c) := by
    unfold onT
    split
    · exact AllC.dec (by decide)
    · exact allC_pf _ _
  have h2 : AllC (dropT c) := by unfold dropT; split <;> exact AllC.dec (by decide)
  exact allC_inn (((((((((AllC.dec (by decide) : AllC [105, 102, 32]).app h1).app (allC_tags (AllC.dec (by decide)) _)).app (allC_tags (AllC.dec (by decide)) _)).app (AllC.dec (by decide))).app h2).app (allC_tags (AllC.dec (by decide)) _)).app
    (allC_tags (AllC.dec (by decide)) _)).app (allC_num (AllC.dec (by decide)) h.m0) |>.app (allC_num (AllC.dec (by decide)) h.p0))
theorem allC_head {kind name : Bs} (h : AllC kind) (hn : nameP name = true) : AllC (headT kind name) := (h.app (AllC.cons (by decide) (allC_name hn))).app (AllC.dec (by decide))

def mapB (m : MpD) : Bs := headT [109, 97, 112] m.name ++ m.cls.flatMap lineT
def rouB (r : RoD) : Bs := headT [114, 111, 117, 116, 101, 114] r.name ++ r.nets.flatMap netT ++ r.lks.flatMap linkT ++ r.sts.flatMap statT
theorem allC_map {m : MpD} (hs : m.sound) : AllC (mapB m) := (allC_head (AllC.dec (by decide)) hs.n).app (AllC.flat fun c hc => allC_line (hs.c c hc))
theorem allC_rou {r : RoD} (hs : r.sound) : AllC (rouB r) := by
  refine (((allC_head (AllC.dec (by decide)) hs.n).app (AllC.flat fun p hp => ?_)).app (AllC.flat fun l hl => ?_)).app (AllC.flat fun x hx => ?_)
  · exact allC_inn ((AllC.dec (by decide) : AllC [110, 101, 116, 32]).app (allC_pf _ _))
  · have hk := hs.l l hl
    exact allC_inn ((((((AllC.dec (by decide) : AllC [108, 105, 110, 107, 32]).app (allC_name hk.n)).app (AllC.dec (by decide))).app (allC_itoa (by have := hk.c0; omega))).app (allC_nm (AllC.dec (by decide)) hk.i)).app (allC_nm (AllC.dec (by decide)) hk.e))
  · have hk := hs.s x hx
    exact allC_inn ((((AllC.dec (by decide) : AllC [115, 116, 97, 116, 105, 99, 32]).app (allC_pf _ _)).app (AllC.dec (by decide))).app (allC_name hk.n))
/-- A block's body, and its words. -/
structure BlkOk (p : Bs × List Bs) : Prop where
  n : (125 : UInt8) ∉ p.1
  h : ∃ c r, p.1 = c :: r ∧ prtP c = true
  w : Words true (p.1 ++ [125]) p.2
theorem no125 {l : Bs} (h : AllC l) : (125 : UInt8) ∉ l := fun h' => by
  have := h 125 h'
  revert this
  decide
def blocks (c : CfD) : List (Bs × List Bs) := c.maps.map (fun m => (mapB m, mapW m)) ++ c.ros.map fun r => (rouB r, rouW r)
theorem words_close {l : Bs} {ws : List Bs} (h : Words true l ws) : Words true (l ++ [125]) (ws ++ [[125]]) := h.app (words_sgn (c := 125) (by decide)) (.inl rfl)
theorem map_blk {m : MpD} (h : m.sound) : BlkOk (mapB m, mapW m) :=
  ⟨no125 (allC_map h), ⟨109, _, rfl, by decide⟩, words_close ((head_words (by decide) h.n).app (flat_words lineT claW m.cls fun c hc => line_words (h.c c hc)) (.inl rfl))⟩
theorem rou_blk {r : RoD} (h : r.sound) : BlkOk (rouB r, rouW r) :=
  ⟨no125 (allC_rou h), ⟨114, _, rfl, by decide⟩, words_close ((((head_words (by decide) h.n).app (flat_words netT netW r.nets fun p hp => net_words (h.t p hp)) (.inl rfl)).app (flat_words linkT lnkW r.lks fun l hl => link_words (h.l l hl)) (.inl rfl)).app
    (flat_words statT staW r.sts fun s hs => stat_words (h.s s hs)) (.inl rfl))⟩
theorem blocks_ok {c : CfD} (h : c.sound) : ∀ p ∈ blocks c, BlkOk p := by
  intro p hp
  unfold blocks at hp
  rcases List.mem_append.1 hp with hp | hp
  · obtain ⟨m, hm, rfl⟩ := List.mem_map.1 hp
    exact map_blk (h.m m hm)
  · obtain ⟨r, hr, rfl⟩ := List.mem_map.1 hp
    exact rou_blk (h.r r hr)
def textOf (ps : List (Bs × List Bs)) : Bs := ps.flatMap fun p => p.1 ++ [125, 10]
def wordsOf (ps : List (Bs × List Bs)) : List Bs := ps.flatMap (·.2)
theorem blocks_text (c : CfD) : textOf (blocks c) = confT c := by
  unfold textOf blocks confT
  rw [List.flatMap_append, List.flatMap_map, List.flatMap_map]
  rfl
theorem blocks_words (c : CfD) : wordsOf (blocks c) = cfgW c := by
  unfold wordsOf blocks cfgW
  rw [List.flatMap_append, List.flatMap_map, List.flatMap_map]
/-- The first so many maps and routers. -/
def upto (c : CfD) (j : Nat) : CfD := ⟨c.maps.take j, c.ros.take (j - c.maps.length)⟩
theorem upto_sound {c : CfD} (h : c.sound) (j : Nat) : (upto c j).sound :=
  ⟨fun m hm => h.m m (List.mem_of_mem_take hm), fun r hr => h.r r (List.mem_of_mem_take hr), Nat.le_trans (by unfold upto; simp; omega) h.ml, Nat.le_trans (by unfold upto; simp; omega) h.rl⟩
theorem upto_blocks (c : CfD) (j : Nat) : blocks (upto c j) = (blocks c).take j := by
  unfold blocks upto
  rw [List.take_append, List.length_map, List.map_take, List.map_take]
/-- Blocks, one behind the other; the last without its line's end or not. -/
theorem text_words : ∀ (ps : List (Bs × List Bs)), (∀ p ∈ ps, BlkOk p) → Words true (textOf ps) (wordsOf ps)
  | [], _ => Words.nil
  | p :: ps, h => by
    have h1 := ((h p (List.mem_cons_self ..)).w.app (words_blk (c := 10) (by decide)) (.inl rfl)).app (text_words ps fun q hq => h q (List.mem_cons_of_mem _ hq)) (.inl rfl)
    have e : textOf (p :: ps) = p.1 ++ [125] ++ [10] ++ textOf ps := by simp [textOf]
    rw [e]
    have e2 : wordsOf (p :: ps) = p.2 ++ [] ++ wordsOf ps := by simp [wordsOf]
    rw [e2]
    exact h1
/-- Where the end is cut off. -/
theorem cutoff_at : ∀ (ps : List (Bs × List Bs)) (k : Nat), k ≤ (textOf ps).length →
    (∃ j, j ≤ ps.length ∧ (textOf ps).take k = textOf (ps.take j)) ∨ ∃ j, ∃ h : j < ps.length, (textOf ps).take k = textOf (ps.take j) ++ (ps[j].1 ++ [125]) ∨ ∃ r, r ≠ [] ∧ r <+: ps[j].1 ∧ (textOf ps).take k = textOf (ps.take j) ++ r
  | [], k, _ => .inl ⟨0, Nat.le_refl _, by simp [textOf]⟩
  | p :: ps, k, hk => by
    have e : textOf (p :: ps) = (p.1 ++ [125, 10]) ++ textOf ps := rfl
    have hlen : (textOf (p :: ps)).length = p.1.length + 2 + (textOf ps).length := by rw [e]; simp; omega
    by_cases h1 : p.1.length + 2 ≤ k
    · have ht : (textOf (p :: ps)).take k = (p.1 ++ [125, 10]) ++ (textOf ps).take (k - (p.1.length + 2)) := by
        rw [e, List.take_append, List.take_of_length_le (by simp; omega)]
        simp
      rcases cutoff_at ps (k - (p.1.length + 2)) (by omega) with ⟨j, hj, h2⟩ | ⟨j, hj, h2⟩
      · exact .inl ⟨j + 1, by simpa using hj, by rw [ht, h2]; rfl⟩
      · refine .inr ⟨j + 1, by simpa using hj, ?_⟩
        rcases h2 with h2 | ⟨r, hr0, hr, h2⟩
        · exact .inl (by rw [ht, h2]; simp [textOf])
        · exact .inr ⟨r, hr0, hr, by rw [ht, h2]; simp [textOf]⟩
    · have ht : (textOf (p :: ps)).take k = (p.1 ++ [125]).take k := by
        have e3 : textOf (p :: ps) = (p.1 ++ [125]) ++ ([10] ++ textOf ps) := by rw [e]; simp
        rw [e3, List.take_append_of_le_length (by simp; omega)]
      by_cases h0 : k = 0
      · subst h0
        exact .inl ⟨0, Nat.zero_le _, by simp [textOf]⟩
      · refine .inr ⟨0, by simp, ?_⟩
        by_cases h2 : k = p.1.length + 1
        · exact .inl (by rw [ht, h2, List.take_of_length_le (by simp)]; simp [textOf])
        · refine .inr ⟨p.1.take k, ?_, List.take_prefix _ _, ?_⟩
          · intro h
            have := congrArg List.length h
            rw [List.length_take] at this
            simp at this
            rcases this with h' | h'
            · exact h0 h'
            · rw [h'] at h1 h2
              simp at h1 h2
              omega
          · rw [ht, List.take_append_of_le_length (by omega)]
            simp [textOf]
/-- A token's letters are the text's. -/
theorem toks_sub : ∀ (n : Nat) (l : Bs), l.length ≤ n → ∀ k i ts, toks l k i = .inr ts → ∀ t ∈ ts, ∀ c ∈ t.text, c ∈ l
  | n, [], _, k, i, ts, h => by
    rw [toks] at h
    cases h
    intro t ht c hc
    rw [List.mem_singleton] at ht
    subst ht
    cases hc
  | 0, c :: r, hn, _, _, _, _ => by simp at hn
  | n + 1, c :: r, hn, k + 1, i, ts, h => by
    rw [toks] at h
    intro t ht x hx
    exact List.mem_cons_of_mem _ (toks_sub n r (by simpa using hn) k (i + 1) ts h t ht x hx)
  | n + 1, c :: r, hn, 0, i, ts, h => by
    have hrn : r.length ≤ n := by simpa using hn
    have step : ∀ k, toks r k (i + 1) = .inr ts → ∀ t ∈ ts, ∀ x ∈ t.text, x ∈ c :: r := fun k h' t ht x hx => List.mem_cons_of_mem _ (toks_sub n r hrn k (i + 1) ts h' t ht x hx)
    have add : ∀ (t : Tk) k, (∀ x ∈ t.text, x ∈ c :: r) → addT [t] (toks r k (i + 1)) = .inr ts → ∀ t ∈ ts, ∀ x ∈ t.text, x ∈ c :: r := by
      intro t k ht h'
      cases hq : toks r k (i + 1) with
      | inl x => rw [hq] at h'; cases h'
      | inr us =>
        rw [hq] at h'
        cases h'
        intro u hu x hx
        rcases List.mem_cons.1 hu with rfl | hu
        · exact ht x hx
        · exact List.mem_cons_of_mem _ (toks_sub n r hrn k (i + 1) us hq u hu x hx)
    rw [toks] at h
    split at h
    · exact step 0 h
    · split at h
      · exact step _ h
      · split at h
        · exact add _ 0 (fun x hx => by rw [List.mem_singleton] at hx; subst hx; exact List.mem_cons_self ..) h
        · split at h
          · cases h
          · rename_i q hq
            exact add (atT q i) _ (fun x hx => by
              have e := piece_text hq
              have hx' : x ∈ q.text := hx
              rw [e] at hx'
              exact List.mem_of_mem_take hx') h
/-- Blocks, and the beginning of one: not read. -/
theorem cut_bad {ps : List (Bs × List Bs)} (hp : ∀ p ∈ ps, BlkOk p) {b r : Bs} (hb : (125 : UInt8) ∉ b) (hh : ∃ c s, b = c :: s ∧ prtP c = true) (hr : r <+: b) (hr0 : r ≠ []) : ∀ d, readP (textOf ps ++ r) ≠ .inr d := by
  intro d h
  obtain ⟨_, _, us, ht, hu⟩ := read_ok h
  obtain ⟨wo, e1, hL⟩ := text_words ps hp
  rw [hL r 0 (.inl rfl)] at ht
  have hr125 : (125 : UInt8) ∉ r := fun h => hb (hr.subset h)
  obtain ⟨c, s, hcs, hc⟩ : ∃ c s, r = c :: s ∧ prtP c = true := by
    obtain ⟨c, s, rfl, hc⟩ := hh
    cases r with
    | nil => exact absurd rfl hr0
    | cons x y =>
      obtain ⟨z, hz⟩ := hr
      injection hz with hz _
      exact ⟨x, y, rfl, by rw [hz]; exact hc⟩
  cases hq : toks r 0 (0 + (textOf ps).length) with
  | inl x => rw [hq] at ht; cases ht
  | inr ts =>
    rw [hq] at ht
    have ht' : wo.map (tkAt 0) ++ ts = us ++ [endT (textOf ps ++ r).length] := Sum.inr.inj ht
    obtain ⟨vs, e2, hv⟩ := toks_wf _ r (Nat.le_refl _) 0 _ ts hq
    have hsub := toks_sub _ r (Nat.le_refl _) 0 _ ts hq
    have hv0 : vs ≠ [] := by
      intro h0
      obtain ⟨p1, p2, p3⟩ := prt_not hc
      rw [hcs, toks, if_neg (by rw [p1]; simp), if_neg p2, if_neg (by rw [p3]; simp)] at hq
      split at hq
      · cases hq
      · cases hx : toks s (spanN prtP (c :: s) - 1) (0 + (textOf ps).length + 1) with
        | inl x => rw [hx] at hq; cases hq
        | inr zs =>
          rw [hx] at hq
          have hz := Sum.inr.inj hq
          obtain ⟨ws, e3, _⟩ := toks_wf _ s (Nat.le_refl _) _ _ zs hx
          rw [e2, h0, e3] at hz
          have := congrArg List.length hz
          simp at this
    obtain ⟨v, vl, rfl⟩ : ∃ v vl, vs = v ++ [vl] := ⟨vs.dropLast, vs.getLast hv0, (List.dropLast_concat_getLast hv0).symm⟩
    have e4 : us = wo.map (tkAt 0) ++ v ++ [vl] := by
      rw [e2] at ht'
      have h5 : (wo.map (tkAt 0) ++ v ++ [vl]) ++ [endT (0 + (textOf ps).length + r.length)] = us ++ [endT (textOf ps ++ r).length] := by rw [← ht']; simp
      exact (List.append_inj' h5 rfl).1.symm
    rcases hu with hu | ⟨xs, u, hu, hu2⟩
    · rw [e4] at hu
      simp at hu
    · rw [e4] at hu
      have h6 := (List.append_inj' hu rfl).2
      injection h6 with h6 _
      subst h6
      exact hr125 (hsub vl (by rw [e2]; simp) 125 (by rw [hu2]; exact List.mem_singleton.2 rfl))
/-- Words of a sound configuration, from its own text or another one. -/
theorem words_read {c : CfD} (hc : c.sound) {l : Bs} (h : Words true l (cfgW c)) (hl : l.length ≤ 65536) : ∃ d, readP l = .inr d := by
  obtain ⟨wo, e1, e2⟩ := h.toks
  have hT : Tl (cfgW c) [endT l.length] (wo.map (tkAt 0) ++ [endT l.length]) := ⟨_, rfl, by rw [← e1]; exact relL_at 0 wo⟩
  obtain ⟨c', h1, _⟩ := rd_cfg hc ⟨rfl, rfl⟩ hT
  refine ⟨c', ?_⟩
  unfold readP
  rw [if_neg (by omega), e2]
  simp only [h1]
/-- Nothing but whole maps and routers is left. -/
def wholeP (p : Bs) : Prop := p = [] ∨ (∃ q, p = q ++ [125]) ∨ ∃ q, p = q ++ [125, 10]
theorem cut_read {c : CfD} (hc : c.sound) (hl : (confT c).length ≤ 65536) {k : Nat} (hk : k ≤ (confT c).length) : (∃ d, readP ((confT c).take k) = .inr d) ↔ wholeP ((confT c).take k) := by
  have hB := blocks_ok hc
  have hlen : ((confT c).take k).length ≤ 65536 := by rw [List.length_take]; omega
  have hsub : ∀ j, ∀ p ∈ (blocks c).take j, BlkOk p := fun j p hp => hB p (List.mem_of_mem_take hp)
  have hcut := cutoff_at (blocks c) k (by rw [blocks_text]; exact hk)
  rw [blocks_text] at hcut
  rcases hcut with ⟨j, hj, h1⟩ | ⟨j, hj, h1 | ⟨r, hr0, hr, h1⟩⟩
  · refine ⟨fun _ => ?_, fun _ => ?_⟩
    · rw [h1]
      rcases List.eq_nil_or_concat ((blocks c).take j) with h0 | ⟨ps, p, h0⟩
      · rw [h0]; exact .inl rfl
      · refine .inr (.inr ⟨textOf ps ++ p.1, ?_⟩)
        rw [h0]
        simp [textOf]
    · refine words_read (upto_sound hc j) ?_ hlen
      rw [h1, ← blocks_words, upto_blocks]
      exact text_words _ (hsub j)
  · refine ⟨fun _ => .inr (.inl ⟨textOf ((blocks c).take j) ++ (blocks c)[j].1, by rw [h1]; simp⟩), fun _ => ?_⟩
    refine words_read (upto_sound hc (j + 1)) ?_ hlen
    have e : wordsOf ((blocks c).take (j + 1)) = wordsOf ((blocks c).take j) ++ (blocks c)[j].2 := by
      unfold wordsOf
      rw [List.take_succ_eq_append_getElem hj, List.flatMap_append, List.flatMap_singleton]
    rw [h1, ← blocks_words, upto_blocks, e]
    exact (text_words _ (hsub j)).app (hB _ (List.getElem_mem hj)).w (.inl rfl)
  · have hb := hB _ (List.getElem_mem hj)
    refine ⟨fun ⟨d, h⟩ => ?_, fun h => ?_⟩
    · rw [h1] at h
      exact absurd h (cut_bad (hsub j) hb.n hb.h hr hr0 d)
    · exfalso
      have hr125 : (125 : UInt8) ∉ r := fun h => hb.n (hr.subset h)
      obtain ⟨c0, s0, hcs, hc0⟩ : ∃ c s, r = c :: s ∧ prtP c = true := by
        obtain ⟨c, s, hcs, hc⟩ := hb.h
        cases r with
        | nil => exact absurd rfl hr0
        | cons x y =>
          obtain ⟨z, hz⟩ := hr
          rw [hcs] at hz
          injection hz with hz _
          exact ⟨x, y, rfl, by rw [hz]; exact hc⟩
      obtain ⟨v, vl, hv⟩ : ∃ v vl, r = v ++ [vl] := ⟨r.dropLast, r.getLast hr0, (List.dropLast_concat_getLast hr0).symm⟩
      rw [h1] at h
      rcases h with h | ⟨q, h⟩ | ⟨q, h⟩
      · rw [hv] at h
        simp at h
      · rw [hv, ← List.append_assoc] at h
        have h6 := (List.append_inj' h rfl).2
        injection h6 with h6 _
        exact hr125 (by rw [hv, h6]; simp)
      · have h7 : q ++ [125, 10] = (q ++ [125]) ++ [10] := by simp
        rw [hv, ← List.append_assoc, h7] at h
        have h6 := (List.append_inj' h rfl).2
        have h8 := (List.append_inj' h rfl).1
        injection h6 with h6 _
        cases v with
        | nil =>
          rw [hcs, h6] at hv
          injection hv with hv _
          rw [hv] at hc0
          revert hc0
          decide
        | cons x y =>
          obtain ⟨y', yl, hy⟩ : ∃ v vl, x :: y = v ++ [vl] := ⟨(x :: y).dropLast, (x :: y).getLast (by simp), (List.dropLast_concat_getLast (by simp)).symm⟩
          rw [hy, ← List.append_assoc] at h8
          have h9 := (List.append_inj' h8 rfl).2
          injection h9 with h9 _
          exact hr125 (by rw [hv, hy, h9]; simp)
end Go.Proofs.YtejhgifadohbiaaDoor
namespace Go.Proofs.YtejhgifadohbiaaDoor
open Go.Lib

def nbHead : Bs := [109, 97, 112, 32, 109, 32, 123, 32, 105, 102, 32, 97, 110, 121, 32, 119, 105, 116, 104, 32]
def nbThen : Bs := [32, 116, 104, 101, 110, 32, 109, 111, 114, 101, 32]
def nbPref : Bs := [32, 112, 114, 101, 102, 32]
def nbRout : Bs := [59, 32, 125, 32, 114, 111, 117, 116, 101, 114, 32, 114, 32, 123, 32, 108, 105, 110, 107, 32, 113, 32, 99, 111, 115, 116, 32]
def nbEnd : Bs := [59, 32, 125]
def nbText (x y m p c : Nat) : Bs := nbHead ++ decDigits x ++ [32] ++ decDigits y ++ nbThen ++ decDigits m ++ nbPref ++ decDigits p ++ nbRout ++ decDigits c ++ nbEnd
theorem lays_name {x : Bs} (h : nameP x = true) : Lays false x [(x, 0)] := lays_pc (name_prt h) (show pieceP x = some _ by unfold pieceP; rw [if_pos h])
theorem lays_num {n : Nat} (h : n < 1000000) : Lays false (decDigits n) [(decDigits n, 0)] := by
  refine lays_pc (q := ⟨2, decDigits n, n, 0, 0, 0⟩) (fun c hc => dig_prt (dec_dig n c hc)) ?_
  rw [piece_digs (dec_dig n), tn_dec h]
  rfl
/-- A word, a blank behind it. -/
theorem lays_wd {x : Bs} (h : nameP x = true) : Lays true (x ++ [32]) [(x, 0)] := (lays_name h).app (lays_blk (c := 32) (by decide)) (.inr ⟨by show prtP 32 = false; decide, .inr (by simp)⟩)
theorem lays_sg {c : UInt8} (h : sgnP c = true) : Lays true [c, 32] [([c], 0)] := (lays_sgn h).app (lays_blk (c := 32) (by decide)) (.inl rfl)
theorem nb_head : Lays true nbHead [([109, 97, 112], 0), ([109], 4), ([123], 6), ([105, 102], 8), ([97, 110, 121], 11), ([119, 105, 116, 104], 15)] :=
  (((((lays_wd (x := [109, 97, 112]) (by decide)).app (lays_wd (x := [109]) (by decide)) (.inl rfl)).app (lays_sg (c := 123) (by decide)) (.inl rfl)).app (lays_wd (x := [105, 102]) (by decide)) (.inl rfl)).app
    (lays_wd (x := [97, 110, 121]) (by decide)) (.inl rfl)).app (lays_wd (x := [119, 105, 116, 104]) (by decide)) (.inl rfl)
theorem nb_then : Lays true nbThen [([116, 104, 101, 110], 1), ([109, 111, 114, 101], 6)] :=
  ((lays_blk (c := 32) (by decide)).app (lays_wd (x := [116, 104, 101, 110]) (by decide)) (.inl rfl)).app (lays_wd (x := [109, 111, 114, 101]) (by decide)) (.inl rfl)
theorem nb_pref : Lays true nbPref [([112, 114, 101, 102], 1)] := (lays_blk (c := 32) (by decide)).app (lays_wd (x := [112, 114, 101, 102]) (by decide)) (.inl rfl)
theorem nb_rout : Lays true nbRout [([59], 0), ([125], 2), ([114, 111, 117, 116, 101, 114], 4), ([114], 11), ([123], 13), ([108, 105, 110, 107], 15), ([113], 20), ([99, 111, 115, 116], 22)] :=
  (((((((lays_sg (c := 59) (by decide)).app (lays_sg (c := 125) (by decide)) (.inl rfl)).app (lays_wd (x := [114, 111, 117, 116, 101, 114]) (by decide)) (.inl rfl)).app (lays_wd (x := [114]) (by decide)) (.inl rfl)).app (lays_sg (c := 123) (by decide)) (.inl rfl)).app
    (lays_wd (x := [108, 105, 110, 107]) (by decide)) (.inl rfl)).app (lays_wd (x := [113]) (by decide)) (.inl rfl)).app (lays_wd (x := [99, 111, 115, 116]) (by decide)) (.inl rfl)
theorem nb_end : Lays true nbEnd [([59], 0), ([125], 2)] := (lays_sg (c := 59) (by decide)).app (lays_sgn (c := 125) (by decide)) (.inl rfl)
def nm (x : Bs) (p : Nat) : Tk := ⟨1, x, 0, 0, 0, p⟩
def sg (c : UInt8) (p : Nat) : Tk := ⟨4, [c], 0, 0, 0, p⟩
def nr (n p : Nat) : Tk := ⟨2, decDigits n, n, 0, 0, p⟩
theorem at_nm {x : Bs} (h : nameP x = true) (p : Nat) : tkAt 0 (x, p) = nm x p := by
  show atT (tk0 x) (0 + p) = _
  rw [tok_name h, Nat.zero_add]
  rfl
theorem at_sg {c : UInt8} (h : sgnP c = true) (p : Nat) : tkAt 0 ([c], p) = sg c p := by
  show atT (tk0 [c]) (0 + p) = _
  rw [tok_sgn h, Nat.zero_add]
  rfl
theorem at_nr {n : Nat} (h : n < 1000000) (p : Nat) : tkAt 0 (decDigits n, p) = nr n p := by
  show atT (tk0 (decDigits n)) (0 + p) = _
  rw [tok_num h, Nat.zero_add]
  rfl
/-- Its tokens. -/
def nbTks (x y m p c lm lp lc : Nat) : List Tk :=
  [nm [109, 97, 112] 0, nm [109] 4, sg 123 6, nm [105, 102] 8, nm [97, 110, 121] 11, nm [119, 105, 116, 104] 15, nr x 20, nr y 22, nm [116, 104, 101, 110] 24, nm [109, 111, 114, 101] 29, nr m 34, nm [112, 114, 101, 102] (35 + lm), nr p (40 + lm),
    sg 59 (40 + lm + lp), sg 125 (42 + lm + lp), nm [114, 111, 117, 116, 101, 114] (44 + lm + lp), nm [114] (51 + lm + lp), sg 123 (53 + lm + lp), nm [108, 105, 110, 107] (55 + lm + lp), nm [113] (60 + lm + lp), nm [99, 111, 115, 116] (62 + lm + lp),
    nr c (67 + lm + lp), sg 59 (67 + lm + lp + lc), sg 125 (69 + lm + lp + lc), endT (70 + lm + lp + lc)]
theorem nb_toks {x y m p c : Nat} (hx : x < 10) (hy : y < 10) (hm : m < 1000) (hp : p < 1000) (hc : c < 10000) : toks (nbText x y m p c) 0 0 = .inr (nbTks x y m p c (decDigits m).length (decDigits p).length (decDigits c).length) := by
  have hdx : (decDigits x).length = 1 := by rw [decDigits_one hx]; rfl
  have hdy : (decDigits y).length = 1 := by rw [decDigits_one hy]; rfl
  have L1 := nb_head.app (lays_num (n := x) (by omega)) (.inl rfl)
  have L2 := L1.app (lays_blk (c := 32) (by decide)) (.inr ⟨by show prtP 32 = false; decide, .inr (by simp)⟩)
  have L3 := L2.app (lays_num (n := y) (by omega)) (.inl rfl)
  have L4 := L3.app nb_then (.inr ⟨by show prtP 32 = false; decide, .inr (by simp [nbThen])⟩)
  have L5 := L4.app (lays_num (n := m) (by omega)) (.inl rfl)
  have L6 := L5.app nb_pref (.inr ⟨by show prtP 32 = false; decide, .inr (by simp [nbPref])⟩)
  have L7 := L6.app (lays_num (n := p) (by omega)) (.inl rfl)
  have L8 := L7.app nb_rout (.inr ⟨by show prtP 59 = false; decide, .inr (by simp [nbRout])⟩)
  have L9 := L8.app (lays_num (n := c) (by omega)) (.inl rfl)
  have L10 := L9.app nb_end (.inr ⟨by show prtP 59 = false; decide, .inr (by simp [nbEnd])⟩)
  have := L10 [] 0 (.inl rfl)
  rw [List.append_nil] at this
  unfold nbText
  rw [this]
  have e1 : nbHead.length = 20 := rfl
  have e2 : nbThen.length = 11 := rfl
  have e3 : nbPref.length = 6 := rfl
  have e4 : nbRout.length = 27 := rfl
  have e5 : nbEnd.length = 3 := rfl
  simp only [List.map_cons, List.map_nil, List.cons_append, List.nil_append, List.length_append, List.length_cons, List.length_nil, hdx, hdy, e1, e2, e3, e4, e5, at_nr (show x < 1000000 by omega), at_nr (show y < 1000000 by omega),
    at_nr (show m < 1000000 by omega), at_nr (show p < 1000000 by omega), at_nr (show c < 1000000 by omega), at_nm (x := [109, 97, 112]) (by decide), at_nm (x := [109]) (by decide), at_sg (c := 123) (by decide), at_nm (x := [105, 102]) (by decide),
    at_nm (x := [97, 110, 121]) (by decide), at_nm (x := [119, 105, 116, 104]) (by decide), at_nm (x := [116, 104, 101, 110]) (by decide), at_nm (x := [109, 111, 114, 101]) (by decide), at_nm (x := [112, 114, 101, 102]) (by decide), at_sg (c := 59) (by decide), at_sg (c := 125) (by decide),
    at_nm (x := [114, 111, 117, 116, 101, 114]) (by decide), at_nm (x := [114]) (by decide), at_nm (x := [108, 105, 110, 107]) (by decide), at_nm (x := [113]) (by decide), at_nm (x := [99, 111, 115, 116]) (by decide)]
  generalize (decDigits m).length = lm, (decDigits p).length = lp, (decDigits c).length = lc
  rw [toks]
  unfold nbTks
  simp only [addT, List.cons_append, List.nil_append]
  simp [nm, sg, nr, endT]
  omega
theorem andR_no {α β : Type} {x : Res α} {f : α → List Tk → Res β} {e : Nat × Nat} (h : x = .inl e) : andR x f = .inl e := by rw [h]; rfl
section
variable {β : Type} {w : Bs} {t : Tk} {r : List Tk}
theorem andV {α : Type} {a : α} {f : α → List Tk → Res β} : andR (.inr (a, r)) f = f a r := rfl
theorem andW {f : Nat → List Tk → Res β} (h : t.text = w) : andR (wordR w (t :: r)) f = f t.pl r := andR_ok (if_pos h)
theorem andN {f : Bs → List Tk → Res β} (h : t.kind = 1) : andR (nameR (t :: r)) f = f t.text r := andR_ok (if_pos h)
theorem andAny {f : Bool × Nat × Int → List Tk → Res β} (h : t.text = [97, 110, 121]) : andR (onR (t :: r)) f = f (true, 0, 0) r := andR_ok (if_pos h)
theorem andT0 {f : Nat → List Tk → Res β} (h : ¬ t.text = w) : andR (optT w (t :: r)) f = f 0 (t :: r) := andR_ok (if_neg h)
theorem andB0 {f : Bool → List Tk → Res β} (h : ¬ t.text = w) : andR (optB w (t :: r)) f = f false (t :: r) := andR_ok (if_neg h)
theorem andS0 {f : Bs → List Tk → Res β} (h : ¬ t.text = w) : andR (optS w (t :: r)) f = f [] (t :: r) := andR_ok (if_neg h)
theorem andM0 {α : Type} {g : List Tk → Res α} {n : Nat} {f : List α → List Tk → Res β} (h : ¬ t.text = w) : andR (manyR w g n (t :: r)) f = f [] (t :: r) := andR_ok (by cases n <;> rw [manyR, if_neg h])
theorem andM1 {α : Type} {g : List Tk → Res α} {n : Nat} {f : List α → List Tk → Res β} (h : t.text = w) : andR (manyR w g (n + 1) (t :: r)) f = andR (g (t :: r)) fun c r => andR (manyR w g n r) fun cs r => f (c :: cs) r := by
  rw [manyR, if_pos h]
  cases hg : g (t :: r) with
  | inl e => rfl
  | inr p =>
    show andR (andR (manyR w g n p.2) _) f = andR (manyR w g n p.2) _
    cases manyR w g n p.2 <;> rfl
theorem andC0 {n : Nat} {f : List ClD → List Tk → Res β} (h : t.text = [125]) : andR (clasR n (t :: r)) f = f [] (t :: r) := andR_ok (by cases n <;> rw [clasR, if_pos h])
theorem andC1 {n : Nat} {f : List ClD → List Tk → Res β} (h : ¬ t.text = [125]) : andR (clasR (n + 1) (t :: r)) f = andR (claR (t :: r)) fun c r => andR (clasR n r) fun cs r => f (c :: cs) r := by
  rw [clasR, if_neg h]
  cases hg : claR (t :: r) with
  | inl e => rfl
  | inr p =>
    show andR (andR (clasR n p.2) _) f = andR (clasR n p.2) _
    cases clasR n p.2 <;> rfl
theorem andQ {most : Nat} {f : Int → List Tk → Res β} (h : t.kind = 2) : andR (nbrR most (t :: r)) f = if 1 ≤ t.val ∧ t.val ≤ most then f t.val r else .inl (6, t.pl) := by
  rw [nbrR, if_pos h]
  split <;> rfl
theorem andO {most : Nat} {u : Tk} {f : Int → List Tk → Res β} (h : t.text = w) (hk : u.kind = 2) : andR (optN w most (t :: u :: r)) f = if 1 ≤ u.val ∧ u.val ≤ most then f u.val r else .inl (6, u.pl) := by
  rw [optN, if_pos h]
  exact andQ hk
theorem andT2 {u v : Tk} {f : Nat → List Tk → Res β} (h : t.text = w) (h1 : u.kind = 2) (h2 : v.kind = 2) {z : Tk} (h3 : ¬ z.kind = 2) :
    andR (optT w (t :: u :: v :: z :: r)) f = if 3 < u.val then .inl (6, u.pl) else if 3 < v.val then .inl (6, v.pl) else if v.val < u.val + 1 then .inl (4, v.pl) else f (0 + 2 ^ u.val + 2 ^ v.val) (z :: r) := by
  rw [optT, if_pos h, tag1, if_pos h1, tagsR, if_pos h1]
  split
  · rfl
  rw [if_neg (Nat.not_lt_zero _), tagsR, if_pos h2]
  split
  · rfl
  split
  · rfl
  rw [tagsR, if_neg h3]
  rfl
end
/-- What is read of it. -/
def nbSaid (x y m p c lm lp : Nat) : Option (Nat × Nat) :=
  if 3 < x then some (6, 20) else if 3 < y then some (6, 22) else if y < x + 1 then some (4, 22) else if 1 ≤ m ∧ m ≤ 15 then (if 1 ≤ p ∧ p ≤ 255 then (if 1 ≤ c ∧ c ≤ 1000 then none else some (6, 67 + lm + lp)) else some (6, 40 + lm)) else some (6, 34)
def nbRes (o : Option (Nat × Nat)) (d : CfD) : Res CfD := match o with
  | some e => .inl e
  | none => .inr (d, [])
theorem nb_cfg (x y m p c lm lp lc : Nat) : ∃ d, cfgR (nbTks x y m p c lm lp lc) = nbRes (nbSaid x y m p c lm lp) d := by
  refine ⟨⟨[⟨[109], [⟨true, 0, 0, 0 + 2 ^ x + 2 ^ y, 0, false, 0, 0, m, p⟩], 0⟩], [⟨[114], [], [⟨[113], c, [], [], ((55 + lm + lp : Nat) : Int)⟩], [], ((44 + lm + lp : Nat) : Int)⟩]⟩, ?_⟩
  unfold cfgR nbTks
  refine Eq.trans (andM1 rfl) ?_
  unfold mapR
  refine Eq.trans (congrArg (fun z => andR z _) (Eq.trans (andW rfl) (Eq.trans (andN rfl) (Eq.trans (andW rfl) (Eq.trans (andC1 (by show ¬ ([105, 102] : Bs) = [125]; decide)) rfl))))) ?_
  unfold claR
  refine Eq.trans (congrArg (fun z => andR (andR z _) _) (Eq.trans (andW rfl) (Eq.trans (andAny rfl) (andT2 rfl rfl rfl (by show ¬ (1 : Nat) = 2; decide))))) ?_
  unfold nbSaid
  by_cases h1 : 3 < x
  · rw [if_pos h1]
    show andR (andR (if 3 < x then _ else _) _) _ = _
    rw [if_pos h1]
    rfl
  rw [if_neg h1]
  show andR (andR (if 3 < x then _ else _) _) _ = _
  rw [if_neg h1]
  by_cases h2 : 3 < y
  · rw [if_pos h2]
    show andR (andR (if 3 < y then _ else _) _) _ = _
    rw [if_pos h2]
    rfl
  rw [if_neg h2]
  show andR (andR (if 3 < y then _ else _) _) _ = _
  rw [if_neg h2]
  by_cases h3 : y < x + 1
  · rw [if_pos h3]
    show andR (andR (if y < x + 1 then _ else _) _) _ = _
    rw [if_pos h3]
    rfl
  rw [if_neg h3]
  show andR (andR (if y < x + 1 then _ else _) _) _ = _
  rw [if_neg h3]
  refine Eq.trans (congrArg (fun z => andR (andR z _) _) (Eq.trans (andT0 (by show ¬ ([116, 104, 101, 110] : Bs) = [111, 117, 116]; decide)) (Eq.trans (andW rfl) (Eq.trans (andB0 (by show ¬ ([109, 111, 114, 101] : Bs) = [100, 114, 111, 112]; decide))
    (Eq.trans (andT0 (by show ¬ ([109, 111, 114, 101] : Bs) = [115, 101, 116]; decide)) (Eq.trans (andT0 (by show ¬ ([109, 111, 114, 101] : Bs) = [99, 108, 101, 97, 114]; decide)) (andO rfl rfl))))))) ?_
  by_cases h4 : 1 ≤ m ∧ m ≤ 15
  · rw [if_pos h4]
    show andR (andR (if 1 ≤ m ∧ m ≤ 15 then _ else _) _) _ = _
    rw [if_pos h4]
    refine Eq.trans (congrArg (fun z => andR (andR z _) _) (andO rfl rfl)) ?_
    by_cases h5 : 1 ≤ p ∧ p ≤ 255
    · rw [if_pos h5]
      show andR (andR (if 1 ≤ p ∧ p ≤ 255 then _ else _) _) _ = _
      rw [if_pos h5]
      refine Eq.trans (congrArg (fun z => andR (andR z _) _) (andW rfl)) ?_
      refine Eq.trans (congrArg (fun z => andR z _) (Eq.trans andV (Eq.trans (andC0 rfl) (andW rfl)))) ?_
      refine Eq.trans andV ?_
      refine Eq.trans (andM0 (by show ¬ ([114, 111, 117, 116, 101, 114] : Bs) = [109, 97, 112]; decide)) ?_
      refine Eq.trans (andM1 rfl) ?_
      unfold rouR
      refine Eq.trans (congrArg (fun z => andR z _) (Eq.trans (andW rfl) (Eq.trans (andN rfl) (Eq.trans (andW rfl) (Eq.trans (andM0 (by show ¬ ([108, 105, 110, 107] : Bs) = [110, 101, 116]; decide)) (Eq.trans (andM1 rfl) rfl)))))) ?_
      unfold lnkR
      refine Eq.trans (congrArg (fun z => andR (andR z _) _) (Eq.trans (andW rfl) (Eq.trans (andN rfl) (Eq.trans (andW rfl) (andQ rfl))))) ?_
      by_cases h6 : 1 ≤ c ∧ c ≤ 1000
      · rw [if_pos h6]
        show andR (andR (if 1 ≤ c ∧ c ≤ 1000 then _ else _) _) _ = _
        rw [if_pos h6]
        refine Eq.trans (congrArg (fun z => andR (andR z _) _) (Eq.trans (andS0 (by show ¬ ([59] : Bs) = [105, 109, 112, 111, 114, 116]; decide)) (Eq.trans (andS0 (by show ¬ ([59] : Bs) = [101, 120, 112, 111, 114, 116]; decide)) (andW rfl)))) ?_
        refine Eq.trans (congrArg (fun z => andR z _) (Eq.trans andV (Eq.trans (andM0 (by show ¬ ([125] : Bs) = [108, 105, 110, 107]; decide)) (Eq.trans (andM0 (by show ¬ ([125] : Bs) = [115, 116, 97, 116, 105, 99]; decide)) (andW rfl))))) ?_
        refine Eq.trans andV ?_
        refine Eq.trans (andM0 (by show ¬ ([] : Bs) = [114, 111, 117, 116, 101, 114]; decide)) ?_
        rfl
      · rw [if_neg h6]
        show andR (andR (if 1 ≤ c ∧ c ≤ 1000 then _ else _) _) _ = _
        rw [if_neg h6]
        rfl
    · rw [if_neg h5]
      show andR (andR (if 1 ≤ p ∧ p ≤ 255 then _ else _) _) _ = _
      rw [if_neg h5]
      rfl
  · rw [if_neg h4]
    show andR (andR (if 1 ≤ m ∧ m ≤ 15 then _ else _) _) _ = _
    rw [if_neg h4]
    rfl
theorem nb_len {x y m p c : Nat} (hx : x < 10) (hy : y < 10) (hm : m < 1000) (hp : p < 1000) (hc : c < 10000) : (nbText x y m p c).length ≤ 100 := by
  have h1 : (decDigits x).length = 1 := by rw [decDigits_one hx]; rfl
  have h2 : (decDigits y).length = 1 := by rw [decDigits_one hy]; rfl
  have h3 := dig_len 2 m (by omega)
  have h4 := dig_len 2 p (by omega)
  have h5 := dig_len 3 c (by omega)
  unfold nbText
  simp only [List.length_append, h1, h2, nbHead, nbThen, nbPref, nbRout, nbEnd, List.length_cons, List.length_nil]
  omega
/-- What is read of the text. -/
theorem nb_read {x y m p c : Nat} (hx : x < 10) (hy : y < 10) (hm : m < 1000) (hp : p < 1000) (hc : c < 10000) :
    match nbSaid x y m p c (decDigits m).length (decDigits p).length with
    | some e => readP (nbText x y m p c) = .inl e
    | none => ∃ d, readP (nbText x y m p c) = .inr d := by
  obtain ⟨d, h⟩ := nb_cfg x y m p c (decDigits m).length (decDigits p).length (decDigits c).length
  have hl := nb_len hx hy hm hp hc
  unfold readP
  rw [if_neg (by omega), nb_toks hx hy hm hp hc]
  simp only [h]
  cases nbSaid x y m p c (decDigits m).length (decDigits p).length with
  | some e => rfl
  | none => exact ⟨d, rfl⟩
end Go.Proofs.YtejhgifadohbiaaDoor
namespace Go.Proofs.YtejhgifadohbiaaDoor
open Go.Lib

def rep (n : Nat) (x : Bs) : Bs := (List.replicate n x).flatten
theorem rep_next (n : Nat) (x : Bs) : rep (n + 1) x = rep n x ++ x := by
  unfold rep
  rw [List.replicate_succ', List.flatten_append]
  simp
def liMap : Bs := [109, 97, 112, 32, 109, 32, 123, 32]
def liCla : Bs := [105, 102, 32, 97, 110, 121, 32, 116, 104, 101, 110, 59, 32]
def liRou : Bs := [114, 111, 117, 116, 101, 114, 32, 114, 32, 123, 32]
def liNet : Bs := [110, 101, 116, 32, 49, 48, 46, 48, 46, 48, 46, 48, 47, 56, 59, 32]
def liEnd : Bs := [125, 32]
/-- So many things, the first with so many within. -/
def liMany (hd x : Bs) (k : Nat) : Nat → Bs
  | 0 => []
  | n + 1 => hd ++ rep k x ++ liEnd ++ rep n (hd ++ liEnd)
theorem li_next (hd x : Bs) (k : Nat) : ∀ n, liMany hd x k (n + 1) = liMany hd x k n ++ (hd ++ (if n = 0 then rep k x else []) ++ liEnd)
  | 0 => by simp [liMany, rep]
  | n + 1 => by
    rw [if_neg (by omega)]
    show hd ++ rep k x ++ liEnd ++ rep (n + 1) (hd ++ liEnd) = _
    rw [rep_next]
    simp [liMany]
def liText (m k r n : Nat) : Bs := liMany liMap liCla k m ++ liMany liRou liNet n r
/-- The clause, the net. -/
def cla0 : ClD := ⟨true, 0, 0, 0, 0, false, 0, 0, 0, 0⟩
def net0 : Nat × Int := (167772160, 8)
theorem cla0_sound : cla0.sound := ⟨(fun h => by cases h), by decide, by decide, by decide, by decide⟩
theorem net0_may : mayP net0.1 net0.2 = true ∧ net0.1 < 4294967296 := by decide
def map0 (k : Nat) : MpD := ⟨[109], List.replicate k cla0, 0⟩
def rou0 (n : Nat) : RoD := ⟨[114], List.replicate n net0, [], [], 0⟩
def liConf (m k r n : Nat) : CfD := ⟨map0 k :: List.replicate (m - 1) (map0 0), rou0 n :: List.replicate (r - 1) (rou0 0)⟩
theorem rep_words {x : Bs} {ws : List Bs} (h : Words true x ws) : ∀ n, Words true (rep n x) ((List.replicate n ws).flatten)
  | 0 => Words.nil
  | n + 1 => by
    have := h.app (rep_words h n) (.inl rfl)
    simpa [rep, List.replicate_succ] using this
theorem flat_rep {α : Type} (f : α → List Bs) (a : α) (n : Nat) : (List.replicate n a).flatMap f = (List.replicate n (f a)).flatten := by
  rw [List.flatMap_def, List.map_replicate]
theorem liCla_words : Words true liCla (claW cla0) := by
  have h1 := (words_wd (x := [105, 102]) (by decide)).app (words_wd (x := [97, 110, 121]) (by decide)) (.inl rfl)
  have h2 := h1.app (words_name (x := [116, 104, 101, 110]) (by decide)) (.inl rfl)
  have h3 := h2.app ((words_sgn (c := 59) (by decide)).app (words_blk (c := 32) (by decide)) (.inl rfl)) (.inr ⟨by show prtP 59 = false; decide, .inr (by simp)⟩)
  exact h3
theorem net0_text : pfT net0.1 net0.2 = [49, 48, 46, 48, 46, 48, 46, 48, 47, 56] := by
  show pfT 167772160 8 = _
  unfold pfT
  rw [if_pos (by decide)]
  unfold textP
  rw [show decDigits (167772160 / 16777216) = [49, 48] from by rw [dec_is (by omega)]; decide, show decDigits (167772160 / 65536 % 256) = [48] from by rw [dec_is (by omega)]; decide,
    show decDigits (Int.toNat 8) = [56] from by rw [dec_is (by decide)]; decide]
  rfl
theorem liNet_words : Words true liNet (netW net0) := by
  have h1 := (words_wd (x := [110, 101, 116]) (by decide)).app (pft_words net0_may) (.inl rfl)
  have h2 := h1.app ((words_sgn (c := 59) (by decide)).app (words_blk (c := 32) (by decide)) (.inl rfl)) (.inr ⟨by show prtP 59 = false; decide, .inr (by simp)⟩)
  unfold netW
  rw [net0_text] at h2 ⊢
  exact h2
theorem liMap_words : Words true liMap [[109, 97, 112], [109], [123]] :=
  ((words_wd (x := [109, 97, 112]) (by decide)).app (words_wd (x := [109]) (by decide)) (.inl rfl)).app ((words_sgn (c := 123) (by decide)).app (words_blk (c := 32) (by decide)) (.inl rfl)) (.inl rfl)
theorem liRou_words : Words true liRou [[114, 111, 117, 116, 101, 114], [114], [123]] :=
  ((words_wd (x := [114, 111, 117, 116, 101, 114]) (by decide)).app (words_wd (x := [114]) (by decide)) (.inl rfl)).app ((words_sgn (c := 123) (by decide)).app (words_blk (c := 32) (by decide)) (.inl rfl)) (.inl rfl)
theorem liEnd_words : Words true liEnd [[125]] := (words_sgn (c := 125) (by decide)).app (words_blk (c := 32) (by decide)) (.inl rfl)
theorem map0_words (k : Nat) : Words true (liMap ++ rep k liCla ++ liEnd) (mapW (map0 k)) := by
  have := ((liMap_words.app (rep_words liCla_words k) (.inl rfl)).app liEnd_words (.inl rfl))
  rw [← flat_rep] at this
  exact this
theorem rou0_words (n : Nat) : Words true (liRou ++ rep n liNet ++ liEnd) (rouW (rou0 n)) := by
  have := ((liRou_words.app (rep_words liNet_words n) (.inl rfl)).app liEnd_words (.inl rfl))
  rw [← flat_rep] at this
  unfold rouW rou0
  simpa using this
theorem li_words {m k r n : Nat} (hm : 0 < m) (hr : 0 < r) : Words true (liText m k r n) (cfgW (liConf m k r n)) := by
  obtain ⟨m, rfl⟩ : ∃ x, m = x + 1 := ⟨m - 1, by omega⟩
  obtain ⟨r, rfl⟩ : ∃ x, r = x + 1 := ⟨r - 1, by omega⟩
  have h1 : Words true (liMany liMap liCla k (m + 1)) ((map0 k :: List.replicate m (map0 0)).flatMap mapW) := by
    rw [List.flatMap_cons, flat_rep]
    have h0 := map0_words 0
    rw [show liMap ++ rep 0 liCla ++ liEnd = liMap ++ liEnd by simp [rep]] at h0
    exact (map0_words k).app (rep_words h0 m) (.inl rfl)
  have h2 : Words true (liMany liRou liNet n (r + 1)) ((rou0 n :: List.replicate r (rou0 0)).flatMap rouW) := by
    rw [List.flatMap_cons, flat_rep]
    have h0 := rou0_words 0
    rw [show liRou ++ rep 0 liNet ++ liEnd = liRou ++ liEnd by simp [rep]] at h0
    exact (rou0_words n).app (rep_words h0 r) (.inl rfl)
  exact h1.app h2 (.inl rfl)
theorem rep_len (x : Bs) : ∀ n, (rep n x).length = n * x.length
  | 0 => by simp [rep]
  | n + 1 => by rw [rep_next, List.length_append, rep_len x n, Nat.succ_mul]
theorem li_len {m k r n : Nat} (hm : m ≤ 70) (hk : k ≤ 20) (hr : r ≤ 70) (hn : n ≤ 20) : (liText m k r n).length ≤ 5000 := by
  have key : ∀ (hd x : Bs) (k n : Nat), hd.length ≤ 11 → x.length ≤ 16 → k ≤ 20 → n ≤ 70 → (liMany hd x k n).length ≤ 2000 := by
    intro hd x k n h1 h2 h3 h4
    cases n with
    | zero => simp [liMany]
    | succ n =>
      have e1 : (rep k x).length ≤ 320 := by rw [rep_len]; exact Nat.mul_le_mul h3 h2
      have e2 : (rep n (hd ++ liEnd)).length ≤ 910 := by rw [rep_len, List.length_append]; exact Nat.mul_le_mul (show n ≤ 70 by omega) (show hd.length + 2 ≤ 13 by omega)
      have e3 : liEnd.length = 2 := rfl
      simp only [liMany, List.length_append]
      omega
  have h1 := key liMap liCla k m (by decide) (by decide) hk hm
  have h2 := key liRou liNet n r (by decide) (by decide) hn hr
  unfold liText
  rw [List.length_append]
  omega
/-- More than may be. -/
theorem over_clas : ∀ (cs : List ClD) (n : Nat) (r ts : List Tk), n < cs.length → (∀ c ∈ cs, c.sound) → Tl (cs.flatMap claW) r ts → ∃ p, clasR n ts = .inl (7, p)
  | [], n, _, _, hn, _, _ => by simp at hn
  | c :: cs, n, r, ts, hn, hc, h => by
    obtain ⟨ts', h1, h2⟩ := Tl.app (show Tl (claW c ++ cs.flatMap claW) r ts from h)
    obtain ⟨c', k1, e1⟩ := rd_cla (hc c (List.mem_cons_self ..)) h1
    obtain ⟨t, us, rfl, h3, _⟩ := Tl.cons (w := [105, 102]) (ws := (claW c).tail) h1
    have hne : ¬ t.text = [125] := by
      rw [(rel_name (by decide) h3).2]
      decide
    cases n with
    | zero => exact ⟨t.pl, by rw [clasR, if_neg hne]⟩
    | succ n =>
      obtain ⟨p, hp⟩ := over_clas cs n r ts' (by simpa using hn) (fun x hx => hc x (List.mem_cons_of_mem _ hx)) h2
      refine ⟨p, ?_⟩
      rw [clasR, if_neg hne, andR_ok k1, hp]
      rfl
theorem over_many {α : Type} {w : Bs} {f : List Tk → Res α} {W : α → List Bs} (hw : nameP w = true) :
    ∀ (xs : List α) (n : Nat) (r ts : List Tk), n < xs.length → (∀ x ∈ xs, (∃ rest, W x = w :: rest) ∧ ∀ r ts, Tl (W x) r ts → ∃ x', f ts = .inr (x', r)) → Tl (xs.flatMap W) r ts → ∃ p, manyR w f n ts = .inl (7, p)
  | [], n, _, _, hn, _, _ => by simp at hn
  | x :: xs, n, r, ts, hn, hx, h => by
    obtain ⟨⟨rest, hW⟩, hx1⟩ := hx x (List.mem_cons_self ..)
    obtain ⟨ts', h1, h2⟩ := Tl.app (show Tl (W x ++ xs.flatMap W) r ts from h)
    obtain ⟨x', k1⟩ := hx1 ts' ts h1
    rw [hW] at h1
    obtain ⟨t, us, rfl, h3, _⟩ := h1.cons
    have ht := (rel_name hw h3).2
    cases n with
    | zero => exact ⟨t.pl, by rw [manyR, if_pos ht]⟩
    | succ n =>
      obtain ⟨p, hp⟩ := over_many hw xs n r ts' (by simpa using hn) (fun y hy => hx y (List.mem_cons_of_mem _ hy)) h2
      refine ⟨p, ?_⟩
      rw [manyR, if_pos ht]
      show andR (f (t :: us)) _ = _
      rw [andR_ok k1, hp]
      rfl
theorem over_map {m : MpD} (hn : nameP m.name = true) (hc : ∀ c ∈ m.cls, c.sound) (hl : 16 < m.cls.length) {r ts : List Tk} (h : Tl (mapW m) r ts) : ∃ p, mapR ts = .inl (7, p) := by
  unfold mapW at h
  obtain ⟨t2, h, he⟩ := h.app
  obtain ⟨t1, hd, hcs⟩ := h.app
  obtain ⟨p, hp⟩ := over_clas m.cls 16 t2 t1 hl hc hcs
  obtain ⟨p0, u0, k0, hd⟩ := rd_word (by decide) hd
  obtain ⟨u1, k1, hd⟩ := rd_name hn hd
  obtain ⟨p2, u2, k2, hd⟩ := rd_sgn (c := 123) (by decide) hd
  have e2 := hd.nil
  subst e2
  refine ⟨p, ?_⟩
  unfold mapR
  rw [andR_ok k0, andR_ok k1, andR_ok k2, hp]
  rfl
theorem over_rou {x : RoD} (hn : nameP x.name = true) (hc : ∀ p ∈ x.nets, mayP p.1 p.2 = true ∧ p.1 < 4294967296) (hl : 8 < x.nets.length) {r ts : List Tk} (h : Tl (rouW x) r ts) : ∃ p, rouR ts = .inl (7, p) := by
  unfold rouW at h
  obtain ⟨t4, h, _⟩ := h.app
  obtain ⟨t3, h, _⟩ := h.app
  obtain ⟨t2, h, _⟩ := h.app
  obtain ⟨t1, hd, hns⟩ := h.app
  obtain ⟨p, hp⟩ := over_many (w := [110, 101, 116]) (f := netR) (W := netW) (by decide) x.nets 8 t2 t1 hl (fun y hy => ⟨⟨_, rfl⟩, fun r ts h => by obtain ⟨x', h1, _⟩ := rd_net (hc y hy) h; exact ⟨x', h1⟩⟩) hns
  obtain ⟨p0, u0, k0, hd⟩ := rd_word (by decide) hd
  obtain ⟨u1, k1, hd⟩ := rd_name hn hd
  obtain ⟨p2, u2, k2, hd⟩ := rd_sgn (c := 123) (by decide) hd
  have e2 := hd.nil
  subst e2
  refine ⟨p, ?_⟩
  unfold rouR
  rw [andR_ok k0, andR_ok k1, andR_ok k2, hp]
  rfl
theorem many_first {α : Type} {w : Bs} {f : List Tk → Res α} {n : Nat} {ts : List Tk} {e : Nat × Nat} {ws : List Bs} {r : List Tk} (hw : nameP w = true) (h : Tl (w :: ws) r ts) (hf : f ts = .inl e) : manyR w f (n + 1) ts = .inl e := by
  obtain ⟨t, us, rfl, h3, _⟩ := h.cons
  rw [manyR, if_pos (rel_name hw h3).2]
  show andR (f (t :: us)) _ = _
  rw [hf]
  rfl
theorem map0_sound {k : Nat} (hk : k ≤ 16) : (map0 k).sound := ⟨by show nameP [109] = true; decide, fun c hc => by rw [(List.mem_replicate.1 hc).2]; exact cla0_sound, by show (List.replicate k cla0).length ≤ 16; simpa using hk⟩
theorem rou0_sound {n : Nat} (hn : n ≤ 8) : (rou0 n).sound :=
  ⟨by show nameP [114] = true; decide, (fun p hp => by rw [(List.mem_replicate.1 hp).2]; exact net0_may), (fun l hl => by cases hl), (fun l hl => by cases hl), by show (List.replicate n net0).length ≤ 8; simpa using hn, Nat.zero_le _, Nat.zero_le _⟩
/-- What is read of it. -/
theorem li_read {m k r n : Nat} (hm : 0 < m) (hr : 0 < r) (hm' : m ≤ 70) (hk' : k ≤ 20) (hr' : r ≤ 70) (hn' : n ≤ 20) :
    if 64 < m ∨ 16 < k ∨ 64 < r ∨ 8 < n then ∃ p, readP (liText m k r n) = .inl (7, p) else ∃ d, readP (liText m k r n) = .inr d := by
  have hW := li_words (k := k) (n := n) hm hr
  have hl := li_len hm' hk' hr' hn'
  split
  · rename_i hb
    obtain ⟨wo, e1, e2⟩ := hW.toks
    have hT : Tl (cfgW (liConf m k r n)) [endT (liText m k r n).length] (wo.map (tkAt 0) ++ [endT (liText m k r n).length]) := ⟨_, rfl, by rw [← e1]; exact relL_at 0 wo⟩
    have key : ∃ p, cfgR (wo.map (tkAt 0) ++ [endT (liText m k r n).length]) = .inl (7, p) := by
      generalize wo.map (tkAt 0) ++ [endT (liText m k r n).length] = ts at hT
      generalize [endT (liText m k r n).length] = e at hT
      clear e1 e2 hW hl
      unfold cfgW at hT
      obtain ⟨t1, h1, h2⟩ := hT.app
      unfold cfgR
      by_cases hk : 16 < k
      · obtain ⟨t0, h3, _⟩ := Tl.app (show Tl (mapW (map0 k) ++ (List.replicate (m - 1) (map0 0)).flatMap mapW) t1 ts from h1)
        obtain ⟨p, hp⟩ := over_map (m := map0 k) (by show nameP [109] = true; decide) (fun c hc => by rw [(List.mem_replicate.1 hc).2]; exact cla0_sound) (by show 16 < (List.replicate k cla0).length; simpa using hk) h3
        exact ⟨p, andR_no (many_first (by decide) (show Tl ([109, 97, 112] :: _) t0 ts from h3) hp)⟩
      have hms : ∀ y ∈ (liConf m k r n).maps, y.sound := by
        intro y hy
        rcases List.mem_cons.1 hy with rfl | hy
        · exact map0_sound (by omega)
        · rw [(List.mem_replicate.1 hy).2]; exact map0_sound (by omega)
      by_cases hm64 : 64 < m
      · obtain ⟨p, hp⟩ := over_many (w := [109, 97, 112]) (f := mapR) (W := mapW) (by decide) (liConf m k r n).maps 64 t1 ts (by show 64 < (map0 k :: List.replicate (m - 1) (map0 0)).length; simp; omega)
          (fun y hy => ⟨⟨_, rfl⟩, fun r ts h => by obtain ⟨x', h1, _⟩ := rd_map (hms y hy) h; exact ⟨x', h1⟩⟩) h1
        exact ⟨p, andR_no hp⟩
      have f1 : Fol [[114, 111, 117, 116, 101, 114]] t1 := fol_name (by decide) (show Tl ([114, 111, 117, 116, 101, 114] :: _) e t1 from h2) (by simp)
      obtain ⟨⟨ms, km, _⟩, _⟩ := rd_many (w := [109, 97, 112]) (f := mapR) (W := mapW) (T := mapT) (by decide) (by decide) (liConf m k r n).maps 64 t1 ts (by show (map0 k :: List.replicate (m - 1) (map0 0)).length ≤ 64; simp; omega)
        (fun y hy => ⟨⟨_, rfl⟩, fun r ts h => rd_map (hms y hy) h⟩) f1 h1
      rw [andR_ok km]
      by_cases hn8 : 8 < n
      · obtain ⟨t0, h3, _⟩ := Tl.app (show Tl (rouW (rou0 n) ++ (List.replicate (r - 1) (rou0 0)).flatMap rouW) e t1 from h2)
        obtain ⟨p, hp⟩ := over_rou (x := rou0 n) (by show nameP [114] = true; decide) (fun c hc => by rw [(List.mem_replicate.1 hc).2]; exact net0_may) (by show 8 < (List.replicate n net0).length; simpa using hn8) h3
        exact ⟨p, andR_no (many_first (by decide) (show Tl ([114, 111, 117, 116, 101, 114] :: _) t0 t1 from h3) hp)⟩
      have hrs : ∀ y ∈ (liConf m k r n).ros, y.sound := by
        intro y hy
        rcases List.mem_cons.1 hy with rfl | hy
        · exact rou0_sound (by omega)
        · rw [(List.mem_replicate.1 hy).2]; exact rou0_sound (by omega)
      obtain ⟨p, hp⟩ := over_many (w := [114, 111, 117, 116, 101, 114]) (f := rouR) (W := rouW) (by decide) (liConf m k r n).ros 64 e t1 (by show 64 < (rou0 n :: List.replicate (r - 1) (rou0 0)).length; simp; omega)
        (fun y hy => ⟨⟨_, rfl⟩, fun r ts h => by obtain ⟨x', h1, _⟩ := rd_rou (hrs y hy) h; exact ⟨x', h1⟩⟩) h2
      exact ⟨p, andR_no hp⟩
    obtain ⟨p, hp⟩ := key
    refine ⟨p, ?_⟩
    unfold readP
    rw [if_neg (by omega), e2]
    simp only [hp]
  · rename_i hb
    refine words_read (c := liConf m k r n) ⟨?_, ?_, ?_, ?_⟩ hW (by omega)
    · intro y hy
      rcases List.mem_cons.1 hy with rfl | hy
      · exact map0_sound (by omega)
      · rw [(List.mem_replicate.1 hy).2]; exact map0_sound (by omega)
    · intro y hy
      rcases List.mem_cons.1 hy with rfl | hy
      · exact rou0_sound (by omega)
      · rw [(List.mem_replicate.1 hy).2]; exact rou0_sound (by omega)
    · show (map0 k :: List.replicate (m - 1) (map0 0)).length ≤ 64
      simp
      omega
    · show (rou0 n :: List.replicate (r - 1) (rou0 0)).length ≤ 64
      simp
      omega
end Go.Proofs.YtejhgifadohbiaaDoor
