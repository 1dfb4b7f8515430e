/- Which errors there are, and where. No program. -/
import Derived.Test.YtejhgifadohbiaaDoorPH
namespace Go.Proofs.YtejhgifadohbiaaDoor
open Go.Lib

/-- An error that may be told of tokens, at one of them. -/
def ErrAt (ts : List Tk) (e : Nat × Nat) : Prop := (e.1 = 2 ∨ e.1 = 4 ∨ e.1 = 6 ∨ e.1 = 7) ∧ (e.2 = 0 ∨ ∃ t ∈ ts, t.pl = e.2)
theorem ErrAt.suf {ts r : List Tk} {e : Nat × Nat} (h : ErrAt r e) (hs : r <:+ ts) : ErrAt ts e := ⟨h.1, h.2.imp id fun ⟨t, ht, hp⟩ => ⟨t, hs.subset ht, hp⟩⟩
theorem andR_inl {α β : Type} {x : Res α} {f : α → List Tk → Res β} {e : Nat × Nat} (h : andR x f = .inl e) : x = .inl e ∨ ∃ a r, x = .inr (a, r) ∧ f a r = .inl e := by
  cases x with
  | inl e' => exact .inl (by rw [show (Sum.inl e' : Res α) = .inl e' from rfl]; exact congrArg Sum.inl (Sum.inl.inj h))
  | inr p => exact .inr ⟨p.1, p.2, rfl, h⟩
theorem err_nil (ts : List Tk) : ErrAt ts (2, 0) := ⟨.inl rfl, .inl rfl⟩
theorem err_at {n : Nat} {t : Tk} {r : List Tk} (h : n = 2 ∨ n = 4 ∨ n = 6 ∨ n = 7) : ErrAt (t :: r) (n, t.pl) := ⟨h, .inr ⟨t, by simp, rfl⟩⟩
section
variable {ts : List Tk} {e : Nat × Nat}
theorem wordR_err {w : Bs} (h : wordR w ts = .inl e) : ErrAt ts e := by
  cases ts with
  | nil => cases h; exact err_nil _
  | cons t us =>
    rw [wordR] at h
    split at h
    · cases h
    · cases h; exact err_at (.inl rfl)
theorem nameR_err (h : nameR ts = .inl e) : ErrAt ts e := by
  cases ts with
  | nil => cases h; exact err_nil _
  | cons t us =>
    rw [nameR] at h
    split at h
    · cases h
    · cases h; exact err_at (.inl rfl)
theorem pfxR_err (h : pfxR ts = .inl e) : ErrAt ts e := by
  cases ts with
  | nil => cases h; exact err_nil _
  | cons t us =>
    rw [pfxR] at h
    split at h
    · cases h
    · cases h; exact err_at (.inl rfl)
theorem nbrR_err {most : Nat} (h : nbrR most ts = .inl e) : ErrAt ts e := by
  cases ts with
  | nil => cases h; exact err_nil _
  | cons t us =>
    rw [nbrR] at h
    split at h
    · split at h
      · cases h
      · cases h; exact err_at (.inr (.inr (.inl rfl)))
    · cases h; exact err_at (.inl rfl)
theorem optN_err {w : Bs} {most : Nat} (h : optN w most ts = .inl e) : ErrAt ts e := by
  cases ts with
  | nil => cases h
  | cons t us =>
    rw [optN] at h
    split at h
    · exact (nbrR_err h).suf suf_cons
    · cases h
theorem optS_err {w : Bs} (h : optS w ts = .inl e) : ErrAt ts e := by
  cases ts with
  | nil => cases h
  | cons t us =>
    rw [optS] at h
    split at h
    · exact (nameR_err h).suf suf_cons
    · cases h
theorem optB_err {w : Bs} (h : optB w ts = .inl e) : ErrAt ts e := by
  cases ts with
  | nil => cases h
  | cons t us =>
    rw [optB] at h
    split at h
    · cases h
    · cases h
theorem tagsR_err : ∀ {ts : List Tk} {b lo : Nat} {e : Nat × Nat}, tagsR ts b lo = .inl e → ErrAt ts e
  | [], _, _, _, h => by cases h
  | t :: us, b, lo, e, h => by
    rw [tagsR] at h
    split at h
    · split at h
      · cases h; exact err_at (.inr (.inr (.inl rfl)))
      · split at h
        · cases h; exact err_at (.inr (.inl rfl))
        · exact (tagsR_err h).suf suf_cons
    · cases h
theorem optT_err {w : Bs} (h : optT w ts = .inl e) : ErrAt ts e := by
  cases ts with
  | nil => cases h
  | cons t us =>
    rw [optT] at h
    split at h
    · cases us with
      | nil => cases h; exact err_nil _
      | cons u us =>
        rw [tag1] at h
        split at h
        · exact (tagsR_err h).suf suf_cons
        · cases h; exact (err_at (t := u) (.inl rfl)).suf suf_cons
    · cases h
theorem onR_err (h : onR ts = .inl e) : ErrAt ts e := by
  cases ts with
  | nil => cases h; exact err_nil _
  | cons t us =>
    rw [onR] at h
    split at h
    · cases h
    · split at h
      · cases h
      · cases h; exact err_at (.inl rfl)
theorem claR_err (hw : Wf ts) (h : claR ts = .inl e) : ErrAt ts e := by
  unfold claR at h
  rcases andR_inl h with g | ⟨_, r0, h0, g0⟩
  · exact wordR_err g
  obtain ⟨t0, rfl, _⟩ := wordR_ok h0
  refine ErrAt.suf ?_ (suf_cons (r := r0))
  have w0 : Wf r0 := hw.suf suf_cons
  rcases andR_inl g0 with g | ⟨o, r1, h1, g1⟩
  · exact onR_err g
  refine ErrAt.suf ?_ (onR_ok w0 h1).1
  rcases andR_inl g1 with g | ⟨_, r2, h2, g2⟩
  · exact optT_err g
  refine ErrAt.suf ?_ (optT_ok h2)
  rcases andR_inl g2 with g | ⟨_, r3, h3, g3⟩
  · exact optT_err g
  refine ErrAt.suf ?_ (optT_ok h3)
  rcases andR_inl g3 with g | ⟨_, r4, h4, g4⟩
  · exact wordR_err g
  obtain ⟨t4, rfl, _⟩ := wordR_ok h4
  refine ErrAt.suf ?_ (suf_cons (r := r4))
  rcases andR_inl g4 with g | ⟨_, r5, h5, g5⟩
  · exact optB_err g
  refine ErrAt.suf ?_ (optB_ok h5)
  rcases andR_inl g5 with g | ⟨_, r6, h6, g6⟩
  · exact optT_err g
  refine ErrAt.suf ?_ (optT_ok h6)
  rcases andR_inl g6 with g | ⟨_, r7, h7, g7⟩
  · exact optT_err g
  refine ErrAt.suf ?_ (optT_ok h7)
  rcases andR_inl g7 with g | ⟨_, r8, h8, g8⟩
  · exact optN_err g
  refine ErrAt.suf ?_ (optN_ok h8).1
  rcases andR_inl g8 with g | ⟨_, r9, h9, g9⟩
  · exact optN_err g
  refine ErrAt.suf ?_ (optN_ok h9).1
  rcases andR_inl g9 with g | ⟨_, r10, h10, g10⟩
  · exact wordR_err g
  cases g10
end
theorem clasR_err : ∀ (n : Nat) (ts : List Tk) (e : Nat × Nat), Wf ts → clasR n ts = .inl e → ErrAt ts e
  | n, [], e, _, h => by cases n <;> (rw [clasR] at h; cases h)
  | 0, t :: us, e, _, h => by
    rw [clasR] at h
    split at h
    · cases h
    · cases h; exact err_at (.inr (.inr (.inr rfl)))
  | n + 1, t :: us, e, hw, h => by
    rw [clasR] at h
    split at h
    · cases h
    · rcases andR_inl h with h | ⟨c, r1, h1, h⟩
      · exact claR_err hw h
      have s1 := (claR_ok hw h1).1
      rcases andR_inl h with h | ⟨cs, r2, h2, h⟩
      · exact (clasR_err n r1 e (hw.suf s1) h).suf s1
      · cases h
theorem manyR_err {α : Type} {w : Bs} {f : List Tk → Res α} (hf : ∀ ts r x, Wf ts → f ts = .inr (x, r) → r <:+ ts) (he : ∀ ts e, Wf ts → f ts = .inl e → ErrAt ts e) : ∀ (n : Nat) (ts : List Tk) (e : Nat × Nat), Wf ts → manyR w f n ts = .inl e → ErrAt ts e
  | n, [], e, _, h => by cases n <;> (rw [manyR] at h; cases h)
  | 0, t :: us, e, _, h => by
    rw [manyR] at h
    split at h
    · cases h; exact err_at (.inr (.inr (.inr rfl)))
    · cases h
  | n + 1, t :: us, e, hw, h => by
    rw [manyR] at h
    split at h
    · rcases andR_inl h with h | ⟨c, r1, h1, h⟩
      · exact he _ _ hw h
      have s1 := hf _ _ _ hw h1
      rcases andR_inl h with h | ⟨cs, r2, h2, h⟩
      · exact (manyR_err hf he n r1 e (hw.suf s1) h).suf s1
      · cases h
    · cases h
theorem mapR_err (ts : List Tk) (e : Nat × Nat) (hw : Wf ts) (h : mapR ts = .inl e) : ErrAt ts e := by
  unfold mapR at h
  rcases andR_inl h with g | ⟨p, r0, h0, g0⟩
  · exact wordR_err g
  obtain ⟨t0, rfl, _⟩ := wordR_ok h0
  refine ErrAt.suf ?_ (suf_cons (r := r0))
  have w0 : Wf r0 := hw.suf suf_cons
  rcases andR_inl g0 with g | ⟨n, r1, h1, g1⟩
  · exact nameR_err g
  obtain ⟨t1, rfl, _⟩ := nameR_ok h1
  refine ErrAt.suf ?_ (suf_cons (r := r1))
  have w1 : Wf r1 := w0.suf suf_cons
  rcases andR_inl g1 with g | ⟨_, r2, h2, g2⟩
  · exact wordR_err g
  obtain ⟨t2, rfl, _⟩ := wordR_ok h2
  refine ErrAt.suf ?_ (suf_cons (r := r2))
  have w2 : Wf r2 := w1.suf suf_cons
  rcases andR_inl g2 with g | ⟨cs, r3, h3, g3⟩
  · exact clasR_err _ _ _ w2 g
  refine ErrAt.suf ?_ (clasR_ok _ _ _ _ w2 h3).1
  rcases andR_inl g3 with g | ⟨_, r4, h4, g4⟩
  · exact wordR_err g
  cases g4
theorem netR_err (ts : List Tk) (e : Nat × Nat) (_ : Wf ts) (h : netR ts = .inl e) : ErrAt ts e := by
  unfold netR at h
  rcases andR_inl h with g | ⟨p, r0, h0, g0⟩
  · exact wordR_err g
  obtain ⟨t0, rfl, _⟩ := wordR_ok h0
  refine ErrAt.suf ?_ (suf_cons (r := r0))
  rcases andR_inl g0 with g | ⟨n, r1, h1, g1⟩
  · exact pfxR_err g
  obtain ⟨t1, rfl, _⟩ := pfxR_ok h1
  refine ErrAt.suf ?_ (suf_cons (r := r1))
  rcases andR_inl g1 with g | ⟨_, r2, h2, g2⟩
  · exact wordR_err g
  cases g2
theorem lnkR_err (ts : List Tk) (e : Nat × Nat) (hw : Wf ts) (h : lnkR ts = .inl e) : ErrAt ts e := by
  unfold lnkR at h
  rcases andR_inl h with g | ⟨p, r0, h0, g0⟩
  · exact wordR_err g
  obtain ⟨t0, rfl, _⟩ := wordR_ok h0
  refine ErrAt.suf ?_ (suf_cons (r := r0))
  have w0 : Wf r0 := hw.suf suf_cons
  rcases andR_inl g0 with g | ⟨n, r1, h1, g1⟩
  · exact nameR_err g
  obtain ⟨t1, rfl, _⟩ := nameR_ok h1
  refine ErrAt.suf ?_ (suf_cons (r := r1))
  have w1 : Wf r1 := w0.suf suf_cons
  rcases andR_inl g1 with g | ⟨_, r2, h2, g2⟩
  · exact wordR_err g
  obtain ⟨t2, rfl, _⟩ := wordR_ok h2
  refine ErrAt.suf ?_ (suf_cons (r := r2))
  have w2 : Wf r2 := w1.suf suf_cons
  rcases andR_inl g2 with g | ⟨c, r3, h3, g3⟩
  · exact nbrR_err g
  obtain ⟨t3, rfl, _⟩ := nbrR_ok h3
  refine ErrAt.suf ?_ (suf_cons (r := r3))
  have w3 : Wf r3 := w2.suf suf_cons
  rcases andR_inl g3 with g | ⟨i, r4, h4, g4⟩
  · exact optS_err g
  have s4 := (optS_ok w3 h4).1
  refine ErrAt.suf ?_ s4
  rcases andR_inl g4 with g | ⟨x, r5, h5, g5⟩
  · exact optS_err g
  refine ErrAt.suf ?_ (optS_ok (w3.suf s4) h5).1
  rcases andR_inl g5 with g | ⟨_, r6, h6, g6⟩
  · exact wordR_err g
  cases g6
theorem staR_err (ts : List Tk) (e : Nat × Nat) (_ : Wf ts) (h : staR ts = .inl e) : ErrAt ts e := by
  unfold staR at h
  rcases andR_inl h with g | ⟨p, r0, h0, g0⟩
  · exact wordR_err g
  obtain ⟨t0, rfl, _⟩ := wordR_ok h0
  refine ErrAt.suf ?_ (suf_cons (r := r0))
  rcases andR_inl g0 with g | ⟨n, r1, h1, g1⟩
  · exact pfxR_err g
  obtain ⟨t1, rfl, _⟩ := pfxR_ok h1
  refine ErrAt.suf ?_ (suf_cons (r := r1))
  rcases andR_inl g1 with g | ⟨_, r2, h2, g2⟩
  · exact wordR_err g
  obtain ⟨t2, rfl, _⟩ := wordR_ok h2
  refine ErrAt.suf ?_ (suf_cons (r := r2))
  rcases andR_inl g2 with g | ⟨_, r3, h3, g3⟩
  · exact nameR_err g
  obtain ⟨t3, rfl, _⟩ := nameR_ok h3
  refine ErrAt.suf ?_ (suf_cons (r := r3))
  rcases andR_inl g3 with g | ⟨_, r4, h4, g4⟩
  · exact wordR_err g
  cases g4
theorem rouR_err (ts : List Tk) (e : Nat × Nat) (hw : Wf ts) (h : rouR ts = .inl e) : ErrAt ts e := by
  unfold rouR at h
  rcases andR_inl h with g | ⟨p, r0, h0, g0⟩
  · exact wordR_err g
  obtain ⟨t0, rfl, _⟩ := wordR_ok h0
  refine ErrAt.suf ?_ (suf_cons (r := r0))
  have w0 : Wf r0 := hw.suf suf_cons
  rcases andR_inl g0 with g | ⟨n, r1, h1, g1⟩
  · exact nameR_err g
  obtain ⟨t1, rfl, _⟩ := nameR_ok h1
  refine ErrAt.suf ?_ (suf_cons (r := r1))
  have w1 : Wf r1 := w0.suf suf_cons
  rcases andR_inl g1 with g | ⟨_, r2, h2, g2⟩
  · exact wordR_err g
  obtain ⟨t2, rfl, _⟩ := wordR_ok h2
  refine ErrAt.suf ?_ (suf_cons (r := r2))
  have w2 : Wf r2 := w1.suf suf_cons
  rcases andR_inl g2 with g | ⟨ns, r3, h3, g3⟩
  · exact manyR_err (fun ts r x hw h => (netR_ok ts r x hw h).1) netR_err _ _ _ w2 g
  have s3 := (manyR_ok (S := fun _ => True) (fun ts r x hw h => ⟨(netR_ok ts r x hw h).1, trivial⟩) _ _ _ _ w2 h3).1
  refine ErrAt.suf ?_ s3
  have w3 := w2.suf s3
  rcases andR_inl g3 with g | ⟨ls, r4, h4, g4⟩
  · exact manyR_err (fun ts r x hw h => (lnkR_ok ts r x hw h).1) lnkR_err _ _ _ w3 g
  have s4 := (manyR_ok (S := fun _ => True) (fun ts r x hw h => ⟨(lnkR_ok ts r x hw h).1, trivial⟩) _ _ _ _ w3 h4).1
  refine ErrAt.suf ?_ s4
  have w4 := w3.suf s4
  rcases andR_inl g4 with g | ⟨ss, r5, h5, g5⟩
  · exact manyR_err (fun ts r x hw h => (staR_ok ts r x hw h).1) staR_err _ _ _ w4 g
  have s5 := (manyR_ok (S := fun _ => True) (fun ts r x hw h => ⟨(staR_ok ts r x hw h).1, trivial⟩) _ _ _ _ w4 h5).1
  refine ErrAt.suf ?_ s5
  rcases andR_inl g5 with g | ⟨_, r6, h6, g6⟩
  · exact wordR_err g
  cases g6
theorem cfgR_err {ts : List Tk} {e : Nat × Nat} (hw : Wf ts) (h : cfgR ts = .inl e) : ErrAt ts e := by
  unfold cfgR at h
  rcases andR_inl h with g | ⟨ms, r1, h1, g0⟩
  · exact manyR_err (fun ts r x hw h => (mapR_ok ts r x hw h).1.suf) mapR_err _ _ _ hw g
  have s1 := (manyR_ok (S := fun _ => True) (fun ts r x hw h => ⟨(mapR_ok ts r x hw h).1.suf, trivial⟩) _ _ _ _ hw h1).1
  refine ErrAt.suf ?_ s1
  have w1 := hw.suf s1
  rcases andR_inl g0 with g | ⟨rs, r2, h2, g1⟩
  · exact manyR_err (fun ts r x hw h => (rouR_ok ts r x hw h).1.suf) rouR_err _ _ _ w1 g
  have s2 := (manyR_ok (S := fun _ => True) (fun ts r x hw h => ⟨(rouR_ok ts r x hw h).1.suf, trivial⟩) _ _ _ _ w1 h2).1
  refine ErrAt.suf ?_ s2
  rcases andR_inl g1 with g | ⟨_, r3, h3, g2⟩
  · cases r2 with
    | nil => cases g; exact err_nil _
    | cons t us =>
      rw [endR] at g
      split at g
      · cases g
      · cases g; exact err_at (.inl rfl)
  cases g2
theorem toks_bad : ∀ (n : Nat) (l : Bs), l.length ≤ n → ∀ k i p, toks l k i = .inl p → p ≤ i + l.length
  | n, [], _, k, i, p, h => by rw [toks] at h; cases h
  | 0, c :: r, hn, _, _, _, _ => by simp at hn
  | n + 1, c :: r, hn, k + 1, i, p, h => by
    rw [toks] at h
    have := toks_bad n r (by simpa using hn) k (i + 1) p h
    rw [List.length_cons]
    omega
  | n + 1, c :: r, hn, 0, i, p, h => by
    have hrn : r.length ≤ n := by simpa using hn
    have step : ∀ k, toks r k (i + 1) = .inl p → p ≤ i + (c :: r).length := by
      intro k h'
      have := toks_bad n r hrn k (i + 1) p h'
      rw [List.length_cons]
      omega
    have add : ∀ (t : Tk) k, addT [t] (toks r k (i + 1)) = .inl p → p ≤ i + (c :: r).length := by
      intro t k h'
      cases hq : toks r k (i + 1) with
      | inl x => rw [hq] at h'; cases h'; exact step k hq
      | inr us => rw [hq] at h'; cases h'
    rw [toks] at h
    split at h
    · exact step 0 h
    · split at h
      · exact step _ h
      · split at h
        · exact add _ 0 h
        · split at h
          · cases h; omega
          · exact add _ _ h
/-- Which error is told of a text that is short enough, and where. -/
theorem read_err {l : Bs} {e : Nat × Nat} (h : readP l = .inl e) : (e.1 = 1 ∨ e.1 = 2 ∨ e.1 = 4 ∨ e.1 = 6 ∨ e.1 = 7) ∧ e.2 ≤ l.length := by
  unfold readP at h
  split at h
  · cases h; exact ⟨.inr (.inr (.inr (.inr rfl))), Nat.zero_le _⟩
  · cases ht : toks l 0 0 with
    | inl k =>
      rw [ht] at h
      cases h
      exact ⟨.inl rfl, by have := toks_bad _ l (Nat.le_refl _) 0 0 k ht; omega⟩
    | inr ts =>
      rw [ht] at h
      simp only at h
      obtain ⟨us, eu, hu⟩ := toks_wf _ l (Nat.le_refl _) 0 0 ts ht
      have hw : Wf ts ∧ ∀ t ∈ ts, t.pl ≤ l.length := by
        refine ⟨fun t ht => ?_, fun t ht => ?_⟩
        all_goals
          rw [eu] at ht
          rcases List.mem_append.1 ht with ht | ht
        · exact (hu t ht).1
        · rw [List.mem_singleton] at ht
          subst ht
          exact wf_of (fun h => by cases h) (fun h => by cases h)
        · have := (hu t ht).2.2.2
          omega
        · rw [List.mem_singleton] at ht
          subst ht
          show 0 + l.length ≤ l.length
          omega
      cases hc : cfgR ts with
      | inr y => rw [hc] at h; cases h
      | inl x =>
        rw [hc] at h
        cases h
        obtain ⟨h1, h2⟩ := cfgR_err hw.1 hc
        refine ⟨.inr h1, ?_⟩
        rcases h2 with h2 | ⟨t, ht, h2⟩
        · omega
        · rw [← h2]
          exact hw.2 t ht
end Go.Proofs.YtejhgifadohbiaaDoor
