/- What is read is sound, and ends as it should. No program. -/
import Derived.Test.YtejhgifadohbiaaDoorPG
namespace Go.Proofs.YtejhgifadohbiaaDoor
open Go.Lib

/-- A token's kind is right for what it bears. -/
def WfT (t : Tk) : Prop := (t.kind = 1 → nameP t.text = true) ∧ (t.kind = 3 → mayP t.a t.b = true ∧ t.a < 4294967296)
def Wf (ts : List Tk) : Prop := ∀ t ∈ ts, WfT t
theorem Wf.suf {ts r : List Tk} (h : Wf ts) (hs : r <:+ ts) : Wf r := fun t ht => h t (hs.subset ht)
section
variable {ts r : List Tk}
theorem wordR_ok {w : Bs} {p : Nat} (h : wordR w ts = .inr (p, r)) : ∃ t, ts = t :: r ∧ t.text = w ∧ t.pl = p := by
  cases ts with
  | nil => cases h
  | cons t us =>
    rw [wordR] at h
    split at h
    · rename_i ht
      cases h
      exact ⟨t, rfl, ht, rfl⟩
    · cases h
theorem nameR_ok {s : Bs} (h : nameR ts = .inr (s, r)) : ∃ t, ts = t :: r ∧ t.kind = 1 ∧ t.text = s := by
  cases ts with
  | nil => cases h
  | cons t us =>
    rw [nameR] at h
    split at h
    · rename_i ht
      cases h
      exact ⟨t, rfl, ht, rfl⟩
    · cases h
theorem pfxR_ok {p : Nat × Int} (h : pfxR ts = .inr (p, r)) : ∃ t, ts = t :: r ∧ t.kind = 3 ∧ t.a = p.1 ∧ (t.b : Int) = p.2 := by
  cases ts with
  | nil => cases h
  | cons t us =>
    rw [pfxR] at h
    split at h
    · rename_i ht
      cases h
      exact ⟨t, rfl, ht, rfl, rfl⟩
    · cases h
theorem nbrR_ok {most : Nat} {n : Int} (h : nbrR most ts = .inr (n, r)) : ∃ t, ts = t :: r ∧ 1 ≤ n ∧ n ≤ most := by
  cases ts with
  | nil => cases h
  | cons t us =>
    rw [nbrR] at h
    split at h
    · split at h
      · rename_i ht
        cases h
        exact ⟨t, rfl, by omega, by omega⟩
      · cases h
    · cases h
theorem suf_cons {t : Tk} {r : List Tk} : r <:+ t :: r := List.suffix_cons t r
theorem optN_ok {w : Bs} {most : Nat} {n : Int} (h : optN w most ts = .inr (n, r)) : r <:+ ts ∧ 0 ≤ n ∧ n ≤ most := by
  cases ts with
  | nil => cases h; exact ⟨List.suffix_refl _, Int.le_refl _, by omega⟩
  | cons t us =>
    rw [optN] at h
    split at h
    · obtain ⟨u, rfl, h1, h2⟩ := nbrR_ok h
      exact ⟨suf_cons.trans suf_cons, by omega, h2⟩
    · cases h
      exact ⟨List.suffix_refl _, Int.le_refl _, by omega⟩
theorem optS_ok {w s : Bs} (hw : Wf ts) (h : optS w ts = .inr (s, r)) : r <:+ ts ∧ (s ≠ [] → nameP s = true) := by
  cases ts with
  | nil => cases h; exact ⟨List.suffix_refl _, fun h => absurd rfl h⟩
  | cons t us =>
    rw [optS] at h
    split at h
    · obtain ⟨u, rfl, h1, h2⟩ := nameR_ok h
      refine ⟨suf_cons.trans suf_cons, fun _ => ?_⟩
      rw [← h2]
      exact (hw u (by simp)).1 h1
    · cases h
      exact ⟨List.suffix_refl _, fun h => absurd rfl h⟩
theorem optB_ok {w : Bs} {b : Bool} (h : optB w ts = .inr (b, r)) : r <:+ ts := by
  cases ts with
  | nil => cases h; exact List.suffix_refl _
  | cons t us =>
    rw [optB] at h
    split at h
    · cases h; exact suf_cons
    · cases h; exact List.suffix_refl _
theorem tagsR_ok : ∀ {ts : List Tk} {b lo n : Nat} {r : List Tk}, tagsR ts b lo = .inr (n, r) → r <:+ ts
  | [], _, _, _, _, h => by cases h; exact List.suffix_refl _
  | t :: us, b, lo, n, r, h => by
    rw [tagsR] at h
    split at h
    · split at h
      · cases h
      · split at h
        · cases h
        · exact (tagsR_ok h).trans suf_cons
    · cases h; exact List.suffix_refl _
theorem optT_ok {w : Bs} {n : Nat} (h : optT w ts = .inr (n, r)) : r <:+ ts := by
  cases ts with
  | nil => cases h; exact List.suffix_refl _
  | cons t us =>
    rw [optT] at h
    split at h
    · cases us with
      | nil => cases h
      | cons u us =>
        rw [tag1] at h
        split at h
        · exact (tagsR_ok h).trans suf_cons
        · cases h
    · cases h; exact List.suffix_refl _
theorem onR_ok {o : Bool × Nat × Int} (hw : Wf ts) (h : onR ts = .inr (o, r)) : r <:+ ts ∧ (o.1 = false → mayP o.2.1 o.2.2 = true ∧ o.2.1 < 4294967296) := by
  cases ts with
  | nil => cases h
  | cons t us =>
    rw [onR] at h
    split at h
    · cases h; exact ⟨suf_cons, fun h => by cases h⟩
    · split at h
      · rename_i hk
        cases h
        exact ⟨suf_cons, fun _ => (hw t (by simp)).2 hk⟩
      · cases h
theorem claR_ok {c : ClD} (hw : Wf ts) (h : claR ts = .inr (c, r)) : r <:+ ts ∧ c.sound := by
  unfold claR at h
  obtain ⟨_, r0, h0, h⟩ := andR_inr h
  obtain ⟨o, r1, h1, h⟩ := andR_inr h
  obtain ⟨_, r2, h2, h⟩ := andR_inr h
  obtain ⟨_, r3, h3, h⟩ := andR_inr h
  obtain ⟨_, r4, h4, h⟩ := andR_inr h
  obtain ⟨_, r5, h5, h⟩ := andR_inr h
  obtain ⟨_, r6, h6, h⟩ := andR_inr h
  obtain ⟨_, r7, h7, h⟩ := andR_inr h
  obtain ⟨m, r8, h8, h⟩ := andR_inr h
  obtain ⟨p, r9, h9, h⟩ := andR_inr h
  obtain ⟨_, r10, h10, h⟩ := andR_inr h
  cases h
  obtain ⟨t0, rfl, _⟩ := wordR_ok h0
  have w0 : Wf r0 := hw.suf suf_cons
  obtain ⟨s1, on⟩ := onR_ok w0 h1
  obtain ⟨t4, rfl, _⟩ := wordR_ok h4
  obtain ⟨s8, m0, m1⟩ := optN_ok h8
  obtain ⟨s9, p0, p1⟩ := optN_ok h9
  obtain ⟨t10, rfl, _⟩ := wordR_ok h10
  have hs : r <:+ r0 := suf_cons.trans (s9.trans (s8.trans ((optT_ok h7).trans ((optT_ok h6).trans ((optB_ok h5).trans (suf_cons.trans ((optT_ok h3).trans ((optT_ok h2).trans s1))))))))
  exact ⟨hs.trans suf_cons, ⟨on, m0, m1, p0, p1⟩⟩
theorem clasR_ok : ∀ (n : Nat) (ts r : List Tk) (cs : List ClD), Wf ts → clasR n ts = .inr (cs, r) → r <:+ ts ∧ (∀ c ∈ cs, c.sound) ∧ cs.length ≤ n
  | n, [], r, cs, _, h => by
    cases n <;> (rw [clasR] at h; cases h; exact ⟨List.suffix_refl _, by simp⟩)
  | 0, t :: us, r, cs, _, h => by
    rw [clasR] at h
    split at h
    · cases h; exact ⟨List.suffix_refl _, by simp⟩
    · cases h
  | n + 1, t :: us, r, cs, hw, h => by
    rw [clasR] at h
    split at h
    · cases h; exact ⟨List.suffix_refl _, by simp⟩
    · obtain ⟨c, r1, h1, h⟩ := andR_inr h
      obtain ⟨cs', r2, h2, h⟩ := andR_inr h
      cases h
      obtain ⟨s1, k1⟩ := claR_ok hw h1
      obtain ⟨s2, k2, k3⟩ := clasR_ok n r1 r cs' (hw.suf s1) h2
      refine ⟨s2.trans s1, fun x hx => ?_, by simpa using k3⟩
      rcases List.mem_cons.1 hx with rfl | hx
      · exact k1
      · exact k2 x hx
/-- What is read ends with a brace. -/
def Ends (ts r : List Tk) : Prop := ∃ us t, ts = us ++ t :: r ∧ t.text = [125]
theorem Ends.suf {ts r : List Tk} (h : Ends ts r) : r <:+ ts := by
  obtain ⟨us, t, rfl, _⟩ := h
  exact ⟨us ++ [t], by simp⟩
theorem Ends.of {ts ts' r : List Tk} (h : Ends ts' r) (hs : ts' <:+ ts) : Ends ts r := by
  obtain ⟨us, t, rfl, h1⟩ := h
  obtain ⟨v, rfl⟩ := hs
  exact ⟨v ++ us, t, by simp, h1⟩
theorem manyR_ok {α : Type} {w : Bs} {f : List Tk → Res α} {S : α → Prop} (hf : ∀ ts r x, Wf ts → f ts = .inr (x, r) → r <:+ ts ∧ S x) : ∀ (n : Nat) (ts r : List Tk) (xs : List α), Wf ts → manyR w f n ts = .inr (xs, r) → r <:+ ts ∧ (∀ x ∈ xs, S x) ∧ xs.length ≤ n
  | n, [], r, xs, _, h => by
    cases n <;> (rw [manyR] at h; cases h; exact ⟨List.suffix_refl _, by simp⟩)
  | 0, t :: us, r, xs, _, h => by
    rw [manyR] at h
    split at h
    · cases h
    · cases h; exact ⟨List.suffix_refl _, by simp⟩
  | n + 1, t :: us, r, xs, hw, h => by
    rw [manyR] at h
    split at h
    · obtain ⟨c, r1, h1, h⟩ := andR_inr h
      obtain ⟨cs', r2, h2, h⟩ := andR_inr h
      cases h
      obtain ⟨s1, k1⟩ := hf _ _ _ hw h1
      obtain ⟨s2, k2, k3⟩ := manyR_ok hf n r1 r cs' (hw.suf s1) h2
      refine ⟨s2.trans s1, fun x hx => ?_, by simpa using k3⟩
      rcases List.mem_cons.1 hx with rfl | hx
      · exact k1
      · exact k2 x hx
    · cases h; exact ⟨List.suffix_refl _, by simp⟩
theorem manyR_ends {α : Type} {w : Bs} {f : List Tk → Res α} (hf : ∀ ts r x, Wf ts → f ts = .inr (x, r) → Ends ts r) : ∀ (n : Nat) (ts r : List Tk) (xs : List α), Wf ts → manyR w f n ts = .inr (xs, r) → r = ts ∨ Ends ts r
  | n, [], r, xs, _, h => by
    cases n <;> (rw [manyR] at h; cases h; exact .inl rfl)
  | 0, t :: us, r, xs, _, h => by
    rw [manyR] at h
    split at h
    · cases h
    · cases h; exact .inl rfl
  | n + 1, t :: us, r, xs, hw, h => by
    rw [manyR] at h
    split at h
    · obtain ⟨c, r1, h1, h⟩ := andR_inr h
      obtain ⟨cs', r2, h2, h⟩ := andR_inr h
      cases h
      have e1 := hf _ _ _ hw h1
      rcases manyR_ends hf n r1 r cs' (hw.suf e1.suf) h2 with rfl | e2
      · exact .inr e1
      · exact .inr (e2.of e1.suf)
    · cases h; exact .inl rfl
end
theorem mapR_ok (ts r : List Tk) (m : MpD) (hw : Wf ts) (h : mapR ts = .inr (m, r)) : Ends ts r ∧ m.sound := by
  unfold mapR at h
  obtain ⟨p, r0, h0, h⟩ := andR_inr h
  obtain ⟨n, r1, h1, h⟩ := andR_inr h
  obtain ⟨_, r2, h2, h⟩ := andR_inr h
  obtain ⟨cs, r3, h3, h⟩ := andR_inr h
  obtain ⟨_, r4, h4, h⟩ := andR_inr h
  cases h
  obtain ⟨t0, rfl, _⟩ := wordR_ok h0
  obtain ⟨t1, rfl, k1, rfl⟩ := nameR_ok h1
  obtain ⟨t2, rfl, _⟩ := wordR_ok h2
  have w2 : Wf r2 := hw.suf (suf_cons.trans (suf_cons.trans suf_cons))
  obtain ⟨s3, c1, c2⟩ := clasR_ok 16 r2 r3 cs w2 h3
  obtain ⟨t4, rfl, k4, _⟩ := wordR_ok h4
  refine ⟨Ends.of ⟨[], t4, rfl, k4⟩ (s3.trans (suf_cons.trans (suf_cons.trans suf_cons))), (hw t1 (by simp)).1 k1, c1, c2⟩
theorem netR_ok (ts r : List Tk) (p : Nat × Int) (hw : Wf ts) (h : netR ts = .inr (p, r)) : r <:+ ts ∧ mayP p.1 p.2 = true ∧ p.1 < 4294967296 := by
  unfold netR at h
  obtain ⟨_, r0, h0, h⟩ := andR_inr h
  obtain ⟨x, r1, h1, h⟩ := andR_inr h
  obtain ⟨_, r2, h2, h⟩ := andR_inr h
  cases h
  obtain ⟨t0, rfl, _⟩ := wordR_ok h0
  obtain ⟨t1, rfl, k1, e1, e2⟩ := pfxR_ok h1
  obtain ⟨t2, rfl, _⟩ := wordR_ok h2
  refine ⟨suf_cons.trans (suf_cons.trans suf_cons), ?_⟩
  rw [← e1, ← e2]
  exact (hw t1 (by simp)).2 k1
theorem lnkR_ok (ts r : List Tk) (l : LkD) (hw : Wf ts) (h : lnkR ts = .inr (l, r)) : r <:+ ts ∧ l.sound := by
  unfold lnkR at h
  obtain ⟨p, r0, h0, h⟩ := andR_inr h
  obtain ⟨n, r1, h1, h⟩ := andR_inr h
  obtain ⟨_, r2, h2, h⟩ := andR_inr h
  obtain ⟨c, r3, h3, h⟩ := andR_inr h
  obtain ⟨i, r4, h4, h⟩ := andR_inr h
  obtain ⟨e, r5, h5, h⟩ := andR_inr h
  obtain ⟨_, r6, h6, h⟩ := andR_inr h
  cases h
  obtain ⟨t0, rfl, _⟩ := wordR_ok h0
  obtain ⟨t1, rfl, k1, rfl⟩ := nameR_ok h1
  obtain ⟨t2, rfl, _⟩ := wordR_ok h2
  obtain ⟨t3, rfl, c0, c1⟩ := nbrR_ok h3
  have w3 : Wf r3 := hw.suf (suf_cons.trans (suf_cons.trans (suf_cons.trans suf_cons)))
  obtain ⟨s4, i1⟩ := optS_ok w3 h4
  obtain ⟨s5, i2⟩ := optS_ok (w3.suf s4) h5
  obtain ⟨t6, rfl, _⟩ := wordR_ok h6
  exact ⟨suf_cons.trans (s5.trans (s4.trans (suf_cons.trans (suf_cons.trans (suf_cons.trans suf_cons))))), (hw t1 (by simp)).1 k1, c0, c1, i1, i2⟩
theorem staR_ok (ts r : List Tk) (s : StD) (hw : Wf ts) (h : staR ts = .inr (s, r)) : r <:+ ts ∧ s.sound := by
  unfold staR at h
  obtain ⟨p, r0, h0, h⟩ := andR_inr h
  obtain ⟨x, r1, h1, h⟩ := andR_inr h
  obtain ⟨_, r2, h2, h⟩ := andR_inr h
  obtain ⟨n, r3, h3, h⟩ := andR_inr h
  obtain ⟨_, r4, h4, h⟩ := andR_inr h
  cases h
  obtain ⟨t0, rfl, _⟩ := wordR_ok h0
  obtain ⟨t1, rfl, k1, e1, e2⟩ := pfxR_ok h1
  obtain ⟨t2, rfl, _⟩ := wordR_ok h2
  obtain ⟨t3, rfl, k3, rfl⟩ := nameR_ok h3
  obtain ⟨t4, rfl, _⟩ := wordR_ok h4
  refine ⟨suf_cons.trans (suf_cons.trans (suf_cons.trans (suf_cons.trans suf_cons))), ?_, (hw t3 (by simp)).1 k3⟩
  show mayP x.1 x.2 = true ∧ x.1 < 4294967296
  rw [← e1, ← e2]
  exact (hw t1 (by simp)).2 k1
theorem rouR_ok (ts r : List Tk) (x : RoD) (hw : Wf ts) (h : rouR ts = .inr (x, r)) : Ends ts r ∧ x.sound := by
  unfold rouR at h
  obtain ⟨p, r0, h0, h⟩ := andR_inr h
  obtain ⟨n, r1, h1, h⟩ := andR_inr h
  obtain ⟨_, r2, h2, h⟩ := andR_inr h
  obtain ⟨ns, r3, h3, h⟩ := andR_inr h
  obtain ⟨ls, r4, h4, h⟩ := andR_inr h
  obtain ⟨ss, r5, h5, h⟩ := andR_inr h
  obtain ⟨_, r6, h6, h⟩ := andR_inr h
  cases h
  obtain ⟨t0, rfl, _⟩ := wordR_ok h0
  obtain ⟨t1, rfl, k1, rfl⟩ := nameR_ok h1
  obtain ⟨t2, rfl, _⟩ := wordR_ok h2
  have w2 : Wf r2 := hw.suf (suf_cons.trans (suf_cons.trans suf_cons))
  obtain ⟨s3, a3, b3⟩ := manyR_ok (S := fun p : Nat × Int => mayP p.1 p.2 = true ∧ p.1 < 4294967296) netR_ok 8 r2 r3 ns w2 h3
  obtain ⟨s4, a4, b4⟩ := manyR_ok (S := LkD.sound) lnkR_ok 64 r3 r4 ls (w2.suf s3) h4
  obtain ⟨s5, a5, b5⟩ := manyR_ok (S := StD.sound) staR_ok 8 r4 r5 ss ((w2.suf s3).suf s4) h5
  obtain ⟨t6, rfl, k6, _⟩ := wordR_ok h6
  refine ⟨Ends.of ⟨[], t6, rfl, k6⟩ (s5.trans (s4.trans (s3.trans (suf_cons.trans (suf_cons.trans suf_cons))))), (hw t1 (by simp)).1 k1, a3, a4, a5, b3, b4, b5⟩
theorem cfgR_ok {ts r : List Tk} {c : CfD} (hw : Wf ts) (h : cfgR ts = .inr (c, r)) : c.sound ∧ ∃ us t, ts = us ++ t :: r ∧ t.kind = 0 ∧ (us = [] ∨ ∃ vs u, us = vs ++ [u] ∧ u.text = [125]) := by
  unfold cfgR at h
  obtain ⟨ms, r1, h1, h⟩ := andR_inr h
  obtain ⟨rs, r2, h2, h⟩ := andR_inr h
  obtain ⟨p, r3, h3, h⟩ := andR_inr h
  cases h
  obtain ⟨s1, a1, b1⟩ := manyR_ok (S := MpD.sound) (fun ts r x hw h => by obtain ⟨e, k⟩ := mapR_ok ts r x hw h; exact ⟨e.suf, k⟩) 64 ts r1 ms hw h1
  have e1 := manyR_ends (fun ts r x hw h => (mapR_ok ts r x hw h).1) 64 ts r1 ms hw h1
  have hw1 := hw.suf s1
  obtain ⟨s2, a2, b2⟩ := manyR_ok (S := RoD.sound) (fun ts r x hw h => by obtain ⟨e, k⟩ := rouR_ok ts r x hw h; exact ⟨e.suf, k⟩) 64 r1 r2 rs hw1 h2
  have e2 := manyR_ends (fun ts r x hw h => (rouR_ok ts r x hw h).1) 64 r1 r2 rs hw1 h2
  refine ⟨⟨a1, a2, b1, b2⟩, ?_⟩
  cases r2 with
  | nil => cases h3
  | cons t r2 =>
    rw [endR] at h3
    split at h3
    · rename_i hk
      cases h3
      have key : Ends ts (t :: r) ∨ t :: r = ts := by
        rcases e2 with e2 | e2
        · rcases e1 with e1 | e1
          · exact .inr (e2.trans e1)
          · exact .inl (by rw [e2]; exact e1)
        · exact .inl (e2.of s1)
      rcases key with ⟨us, u, rfl, hu⟩ | rfl
      · exact ⟨us ++ [u], t, by simp, hk, .inr ⟨us, u, rfl, hu⟩⟩
      · exact ⟨[], t, rfl, hk, .inl rfl⟩
    · cases h3
theorem wf_of {t : Tk} (h1 : t.kind ≠ 1) (h3 : t.kind ≠ 3) : WfT t := ⟨fun h => absurd h h1, fun h => absurd h h3⟩
/-- A text's tokens are right for what they bear. -/
theorem piece_wf {l : Bs} {q : Tk} (h : pieceP l = some q) : WfT q ∧ q.kind ≠ 0 := by
  unfold pieceP at h
  split at h
  · rename_i hn
    cases h
    exact ⟨⟨fun _ => hn, (fun h => by cases h)⟩, Nat.one_ne_zero⟩
  · split at h
    · rename_i r hr
      cases h
      obtain ⟨a, b⟩ := r
      obtain ⟨h1, h2, _⟩ := parse_is hr
      exact ⟨⟨(fun h => by cases h), fun _ => ⟨h1, h2⟩⟩, (fun h => by cases h)⟩
    · split at h
      · cases h
        exact ⟨wf_of (fun h => by cases h) (fun h => by cases h), (fun h => by cases h)⟩
      · cases h
theorem toks_wf : ∀ (n : Nat) (l : Bs), l.length ≤ n → ∀ k i ts, toks l k i = .inr ts → ∃ us, ts = us ++ [endT (i + l.length)] ∧ ∀ t ∈ us, WfT t ∧ t.kind ≠ 0 ∧ i ≤ t.pl ∧ t.pl ≤ i + l.length
  | n, [], _, k, i, ts, h => by
    rw [toks] at h
    cases h
    exact ⟨[], by simp, by simp⟩
  | 0, c :: r, hn, _, _, _, _ => by simp at hn
  | n + 1, c :: r, hn, k + 1, i, ts, h => by
    rw [toks] at h
    obtain ⟨us, e, hu⟩ := toks_wf n r (by simpa using hn) k (i + 1) ts h
    refine ⟨us, by rw [e, List.length_cons]; congr 3; omega, fun t ht => ?_⟩
    obtain ⟨h1, h2, h3, h4⟩ := hu t ht
    rw [List.length_cons]
    exact ⟨h1, h2, by omega, by omega⟩
  | n + 1, c :: r, hn, 0, i, ts, h => by
    have hrn : r.length ≤ n := by simpa using hn
    have step : ∀ k ts', toks r k (i + 1) = .inr ts' → ∃ us, ts' = us ++ [endT (i + (c :: r).length)] ∧ ∀ t ∈ us, WfT t ∧ t.kind ≠ 0 ∧ i ≤ t.pl ∧ t.pl ≤ i + (c :: r).length := by
      intro k ts' h'
      obtain ⟨us, e, hu⟩ := toks_wf n r hrn k (i + 1) ts' h'
      refine ⟨us, by rw [e, List.length_cons]; congr 3; omega, fun t ht => ?_⟩
      obtain ⟨h1, h2, h3, h4⟩ := hu t ht
      rw [List.length_cons]
      exact ⟨h1, h2, by omega, by omega⟩
    have add : ∀ (t : Tk) k, (WfT t ∧ t.kind ≠ 0 ∧ t.pl = i) → addT [t] (toks r k (i + 1)) = .inr ts → ∃ us, ts = us ++ [endT (i + (c :: r).length)] ∧ ∀ t ∈ us, WfT t ∧ t.kind ≠ 0 ∧ i ≤ t.pl ∧ t.pl ≤ i + (c :: r).length := by
      intro t k ht h'
      cases hq : toks r k (i + 1) with
      | inl x => rw [hq] at h'; cases h'
      | inr us =>
        rw [hq] at h'
        cases h'
        obtain ⟨vs, e, hv⟩ := step k us hq
        refine ⟨t :: vs, by rw [e]; rfl, fun x hx => ?_⟩
        rcases List.mem_cons.1 hx with rfl | hx
        · exact ⟨ht.1, ht.2.1, by omega, by omega⟩
        · exact hv x hx
    rw [toks] at h
    split at h
    · exact step 0 ts h
    · split at h
      · exact step _ ts h
      · split at h
        · exact add _ 0 ⟨wf_of (fun h => by cases h) (fun h => by cases h), (fun h => by cases h), rfl⟩ h
        · split at h
          · cases h
          · rename_i q hq
            obtain ⟨h1, h2⟩ := piece_wf hq
            exact add (atT q i) _ ⟨h1, h2, rfl⟩ h
/-- What is read of a text is sound, and ends with a brace, or is none. -/
theorem read_ok {l : Bs} {c : CfD} (h : readP l = .inr c) : c.sound ∧ l.length ≤ 65536 ∧ ∃ us, toks l 0 0 = .inr (us ++ [endT l.length]) ∧ (us = [] ∨ ∃ vs u, us = vs ++ [u] ∧ u.text = [125]) := by
  unfold readP at h
  split at h
  · cases h
  · rename_i hl
    cases ht : toks l 0 0 with
    | inl k => rw [ht] at h; cases h
    | inr ts =>
      rw [ht] at h
      simp only at h
      obtain ⟨us, e, hu⟩ := toks_wf _ l (Nat.le_refl _) 0 0 ts ht
      have hw : Wf ts := by
        intro t ht
        rw [e] at ht
        rcases List.mem_append.1 ht with ht | ht
        · exact (hu t ht).1
        · rw [List.mem_singleton] at ht
          subst ht
          exact wf_of (fun h => by cases h) (fun h => by cases h)
      cases hc : cfgR ts with
      | inl x => rw [hc] at h; cases h
      | inr y =>
        rw [hc] at h
        cases h
        obtain ⟨hs, vs, t, e2, hk, hv⟩ := cfgR_ok hw (r := y.2) (c := y.1) hc
        have hvu : vs = us := by
          rw [e] at e2
          rcases List.append_eq_append_iff.1 e2 with ⟨xs, h1, h2⟩ | ⟨bs, h1, h2⟩
          · cases xs with
            | nil => simpa using h1
            | cons a xs =>
              have := congrArg List.length h2
              simp at this
          · cases bs with
            | nil => simpa using h1.symm
            | cons b bs =>
              rw [List.cons_append] at h2
              injection h2 with h2 _
              subst h2
              exact absurd hk (hu t (by rw [h1]; simp)).2.1
        subst hvu
        exact ⟨hs, by omega, vs, by rw [e, Nat.zero_add], hv⟩
end Go.Proofs.YtejhgifadohbiaaDoor
