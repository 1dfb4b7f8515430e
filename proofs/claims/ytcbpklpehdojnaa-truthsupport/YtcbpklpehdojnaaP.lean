/- Diagrams of tables, node by node: plain mathematics. -/
import Derived.Test.YtcbpklpehdojnaaE
import Derived.Test.YtcbpklpehdojnaaV
namespace Go.Proofs.Ytcbpklpehdojnaa

/-- The bit of a table. -/
def bitN (bits : Nat) (i : Nat) : Int := ((bits / 2 ^ i % 2 : Nat) : Int)
/-- Two halves, put together. -/
def joinD (most : Int) (v : Nat) (a b : Int × List Nd) : Int × List Nd := ((mkR most b.2 v a.1 b.1).1, (mkR most b.2 v a.1 b.1).2.2)
/-- The diagram of 2^d rows from 'from' on, that asks variables from v on: its number, the nodes behind it. -/
def bld (most : Int) (bits : Nat) : Nat → Nat → Nat → List Nd → Int × List Nd
  | 0, _, fr, ns => (bitN bits fr, ns)
  | d + 1, v, fr, ns => joinD most v (bld most bits d (v + 1) fr ns) (bld most bits d (v + 1) (fr + 2 ^ d) (bld most bits d (v + 1) fr ns).2)
theorem bld_succ (most : Int) (bits d v fr : Nat) (ns : List Nd) : bld most bits (d + 1) v fr ns =
    joinD most v (bld most bits d (v + 1) fr ns) (bld most bits d (v + 1) (fr + 2 ^ d) (bld most bits d (v + 1) fr ns).2) := by rw [bld]

/-- A list goes on another one. -/
def On (a b : List Nd) : Prop := ∃ l, b = a ++ l
theorem On.refl (a : List Nd) : On a a := ⟨[], by simp⟩
theorem On.trans {a b c : List Nd} (h : On a b) (k : On b c) : On a c := by
  obtain ⟨l, rfl⟩ := h
  obtain ⟨l', rfl⟩ := k
  exact ⟨l ++ l', by simp⟩
theorem On.len {a b : List Nd} (h : On a b) : a.length ≤ b.length := by
  obtain ⟨l, rfl⟩ := h
  simp
theorem On.at {a b : List Nd} (h : On a b) {i : Nat} (hi : i < a.length) : ndAt b i = ndAt a i := by
  obtain ⟨l, rfl⟩ := h
  simp [ndAt, List.getD, List.getElem?_append_left hi]
theorem On.get {a b : List Nd} (h : On a b) {i : Nat} (hi : i < a.length) : getN b i = getN a i := by
  rw [getN_in hi, getN_in (Nat.lt_of_lt_of_le hi h.len), h.at hi]

theorem bit01 (bits i : Nat) : bitN bits i = 0 ∨ bitN bits i = 1 := by
  unfold bitN
  omega

/-- A diagram that asks nothing ahead of v. -/
def From (ns : List Nd) (k : Int) (v : Nat) : Prop := ∃ i : Nat, k = i ∧ i < ns.length ∧ (v : Int) ≤ (ndAt ns i).v
theorem From.on {ns ns' : List Nd} {k : Int} {v : Nat} (h : From ns k v) (ho : On ns ns') : From ns' k v := by
  obtain ⟨i, rfl, hi, hv⟩ := h
  exact ⟨i, rfl, Nat.lt_of_lt_of_le hi ho.len, by rw [ho.at hi]; exact hv⟩
theorem From.beh {ns : List Nd} {k : Int} {v : Nat} (h : From ns k (v + 1)) : behB ns k v = true := by
  obtain ⟨i, rfl, hi, hv⟩ := h
  simp only [behB, hasB_nat.2 hi, Bool.true_and, decide_eq_true_eq]
  simp
  omega

/-- What Mk does where there is room. -/
theorem mk_room {most : Int} {ns : List Nd} (h : Good most ns) {v : Nat} (hv : v < 1024) {lo hi : Int} (hl : From ns lo (v + 1)) (hh : From ns hi (v + 1)) (hroom : (ns.length : Int) < most) :
    ∃ k ns', mkR most ns v lo hi = (k, 0, ns') ∧ Good most ns' ∧ On ns ns' ∧ ns'.length ≤ ns.length + 1 ∧ From ns' k v ∧
      ((lo = hi ∧ k = lo ∧ ns' = ns) ∨ (lo ≠ hi ∧ ∃ i : Nat, k = i ∧ i < ns'.length ∧ ndAt ns' i = ⟨v, lo, hi⟩)) := by
  have hok : okB ns v lo hi = true := by
    simp only [okB, hl.beh, hh.beh, Bool.and_true, Bool.and_eq_true, decide_eq_true_eq]
    omega
  have low : From ns lo v := by
    obtain ⟨i, h1, h2, h3⟩ := hl
    exact ⟨i, h1, h2, by omega⟩
  by_cases hne : lo = hi
  · refine ⟨lo, ns, by rw [mkR, if_pos hok, if_pos hne], h, On.refl _, by omega, low, .inl ⟨hne, rfl, rfl⟩⟩
  · cases hf : findN ns ⟨v, lo, hi⟩ with
    | some i =>
      obtain ⟨hi', e⟩ := findN_some hf
      refine ⟨i, ns, by rw [mkR, if_pos hok, if_neg hne, hf], h, On.refl _, by omega, ⟨i, rfl, hi', by rw [e]; simp⟩, .inr ⟨hne, i, rfl, hi', e⟩⟩
    | none =>
      refine ⟨ns.length, ns ++ [⟨v, lo, hi⟩], ?_, good_put h hok hne hroom (findN_none.1 hf), ⟨_, rfl⟩, by simp, ⟨ns.length, rfl, by simp, by rw [ndAt_last]; simp⟩, .inr ⟨hne, ns.length, rfl, by simp, ndAt_last⟩⟩
      rw [mkR, if_pos hok, if_neg hne, hf]
      simp only []
      rw [if_neg (by omega)]

theorem evalP_at {ns : List Nd} {f : Int → Bool} {most : Int} (h : Good most ns) {i : Nat} (hi : i < ns.length) (hv : (ndAt ns i).v < 1024) :
    evalP ns f i = evalP ns f (if f (ndAt ns i).v = true then (ndAt ns i).hi else (ndAt ns i).lo) := by
  have := evalP_step h f (k := (i : Int)) (by rw [getN_in hi]; exact hv)
  rwa [getN_in hi] at this
/-- What a diagram says does not hang on nodes that came behind it. -/
theorem evalP_on {most : Int} {ns ns' : List Nd} (h : Good most ns) (h' : Good most ns') (ho : On ns ns') (f : Int → Bool) : ∀ (n i : Nat), i < n → i < ns.length → evalP ns' f i = evalP ns f i
  | 0, i, hn, _ => by omega
  | n + 1, i, hn, hi => by
    have hi' : i < ns'.length := Nat.lt_of_lt_of_le hi ho.len
    by_cases hv : (ndAt ns i).v < 1024
    · have h2 : 2 ≤ i := by
        obtain ⟨j, hj, hj2, _⟩ := asks h (k := (i : Int)) (by rw [getN_in hi]; exact hv)
        omega
      obtain ⟨_, _, ⟨a, ha, ha', _⟩, ⟨b, hb, hb', _⟩, _⟩ := h.nodes i h2 hi
      rw [evalP_at h hi hv, evalP_at h' hi' (by rw [ho.at hi]; exact hv), ho.at hi, ha, hb]
      cases hf : f (ndAt ns i).v with
      | true => simp only [if_true]; exact evalP_on h h' ho f n b (by omega) (by omega)
      | false => simp only [Bool.false_eq_true, if_false]; exact evalP_on h h' ho f n a (by omega) (by omega)
    · rw [evalP_end f (by rw [getN_in hi', ho.at hi]; exact hv), evalP_end f (by rw [getN_in hi]; exact hv)]

/-- The row that values pick: of variables from v on, d of them. -/
def rowOf (f : Int → Bool) : Nat → Nat → Nat → Nat
  | 0, _, fr => fr
  | d + 1, v, fr => if f v = true then rowOf f d (v + 1) (fr + 2 ^ d) else rowOf f d (v + 1) fr

/-- All that is to be known of a diagram that is made of a table: it fits, it is right, and who makes it again gets it again. -/
theorem bld_all (most : Int) (bits : Nat) : ∀ (d v fr : Nat) (ns : List Nd), Good most ns → v + d ≤ 20 → (ns.length : Int) + 2 ^ d ≤ most + 1 →
    Good most (bld most bits d v fr ns).2 ∧ On ns (bld most bits d v fr ns).2 ∧ ((bld most bits d v fr ns).2.length : Int) ≤ ns.length + 2 ^ d - 1 ∧ From (bld most bits d v fr ns).2 (bld most bits d v fr ns).1 v ∧
    (∀ f, evalP (bld most bits d v fr ns).2 f (bld most bits d v fr ns).1 = (bitN bits (rowOf f d v fr) == 1)) ∧
    (∀ ns', Good most ns' → On (bld most bits d v fr ns).2 ns' → bld most bits d v fr ns' = ((bld most bits d v fr ns).1, ns'))
  | 0, v, fr, ns, hg, hv, hr => by
    have hlen := hg.len
    obtain ⟨l, hl⟩ := hg.two
    have hb0 : bld most bits 0 v fr ns = (bitN bits fr, ns) := rfl
    rw [hb0]
    refine ⟨hg, On.refl _, by simp, ?_, ?_, ?_⟩
    · rcases bit01 bits fr with e | e
      · exact ⟨0, by simp [e], by simp only; omega, by simp [hl, ndAt]; omega⟩
      · exact ⟨1, by simp [e], by simp only; omega, by simp [hl, ndAt]; omega⟩
    · intro f
      have hb : ¬ (getN ns (bitN bits fr)).v < 1024 := by
        rcases bit01 bits fr with e | e
        · rw [e, show (0 : Int) = ((0 : Nat) : Int) from rfl, getN_in (by omega)]; simp [hl, ndAt]
        · rw [e, show (1 : Int) = ((1 : Nat) : Int) from rfl, getN_in (by omega)]; simp [hl, ndAt]
      simp only [rowOf]
      rw [evalP_end f hb, Bool.eq_iff_iff]
      simp
    · intro ns' _ _
      rfl
  | d + 1, v, fr, ns, hg, hv, hr => by
    have hp : (2 : Int) ^ (d + 1) = 2 ^ d + 2 ^ d := by rw [Int.pow_succ]; omega
    have hp1 : (1 : Int) ≤ 2 ^ d := by
      have : (0 : Int) < 2 ^ d := Int.pow_pos (by decide)
      omega
    obtain ⟨a1, a2, a3, a4, a5, a6⟩ := bld_all most bits d (v + 1) fr ns hg (by omega) (by omega)
    generalize ha : bld most bits d (v + 1) fr ns = A at a1 a2 a3 a4 a5 a6
    obtain ⟨b1, b2, b3, b4, b5, b6⟩ := bld_all most bits d (v + 1) (fr + 2 ^ d) A.2 a1 (by omega) (by omega)
    generalize hb : bld most bits d (v + 1) (fr + 2 ^ d) A.2 = B at b1 b2 b3 b4 b5 b6
    have a4' := a4.on b2
    have hv' : v < 1024 := Nat.lt_of_le_of_lt (Nat.le_trans (Nat.le_add_right _ _) hv) (by decide)
    have hr' : (B.2.length : Int) < most := by omega
    obtain ⟨k, ns', e, g, o, l, fk, hk⟩ := mk_room b1 hv' a4' b4 hr'
    have hE : bld most bits (d + 1) v fr ns = (k, ns') := by rw [bld_succ, ha, hb, joinD, e]
    rw [hE]
    have evA : ∀ f, evalP ns' f A.1 = (bitN bits (rowOf f d (v + 1) fr) == 1) := fun f => by
      obtain ⟨i, e1, e2, _⟩ := a4
      rw [e1, evalP_on a1 g (b2.trans o) f (i + 1) i (by omega) e2, ← e1]
      exact a5 f
    have evB : ∀ f, evalP ns' f B.1 = (bitN bits (rowOf f d (v + 1) (fr + 2 ^ d)) == 1) := fun f => by
      obtain ⟨i, e1, e2, _⟩ := b4
      rw [e1, evalP_on b1 g o f (i + 1) i (by omega) e2, ← e1]
      exact b5 f
    refine ⟨g, (a2.trans b2).trans o, by simp only; omega, fk, ?_, ?_⟩
    · intro f
      simp only [rowOf]
      rcases hk with ⟨h1, rfl, _⟩ | ⟨h1, i, rfl, hi, hn⟩
      · by_cases hf : f v = true
        · rw [if_pos hf, ← evB f, ← h1]
        · rw [if_neg hf, ← evA f]
      · rw [evalP_at g hi (by rw [hn]; simp; omega), hn]
        simp only
        by_cases hf : f v = true
        · rw [if_pos hf, if_pos hf]; exact evB f
        · rw [if_neg hf, if_neg hf]; exact evA f
    · intro ns'' g'' o''
      simp only at o''
      have eA := a6 ns'' g'' ((b2.trans o).trans o'')
      have eB := b6 ns'' g'' (o.trans o'')
      rw [bld_succ, eA]
      simp only
      rw [eB, joinD]
      simp only
      have hok : okB ns'' v A.1 B.1 = true := by
        have q1 := (a4'.on (o.trans o'')).beh
        have q2 := (b4.on (o.trans o'')).beh
        simp only [okB, q1, q2, Bool.and_true, Bool.and_eq_true, decide_eq_true_eq]
        omega
      rcases hk with ⟨h1, rfl, _⟩ | ⟨h1, i, rfl, hi, hn⟩
      · rw [mkR, if_pos hok, if_pos h1]
      · have hi'' : i < ns''.length := Nat.lt_of_lt_of_le hi o''.len
        have hn'' : ndAt ns'' i = ⟨v, A.1, B.1⟩ := by rw [o''.at hi]; exact hn
        cases hf : findN ns'' ⟨v, A.1, B.1⟩ with
        | none => exact absurd hn'' (findN_none.1 hf _ (ndAt_mem hi''))
        | some j =>
          obtain ⟨hj, ej⟩ := findN_some hf
          have : j = i := ndAt_inj g''.once hj hi'' (ej.trans hn''.symm)
          subst this
          rw [mkR, if_pos hok, if_neg h1, hf]
end Go.Proofs.Ytcbpklpehdojnaa
