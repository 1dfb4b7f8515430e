/- Clauses as plain data: on which routes they work, what they make of them, which are for a destination. No program. -/
import Derived.Test.YtphhfjfdanlhiaaRA
import Derived.Test.YtphhfjfdanlhiaaUA
import Derived.Test.YtphhfjfdanlhiaaHA
namespace Go.Proofs.Ytphhfjfdanlhiaa
open Go.RowKit Go.Lib

/-- Do the tags suit it? -/
def tagP (c : ClD) (t : Nat) : Bool := decide (c.wi &&& t = c.wi) && decide (c.ou &&& t = 0)
/-- Is it for this destination? -/
def forC (c : ClD) (a : Nat) (b : Int) : Bool := c.any || covP c.a c.b a b
def matP (c : ClD) (a : Nat) (b : Int) (t : Nat) : Bool := forC c a b && tagP c t
/-- How much dearer. -/
def moreP (c : ClD) : Int := if c.more < 0 then 0 else if 15 < c.more then 15 else c.more
/-- A sum as an int holds it. -/
def sumI (x y : Int) : Int := IntKind.i64.wrap (x + y)
/-- The tags behind a clause: of the lowest four bits, these and Set, without Clear. -/
def tagsP (c : ClD) (t : Nat) : Nat := ((t ||| c.se) &&& (255 - c.cl)) &&& 15
/-- What one clause that works makes. -/
def oneP (c : ClD) (x : At) : At :=
  if c.drop then At.zero else ⟨true, if 1 ≤ c.pref ∧ c.pref ≤ 255 then c.pref else x.pref, sumI x.cost (moreP c), (tagsP c x.tags.toNat : Nat)⟩
/-- What the clauses make of a route that is one. -/
def doR (a : Nat) (b : Int) (x : At) : List ClD → At
  | [] => x
  | c :: l => if matP c a b x.tags.toNat then oneP c x else doR a b x l
def doP (l : List ClD) (a : Nat) (b : Int) (x : At) : At := if x.ok then doR a b x l else At.zero
/-- A clause as one that is Any, without a prefix. -/
def bareP (c : ClD) : ClD := { c with any := true, a := 0, b := 0 }
/-- Has it neither With nor Out? -/
def lastP (c : ClD) : Bool := decide (c.wi = 0) && decide (c.ou = 0)
def forP (a : Nat) (b : Int) : List ClD → List ClD
  | [] => []
  | c :: l => if forC c a b then (if lastP c then [bareP c] else bareP c :: forP a b l) else forP a b l

theorem not_bit {t : Nat} (ht : t < 256) (i : Nat) : (255 - t).testBit i = (decide (i < 8) && !t.testBit i) := by
  have e : 255 - t = 2 ^ 8 - (t + 1) := by omega
  rw [e, Nat.testBit_two_pow_sub_succ (by omega)]
/-- With's bits, asked the other way round. -/
theorem with_bits {w t : Nat} (hw : w < 256) (ht : t < 256) : w &&& (255 - t) = 0 ↔ w &&& t = w := by
  have key : ∀ i, w.testBit i = true → i < 8 := fun i h => by
    by_cases hi : i < 8
    · exact hi
    · have : w.testBit i = false := Nat.testBit_lt_two_pow (Nat.lt_of_lt_of_le hw (show 2 ^ 8 ≤ 2 ^ i from Nat.pow_le_pow_right (by decide) (by omega)))
      rw [this] at h; cases h
  constructor
  · intro h
    apply Nat.eq_of_testBit_eq
    intro i
    have hi := congrArg (fun n => n.testBit i) h
    simp only [Nat.testBit_and, not_bit ht, Nat.zero_testBit] at hi
    rw [Nat.testBit_and]
    cases hwi : w.testBit i with
    | false => rfl
    | true =>
      rw [hwi, decide_eq_true (key i hwi)] at hi
      simpa using hi
  · intro h
    apply Nat.eq_of_testBit_eq
    intro i
    have hi := congrArg (fun n => n.testBit i) h
    simp only [Nat.testBit_and] at hi
    rw [Nat.testBit_and, not_bit ht, Nat.zero_testBit]
    cases hwi : w.testBit i with
    | false => rfl
    | true =>
      rw [hwi, Bool.true_and] at hi
      rw [hi]
      simp
theorem tag_bare (c : ClD) (t : Nat) : tagP (bareP c) t = tagP c t := rfl
theorem one_bare (c : ClD) (x : At) : oneP (bareP c) x = oneP c x := rfl
theorem mat_bare (c : ClD) (a : Nat) (b : Int) (t : Nat) : matP (bareP c) a b t = tagP c t := by
  unfold matP forC
  rw [tag_bare]
  simp [bareP]
theorem tag_last {c : ClD} (h : lastP c = true) (t : Nat) : tagP c t = true := by
  unfold lastP at h
  simp only [Bool.and_eq_true, decide_eq_true_iff] at h
  unfold tagP
  rw [h.1, h.2]
  simp
/-- ClauseFor. -/
theorem do_for (a : Nat) (b : Int) (a' : Nat) (b' : Int) (x : At) : ∀ l : List ClD, doR a' b' x (forP a b l) = doR a b x l
  | [] => rfl
  | c :: l => by
    rw [forP, doR]
    by_cases hf : forC c a b = true
    · rw [if_pos hf]
      have hm : matP c a b x.tags.toNat = tagP c x.tags.toNat := by unfold matP; rw [hf]; rfl
      rw [hm]
      by_cases hl : lastP c = true
      · rw [if_pos hl, doR, mat_bare, one_bare, tag_last hl]
        rfl
      · rw [if_neg hl, doR, mat_bare, one_bare, do_for a b a' b' x l]
    · rw [if_neg hf]
      have hm : matP c a b x.tags.toNat = false := by
        unfold matP
        cases h : forC c a b with
        | false => rfl
        | true => exact absurd h hf
      rw [hm, do_for a b a' b' x l]
      rfl
theorem doP_for (l : List ClD) (a : Nat) (b : Int) (a' : Nat) (b' : Int) (x : At) : doP (forP a b l) a' b' x = doP l a b x := by
  unfold doP
  rw [do_for]
theorem last_bare (c : ClD) : lastP (bareP c) = lastP c := rfl
theorem bare_bare (c : ClD) : bareP (bareP c) = bareP c := rfl
/-- ClauseFew: those of these are these. -/
theorem for_for (a : Nat) (b : Int) (a' : Nat) (b' : Int) : ∀ l : List ClD, forP a' b' (forP a b l) = forP a b l
  | [] => rfl
  | c :: l => by
    rw [forP]
    by_cases hf : forC c a b = true
    · rw [if_pos hf]
      have hb : forC (bareP c) a' b' = true := rfl
      by_cases hl : lastP c = true
      · rw [if_pos hl, forP, if_pos hb, last_bare, if_pos hl, bare_bare]
      · rw [if_neg hl, forP, if_pos hb, last_bare, if_neg hl, bare_bare, for_for a b a' b' l]
    · rw [if_neg hf, for_for a b a' b' l]
theorem for_mem {a : Nat} {b : Int} : ∀ {l : List ClD} {c : ClD}, c ∈ forP a b l → ∃ d ∈ l, c = bareP d
  | d :: l, c, h => by
    rw [forP] at h
    split at h
    · split at h
      · rw [List.mem_singleton] at h
        exact ⟨d, List.mem_cons_self .., h⟩
      · rcases List.mem_cons.1 h with h | h
        · exact ⟨d, List.mem_cons_self .., h⟩
        · obtain ⟨e, he, h⟩ := for_mem h
          exact ⟨e, List.mem_cons_of_mem _ he, h⟩
    · obtain ⟨e, he, h⟩ := for_mem h
      exact ⟨e, List.mem_cons_of_mem _ he, h⟩
theorem more_le (c : ClD) : 0 ≤ moreP c ∧ moreP c ≤ 15 := by
  unfold moreP
  split
  · omega
  · split <;> omega
theorem tags_le (c : ClD) (t : Nat) : tagsP c t ≤ 15 := Nat.and_le_right
theorem sum_small {x y : Int} (h0 : 0 ≤ x) (h1 : x < 65536) (h2 : 0 ≤ y) (h3 : y ≤ 15) : sumI x y = x + y := by
  unfold sumI
  rw [IntKind.wrap_i64]
  omega
/-- ClauseDearer. -/
theorem do_dearer {x : At} (hok : x.ok = true) (hp : 0 < x.pref ∧ x.pref ≤ 255) (hc : 0 ≤ x.cost ∧ x.cost < 65536) (ht : 0 ≤ x.tags ∧ x.tags < 16) (a : Nat) (b : Int) : ∀ l : List ClD,
    doR a b x l = At.zero ∨ ((doR a b x l).ok = true ∧ x.cost ≤ (doR a b x l).cost ∧ (doR a b x l).cost ≤ x.cost + 15 ∧ (doR a b x l).tags < 16 ∧ 0 < (doR a b x l).pref ∧ (doR a b x l).pref ≤ 255)
  | [] => .inr ⟨hok, Int.le_refl _, by show x.cost ≤ x.cost + 15; omega, ht.2, hp⟩
  | c :: l => by
    rw [doR]
    by_cases hm : matP c a b x.tags.toNat = true
    · rw [if_pos hm]
      unfold oneP
      by_cases hd : c.drop = true
      · rw [if_pos hd]; exact .inl rfl
      · rw [if_neg hd]
        have h1 := more_le c
        have h2 := tags_le c x.tags.toNat
        have h3 := sum_small hc.1 hc.2 h1.1 h1.2
        refine .inr ⟨rfl, ?_, ?_, ?_, ?_⟩
        · show x.cost ≤ sumI x.cost (moreP c); omega
        · show sumI x.cost (moreP c) ≤ x.cost + 15; omega
        · show ((tagsP c x.tags.toNat : Nat) : Int) < 16; omega
        · show 0 < (if 1 ≤ c.pref ∧ c.pref ≤ 255 then c.pref else x.pref) ∧ (if 1 ≤ c.pref ∧ c.pref ≤ 255 then c.pref else x.pref) ≤ 255
          split <;> omega
    · rw [if_neg hm]
      exact do_dearer hok hp hc ht a b l
/-- ClauseNone. -/
def dropC : ClD := ⟨true, 0, 0, 0, 0, true, 0, 0, 0, 0⟩
theorem do_none {a : Nat} {b : Int} {x : At} : ∀ {l : List ClD}, (∀ c ∈ l, matP c a b x.tags.toNat = false) → doR a b x l = x
  | [], _ => rfl
  | c :: l, h => by
    rw [doR, h c (List.mem_cons_self ..), do_none fun d hd => h d (List.mem_cons_of_mem _ hd)]
    rfl
theorem do_dropped {a : Nat} {b : Int} {x : At} : ∀ {l : List ClD}, (∀ c ∈ l, matP c a b x.tags.toNat = false) → doR a b x (l ++ [dropC]) = At.zero
  | [], _ => by
    have h : matP dropC a b x.tags.toNat = true := by simp [matP, forC, tagP, dropC]
    rw [List.nil_append, doR, h]
    rfl
  | c :: l, h => by
    rw [List.cons_append, doR, h c (List.mem_cons_self ..), do_dropped fun d hd => h d (List.mem_cons_of_mem _ hd)]
    rfl
theorem doP_none {l : List ClD} {a : Nat} {b : Int} {x : At} (h : ∀ c ∈ l, matP c a b x.tags.toNat = false) : doP l a b x = if x.ok then x else At.zero := by
  unfold doP
  rw [do_none h]
theorem doP_dropped {l : List ClD} {a : Nat} {b : Int} {x : At} (h : ∀ c ∈ l, matP c a b x.tags.toNat = false) : doP (l ++ [dropC]) a b x = At.zero := by
  unfold doP
  rw [do_dropped h]
  split <;> rfl
end Go.Proofs.Ytphhfjfdanlhiaa
