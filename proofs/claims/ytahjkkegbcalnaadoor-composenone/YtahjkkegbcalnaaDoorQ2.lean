/- What three diagrams come to, by their halves: plain mathematics. -/
import Derived.Test.YtahjkkegbcalnaaDoorQ
import Derived.Test.YtahjkkegbcalnaaDoorK
namespace Go.Proofs.YtahjkkegbcalnaaDoor

/-- All nodes ask variables below N. -/
def Upto (N : Nat) (ns : List Nd) : Prop := ∀ i, i < ns.length → (ndAt ns i).v < N ∨ (ndAt ns i).v = 1024
/-- A number is a node's. -/
def In (ns : List Nd) (k : Int) : Prop := ∃ i : Nat, k = i ∧ i < ns.length
theorem In.on {ns ns' : List Nd} {k : Int} (h : In ns k) (ho : On ns ns') : In ns' k := by
  obtain ⟨i, rfl, hi⟩ := h
  exact ⟨i, rfl, Nat.lt_of_lt_of_le hi ho.len⟩
theorem From.in {ns : List Nd} {k : Int} {v : Nat} (h : From ns k v) : In ns k := by
  obtain ⟨i, e, hi, _⟩ := h
  exact ⟨i, e, hi⟩
theorem From.less {ns : List Nd} {k : Int} {v u : Nat} (h : From ns k v) (hu : u ≤ v) : From ns k u := by
  obtain ⟨i, e, hi, hv⟩ := h
  exact ⟨i, e, hi, by omega⟩
theorem In.from {most : Int} {ns : List Nd} (hg : Good most ns) {k : Int} (h : In ns k) : From ns k 0 := by
  obtain ⟨i, e, hi⟩ := h
  refine ⟨i, e, hi, ?_⟩
  by_cases h2 : 2 ≤ i
  · have := (hg.nodes i h2 hi).1
    omega
  · obtain ⟨n0, n1⟩ := node_at hg
    rcases (by omega : i = 0 ∨ i = 1) with rfl | rfl
    · rw [n0]; decide
    · rw [n1]; decide
theorem evalP_in {most : Int} {ns ns' : List Nd} (h : Good most ns) (h' : Good most ns') (ho : On ns ns') {k : Int} (hk : In ns k) (f : Int → Bool) : evalP ns' f k = evalP ns f k := by
  obtain ⟨i, rfl, hi⟩ := hk
  exact evalP_on h h' ho f (i + 1) i (by omega) hi
theorem same_in {most : Int} {ns : List Nd} (h : Good most ns) {a b : Int} (ha : In ns a) (hb : In ns b) (he : ∀ f, evalP ns f a = evalP ns f b) : a = b := by
  obtain ⟨i, rfl, hi⟩ := ha
  obtain ⟨j, rfl, hj⟩ := hb
  rw [one_number h (i + j + 1) i j (by omega) (by omega) hi hj he]

/-- A diagram that hangs on nothing ahead of v asks nothing ahead of it. -/
theorem from_of_indep {most : Int} {ns : List Nd} (h : Good most ns) {k : Int} (hk : In ns k) {v : Nat} (hv : v ≤ 1024) (hi : ∀ f g, AgreeFrom v f g → evalP ns f k = evalP ns g k) : From ns k v := by
  obtain ⟨i, rfl, hl⟩ := hk
  refine ⟨i, rfl, hl, ?_⟩
  by_cases hlt : (ndAt ns i).v < 1024
  · obtain ⟨h2, h0, ⟨a, ea, la, va⟩, ⟨b, eb, lb, vb⟩, hne⟩ := asks_at h hl hlt
    by_cases hc : (v : Int) ≤ (ndAt ns i).v
    · exact hc
    · exfalso
      refine hne ?_
      rw [ea, eb]
      congr 1
      refine one_number h (a + b + 1) a b (by omega) (by omega) (by omega) (by omega) (fun f => ?_)
      have e := hi (turn f (ndAt ns i).v false) (turn f (ndAt ns i).v true) (fun x hx => by
        unfold turn
        rw [if_neg (by omega), if_neg (by omega)])
      rw [evalP_at h hl hlt, evalP_at h hl hlt, turn_at, turn_at, ea, eb] at e
      simp only [Bool.false_eq_true, if_false, if_true] at e
      rwa [evalP_agree h (a + 1) a (by omega) (by omega) (Int.le_refl _) (turn_agree f _ _ va), evalP_agree h (b + 1) b (by omega) (by omega) (Int.le_refl _) (turn_agree f _ _ vb)] at e
  · obtain ⟨n0, n1⟩ := node_at h
    rcases ends_at h hl hlt with rfl | rfl
    · rw [n0]; simp only; omega
    · rw [n1]; simp only; omega

/-- What three diagrams come to. -/
def R3 (op : Bool → Bool → Bool → Bool) (ns : List Nd) (d : Nd) (f : Int → Bool) : Bool := op (evalP ns f d.v) (evalP ns f d.lo) (evalP ns f d.hi)
def In3 (ns : List Nd) (d : Nd) : Prop := In ns d.v ∧ In ns d.lo ∧ In ns d.hi
def From3 (ns : List Nd) (d : Nd) (v : Nat) : Prop := From ns d.v v ∧ From ns d.lo v ∧ From ns d.hi v
theorem From3.in {ns : List Nd} {d : Nd} {v : Nat} (h : From3 ns d v) : In3 ns d := ⟨h.1.in, h.2.1.in, h.2.2.in⟩
theorem In3.on {ns ns' : List Nd} {d : Nd} (h : In3 ns d) (ho : On ns ns') : In3 ns' d := ⟨h.1.on ho, h.2.1.on ho, h.2.2.on ho⟩
theorem From3.on {ns ns' : List Nd} {d : Nd} {v : Nat} (h : From3 ns d v) (ho : On ns ns') : From3 ns' d v := ⟨h.1.on ho, h.2.1.on ho, h.2.2.on ho⟩
theorem R3_on {most : Int} {op : Bool → Bool → Bool → Bool} {ns ns' : List Nd} (h : Good most ns) (h' : Good most ns') (ho : On ns ns') {d : Nd} (hd : In3 ns d) (f : Int → Bool) : R3 op ns' d f = R3 op ns d f := by
  unfold R3
  rw [evalP_in h h' ho hd.1, evalP_in h h' ho hd.2.1, evalP_in h h' ho hd.2.2]
theorem from_agree {most : Int} {ns : List Nd} (h : Good most ns) {k : Int} {v : Nat} (hk : From ns k v) {f g : Int → Bool} (ha : AgreeFrom v f g) : evalP ns f k = evalP ns g k := by
  obtain ⟨i, rfl, hi, hv⟩ := hk
  exact evalP_agree h (i + 1) i (by omega) hi hv ha
theorem R3_agree {most : Int} {op : Bool → Bool → Bool → Bool} {ns : List Nd} (h : Good most ns) {d : Nd} {v : Nat} (hd : From3 ns d v) {f g : Int → Bool} (ha : AgreeFrom v f g) : R3 op ns d f = R3 op ns d g := by
  unfold R3
  rw [from_agree h hd.1 ha, from_agree h hd.2.1 ha, from_agree h hd.2.2 ha]

/-- A rule tells what is so, and always of what asks nothing. -/
structure RuleOk (rule : Nd → Option Int) (op : Bool → Bool → Bool → Bool) : Prop where
  told : ∀ {most : Int} {ns : List Nd} {d : Nd} {k : Int}, Good most ns → In3 ns d → rule d = some k → In ns k ∧ ∀ f, evalP ns f k = R3 op ns d f
  asks : ∀ {d : Nd}, rule d = none → ¬ ((d.v = 0 ∨ d.v = 1) ∧ (d.lo = 0 ∨ d.lo = 1) ∧ (d.hi = 0 ∨ d.hi = 1))

theorem eval0 {most : Int} {ns : List Nd} (h : Good most ns) (f : Int → Bool) : evalP ns f 0 = false := by
  have hl := h.len
  have := evalP_end (ns := ns) f (k := ((0 : Nat) : Int)) (by rw [getN_in (by omega), (node_at h).1]; decide)
  simpa using this
theorem eval1 {most : Int} {ns : List Nd} (h : Good most ns) (f : Int → Bool) : evalP ns f 1 = true := by
  have hl := h.len
  have := evalP_end (ns := ns) f (k := ((1 : Nat) : Int)) (by rw [getN_in (by omega), (node_at h).2]; decide)
  simpa using this
theorem in0 {most : Int} {ns : List Nd} (h : Good most ns) : In ns 0 := ⟨0, rfl, by have := h.len; omega⟩
theorem in1 {most : Int} {ns : List Nd} (h : Good most ns) : In ns 1 := ⟨1, rfl, by have := h.len; omega⟩

def opChoose (a b c : Bool) : Bool := if a = true then b else c
def opDiffer (a b _c : Bool) : Bool := a != b
theorem choose_ok : RuleOk chooseP opChoose := by
  refine ⟨?_, ?_⟩
  · intro most ns d k h hd hk
    unfold chooseP at hk
    unfold R3 opChoose
    by_cases h1 : d.v = 1 ∨ d.lo = d.hi
    · rw [if_pos h1] at hk
      cases hk
      refine ⟨hd.2.1, fun f => ?_⟩
      rcases h1 with h1 | h1
      · rw [h1, eval1 h]; simp
      · rw [h1]; simp
    · rw [if_neg h1] at hk
      by_cases h2 : d.v = 0
      · rw [if_pos h2] at hk
        cases hk
        exact ⟨hd.2.2, fun f => by rw [h2, eval0 h]; simp⟩
      · rw [if_neg h2] at hk
        by_cases h3 : d.lo = 1 ∧ d.hi = 0
        · rw [if_pos h3] at hk
          cases hk
          refine ⟨hd.1, fun f => ?_⟩
          rw [h3.1, h3.2, eval0 h, eval1 h]
          cases evalP ns f d.v <;> simp
        · rw [if_neg h3] at hk
          cases hk
  · intro d hk hh
    unfold chooseP at hk
    by_cases h1 : d.v = 1 ∨ d.lo = d.hi
    · rw [if_pos h1] at hk; cases hk
    · rw [if_neg h1] at hk
      by_cases h2 : d.v = 0
      · rw [if_pos h2] at hk; cases hk
      · exact hh.1.elim h2 (fun h => h1 (.inl h))
theorem differ_ok : RuleOk differP opDiffer := by
  refine ⟨?_, ?_⟩
  · intro most ns d k h hd hk
    unfold differP at hk
    unfold R3 opDiffer
    by_cases h1 : d.v = d.lo
    · rw [if_pos h1] at hk
      cases hk
      exact ⟨in0 h, fun f => by rw [h1, eval0 h]; simp⟩
    · rw [if_neg h1] at hk
      by_cases h2 : d.v = 0
      · rw [if_pos h2] at hk
        cases hk
        exact ⟨hd.2.1, fun f => by rw [h2, eval0 h]; simp⟩
      · rw [if_neg h2] at hk
        by_cases h3 : d.lo = 0
        · rw [if_pos h3] at hk
          cases hk
          exact ⟨hd.1, fun f => by rw [h3, eval0 h]; simp⟩
        · rw [if_neg h3] at hk
          cases hk
  · intro d hk hh
    unfold differP at hk
    by_cases h1 : d.v = d.lo
    · rw [if_pos h1] at hk; cases hk
    · rw [if_neg h1] at hk
      by_cases h2 : d.v = 0
      · rw [if_pos h2] at hk; cases hk
      · rw [if_neg h2] at hk
        by_cases h3 : d.lo = 0
        · rw [if_pos h3] at hk; cases hk
        · omega

/-- What is remembered is right. -/
def Valid (op : Bool → Bool → Bool → Bool) (ns : List Nd) (kvs : List (Value × Value)) : Prop :=
  ∀ x ∈ kvs, ∃ (d : Nd) (k : Int), x = (ndV d, .int .i64 k) ∧ In3 ns d ∧ In ns k ∧ ∀ f, evalP ns f k = R3 op ns d f
theorem Valid.on {most : Int} {op : Bool → Bool → Bool → Bool} {ns ns' : List Nd} {kvs : List (Value × Value)} (h : Good most ns) (h' : Good most ns') (ho : On ns ns') (hv : Valid op ns kvs) : Valid op ns' kvs := by
  intro x hx
  obtain ⟨d, k, e, hd, hk, he⟩ := hv x hx
  exact ⟨d, k, e, hd.on ho, hk.on ho, fun f => by rw [evalP_in h h' ho hk, R3_on h h' ho hd, he]⟩

/-- What is known behind three were put together, of n variables from some one on. -/
structure JOut (op : Bool → Bool → Bool → Bool) (N : Nat) (most : Int) (n : Nat) (ns : List Nd) (d : Nd) (ns' : List Nd) (kvs' : List (Value × Value)) (k err : Int) : Prop where
  good : Good most ns'
  on : On ns ns'
  upto : Upto N ns'
  valid : Valid op ns' kvs'
  out : (err = 8 ∧ k = 0 ∧ most < ns.length + 2 ^ n - 1) ∨
    (err = 0 ∧ In ns' k ∧ (∀ f, evalP ns' f k = R3 op ns d f) ∧ (ns'.length : Int) ≤ ns.length + 2 ^ n - 1 ∧ (∀ i, In ns i → (∀ f, evalP ns f i = R3 op ns d f) → ns' = ns))
end Go.Proofs.YtahjkkegbcalnaaDoor
