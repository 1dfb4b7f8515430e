/- Diagrams that are put together: plain mathematics. -/
import Derived.Test.YtcbpklpehdojnaaBu
namespace Go.Proofs.Ytcbpklpehdojnaa

/-- What a diagram says. -/
abbrev says (ns : List Nd) (k : Int) (f : Int → Bool) : Bool := evalP ns f k

/-- Two values that are the same from v on. -/
def AgreeFrom (v : Int) (f g : Int → Bool) : Prop := ∀ x, v ≤ x → f x = g x

/-- What a diagram says hangs on variables alone that it may ask. -/
theorem evalP_agree {most : Int} {ns : List Nd} (h : Good most ns) : ∀ (n i : Nat), i < n → i < ns.length → ∀ {f g : Int → Bool} {v : Int}, v ≤ (ndAt ns i).v → AgreeFrom v f g → evalP ns f i = evalP ns g i
  | 0, i, hn, _, _, _, _, _, _ => by omega
  | n + 1, i, hn, hi, f, g, v, hv, ha => by
    by_cases hlt : (ndAt ns i).v < 1024
    · have h2 : 2 ≤ i := by
        obtain ⟨j, hj, hj2, _⟩ := asks h (k := (i : Int)) (by rw [getN_in hi]; exact hlt)
        omega
      obtain ⟨_, _, ⟨a, ea, la, va⟩, ⟨b, eb, lb, vb⟩, _⟩ := h.nodes i h2 hi
      rw [evalP_at h hi hlt, evalP_at h hi hlt, ea, eb, ha _ hv]
      cases g (ndAt ns i).v with
      | true => simp only [if_true]; exact evalP_agree h n b (by omega) (by omega) (Int.le_of_lt (Int.lt_of_le_of_lt hv vb)) ha
      | false => simp only [Bool.false_eq_true, if_false]; exact evalP_agree h n a (by omega) (by omega) (Int.le_of_lt (Int.lt_of_le_of_lt hv va)) ha
    · rw [evalP_end f (by rw [getN_in hi]; exact hlt), evalP_end g (by rw [getN_in hi]; exact hlt)]

/-- A value turned at v. -/
def turn (f : Int → Bool) (v : Int) (b : Bool) : Int → Bool := fun x => if x = v then b else f x
theorem turn_at (f : Int → Bool) (v : Int) (b : Bool) : turn f v b v = b := by simp [turn]
theorem turn_agree (f : Int → Bool) (v : Int) (b : Bool) {u : Int} (h : v < u) : AgreeFrom u (turn f v b) f := fun x hx => by
  unfold turn
  rw [if_neg (by omega)]

/-- The node of a number that may be there. -/
theorem asks_at {most : Int} {ns : List Nd} (h : Good most ns) {i : Nat} (hi : i < ns.length) (hlt : (ndAt ns i).v < 1024) :
    2 ≤ i ∧ 0 ≤ (ndAt ns i).v ∧ (∃ a : Nat, (ndAt ns i).lo = a ∧ a < i ∧ (ndAt ns i).v < (ndAt ns a).v) ∧ (∃ a : Nat, (ndAt ns i).hi = a ∧ a < i ∧ (ndAt ns i).v < (ndAt ns a).v) ∧ (ndAt ns i).lo ≠ (ndAt ns i).hi := by
  have h2 : 2 ≤ i := by
    obtain ⟨j, hj, hj2, _⟩ := asks h (k := (i : Int)) (by rw [getN_in hi]; exact hlt)
    omega
  obtain ⟨h3, _, h4, h5, h6⟩ := h.nodes i h2 hi
  exact ⟨h2, h3, h4, h5, h6⟩
theorem ends_at {most : Int} {ns : List Nd} (h : Good most ns) {i : Nat} (hi : i < ns.length) (hlt : ¬ (ndAt ns i).v < 1024) : i = 0 ∨ i = 1 := by
  by_cases h2 : 2 ≤ i
  · exact absurd (h.nodes i h2 hi).2.1 hlt
  · omega
theorem node_at {most : Int} {ns : List Nd} (h : Good most ns) : ndAt ns 0 = ⟨1024, 0, 0⟩ ∧ ndAt ns 1 = ⟨1024, 1, 1⟩ := by
  obtain ⟨l, rfl⟩ := h.two
  exact ⟨rfl, rfl⟩

/-- What is the same is the same number. -/
theorem one_number {most : Int} {ns : List Nd} (h : Good most ns) : ∀ (n i j : Nat), i < n → j < n → i < ns.length → j < ns.length → (∀ f, evalP ns f i = evalP ns f j) → i = j
  | 0, i, j, hn, _, _, _, _ => by omega
  | n + 1, i, j, hn, hn', hi, hj, he => by
    obtain ⟨n0, n1⟩ := node_at h
    -- a node that asks more behind than another one is what both its ways are
    have key : ∀ (i j : Nat), i < n + 1 → i < ns.length → j < ns.length → (∀ f, evalP ns f i = evalP ns f j) → (ndAt ns i).v < 1024 → (ndAt ns i).v < (ndAt ns j).v → False := by
      intro i j hn hi hj he hlt hij
      obtain ⟨h2, h0, ⟨a, ea, la, va⟩, ⟨b, eb, lb, vb⟩, hne⟩ := asks_at h hi hlt
      have hab : a = b := one_number h n a b (by omega) (by omega) (by omega) (by omega) (fun f => by
        have e1 := he (turn f (ndAt ns i).v false)
        have e2 := he (turn f (ndAt ns i).v true)
        rw [evalP_at h hi hlt, turn_at, ea] at e1
        rw [evalP_at h hi hlt, turn_at, eb] at e2
        simp only [Bool.false_eq_true, if_false, if_true] at e1 e2
        rw [evalP_agree h (j + 1) j (by omega) hj (Int.le_refl _) (turn_agree f _ _ hij)] at e1 e2
        rw [evalP_agree h (a + 1) a (by omega) (by omega) (Int.le_refl _) (turn_agree f _ _ va)] at e1
        rw [evalP_agree h (b + 1) b (by omega) (by omega) (Int.le_refl _) (turn_agree f _ _ vb)] at e2
        rw [e1, e2])
      exact hne (by rw [ea, eb, hab])
    by_cases hi' : (ndAt ns i).v < 1024
    · by_cases hj' : (ndAt ns j).v < 1024
      · rcases Int.lt_trichotomy (ndAt ns i).v (ndAt ns j).v with hlt | heq | hgt
        · exact absurd (key i j hn hi hj he hi' hlt) id
        · obtain ⟨_, _, ⟨a, ea, la, va⟩, ⟨b, eb, lb, vb⟩, _⟩ := asks_at h hi hi'
          obtain ⟨_, _, ⟨c, ec, lc, vc⟩, ⟨d, ed, ld, vd⟩, _⟩ := asks_at h hj hj'
          have hac : a = c := one_number h n a c (by omega) (by omega) (by omega) (by omega) (fun f => by
            have e1 := he (turn f (ndAt ns i).v false)
            rw [evalP_at h hi hi', turn_at, ea, evalP_at h hj hj', ← heq, turn_at, ec] at e1
            simp only [Bool.false_eq_true, if_false] at e1
            rwa [evalP_agree h (a + 1) a (by omega) (by omega) (Int.le_refl _) (turn_agree f _ _ va), evalP_agree h (c + 1) c (by omega) (by omega) (Int.le_refl _) (turn_agree f _ _ (heq ▸ vc))] at e1)
          have hbd : b = d := one_number h n b d (by omega) (by omega) (by omega) (by omega) (fun f => by
            have e1 := he (turn f (ndAt ns i).v true)
            rw [evalP_at h hi hi', turn_at, eb, evalP_at h hj hj', ← heq, turn_at, ed] at e1
            simp only [if_true] at e1
            rwa [evalP_agree h (b + 1) b (by omega) (by omega) (Int.le_refl _) (turn_agree f _ _ vb), evalP_agree h (d + 1) d (by omega) (by omega) (Int.le_refl _) (turn_agree f _ _ (heq ▸ vd))] at e1)
          exact ndAt_inj h.once hi hj (nd_ext heq (by rw [ea, ec, hac]) (by rw [eb, ed, hbd]))
        · exact absurd (key j i (by omega) hj hi (fun f => (he f).symm) hj' hgt) id
      · have hb : (ndAt ns j).v = 1024 := by
          rcases ends_at h hj hj' with rfl | rfl
          · rw [n0]
          · rw [n1]
        exact absurd (key i j hn hi hj he hi' (by omega)) id
    · by_cases hj' : (ndAt ns j).v < 1024
      · have hb : (ndAt ns i).v = 1024 := by
          rcases ends_at h hi hi' with rfl | rfl
          · rw [n0]
          · rw [n1]
        exact absurd (key j i (by omega) hj hi (fun f => (he f).symm) hj' (by omega)) id
      · have e := he (fun _ => false)
        rw [evalP_end _ (by rw [getN_in hi]; exact hi'), evalP_end _ (by rw [getN_in hj]; exact hj')] at e
        rcases ends_at h hi hi' with rfl | rfl <;> rcases ends_at h hj hj' with rfl | rfl <;> simp at e ⊢

/-- All nodes ask variables below N. -/
def Upto (N : Nat) (ns : List Nd) : Prop := ∀ i, i < ns.length → (ndAt ns i).v < N ∨ (ndAt ns i).v = 1024
/-- A number is a node's. -/
def In (ns : List Nd) (k : Int) : Prop := ∃ i : Nat, k = i ∧ i < ns.length
theorem In.on {ns ns' : List Nd} {k : Int} (h : In ns k) (ho : On ns ns') : In ns' k := by
  obtain ⟨i, rfl, hi⟩ := h
  exact ⟨i, rfl, Nat.lt_of_lt_of_le hi ho.len⟩
theorem From.in {ns : List Nd} {k : Int} {v : Nat} (h : From ns k v) : In ns k := by
  obtain ⟨i, e, hi, _⟩ := h
  exact ⟨i, e, hi⟩
theorem From.less {ns : List Nd} {k : Int} {v u : Nat} (h : From ns k v) (hu : u ≤ v) : From ns k u := by
  obtain ⟨i, e, hi, hv⟩ := h
  exact ⟨i, e, hi, by omega⟩
theorem In.from {most : Int} {ns : List Nd} (hg : Good most ns) {k : Int} (h : In ns k) : From ns k 0 := by
  obtain ⟨i, e, hi⟩ := h
  refine ⟨i, e, hi, ?_⟩
  by_cases h2 : 2 ≤ i
  · have := (hg.nodes i h2 hi).1
    omega
  · obtain ⟨n0, n1⟩ := node_at hg
    rcases (by omega : i = 0 ∨ i = 1) with rfl | rfl
    · rw [n0]; decide
    · rw [n1]; decide
theorem evalP_in {most : Int} {ns ns' : List Nd} (h : Good most ns) (h' : Good most ns') (ho : On ns ns') {k : Int} (hk : In ns k) (f : Int → Bool) : evalP ns' f k = evalP ns f k := by
  obtain ⟨i, rfl, hi⟩ := hk
  exact evalP_on h h' ho f (i + 1) i (by omega) hi
theorem same_in {most : Int} {ns : List Nd} (h : Good most ns) {a b : Int} (ha : In ns a) (hb : In ns b) (he : ∀ f, evalP ns f a = evalP ns f b) : a = b := by
  obtain ⟨i, rfl, hi⟩ := ha
  obtain ⟨j, rfl, hj⟩ := hb
  rw [one_number h (i + j + 1) i j (by omega) (by omega) hi hj he]

/-- A diagram that hangs on nothing ahead of v asks nothing ahead of it. -/
theorem from_of_indep {most : Int} {ns : List Nd} (h : Good most ns) {k : Int} (hk : In ns k) {v : Nat} (hv : v ≤ 1024) (hi : ∀ f g, AgreeFrom v f g → evalP ns f k = evalP ns g k) : From ns k v := by
  obtain ⟨i, rfl, hl⟩ := hk
  refine ⟨i, rfl, hl, ?_⟩
  by_cases hlt : (ndAt ns i).v < 1024
  · obtain ⟨h2, h0, ⟨a, ea, la, va⟩, ⟨b, eb, lb, vb⟩, hne⟩ := asks_at h hl hlt
    by_cases hc : (v : Int) ≤ (ndAt ns i).v
    · exact hc
    · exfalso
      refine hne ?_
      rw [ea, eb]
      congr 1
      refine one_number h (a + b + 1) a b (by omega) (by omega) (by omega) (by omega) (fun f => ?_)
      have e := hi (turn f (ndAt ns i).v false) (turn f (ndAt ns i).v true) (fun x hx => by
        unfold turn
        rw [if_neg (by omega), if_neg (by omega)])
      rw [evalP_at h hl hlt, evalP_at h hl hlt, turn_at, turn_at, ea, eb] at e
      simp only [Bool.false_eq_true, if_false, if_true] at e
      rwa [evalP_agree h (a + 1) a (by omega) (by omega) (Int.le_refl _) (turn_agree f _ _ va), evalP_agree h (b + 1) b (by omega) (by omega) (Int.le_refl _) (turn_agree f _ _ vb)] at e
  · obtain ⟨n0, n1⟩ := node_at h
    rcases ends_at h hl hlt with rfl | rfl
    · rw [n0]; simp only; omega
    · rw [n1]; simp only; omega

theorem from_agree {most : Int} {ns : List Nd} (h : Good most ns) {k : Int} {v : Nat} (hk : From ns k v) {f g : Int → Bool} (ha : AgreeFrom v f g) : evalP ns f k = evalP ns g k := by
  obtain ⟨i, rfl, hi, hv⟩ := hk
  exact evalP_agree h (i + 1) i (by omega) hi hv ha
theorem eval0 {most : Int} {ns : List Nd} (h : Good most ns) (f : Int → Bool) : evalP ns f 0 = false := by
  have hl := h.len
  have := evalP_end (ns := ns) f (k := ((0 : Nat) : Int)) (by rw [getN_in (by omega), (node_at h).1]; decide)
  simpa using this
theorem eval1 {most : Int} {ns : List Nd} (h : Good most ns) (f : Int → Bool) : evalP ns f 1 = true := by
  have hl := h.len
  have := evalP_end (ns := ns) f (k := ((1 : Nat) : Int)) (by rw [getN_in (by omega), (node_at h).2]; decide)
  simpa using this
theorem in0 {most : Int} {ns : List Nd} (h : Good most ns) : In ns 0 := ⟨0, rfl, by have := h.len; omega⟩
theorem in1 {most : Int} {ns : List Nd} (h : Good most ns) : In ns 1 := ⟨1, rfl, by have := h.len; omega⟩

def lowP (v k : Int) (n : Nd) : Int := if n.v = v then n.lo else k
def highP (v k : Int) (n : Nd) : Int := if n.v = v then n.hi else k
theorem low_at {most : Int} {ns : List Nd} (h : Good most ns) {k : Int} (hk : In ns k) {u : Nat} (hu : (u : Int) ≤ (getN ns k).v) (hu' : u < 1024) :
    From ns (lowP u k (getN ns k)) (u + 1) ∧ ∀ f : Int → Bool, f u = false → evalP ns f (lowP u k (getN ns k)) = evalP ns f k := by
  obtain ⟨i, rfl, hi⟩ := hk
  rw [getN_in hi] at hu ⊢
  unfold lowP
  by_cases he : (ndAt ns i).v = u
  · rw [if_pos he]
    have hlt : (ndAt ns i).v < 1024 := by omega
    obtain ⟨_, _, ⟨a, ea, la, va⟩, _, _⟩ := asks_at h hi hlt
    refine ⟨⟨a, ea, by omega, by omega⟩, fun f hf => ?_⟩
    rw [evalP_at h hi hlt, he, hf]
    simp
  · rw [if_neg he]
    exact ⟨⟨i, rfl, hi, by omega⟩, fun f _ => rfl⟩
theorem high_at {most : Int} {ns : List Nd} (h : Good most ns) {k : Int} (hk : In ns k) {u : Nat} (hu : (u : Int) ≤ (getN ns k).v) (hu' : u < 1024) :
    From ns (highP u k (getN ns k)) (u + 1) ∧ ∀ f : Int → Bool, f u = true → evalP ns f (highP u k (getN ns k)) = evalP ns f k := by
  obtain ⟨i, rfl, hi⟩ := hk
  rw [getN_in hi] at hu ⊢
  unfold highP
  by_cases he : (ndAt ns i).v = u
  · rw [if_pos he]
    have hlt : (ndAt ns i).v < 1024 := by omega
    obtain ⟨_, _, _, ⟨a, ea, la, va⟩, _⟩ := asks_at h hi hlt
    refine ⟨⟨a, ea, by omega, by omega⟩, fun f hf => ?_⟩
    rw [evalP_at h hi hlt, he, hf]
    simp
  · rw [if_neg he]
    exact ⟨⟨i, rfl, hi, by omega⟩, fun f _ => rfl⟩
theorem nat_turn (f : Int → Bool) (u : Nat) (b : Bool) : AgreeFrom ((u + 1 : Nat) : Int) (turn f u b) f := turn_agree f u b (by omega)
theorem upto_mk {most : Int} {ns : List Nd} {N : Nat} {v lo hi : Int} (h : Upto N ns) (hv : v < N) : Upto N (mkR most ns v lo hi).2.2 := by
  unfold mkR
  split
  · split
    · exact h
    · split
      · exact h
      · split
        · exact h
        · intro i hi
          simp only [List.length_append, List.length_cons, List.length_nil] at hi
          rcases Nat.lt_or_ge i ns.length with h1 | h1
          · rw [ndAt_left h1]; exact h i h1
          · obtain rfl : i = ns.length := by omega
            rw [ndAt_last]
            exact .inl hv
  · exact h

/-- A node that says φ. -/
def D (ns : List Nd) (k : Int) (φ : (Int → Bool) → Bool) : Prop := In ns k ∧ ∀ f, evalP ns f k = φ f
theorem D.on {most : Int} {ns ns' : List Nd} {k : Int} {φ : (Int → Bool) → Bool} (h : Good most ns) (h' : Good most ns') (ho : On ns ns') (d : D ns k φ) : D ns' k φ := ⟨d.1.on ho, fun f => by rw [evalP_in h h' ho d.1, d.2]⟩
theorem D.one {most : Int} {ns : List Nd} {k k' : Int} {φ ψ : (Int → Bool) → Bool} (h : Good most ns) (d : D ns k φ) (d' : D ns k' ψ) (e : ∀ f, φ f = ψ f) : k = k' := same_in h d.1 d'.1 (fun f => by rw [d.2, d'.2, e])
theorem D.eq {ns : List Nd} {k : Int} {φ ψ : (Int → Bool) → Bool} (d : D ns k φ) (e : ∀ f, φ f = ψ f) : D ns k ψ := ⟨d.1, fun f => by rw [d.2, e]⟩
theorem d0 {most : Int} {ns : List Nd} (h : Good most ns) : D ns 0 (fun _ => false) := ⟨in0 h, eval0 h⟩
theorem d1 {most : Int} {ns : List Nd} (h : Good most ns) : D ns 1 (fun _ => true) := ⟨in1 h, eval1 h⟩

/-- A diagram does not hang on a variable. -/
def Free (ns : List Nd) (v k : Int) : Prop := ∀ f, evalP ns (turn f v true) k = evalP ns (turn f v false) k
theorem turn_self (f : Int → Bool) (v : Int) : turn f v (f v) = f := by
  funext x
  unfold turn
  split
  · rename_i h; rw [h]
  · rfl
theorem turn_other (f : Int → Bool) {v x : Int} (b : Bool) (h : x ≠ v) : turn f v b x = f x := by
  unfold turn
  rw [if_neg h]
theorem Free.turn {ns : List Nd} {v k : Int} (h : Free ns v k) (f : Int → Bool) (b : Bool) : evalP ns (turn f v b) k = evalP ns f k := by
  have e2 : evalP ns (Go.Proofs.Ytcbpklpehdojnaa.turn f v (f v)) k = evalP ns f k := by rw [turn_self]
  rw [← e2]
  have e := h f
  cases b <;> cases f v <;> first | rfl | exact e | exact e.symm
theorem free_on {most : Int} {ns ns' : List Nd} (h : Good most ns) (h' : Good most ns') (ho : On ns ns') {v k : Int} (hk : In ns k) : Free ns' v k ↔ Free ns v k := by
  constructor
  · intro hf f; rw [← evalP_in h h' ho hk, ← evalP_in h h' ho hk]; exact hf f
  · intro hf f; rw [evalP_in h h' ho hk, evalP_in h h' ho hk]; exact hf f
theorem turn_far (f : Int → Bool) {v u : Int} (a b : Bool) (h : v < u) : AgreeFrom u (turn f v a) (turn f v b) := fun x hx => by
  unfold turn
  rw [if_neg (by omega), if_neg (by omega)]
theorem free_behind {most : Int} {ns : List Nd} (h : Good most ns) {v k : Int} (hk : In ns k) (hv : v < (getN ns k).v) : Free ns v k := by
  obtain ⟨i, rfl, hi⟩ := hk
  rw [getN_in hi] at hv
  exact fun f => evalP_agree h (i + 1) i (by omega) hi (Int.le_refl _) (turn_far f true false hv)
theorem free_at {most : Int} {ns : List Nd} (h : Good most ns) {v k : Int} (hk : In ns k) (hv : (getN ns k).v = v) (hlt : v < 1024) : ¬ Free ns v k := by
  intro hf
  obtain ⟨i, rfl, hi⟩ := hk
  rw [getN_in hi] at hv
  obtain ⟨h2, h0, ⟨a, ea, la, va⟩, ⟨b, eb, lb, vb⟩, hne⟩ := asks_at h hi (by omega)
  refine hne ?_
  rw [ea, eb]
  congr 1
  refine one_number h (a + b + 1) a b (by omega) (by omega) (by omega) (by omega) (fun f => ?_)
  have e := hf f
  rw [evalP_at h hi (by omega), evalP_at h hi (by omega), hv, turn_at, turn_at, ea, eb] at e
  simp only [Bool.false_eq_true, if_false, if_true] at e
  rw [evalP_agree h (a + 1) a (by omega) (by omega) (Int.le_refl _) (turn_agree f v false (hv ▸ va)), evalP_agree h (b + 1) b (by omega) (by omega) (Int.le_refl _) (turn_agree f v true (hv ▸ vb))] at e
  exact e.symm
theorem free_split {most : Int} {ns : List Nd} (h : Good most ns) {v k : Int} (hk : In ns k) (hv : (getN ns k).v < v) (hlt : v < 1024) : Free ns v k ↔ Free ns v (getN ns k).lo ∧ Free ns v (getN ns k).hi := by
  obtain ⟨i, rfl, hi⟩ := hk
  rw [getN_in hi] at hv ⊢
  have hl : (ndAt ns i).v < 1024 := by omega
  obtain ⟨h2, h0, ⟨a, ea, la, va⟩, ⟨b, eb, lb, vb⟩, hne⟩ := asks_at h hi hl
  have hn : (ndAt ns i).v ≠ v := by omega
  constructor
  · intro hf
    rw [ea, eb]
    have swap : ∀ (f : Int → Bool) (c t : Bool) (j : Nat), j < ns.length → (ndAt ns i).v < (ndAt ns j).v → evalP ns (turn (turn f (ndAt ns i).v c) v t) j = evalP ns (turn f v t) j := fun f c t j hj hvj =>
      evalP_agree h (j + 1) j (by omega) hj (Int.le_refl _) (fun x hx => by
        unfold turn
        by_cases hx2 : x = v
        · rw [if_pos hx2, if_pos hx2]
        · rw [if_neg hx2, if_neg hx2, if_neg (by omega)])
    refine ⟨fun f => ?_, fun f => ?_⟩
    · have e := hf (turn f (ndAt ns i).v false)
      rw [evalP_at h hi hl, evalP_at h hi hl, turn_other _ _ hn, turn_other _ _ hn, turn_at, ea] at e
      simp only [Bool.false_eq_true, if_false] at e
      rwa [swap f false true a (by omega) va, swap f false false a (by omega) va] at e
    · have e := hf (turn f (ndAt ns i).v true)
      rw [evalP_at h hi hl, evalP_at h hi hl, turn_other _ _ hn, turn_other _ _ hn, turn_at, eb] at e
      simp only [if_true] at e
      rwa [swap f true true b (by omega) vb, swap f true false b (by omega) vb] at e
  · rintro ⟨h1, h2'⟩ f
    rw [evalP_at h hi hl, evalP_at h hi hl, turn_other _ _ hn, turn_other _ _ hn]
    cases f (ndAt ns i).v with
    | true => simp only [if_true]; exact h2' f
    | false => simp only [Bool.false_eq_true, if_false]; exact h1 f

end Go.Proofs.Ytcbpklpehdojnaa
