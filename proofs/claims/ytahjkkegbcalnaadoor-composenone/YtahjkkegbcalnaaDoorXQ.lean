/- Diagrams that are put for a variable: plain mathematics. -/
import Derived.Test.YtahjkkegbcalnaaDoorQ3
import Derived.Test.YtahjkkegbcalnaaDoorXI
namespace Go.Proofs.YtahjkkegbcalnaaDoor

/-- A diagram does not hang on a variable. -/
def Free (ns : List Nd) (v k : Int) : Prop := ∀ f, evalP ns (turn f v true) k = evalP ns (turn f v false) k
theorem turn_self (f : Int → Bool) (v : Int) : turn f v (f v) = f := by
  funext x
  unfold turn
  split
  · rename_i h; rw [h]
  · rfl
theorem turn_other (f : Int → Bool) {v x : Int} (b : Bool) (h : x ≠ v) : turn f v b x = f x := by
  unfold turn
  rw [if_neg h]
theorem Free.turn {ns : List Nd} {v k : Int} (h : Free ns v k) (f : Int → Bool) (b : Bool) : evalP ns (turn f v b) k = evalP ns f k := by
  have e2 : evalP ns (Go.Proofs.YtahjkkegbcalnaaDoor.turn f v (f v)) k = evalP ns f k := by rw [turn_self]
  rw [← e2]
  have e := h f
  cases b <;> cases f v <;> first | rfl | exact e | exact e.symm
theorem free_on {most : Int} {ns ns' : List Nd} (h : Good most ns) (h' : Good most ns') (ho : On ns ns') {v k : Int} (hk : In ns k) : Free ns' v k ↔ Free ns v k := by
  constructor
  · intro hf f; rw [← evalP_in h h' ho hk, ← evalP_in h h' ho hk]; exact hf f
  · intro hf f; rw [evalP_in h h' ho hk, evalP_in h h' ho hk]; exact hf f
theorem turn_far (f : Int → Bool) {v u : Int} (a b : Bool) (h : v < u) : AgreeFrom u (turn f v a) (turn f v b) := fun x hx => by
  unfold turn
  rw [if_neg (by omega), if_neg (by omega)]
theorem free_behind {most : Int} {ns : List Nd} (h : Good most ns) {v k : Int} (hk : In ns k) (hv : v < (getN ns k).v) : Free ns v k := by
  obtain ⟨i, rfl, hi⟩ := hk
  rw [getN_in hi] at hv
  exact fun f => evalP_agree h (i + 1) i (by omega) hi (Int.le_refl _) (turn_far f true false hv)
theorem free_at {most : Int} {ns : List Nd} (h : Good most ns) {v k : Int} (hk : In ns k) (hv : (getN ns k).v = v) (hlt : v < 1024) : ¬ Free ns v k := by
  intro hf
  obtain ⟨i, rfl, hi⟩ := hk
  rw [getN_in hi] at hv
  obtain ⟨h2, h0, ⟨a, ea, la, va⟩, ⟨b, eb, lb, vb⟩, hne⟩ := asks_at h hi (by omega)
  refine hne ?_
  rw [ea, eb]
  congr 1
  refine one_number h (a + b + 1) a b (by omega) (by omega) (by omega) (by omega) (fun f => ?_)
  have e := hf f
  rw [evalP_at h hi (by omega), evalP_at h hi (by omega), hv, turn_at, turn_at, ea, eb] at e
  simp only [Bool.false_eq_true, if_false, if_true] at e
  rw [evalP_agree h (a + 1) a (by omega) (by omega) (Int.le_refl _) (turn_agree f v false (hv ▸ va)), evalP_agree h (b + 1) b (by omega) (by omega) (Int.le_refl _) (turn_agree f v true (hv ▸ vb))] at e
  exact e.symm
theorem free_split {most : Int} {ns : List Nd} (h : Good most ns) {v k : Int} (hk : In ns k) (hv : (getN ns k).v < v) (hlt : v < 1024) : Free ns v k ↔ Free ns v (getN ns k).lo ∧ Free ns v (getN ns k).hi := by
  obtain ⟨i, rfl, hi⟩ := hk
  rw [getN_in hi] at hv ⊢
  have hl : (ndAt ns i).v < 1024 := by omega
  obtain ⟨h2, h0, ⟨a, ea, la, va⟩, ⟨b, eb, lb, vb⟩, hne⟩ := asks_at h hi hl
  have hn : (ndAt ns i).v ≠ v := by omega
  constructor
  · intro hf
    rw [ea, eb]
    have swap : ∀ (f : Int → Bool) (c t : Bool) (j : Nat), j < ns.length → (ndAt ns i).v < (ndAt ns j).v → evalP ns (turn (turn f (ndAt ns i).v c) v t) j = evalP ns (turn f v t) j := fun f c t j hj hvj =>
      evalP_agree h (j + 1) j (by omega) hj (Int.le_refl _) (fun x hx => by
        unfold turn
        by_cases hx2 : x = v
        · rw [if_pos hx2, if_pos hx2]
        · rw [if_neg hx2, if_neg hx2, if_neg (by omega)])
    refine ⟨fun f => ?_, fun f => ?_⟩
    · have e := hf (turn f (ndAt ns i).v false)
      rw [evalP_at h hi hl, evalP_at h hi hl, turn_other _ _ hn, turn_other _ _ hn, turn_at, ea] at e
      simp only [Bool.false_eq_true, if_false] at e
      rwa [swap f false true a (by omega) va, swap f false false a (by omega) va] at e
    · have e := hf (turn f (ndAt ns i).v true)
      rw [evalP_at h hi hl, evalP_at h hi hl, turn_other _ _ hn, turn_other _ _ hn, turn_at, eb] at e
      simp only [if_true] at e
      rwa [swap f true true b (by omega) vb, swap f true false b (by omega) vb] at e
  · rintro ⟨h1, h2'⟩ f
    rw [evalP_at h hi hl, evalP_at h hi hl, turn_other _ _ hn, turn_other _ _ hn]
    cases f (ndAt ns i).v with
    | true => simp only [if_true]; exact h2' f
    | false => simp only [Bool.false_eq_true, if_false]; exact h1 f

/-- What three say: the second where the variable is 1, the third where it is 0. -/
def M3 (op : Bool → Bool → Bool → Bool) (ns : List Nd) (v : Int) (d : Nd) (f : Int → Bool) : Bool := op (evalP ns f d.v) (evalP ns (turn f v true) d.lo) (evalP ns (turn f v false) d.hi)
theorem M3_free {op : Bool → Bool → Bool → Bool} {ns : List Nd} {v : Int} {d : Nd} (h1 : Free ns v d.lo) (h2 : Free ns v d.hi) (f : Int → Bool) : M3 op ns v d f = R3 op ns d f := by
  unfold M3 R3
  rw [h1.turn, h2.turn]
theorem M3_on {most : Int} {op : Bool → Bool → Bool → Bool} {ns ns' : List Nd} (h : Good most ns) (h' : Good most ns') (ho : On ns ns') {v : Int} {d : Nd} (hd : In3 ns d) (f : Int → Bool) : M3 op ns' v d f = M3 op ns v d f := by
  unfold M3
  rw [evalP_in h h' ho hd.1, evalP_in h h' ho hd.2.1, evalP_in h h' ho hd.2.2]
theorem agree_turn {f g : Int → Bool} {u : Int} (h : AgreeFrom u f g) (v : Int) (b : Bool) : AgreeFrom u (turn f v b) (turn g v b) := fun x hx => by
  unfold turn
  rw [h x hx]
theorem M3_agree {most : Int} {op : Bool → Bool → Bool → Bool} {ns : List Nd} (h : Good most ns) {v : Int} {d : Nd} {u : Nat} (hd : From3 ns d u) {f g : Int → Bool} (ha : AgreeFrom u f g) : M3 op ns v d f = M3 op ns v d g := by
  unfold M3
  rw [from_agree h hd.1 ha, from_agree h hd.2.1 (agree_turn ha v true), from_agree h hd.2.2 (agree_turn ha v false)]
/-- Three whose first variable is u, which the second and the third do not ask or which is not v, by their halves. -/
theorem M3_half {most : Int} {op : Bool → Bool → Bool → Bool} {ns : List Nd} (h : Good most ns) {v : Int} {d : Nd} {u : Nat} (hd : In3 ns d) (hf : First ns u d) (hv : (u : Int) ≠ v ∨ (Free ns v d.lo ∧ Free ns v d.hi)) (f : Int → Bool) :
    M3 op ns v d f = if f u = true then M3 op ns v (highD ns u d) f else M3 op ns v (lowD ns u d) f := by
  have hlo : ∀ k, In ns k → (u : Int) ≤ (getN ns k).v → ((u : Int) ≠ v ∨ Free ns v k) → ∀ t, f u = false → evalP ns (turn f v t) (lowP u k (getN ns k)) = evalP ns (turn f v t) k := by
    intro k hk hu hc t hfu
    rcases hc with hc | hc
    · exact (low_at h hk hu hf.lt).2 _ (by rw [turn_other _ _ hc]; exact hfu)
    · by_cases e : (getN ns k).v = u
      · by_cases e2 : (u : Int) = v
        · exact absurd hc (free_at h hk (e.trans e2) (by have := hf.lt; omega))
        · exact (low_at h hk hu hf.lt).2 _ (by rw [turn_other _ _ e2]; exact hfu)
      · rw [lowP, if_neg e]
  have hhi : ∀ k, In ns k → (u : Int) ≤ (getN ns k).v → ((u : Int) ≠ v ∨ Free ns v k) → ∀ t, f u = true → evalP ns (turn f v t) (highP u k (getN ns k)) = evalP ns (turn f v t) k := by
    intro k hk hu hc t hfu
    rcases hc with hc | hc
    · exact (high_at h hk hu hf.lt).2 _ (by rw [turn_other _ _ hc]; exact hfu)
    · by_cases e : (getN ns k).v = u
      · by_cases e2 : (u : Int) = v
        · exact absurd hc (free_at h hk (e.trans e2) (by have := hf.lt; omega))
        · exact (high_at h hk hu hf.lt).2 _ (by rw [turn_other _ _ e2]; exact hfu)
      · rw [highP, if_neg e]
  have c2 : (u : Int) ≠ v ∨ Free ns v d.lo := hv.imp id (fun h => h.1)
  have c3 : (u : Int) ≠ v ∨ Free ns v d.hi := hv.imp id (fun h => h.2)
  unfold M3 lowD highD
  simp only
  cases hfu : f u with
  | true => simp only [if_true]; rw [(high_at h hd.1 hf.a hf.lt).2 f hfu, hhi _ hd.2.1 hf.b c2 _ hfu, hhi _ hd.2.2 hf.c c3 _ hfu]
  | false => simp only [Bool.false_eq_true, if_false]; rw [(low_at h hd.1 hf.a hf.lt).2 f hfu, hlo _ hd.2.1 hf.b c2 _ hfu, hlo _ hd.2.2 hf.c c3 _ hfu]

/-- Halves hang on no more than the whole. -/
theorem free_lowP {most : Int} {ns : List Nd} (h : Good most ns) {v k : Int} {u : Nat} (hk : In ns k) (hf : Free ns v k) (hlt : v < 1024) : Free ns v (lowP u k (getN ns k)) := by
  unfold lowP
  by_cases e : (getN ns k).v = u
  · rw [if_pos e]
    rcases Int.lt_trichotomy (getN ns k).v v with h1 | h1 | h1
    · exact ((free_split h hk h1 hlt).1 hf).1
    · exact absurd hf (free_at h hk h1 hlt)
    · obtain ⟨i, rfl, hi⟩ := hk
      rw [getN_in hi] at h1 ⊢
      by_cases hl : (ndAt ns i).v < 1024
      · obtain ⟨_, _, ⟨a, ea, la, va⟩, _, _⟩ := asks_at h hi hl
        refine free_behind h ⟨a, ea, by omega⟩ ?_
        rw [ea, getN_in (by omega)]
        omega
      · obtain ⟨n0, n1⟩ := node_at h
        rcases ends_at h hi hl with rfl | rfl
        · rw [n0]; exact hf
        · rw [n1]; exact hf
  · rw [if_neg e]; exact hf
theorem free_highP {most : Int} {ns : List Nd} (h : Good most ns) {v k : Int} {u : Nat} (hk : In ns k) (hf : Free ns v k) (hlt : v < 1024) : Free ns v (highP u k (getN ns k)) := by
  unfold highP
  by_cases e : (getN ns k).v = u
  · rw [if_pos e]
    rcases Int.lt_trichotomy (getN ns k).v v with h1 | h1 | h1
    · exact ((free_split h hk h1 hlt).1 hf).2
    · exact absurd hf (free_at h hk h1 hlt)
    · obtain ⟨i, rfl, hi⟩ := hk
      rw [getN_in hi] at h1 ⊢
      by_cases hl : (ndAt ns i).v < 1024
      · obtain ⟨_, _, _, ⟨a, ea, la, va⟩, _⟩ := asks_at h hi hl
        refine free_behind h ⟨a, ea, by omega⟩ ?_
        rw [ea, getN_in (by omega)]
        omega
      · obtain ⟨n0, n1⟩ := node_at h
        rcases ends_at h hi hl with rfl | rfl
        · rw [n0]; exact hf
        · rw [n1]; exact hf
  · rw [if_neg e]; exact hf

/-- What is remembered of diagrams that ask. -/
def AskOk (ns : List Nd) (v : Int) (kvs : List (Value × Value)) : Prop :=
  ∀ x ∈ kvs, ∃ (k : Int) (b : Bool), x = (.int .i64 k, .int .i64 (if b = true then 1 else 0)) ∧ In ns k ∧ (b = true ↔ ¬ Free ns v k)
/-- What is remembered of three. -/
def DoneOk (op : Bool → Bool → Bool → Bool) (ns : List Nd) (v : Int) (kvs : List (Value × Value)) : Prop :=
  ∀ x ∈ kvs, ∃ (d : Nd) (k : Int), x = (ndV d, .int .i64 k) ∧ In3 ns d ∧ In ns k ∧ ∀ f, evalP ns f k = M3 op ns v d f
/-- What both maps remember is right. -/
def Both (op : Bool → Bool → Bool → Bool) (v : Int) (ns : List Nd) (s : List (Value × Value) × List (Value × Value)) : Prop := AskOk ns v s.1 ∧ DoneOk op ns v s.2
theorem Both.on {most : Int} {op : Bool → Bool → Bool → Bool} {v : Int} {ns ns' : List Nd} {s : List (Value × Value) × List (Value × Value)} (h : Good most ns) (h' : Good most ns') (ho : On ns ns') (b : Both op v ns s) : Both op v ns' s := by
  refine ⟨fun x hx => ?_, fun x hx => ?_⟩
  · obtain ⟨k, t, e, hk, hb⟩ := b.1 x hx
    exact ⟨k, t, e, hk.on ho, by rw [hb, free_on h h' ho hk]⟩
  · obtain ⟨d, k, e, hd, hk, he⟩ := b.2 x hx
    exact ⟨d, k, e, hd.on ho, hk.on ho, fun f => by rw [evalP_in h h' ho hk, M3_on h h' ho hd, he]⟩

/-- What is known behind three were made one, of n variables from some one on: T is what they say. -/
structure POut (op : Bool → Bool → Bool → Bool) (v : Int) (N : Nat) (most : Int) (n : Nat) (ns : List Nd) (T : (Int → Bool) → Bool) (ns' : List Nd) (s' : List (Value × Value) × List (Value × Value)) (k err : Int) : Prop where
  good : Good most ns'
  on : On ns ns'
  upto : Upto N ns'
  both : Both op v ns' s'
  out : (err = 8 ∧ k = 0 ∧ most < ns.length + 2 ^ n - 1) ∨
    (err = 0 ∧ In ns' k ∧ (∀ f, evalP ns' f k = T f) ∧ (ns'.length : Int) ≤ ns.length + 2 ^ n - 1 ∧ (∀ i, In ns i → (∀ f, evalP ns f i = T f) → ns' = ns))
/-- What three come to behind split, by what their two halves do. -/
def FinS {S : Type} (most u : Int) (PL : List Nd → S → Int → Int → Prop) (PH : List Nd → S → Int → List Nd → S → Int → Int → Prop) (ns' : List Nd) (s' : S) (k err : Int) : Prop :=
  (err ≠ 0 ∧ k = 0 ∧ ∃ k1, PL ns' s' k1 err) ∨
  (∃ ns1 s1 k1, PL ns1 s1 k1 0 ∧
    ((err ≠ 0 ∧ k = 0 ∧ ∃ k2, PH ns1 s1 k1 ns' s' k2 err) ∨
     (∃ ns2 k2, PH ns1 s1 k1 ns2 s' k2 0 ∧ ns' = (mkR most ns2 u k1 k2).2.2 ∧ err = (mkR most ns2 u k1 k2).2.1 ∧ k = (mkR most ns2 u k1 k2).1)))

section
variable {op : Bool → Bool → Bool → Bool} {v : Int} {most : Int} {ns : List Nd} {u : Nat} {T L H : (Int → Bool) → Bool}
theorem half_gen (h : Good most ns) (hlt : u < 1024) (hT : ∀ f, T f = if f u = true then H f else L f) (hL : ∀ f g, AgreeFrom ((u + 1 : Nat) : Int) f g → L f = L g) (hH : ∀ f g, AgreeFrom ((u + 1 : Nat) : Int) f g → H f = H g) {i : Int} (hi : In ns i) (he : ∀ f, evalP ns f i = T f) :
    (u : Int) ≤ (getN ns i).v ∧ (∀ f, evalP ns f (lowP u i (getN ns i)) = L f) ∧ (∀ f, evalP ns f (highP u i (getN ns i)) = H f) := by
  have hfr := from_of_indep h hi (v := u) (Nat.le_of_lt hlt) (fun f g ha => by
    have ha' : AgreeFrom ((u + 1 : Nat) : Int) f g := fun x hx => ha x (by omega)
    rw [he, he, hT, hT, ha u (Int.le_refl _), hL f g ha', hH f g ha'])
  have hu : (u : Int) ≤ (getN ns i).v := by
    obtain ⟨j, ej, hj, hv⟩ := hfr
    rw [ej, getN_in hj]
    exact hv
  obtain ⟨l1, l2⟩ := low_at h hi hu hlt
  obtain ⟨h1, h2⟩ := high_at h hi hu hlt
  refine ⟨hu, fun f => ?_, fun f => ?_⟩
  · rw [← from_agree h l1 (nat_turn f u false), l2 _ (turn_at _ _ _), he, hT, turn_at]
    simp only [Bool.false_eq_true, if_false]
    exact hL _ _ (nat_turn f u false)
  · rw [← from_agree h h1 (nat_turn f u true), h2 _ (turn_at _ _ _), he, hT, turn_at]
    simp only [if_true]
    exact hH _ _ (nat_turn f u true)

theorem fin_gen {N n : Nat} {s' : List (Value × Value) × List (Value × Value)} {ns' : List Nd} {k err : Int} (hN : u < N) (hlt : u < 1024) (h : Good most ns)
    (hT : ∀ f, T f = if f u = true then H f else L f) (hL : ∀ f g, AgreeFrom ((u + 1 : Nat) : Int) f g → L f = L g) (hH : ∀ f g, AgreeFrom ((u + 1 : Nat) : Int) f g → H f = H g)
    (hfin : FinS most u (POut op v N most n ns L) (fun ns1 _ _ => POut op v N most n ns1 H) ns' s' k err) : POut op v N most (n + 1) ns T ns' s' k err := by
  have hp : (2 : Int) ^ (n + 1) = 2 ^ n + 2 ^ n := by rw [Int.pow_succ]; omega
  have hp1 : (1 : Int) ≤ 2 ^ n := by
    have : (0 : Int) < 2 ^ n := Int.pow_pos (by decide)
    omega
  rcases hfin with ⟨he, rfl, k1, A⟩ | ⟨ns1, s1, k1, A, hfin⟩
  · rcases A.out with ⟨e8, _, hm⟩ | ⟨e0, _⟩
    · exact ⟨A.good, A.on, A.upto, A.both, .inl ⟨e8, rfl, by omega⟩⟩
    · exact absurd e0 he
  · rcases A.out with ⟨e8, _⟩ | ⟨_, ain, aev, alen, anew⟩
    · cases e8
    rcases hfin with ⟨he, rfl, k2, B⟩ | ⟨ns2, k2, B, ens, herr, ek⟩
    · rcases B.out with ⟨e8, _, hm⟩ | ⟨e0, _⟩
      · exact ⟨B.good, A.on.trans B.on, B.upto, B.both, .inl ⟨e8, rfl, by omega⟩⟩
      · exact absurd e0 he
    · rcases B.out with ⟨e8, _⟩ | ⟨_, bin, bev, blen, bnew⟩
      · cases e8
      have o2 : On ns ns2 := A.on.trans B.on
      have ain2 : In ns2 k1 := ain.on B.on
      have aev2 : ∀ f, evalP ns2 f k1 = L f := fun f => by rw [evalP_in A.good B.good B.on ain, aev]
      have lt' : u + 1 ≤ 1024 := hlt
      have fa : From ns2 k1 (u + 1) := from_of_indep B.good ain2 lt' (fun f g ha => by rw [aev2, aev2]; exact hL f g ha)
      have fb : From ns2 k2 (u + 1) := from_of_indep B.good bin lt' (fun f g ha => by rw [bev, bev]; exact hH f g ha)
      rcases mk_whole B.good hlt fa fb with ⟨em, hm, _⟩ | ⟨k', ns3, em, g3, o3, l3, in3, hk, hsame⟩
      · rw [em] at herr ek ens
        simp only at herr ek ens
        subst ens
        exact ⟨B.good, o2, B.upto, B.both, .inl ⟨herr, ek, by omega⟩⟩
      · have up3 : Upto N (mkR most ns2 u k1 k2).2.2 := upto_mk B.upto (Int.ofNat_lt.2 hN)
        rw [em] at herr ek up3 ens
        simp only at herr ek up3 ens
        subst ens
        subst ek
        have evd : ∀ f, evalP ns' f k = T f := fun f => by
          rw [hT]
          rcases hk with ⟨h1, rfl, rfl⟩ | ⟨h1, i, rfl, hi, hn⟩
          · cases hfu : f u with
            | true => simp only [if_true]; rw [h1, bev]
            | false => simp only [Bool.false_eq_true, if_false]; rw [aev2]
          · have hlt' : (ndAt ns' i).v < 1024 := by rw [hn]; exact Int.ofNat_lt.2 hlt
            rw [evalP_at g3 hi hlt', hn]
            simp only
            cases hfu : f u with
            | true => simp only [if_true]; rw [evalP_in B.good g3 o3 bin, bev]
            | false => simp only [Bool.false_eq_true, if_false]; rw [evalP_in B.good g3 o3 ain2, aev2]
        have o4 := o2.trans o3
        refine ⟨g3, o4, up3, B.both.on B.good g3 o3, .inr ⟨herr, in3, evd, by omega, ?_⟩⟩
        intro i hi he
        obtain ⟨hu, hlo, hhi⟩ := half_gen h hlt hT hL hH hi he
        have e1 := anew _ (low_at h hi hu hlt).1.in hlo
        subst e1
        have e2 := bnew _ (high_at h hi hu hlt).1.in hhi
        subst e2
        have ek1 : k1 = lowP u i (getN ns2 i) := same_in h ain2 (low_at h hi hu hlt).1.in (fun f => by rw [aev2, hlo])
        have ek2 : k2 = highP u i (getN ns2 i) := same_in h bin (high_at h hi hu hlt).1.in (fun f => by rw [bev, hhi])
        rcases hk with ⟨_, _, h3⟩ | ⟨h1, _⟩
        · exact h3
        · refine hsame ?_
          by_cases hv : (getN ns2 i).v = u
          · have en : getN ns2 i = ⟨u, k1, k2⟩ := by
              refine nd_ext hv ?_ ?_
              · rw [ek1, lowP, if_pos hv]
              · rw [ek2, highP, if_pos hv]
            obtain ⟨j, rfl, hj⟩ := hi
            rw [getN_in hj] at en
            cases hfn : findN ns2 ⟨u, k1, k2⟩ with
            | none => exact absurd en (findN_none.1 hfn _ (ndAt_mem hj))
            | some _ => rfl
          · refine absurd ?_ h1
            rw [ek1, ek2, lowP, highP, if_neg hv, if_neg hv]
end

/-- Either of two. -/
def opEither (_a b c : Bool) : Bool := b || c
theorem either_ok : RuleOk eitherP opEither := by
  refine ⟨?_, ?_⟩
  · intro most ns d k h hd hk
    unfold eitherP at hk
    unfold R3 opEither
    by_cases h1 : d.lo = 1 ∨ d.hi = 1
    · rw [if_pos h1] at hk
      cases hk
      refine ⟨in1 h, fun f => ?_⟩
      rw [eval1 h]
      rcases h1 with h1 | h1
      · rw [h1, eval1 h]; simp
      · rw [h1, eval1 h]; simp
    · rw [if_neg h1] at hk
      by_cases h2 : d.lo = d.hi ∨ d.hi = 0
      · rw [if_pos h2] at hk
        cases hk
        refine ⟨hd.2.1, fun f => ?_⟩
        rcases h2 with h2 | h2
        · rw [h2]; simp
        · rw [h2, eval0 h]; simp
      · rw [if_neg h2] at hk
        by_cases h3 : d.lo = 0
        · rw [if_pos h3] at hk
          cases hk
          exact ⟨hd.2.2, fun f => by rw [h3, eval0 h]; simp⟩
        · rw [if_neg h3] at hk
          cases hk
  · intro d hk hh
    unfold eitherP at hk
    by_cases h1 : d.lo = 1 ∨ d.hi = 1
    · rw [if_pos h1] at hk; cases hk
    · rw [if_neg h1] at hk
      by_cases h2 : d.lo = d.hi ∨ d.hi = 0
      · rw [if_pos h2] at hk; cases hk
      · exact hh.2.2.elim (fun h => h2 (.inr h)) (fun h => h1 (.inr h))
def opOf (ru : Int) : Bool → Bool → Bool → Bool := if ru = 1 then opEither else opChoose
theorem tell_ok (ru : Int) : RuleOk (tellP ru) (opOf ru) := by
  have e : tellP ru = if ru = 1 then eitherP else chooseP := by
    funext d
    unfold tellP
    split <;> rfl
  rw [e, opOf]
  split
  · exact either_ok
  · exact choose_ok
end Go.Proofs.YtahjkkegbcalnaaDoor
