/- The step: what three diagrams come to, if their halves come to what they should: plain mathematics. -/
import Derived.Test.YtahjkkegbcalnaaDoorQ2
namespace Go.Proofs.YtahjkkegbcalnaaDoor

theorem low_at {most : Int} {ns : List Nd} (h : Good most ns) {k : Int} (hk : In ns k) {u : Nat} (hu : (u : Int) ≤ (getN ns k).v) (hu' : u < 1024) :
    From ns (lowP u k (getN ns k)) (u + 1) ∧ ∀ f : Int → Bool, f u = false → evalP ns f (lowP u k (getN ns k)) = evalP ns f k := by
  obtain ⟨i, rfl, hi⟩ := hk
  rw [getN_in hi] at hu ⊢
  unfold lowP
  by_cases he : (ndAt ns i).v = u
  · rw [if_pos he]
    have hlt : (ndAt ns i).v < 1024 := by omega
    obtain ⟨_, _, ⟨a, ea, la, va⟩, _, _⟩ := asks_at h hi hlt
    refine ⟨⟨a, ea, by omega, by omega⟩, fun f hf => ?_⟩
    rw [evalP_at h hi hlt, he, hf]
    simp
  · rw [if_neg he]
    exact ⟨⟨i, rfl, hi, by omega⟩, fun f _ => rfl⟩
theorem high_at {most : Int} {ns : List Nd} (h : Good most ns) {k : Int} (hk : In ns k) {u : Nat} (hu : (u : Int) ≤ (getN ns k).v) (hu' : u < 1024) :
    From ns (highP u k (getN ns k)) (u + 1) ∧ ∀ f : Int → Bool, f u = true → evalP ns f (highP u k (getN ns k)) = evalP ns f k := by
  obtain ⟨i, rfl, hi⟩ := hk
  rw [getN_in hi] at hu ⊢
  unfold highP
  by_cases he : (ndAt ns i).v = u
  · rw [if_pos he]
    have hlt : (ndAt ns i).v < 1024 := by omega
    obtain ⟨_, _, _, ⟨a, ea, la, va⟩, _⟩ := asks_at h hi hlt
    refine ⟨⟨a, ea, by omega, by omega⟩, fun f hf => ?_⟩
    rw [evalP_at h hi hlt, he, hf]
    simp
  · rw [if_neg he]
    exact ⟨⟨i, rfl, hi, by omega⟩, fun f _ => rfl⟩
theorem min3_le (a b c : Int) : min3 a b c ≤ a ∧ min3 a b c ≤ b ∧ min3 a b c ≤ c ∧ (min3 a b c = a ∨ min3 a b c = b ∨ min3 a b c = c) := by
  unfold min3
  by_cases h1 : b < a
  · rw [if_pos h1]
    by_cases h2 : c < b
    · rw [if_pos h2]; omega
    · rw [if_neg h2]; omega
  · rw [if_neg h1]
    by_cases h2 : c < a
    · rw [if_pos h2]; omega
    · rw [if_neg h2]; omega

def lowD (ns : List Nd) (u : Nat) (d : Nd) : Nd := ⟨lowP u d.v (getN ns d.v), lowP u d.lo (getN ns d.lo), lowP u d.hi (getN ns d.hi)⟩
def highD (ns : List Nd) (u : Nat) (d : Nd) : Nd := ⟨highP u d.v (getN ns d.v), highP u d.lo (getN ns d.lo), highP u d.hi (getN ns d.hi)⟩
/-- The first variable that three ask is u. -/
structure First (ns : List Nd) (u : Nat) (d : Nd) : Prop where
  lt : u < 1024
  a : (u : Int) ≤ (getN ns d.v).v
  b : (u : Int) ≤ (getN ns d.lo).v
  c : (u : Int) ≤ (getN ns d.hi).v
section
variable {op : Bool → Bool → Bool → Bool} {most : Int} {ns : List Nd} {u : Nat} {d : Nd}
theorem lowD_from (h : Good most ns) (hd : In3 ns d) (hf : First ns u d) : From3 ns (lowD ns u d) (u + 1) := ⟨(low_at h hd.1 hf.a hf.lt).1, (low_at h hd.2.1 hf.b hf.lt).1, (low_at h hd.2.2 hf.c hf.lt).1⟩
theorem highD_from (h : Good most ns) (hd : In3 ns d) (hf : First ns u d) : From3 ns (highD ns u d) (u + 1) := ⟨(high_at h hd.1 hf.a hf.lt).1, (high_at h hd.2.1 hf.b hf.lt).1, (high_at h hd.2.2 hf.c hf.lt).1⟩
theorem lowD_at (h : Good most ns) (hd : In3 ns d) (hf : First ns u d) (f : Int → Bool) (hu : f u = false) : R3 op ns (lowD ns u d) f = R3 op ns d f := by
  unfold R3 lowD
  simp only
  rw [(low_at h hd.1 hf.a hf.lt).2 f hu, (low_at h hd.2.1 hf.b hf.lt).2 f hu, (low_at h hd.2.2 hf.c hf.lt).2 f hu]
theorem highD_at (h : Good most ns) (hd : In3 ns d) (hf : First ns u d) (f : Int → Bool) (hu : f u = true) : R3 op ns (highD ns u d) f = R3 op ns d f := by
  unfold R3 highD
  simp only
  rw [(high_at h hd.1 hf.a hf.lt).2 f hu, (high_at h hd.2.1 hf.b hf.lt).2 f hu, (high_at h hd.2.2 hf.c hf.lt).2 f hu]
theorem nat_turn (f : Int → Bool) (u : Nat) (b : Bool) : AgreeFrom ((u + 1 : Nat) : Int) (turn f u b) f := turn_agree f u b (by omega)
theorem First.from (_h : Good most ns) (hd : In3 ns d) (hf : First ns u d) : From3 ns d u := by
  obtain ⟨⟨i, ei, hi⟩, ⟨j, ej, hj⟩, ⟨k, ek, hk⟩⟩ := hd
  have a := hf.a
  have b := hf.b
  have c := hf.c
  rw [ei, getN_in hi] at a
  rw [ej, getN_in hj] at b
  rw [ek, getN_in hk] at c
  exact ⟨⟨i, ei, hi, a⟩, ⟨j, ej, hj, b⟩, ⟨k, ek, hk, c⟩⟩
/-- Whoever says what three come to goes on to who says what their halves do. -/
theorem half_there (h : Good most ns) (hd : In3 ns d) (hf : First ns u d) {i : Int} (hi : In ns i) (he : ∀ f, evalP ns f i = R3 op ns d f) :
    (u : Int) ≤ (getN ns i).v ∧ (∀ f, evalP ns f (lowP u i (getN ns i)) = R3 op ns (lowD ns u d) f) ∧ (∀ f, evalP ns f (highP u i (getN ns i)) = R3 op ns (highD ns u d) f) := by
  have hfr := from_of_indep h hi (v := u) (Nat.le_of_lt hf.lt) (fun f g ha => by rw [he, he]; exact R3_agree h (hf.from h hd) ha)
  have hu : (u : Int) ≤ (getN ns i).v := by
    obtain ⟨j, ej, hj, hv⟩ := hfr
    rw [ej, getN_in hj]
    exact hv
  obtain ⟨l1, l2⟩ := low_at h hi hu hf.lt
  obtain ⟨h1, h2⟩ := high_at h hi hu hf.lt
  refine ⟨hu, fun f => ?_, fun f => ?_⟩
  · rw [← from_agree h l1 (nat_turn f u false), l2 _ (turn_at _ _ _), he, ← lowD_at h hd hf _ (turn_at _ _ _), R3_agree h (lowD_from h hd hf) (nat_turn f u false)]
  · rw [← from_agree h h1 (nat_turn f u true), h2 _ (turn_at _ _ _), he, ← highD_at h hd hf _ (turn_at _ _ _), R3_agree h (highD_from h hd hf) (nat_turn f u true)]

theorem upto_mk {N : Nat} {v lo hi : Int} (h : Upto N ns) (hv : v < N) : Upto N (mkR most ns v lo hi).2.2 := by
  unfold mkR
  split
  · split
    · exact h
    · split
      · exact h
      · split
        · exact h
        · intro i hi
          simp only [List.length_append, List.length_cons, List.length_nil] at hi
          rcases Nat.lt_or_ge i ns.length with h1 | h1
          · rw [ndAt_left h1]; exact h i h1
          · obtain rfl : i = ns.length := by omega
            rw [ndAt_last]
            exact .inl hv
  · exact h

/-- What Mk does: there is no room, or all is well. -/
theorem mk_whole (h : Good most ns) (hv : u < 1024) {lo hi : Int} (hl : From ns lo (u + 1)) (hh : From ns hi (u + 1)) :
    (mkR most ns u lo hi = (0, 8, ns) ∧ most ≤ ns.length ∧ lo ≠ hi ∧ findN ns ⟨u, lo, hi⟩ = none) ∨ ∃ k ns', mkR most ns u lo hi = (k, 0, ns') ∧ Good most ns' ∧ On ns ns' ∧ ns'.length ≤ ns.length + 1 ∧ In ns' k ∧
      ((lo = hi ∧ k = lo ∧ ns' = ns) ∨ (lo ≠ hi ∧ ∃ i : Nat, k = i ∧ i < ns'.length ∧ ndAt ns' i = ⟨u, lo, hi⟩)) ∧ ((findN ns ⟨u, lo, hi⟩).isSome = true → ns' = ns) := by
  have hok : okB ns u lo hi = true := by
    simp only [okB, hl.beh, hh.beh, Bool.and_true, Bool.and_eq_true, decide_eq_true_eq]
    omega
  by_cases hne : lo = hi
  · exact .inr ⟨lo, ns, by rw [mkR, if_pos hok, if_pos hne], h, On.refl _, by omega, hl.in, .inl ⟨hne, rfl, rfl⟩, fun _ => rfl⟩
  · cases hf : findN ns ⟨u, lo, hi⟩ with
    | some i =>
      obtain ⟨hi', e⟩ := findN_some hf
      exact .inr ⟨i, ns, by rw [mkR, if_pos hok, if_neg hne, hf], h, On.refl _, by omega, ⟨i, rfl, hi'⟩, .inr ⟨hne, i, rfl, hi', e⟩, fun _ => rfl⟩
    | none =>
      by_cases hr : most ≤ ns.length
      · refine .inl ⟨?_, hr, hne, rfl⟩
        rw [mkR, if_pos hok, if_neg hne, hf]
        simp only
        rw [if_pos hr]
      · refine .inr ⟨ns.length, ns ++ [⟨u, lo, hi⟩], ?_, good_put h hok hne (by omega) (findN_none.1 hf), ⟨_, rfl⟩, by simp, ⟨ns.length, rfl, by simp⟩, .inr ⟨hne, ns.length, rfl, by simp, ndAt_last⟩, fun h => by simp at h⟩
        rw [mkR, if_pos hok, if_neg hne, hf]
        simp only
        rw [if_neg hr]

theorem fin_out {N n : Nat} {kvs' : List (Value × Value)} {ns' : List Nd} {k err : Int} (hN : u < N) (h : Good most ns) (hd : In3 ns d) (hf : First ns u d)
    (hfin : FinR most u d (JOut op N most n ns (lowD ns u d)) (fun ns1 _ _ => JOut op N most n ns1 (highD ns u d)) ns' kvs' k err) : JOut op N most (n + 1) ns d ns' kvs' k err := by
  have hp : (2 : Int) ^ (n + 1) = 2 ^ n + 2 ^ n := by rw [Int.pow_succ]; omega
  have hp1 : (1 : Int) ≤ 2 ^ n := by
    have : (0 : Int) < 2 ^ n := Int.pow_pos (by decide)
    omega
  have lowF := lowD_from h hd hf
  have highF := highD_from h hd hf
  rcases hfin with ⟨he, rfl, k1, A⟩ | ⟨ns1, kvs1, k1, A, hfin⟩
  · rcases A.out with ⟨e8, _, hm⟩ | ⟨e0, _⟩
    · exact ⟨A.good, A.on, A.upto, A.valid, .inl ⟨e8, rfl, by omega⟩⟩
    · exact absurd e0 he
  · rcases A.out with ⟨e8, _⟩ | ⟨_, ain, aev, alen, anew⟩
    · cases e8
    rcases hfin with ⟨he, rfl, k2, B⟩ | hfin
    · rcases B.out with ⟨e8, _, hm⟩ | ⟨e0, _⟩
      · exact ⟨B.good, A.on.trans B.on, B.upto, B.valid, .inl ⟨e8, rfl, by omega⟩⟩
      · exact absurd e0 he
    · obtain ⟨ns2, kvs2, k2, B, hfin⟩ := hfin
      have herr := hfin.2.1
      have ens := hfin.1
      replace hfin := hfin.2.2
      rcases B.out with ⟨e8, _⟩ | ⟨_, bin, bev, blen, bnew⟩
      · cases e8
      have o2 : On ns ns2 := A.on.trans B.on
      have bev' : ∀ f, evalP ns2 f k2 = R3 op ns (highD ns u d) f := fun f => by rw [bev, R3_on h A.good A.on highF.in]
      have ain2 : In ns2 k1 := ain.on B.on
      have aev2 : ∀ f, evalP ns2 f k1 = R3 op ns (lowD ns u d) f := fun f => by rw [evalP_in A.good B.good B.on ain, aev]
      have lt' : u + 1 ≤ 1024 := hf.lt
      have fa : From ns2 k1 (u + 1) := from_of_indep B.good ain2 lt' (fun f g ha => by rw [aev2, aev2]; exact R3_agree h lowF ha)
      have fb : From ns2 k2 (u + 1) := from_of_indep B.good bin lt' (fun f g ha => by rw [bev', bev']; exact R3_agree h highF ha)
      rcases mk_whole B.good hf.lt fa fb with ⟨em, hm, _⟩ | ⟨k', ns3, em, g3, o3, l3, in3, hk, hsame⟩
      · rw [em] at herr hfin ens
        simp only at herr hfin ens
        subst ens
        rcases hfin with ⟨_, rfl, rfl⟩ | ⟨e0, _⟩
        · exact ⟨B.good, o2, B.upto, B.valid, .inl ⟨herr, rfl, by omega⟩⟩
        · rw [herr] at e0; cases e0
      · have up3 : Upto N (mkR most ns2 u k1 k2).2.2 := upto_mk B.upto (Int.ofNat_lt.2 hN)
        rw [em] at herr hfin up3 ens
        simp only at herr hfin up3 ens
        subst ens
        rcases hfin with ⟨hne, _⟩ | ⟨_, rfl, hmem⟩
        · exact absurd herr hne
        have evd : ∀ f, evalP ns' f k = R3 op ns d f := fun f => by
          rcases hk with ⟨h1, rfl, rfl⟩ | ⟨h1, i, rfl, hi, hn⟩
          · cases hfu : f u with
            | true => rw [h1, bev', highD_at h hd hf f hfu]
            | false => rw [aev2, lowD_at h hd hf f hfu]
          · have hlt := hf.lt
            have hlt' : (ndAt ns' i).v < 1024 := by rw [hn]; exact Int.ofNat_lt.2 hlt
            rw [evalP_at g3 hi hlt', hn]
            simp only
            cases hfu : f u with
            | true => simp only [if_true]; rw [evalP_in B.good g3 o3 bin, bev', highD_at h hd hf f hfu]
            | false => simp only [Bool.false_eq_true, if_false]; rw [evalP_in B.good g3 o3 ain2, aev2, lowD_at h hd hf f hfu]
        have o4 := o2.trans o3
        refine ⟨g3, o4, up3, ?_, .inr ⟨herr, in3, evd, by omega, ?_⟩⟩
        · intro x hx
          rcases hmem x hx with h1 | rfl
          · exact B.valid.on B.good g3 o3 x h1
          · exact ⟨d, k, rfl, hd.on o4, in3, fun f => by rw [evd, R3_on h g3 o4 hd]⟩
        · intro i hi he
          obtain ⟨hu, hlo, hhi⟩ := half_there h hd hf hi he
          have e1 := anew _ (low_at h hi hu hf.lt).1.in hlo
          subst e1
          have e2 := bnew _ (high_at h hi hu hf.lt).1.in hhi
          subst e2
          -- the two ways are those of i
          have ek1 : k1 = lowP u i (getN ns2 i) := same_in h ain2 (low_at h hi hu hf.lt).1.in (fun f => by rw [aev2, hlo])
          have ek2 : k2 = highP u i (getN ns2 i) := same_in h bin (high_at h hi hu hf.lt).1.in (fun f => by rw [bev', hhi])
          rcases hk with ⟨_, _, h3⟩ | ⟨h1, _⟩
          · exact h3
          · refine hsame ?_
            by_cases hv : (getN ns2 i).v = u
            · have en : getN ns2 i = ⟨u, k1, k2⟩ := by
                refine nd_ext hv ?_ ?_
                · rw [ek1, lowP, if_pos hv]
                · rw [ek2, highP, if_pos hv]
              obtain ⟨j, rfl, hj⟩ := hi
              rw [getN_in hj] at en
              cases hfn : findN ns2 ⟨u, k1, k2⟩ with
              | none => exact absurd en (findN_none.1 hfn _ (ndAt_mem hj))
              | some _ => rfl
            · refine absurd ?_ h1
              rw [ek1, ek2, lowP, highP, if_neg hv, if_neg hv]
end
end Go.Proofs.YtahjkkegbcalnaaDoor
