/- What puts diagrams for a variable, whole. -/
import Derived.Test.YtahjkkegbcalnaaDoorXP
import Derived.Test.YtahjkkegbcalnaaDoorM
namespace Go.Proofs.YtahjkkegbcalnaaDoor
open Go.RowKit Go.Maps

theorem inc_key {most : Int} {ns : List Nd} (h : Good most ns) {d : Nd} (hd : In3 ns d) : ∃ l, keyOf Tryd.prog 54 (ndV d) = some l := keyC d.v d.lo d.hi (in_wf h hd.1) (in_wf h hd.2.1) (in_wf h hd.2.2)
theorem const_var {most : Int} {ns : List Nd} (h : Good most ns) {k : Int} (hk : k = 0 ∨ k = 1) : (getN ns k).v = 1024 := by
  have hl := h.len
  obtain ⟨n0, n1⟩ := node_at h
  rcases hk with rfl | rfl
  · have := getN_in (ns := ns) (i := 0) (by omega)
    rw [n0] at this
    exact congrArg Nd.v this
  · have := getN_in (ns := ns) (i := 1) (by omega)
    rw [n1] at this
    exact congrArg Nd.v this
theorem const_free {most : Int} {ns : List Nd} (h : Good most ns) {k v : Int} (hk : k = 0 ∨ k = 1) (hv : v < 1024) : Free ns v k := by
  refine free_behind h ?_ (by rw [const_var h hk]; exact hv)
  rcases hk with rfl | rfl
  · exact in0 h
  · exact in1 h

/-- What asks tells. -/
abbrev Asked (ns : List Nd) (v k : Int) (b : Bool) (ka' : List (Value × Value)) : Prop := (b = true ↔ ¬ Free ns v k) ∧ AskOk ns v ka'
section
variable {w : World} {j p g m qa qd cap : Nat} {most ru v : Int} {ns : List Nd} {ka kd : List (Value × Value)} {N n : Nat} {d : Nd}
theorem ask_in (hv : v < 1024) (h : PutAt w j p g m qa qd cap most ru v ns ka kd) {k : Int} (hk : In ns k) (hok : AskOk ns v ka) (X : World) (hX : Below w.heap.size w X) :
    Calls Tryd.prog 22 #[.pointer (some ⟨j, 0, none⟩), .int .i64 k] X (APost X j p g m qa qd cap most ru v ns kd (Asked ns v k)) := by
  obtain ⟨i, rfl, hi⟩ := hk
  exact asks_any (i + 1) i (by omega) hv (h.below hX) hi hok

theorem one_le_pow (n : Nat) : (1 : Int) ≤ 2 ^ n := by
  have : (0 : Int) < 2 ^ n := Int.pow_pos (by decide)
  omega

theorem told_out (hv : v < 1024) (h : PutAt w j p g m qa qd cap most ru v ns ka kd) (hu : Upto N ns) (hb : Both (opOf ru) v ns (ka, kd)) (hd : In3 ns d) (f1 : Free ns v d.lo) (f2 : Free ns v d.hi) {k : Int} (hk : tellP ru d = some k) :
    Calls Tryd.prog 15 #[.pointer (some ⟨j, 0, none⟩), ndV d] w (PPost j p m qa qd most ru v w g (POut (opOf ru) v N most n ns (M3 (opOf ru) ns v d))) := by
  have hg := h.arena.good
  obtain ⟨t1, t2⟩ := (tell_ok ru).told hg hd hk
  refine (put_told h d k (ask_in hv h hd.2.1 hb.1) (fun b ka' hA => ?_) hk).mono ?_
  · cases b with
    | false => rfl
    | true => exact absurd f1 (hA.1.1 rfl)
  · rintro e w' ⟨g', cap', ns', s', k', err, rfl, A, K, G, rfl, rfl, rfl, hs, hA⟩
    have hp := one_le_pow n
    exact ⟨g', cap', ns', s', k', 0, rfl, A, K, G, hg, On.refl _, hu, ⟨hA.2, by rw [hs]; exact hb.2⟩, .inr ⟨rfl, t1, fun f => by rw [t2, M3_free f1 f2], by omega, fun _ _ _ => rfl⟩⟩

theorem known_out (hv : v < 1024) (h : PutAt w j p g m qa qd cap most ru v ns ka kd) (hu : Upto N ns) (hb : Both (opOf ru) v ns (ka, kd)) (hd : In3 ns d) (hway : ∀ b ka', Asked ns v d.lo b ka' → Way ru v ns d b) (hx : ∃ x ∈ kd, x.1 = ndV d) :
    Calls Tryd.prog 15 #[.pointer (some ⟨j, 0, none⟩), ndV d] w (PPost j p m qa qd most ru v w g (POut (opOf ru) v N most n ns (M3 (opOf ru) ns v d))) := by
  have hg := h.arena.good
  obtain ⟨kl, hkl⟩ := inc_key hg hd
  obtain ⟨x, hx, ex⟩ := hx
  obtain ⟨d', k, rfl, hd', hk, hev⟩ := hb.2 x hx
  obtain rfl := ndV_inj ex
  refine (put_known h d' k (ask_in hv h hd.2.1 hb.1) hway (fun W hW => ?_)).mono ?_
  · rcases mapIs.look lawC Tryd.underlying49 (zeroI W) hW h.dkeys hkl with ⟨_, h2⟩ | ⟨y, hy, ey, h2⟩
    · exact absurd rfl (h2 _ hx)
    · obtain ⟨d2, k2, rfl, hd2, hk2, hev2⟩ := hb.2 y hy
      obtain rfl := ndV_inj ey
      rw [h2, same_in hg hk2 hk (fun f => by rw [hev, hev2])]
  · rintro e w' ⟨g', cap', ns', s', k', err, rfl, A, K, G, rfl, rfl, rfl, hs, b, hA⟩
    have hp := one_le_pow n
    exact ⟨g', cap', ns', s', k', 0, rfl, A, K, G, hg, On.refl _, hu, ⟨hA.2, by rw [hs]; exact hb.2⟩, .inr ⟨rfl, hk, hev, by omega, fun _ _ _ => rfl⟩⟩

theorem new_out {u : Nat} (hv : v < 1024) (h : PutAt w j p g m qa qd cap most ru v ns ka kd) (hN : u < N) (hb : Both (opOf ru) v ns (ka, kd)) (hd : In3 ns d) (hway : ∀ b ka', Asked ns v d.lo b ka' → Way ru v ns d b) (hx : ¬ ∃ x ∈ kd, x.1 = ndV d)
    (hm : min3 (getN ns d.v).v (getN ns d.lo).v (getN ns d.hi).v = u) (hf : First ns u d) (hc : (u : Int) ≠ v ∨ (Free ns v d.lo ∧ Free ns v d.hi))
    (hlow : ∀ X ka', PutAt X j p g m qa qd cap most ru v ns ka' kd → AskOk ns v ka' → Calls Tryd.prog 15 #[.pointer (some ⟨j, 0, none⟩), ndV (lowD ns u d)] X (PPost j p m qa qd most ru v X g (POut (opOf ru) v N most n ns (M3 (opOf ru) ns v (lowD ns u d)))))
    (hhigh : ∀ X g1 cap1 ns1 (s1 : Two), PutAt X j p g1 m qa qd cap1 most ru v ns1 s1.1 s1.2 → Good most ns1 → On ns ns1 → Upto N ns1 → Both (opOf ru) v ns1 s1 → Calls Tryd.prog 15 #[.pointer (some ⟨j, 0, none⟩), ndV (highD ns u d)] X (PPost j p m qa qd most ru v X g1 (POut (opOf ru) v N most n ns1 (M3 (opOf ru) ns1 v (highD ns u d))))) :
    Calls Tryd.prog 15 #[.pointer (some ⟨j, 0, none⟩), ndV d] w (PPost j p m qa qd most ru v w g (POut (opOf ru) v N most (n + 1) ns (M3 (opOf ru) ns v d))) := by
  have hg := h.arena.good
  obtain ⟨kl, hkl⟩ := inc_key hg hd
  have fin := fun {ns' : List Nd} {s' : Two} {k err : Int} => @fin_gen (opOf ru) v most ns u (M3 (opOf ru) ns v d) (M3 (opOf ru) ns v (lowD ns u d)) (M3 (opOf ru) ns v (highD ns u d)) N n s' ns' k err hN hf.lt hg (M3_half hg hd hf hc) (fun f g ha => M3_agree hg (lowD_from hg hd hf) ha) (fun f g ha => M3_agree hg (highD_from hg hd hf) ha)
  refine (put_new h d (ask_in hv h hd.2.1 hb.1) hway ⟨kl, hkl⟩ (fun W hW => ?_)
    (R := FinS most u (POut (opOf ru) v N most n ns (M3 (opOf ru) ns v (lowD ns u d))) (fun ns1 _ _ => POut (opOf ru) v N most n ns1 (M3 (opOf ru) ns v (highD ns u d))))
    (fun X ka' A hA => split_new A d u hm (fun X' hX' => ?_) (fun X' g1 cap1 ns1 s1 k1 A1 P1 => ?_))).mono ?_
  · rcases mapIs.look lawC Tryd.underlying49 (zeroI W) hW h.dkeys hkl with ⟨h1, _⟩ | ⟨y, hy, ey, _⟩
    · exact h1
    · exact absurd ⟨y, hy, ey⟩ hx
  · obtain ⟨b, hA⟩ := hA
    exact hlow X' ka' (A.below hX') hA.2
  · have e : M3 (opOf ru) ns1 v (highD ns u d) = M3 (opOf ru) ns v (highD ns u d) := funext (M3_on hg P1.good P1.on (highD_from hg hd hf).in)
    have := hhigh X' g1 cap1 ns1 s1 A1 P1.good P1.on P1.upto P1.both
    rw [e] at this
    exact this
  · rintro e w' ⟨g', cap', ns', s', k, err, rfl, A, K, G, hR⟩
    refine ⟨g', cap', ns', s', k, err, rfl, A, K, G, ?_⟩
    rcases hR with ⟨hne, rfl, k1, hS⟩ | ⟨rfl, kd1, hS, hmem⟩
    · have P := fin hS
      rcases P.out with ⟨e8, _, hm⟩ | ⟨e0, _⟩
      · exact ⟨P.good, P.on, P.upto, P.both, .inl ⟨e8, rfl, hm⟩⟩
      · exact absurd e0 hne
    · have P := fin hS
      rcases P.out with ⟨e8, _⟩ | ⟨e0, kin, kev, klen, knew⟩
      · cases e8
      · refine ⟨P.good, P.on, P.upto, ⟨P.both.1, fun x hx => ?_⟩, .inr ⟨e0, kin, kev, klen, knew⟩⟩
        rcases hmem x hx with h1 | rfl
        · exact P.both.2 x h1
        · exact ⟨d, k, rfl, hd.on P.on, kin, fun f => by rw [kev, M3_on hg P.good P.on hd]⟩
end

/-- Where the variable is not to come any more. -/
theorem put_free (ru v : Int) (hv : v < 1024) (N : Nat) (hN : N ≤ 1024) :
    ∀ (n lvl : Nat) (d : Nd) {w : World} {j p g m qa qd cap : Nat} {most : Int} {ns : List Nd} {ka kd : List (Value × Value)}, N ≤ lvl + n → PutAt w j p g m qa qd cap most ru v ns ka kd → Upto N ns → Both (opOf ru) v ns (ka, kd) → From3 ns d lvl → Free ns v d.lo → Free ns v d.hi →
      Calls Tryd.prog 15 #[.pointer (some ⟨j, 0, none⟩), ndV d] w (PPost j p m qa qd most ru v w g (POut (opOf ru) v N most n ns (M3 (opOf ru) ns v d))) := by
  intro n
  induction n with
  | zero =>
    intro lvl d w j p g m qa qd cap most ns ka kd hl h hu hb hd f1 f2
    cases hr : tellP ru d with
    | none => exact absurd ⟨const_of h.arena.good hu hd.1 (by omega), const_of h.arena.good hu hd.2.1 (by omega), const_of h.arena.good hu hd.2.2 (by omega)⟩ ((tell_ok ru).asks hr)
    | some k => exact told_out hv h hu hb hd.in f1 f2 hr
  | succ n ih =>
    intro lvl d w j p g m qa qd cap most ns ka kd hl h hu hb hd f1 f2
    have hg := h.arena.good
    cases hr : tellP ru d with
    | some k => exact told_out hv h hu hb hd.in f1 f2 hr
    | none =>
      have hway : ∀ b ka', Asked ns v d.lo b ka' → Way ru v ns d b := by
        rintro b ka' ⟨h1, _⟩
        cases b with
        | false => exact .inr ⟨rfl, hr⟩
        | true => exact absurd f1 (h1.1 rfl)
      by_cases hx : ∃ x ∈ kd, x.1 = ndV d
      · exact known_out hv h hu hb hd.in hway hx
      · have ha := (tell_ok ru).asks hr
        obtain ⟨m1, m2, m3, m4⟩ := min3_le (getN ns d.v).v (getN ns d.lo).v (getN ns d.hi).v
        have e1 := getN_from hd.1
        have e2 := getN_from hd.2.1
        have e3 := getN_from hd.2.2
        have hlt : min3 (getN ns d.v).v (getN ns d.lo).v (getN ns d.hi).v < N := by
          by_cases c1 : d.v = 0 ∨ d.v = 1
          · by_cases c2 : d.lo = 0 ∨ d.lo = 1
            · by_cases c3 : d.hi = 0 ∨ d.hi = 1
              · exact absurd ⟨c1, c2, c3⟩ ha
              · have := getN_upto hg hu hd.2.2.in c3
                omega
            · have := getN_upto hg hu hd.2.1.in c2
              omega
          · have := getN_upto hg hu hd.1.in c1
            omega
        obtain ⟨u, hu'⟩ : ∃ u : Nat, min3 (getN ns d.v).v (getN ns d.lo).v (getN ns d.hi).v = u := ⟨(min3 (getN ns d.v).v (getN ns d.lo).v (getN ns d.hi).v).toNat, by omega⟩
        have hf : First ns u d := ⟨by omega, by omega, by omega, by omega⟩
        refine new_out hv h (by omega) hb hd.in hway hx hu' hf (.inr ⟨f1, f2⟩) (fun X ka' A hA => ?_) (fun X g1 cap1 ns1 s1 A1 g1' o1 u1 b1 => ?_)
        · exact ih (u + 1) (lowD ns u d) (by omega) A hu ⟨hA, hb.2⟩ (lowD_from hg hd.in hf) (free_lowP hg hd.2.1.in f1 hv) (free_lowP hg hd.2.2.in f2 hv)
        · have hh := highD_from hg hd.in hf
          exact ih (u + 1) (highD ns u d) (by omega) A1 u1 b1 (hh.on o1) ((free_on hg g1' o1 hh.2.1.in).2 (free_highP hg hd.2.1.in f1 hv)) ((free_on hg g1' o1 hh.2.2.in).2 (free_highP hg hd.2.2.in f2 hv))

/-- Where it may be to come. -/
theorem put_any (ru v : Int) (hv : v < 1024) (N : Nat) (hN : N ≤ 1024) :
    ∀ (n lvl : Nat) (d : Nd) {w : World} {j p g m qa qd cap : Nat} {most : Int} {ns : List Nd} {ka kd : List (Value × Value)}, N ≤ lvl + n → PutAt w j p g m qa qd cap most ru v ns ka kd → Upto N ns → Both (opOf ru) v ns (ka, kd) → From3 ns d lvl → d.hi = d.lo →
      Calls Tryd.prog 15 #[.pointer (some ⟨j, 0, none⟩), ndV d] w (PPost j p m qa qd most ru v w g (POut (opOf ru) v N most n ns (M3 (opOf ru) ns v d))) := by
  intro n
  induction n with
  | zero =>
    intro lvl d w j p g m qa qd cap most ns ka kd hl h hu hb hd he
    have hf := const_free h.arena.good (const_of h.arena.good hu hd.2.1 (by omega)) hv
    exact put_free ru v hv N hN 0 lvl d hl h hu hb hd hf (by rw [he]; exact hf)
  | succ n ih =>
    intro lvl d w j p g m qa qd cap most ns ka kd hl h hu hb hd he
    have hg := h.arena.good
    by_cases f1 : Free ns v d.lo
    · exact put_free ru v hv N hN (n + 1) lvl d hl h hu hb hd f1 (by rw [he]; exact f1)
    · have hnc : ¬ (d.lo = 0 ∨ d.lo = 1) := fun hc => f1 (const_free hg hc hv)
      have hyes : ∀ b ka', Asked ns v d.lo b ka' → b = true := fun b ka' hA => hA.1.2 f1
      have hnb : (getN ns d.lo).v ≤ v := by
        rcases Int.lt_or_le v (getN ns d.lo).v with h1 | h1
        · exact absurd (free_behind hg hd.2.1.in h1) f1
        · exact h1
      by_cases hvv : (getN ns d.lo).v = v
      · obtain ⟨i, ei, hi⟩ := hd.2.1.in
        have hlti : (ndAt ns i).v < 1024 := by rw [ei, getN_in hi] at hvv; omega
        obtain ⟨_, h0, ⟨a, ea, la, va⟩, ⟨c, ec, lc, vc⟩, _⟩ := asks_at hg hi hlti
        have en : getN ns d.lo = ndAt ns i := by rw [ei, getN_in hi]
        have e2 := getN_from hd.2.1
        rw [en] at hvv e2
        have fa : Free ns v a := free_behind hg ⟨a, rfl, by omega⟩ (by rw [getN_in (by omega)]; omega)
        have fc : Free ns v c := free_behind hg ⟨c, rfl, by omega⟩ (by rw [getN_in (by omega)]; omega)
        have hM : M3 (opOf ru) ns v ⟨d.v, c, a⟩ = M3 (opOf ru) ns v d := by
          funext f
          unfold M3
          simp only
          rw [he, ei, evalP_at hg hi hlti, evalP_at hg hi hlti, hvv, turn_at, turn_at, ea, ec]
          simp
        refine put_down h d (ask_in hv h hd.2.1.in hb.1) hyes (by rw [en]; exact hvv) (fun X ka' A hA => ?_)
        rw [en, ea, ec]
        have := put_free ru v hv N hN (n + 1) lvl ⟨d.v, c, a⟩ hl A hu ⟨hA.2, hb.2⟩ ⟨hd.1, ⟨c, rfl, by omega, by omega⟩, ⟨a, rfl, by omega, by omega⟩⟩ fc fa
        rw [hM] at this
        exact this
      · have hway : ∀ b ka', Asked ns v d.lo b ka' → Way ru v ns d b := fun b ka' hA => .inl ⟨hyes b ka' hA, hvv⟩
        by_cases hx : ∃ x ∈ kd, x.1 = ndV d
        · exact known_out hv h hu hb hd.in hway hx
        · obtain ⟨m1, m2, m3, m4⟩ := min3_le (getN ns d.v).v (getN ns d.lo).v (getN ns d.hi).v
          have e1 := getN_from hd.1
          have e2 := getN_from hd.2.1
          have e3 := getN_from hd.2.2
          have hlt := getN_upto hg hu hd.2.1.in hnc
          obtain ⟨u, hu'⟩ : ∃ u : Nat, min3 (getN ns d.v).v (getN ns d.lo).v (getN ns d.hi).v = u := ⟨(min3 (getN ns d.v).v (getN ns d.lo).v (getN ns d.hi).v).toNat, by omega⟩
          have hf : First ns u d := ⟨by omega, by omega, by omega, by omega⟩
          refine new_out hv h (by omega) hb hd.in hway hx hu' hf (.inl (by omega)) (fun X ka' A hA => ?_) (fun X g1 cap1 ns1 s1 A1 g1' o1 u1 b1 => ?_)
          · exact ih (u + 1) (lowD ns u d) (by omega) A hu ⟨hA, hb.2⟩ (lowD_from hg hd.in hf) (by unfold lowD; simp only; rw [he])
          · exact ih (u + 1) (highD ns u d) (by omega) A1 u1 b1 ((highD_from hg hd.in hf).on o1) (by unfold highD; simp only; rw [he])
end Go.Proofs.YtahjkkegbcalnaaDoor
