/- What puts diagrams together, whole. -/
import Derived.Test.YtahjkkegbcalnaaQ3
namespace Go.Proofs.Ytahjkkegbcalnaa
open Go.RowKit Go.Maps

theorem const_of {most : Int} {ns : List Nd} (h : Good most ns) {N : Nat} (hu : Upto N ns) {k : Int} {v : Nat} (hk : From ns k v) (hv : N ≤ v) : k = 0 ∨ k = 1 := by
  obtain ⟨i, rfl, hi, hvi⟩ := hk
  rcases hu i hi with h1 | h1
  · omega
  · rcases ends_at h hi (by omega) with rfl | rfl
    · exact .inl rfl
    · exact .inr rfl
theorem in_wf {most : Int} {ns : List Nd} (h : Good most ns) {k : Int} (hk : In ns k) : (Lit.int .i64 k).wf = true := by
  obtain ⟨i, rfl, hi⟩ := hk
  have h1 := h.room
  have h2 := h.most
  exact wf_i64 (by omega) (by omega)
theorem in3_key {most : Int} {ns : List Nd} (h : Good most ns) {d : Nd} (hd : In3 ns d) : ∃ l, keyOf Try.prog 58 (ndV d) = some l := keyT d.v d.lo d.hi (in_wf h hd.1) (in_wf h hd.2.1) (in_wf h hd.2.2)
theorem getN_from {ns : List Nd} {k : Int} {v : Nat} (h : From ns k v) : (v : Int) ≤ (getN ns k).v := by
  obtain ⟨i, rfl, hi, hv⟩ := h
  rw [getN_in hi]
  exact hv
theorem getN_upto {most : Int} {ns : List Nd} (h : Good most ns) {N : Nat} (hu : Upto N ns) {k : Int} (hk : In ns k) (hne : ¬ (k = 0 ∨ k = 1)) : (getN ns k).v < N := by
  obtain ⟨i, rfl, hi⟩ := hk
  rw [getN_in hi]
  rcases hu i hi with h1 | h1
  · exact h1
  · exfalso
    rcases ends_at h hi (by omega) with rfl | rfl
    · exact hne (.inl rfl)
    · exact hne (.inr rfl)

theorem join_any {F : FuncId} {rule : Nd → Option Int} {op : Bool → Bool → Bool → Bool} (hent : ∀ args W, Sem.run Try.prog (callFunc F args) W = .ok (.enter F args) W)
    (hR : ∀ (d : Nd) (W : World), Calls Try.prog F #[ndV d] W fun e W' => e = .returned (ruleV (rule d)) ∧ Below W.heap.size W W') (ok : RuleOk rule op) (N : Nat) (hN : N ≤ 1024) :
    ∀ (n v : Nat) (d : Nd) {w : World} {j p g m q cap : Nat} {most : Int} {ns : List Nd} {kvs : List (Value × Value)}, N ≤ v + n → JoinAt F w j p g m q cap most ns kvs → Upto N ns → Valid op ns kvs → From3 ns d v →
      Calls Try.prog 32 #[.pointer (some ⟨j, 0, none⟩), ndV d] w (JPost F j p m q most w g (JOut op N most n ns d)) := by
  intro n
  induction n with
  | zero =>
    intro v d w j p g m q cap most ns kvs hv h hu hval hd
    cases hr : rule d with
    | none => exact absurd ⟨const_of h.arena.good hu hd.1 (by omega), const_of h.arena.good hu hd.2.1 (by omega), const_of h.arena.good hu hd.2.2 (by omega)⟩ (ok.asks hr)
    | some k =>
      obtain ⟨t1, t2⟩ := ok.told h.arena.good hd.in hr
      refine (join_told hent hR h d k hr).mono ?_
      rintro e w' ⟨rfl, hb⟩
      exact ⟨g, cap, ns, kvs, k, 0, rfl, h.below hb, Kept.of_below hb _, .inl rfl, ⟨h.arena.good, On.refl _, hu, hval, .inr ⟨rfl, t1, t2, by simp, fun _ _ _ => rfl⟩⟩⟩
  | succ n ih =>
    intro v d w j p g m q cap most ns kvs hv h hu hval hd
    have hg := h.arena.good
    have hp1 : (1 : Int) ≤ 2 ^ (n + 1) := by
      have : (0 : Int) < 2 ^ (n + 1) := Int.pow_pos (by decide)
      omega
    cases hr : rule d with
    | some k =>
      obtain ⟨t1, t2⟩ := ok.told hg hd.in hr
      refine (join_told hent hR h d k hr).mono ?_
      rintro e w' ⟨rfl, hb⟩
      exact ⟨g, cap, ns, kvs, k, 0, rfl, h.below hb, Kept.of_below hb _, .inl rfl, ⟨hg, On.refl _, hu, hval, .inr ⟨rfl, t1, t2, by omega, fun _ _ _ => rfl⟩⟩⟩
    | none =>
      obtain ⟨kl, hkl⟩ := in3_key hg hd.in
      by_cases hh : ∃ x ∈ kvs, x.1 = ndV d
      · obtain ⟨x, hx, ex⟩ := hh
        obtain ⟨d', k, rfl, hd', hk, hev⟩ := hval x hx
        obtain rfl := ndV_inj ex
        refine (join_known hent hR h d' k hr (fun W hW => ?_)).mono ?_
        · rcases mapIs.look lawT Try.underlying74 (zeroI W) (h.below hW).map h.keys hkl with ⟨_, h2⟩ | ⟨y, hy, ey, h2⟩
          · exact absurd rfl (h2 _ hx)
          · obtain ⟨d2, k2, rfl, hd2, hk2, hev2⟩ := hval y hy
            obtain rfl := ndV_inj ey
            rw [h2, same_in hg hk2 hk (fun f => by rw [hev, hev2])]
        · rintro e w' ⟨rfl, hb⟩
          exact ⟨g, cap, ns, kvs, k, 0, rfl, h.below hb, Kept.of_below hb _, .inl rfl, ⟨hg, On.refl _, hu, hval, .inr ⟨rfl, hk, hev, by omega, fun _ _ _ => rfl⟩⟩⟩
      · have ha := ok.asks hr
        obtain ⟨m1, m2, m3, m4⟩ := min3_le (getN ns d.v).v (getN ns d.lo).v (getN ns d.hi).v
        have f1 := getN_from hd.1
        have f2 := getN_from hd.2.1
        have f3 := getN_from hd.2.2
        have hlt : min3 (getN ns d.v).v (getN ns d.lo).v (getN ns d.hi).v < N := by
          by_cases c1 : d.v = 0 ∨ d.v = 1
          · by_cases c2 : d.lo = 0 ∨ d.lo = 1
            · by_cases c3 : d.hi = 0 ∨ d.hi = 1
              · exact absurd ⟨c1, c2, c3⟩ ha
              · have := getN_upto hg hu hd.2.2.in c3
                omega
            · have := getN_upto hg hu hd.2.1.in c2
              omega
          · have := getN_upto hg hu hd.1.in c1
            omega
        obtain ⟨u, hu'⟩ : ∃ u : Nat, min3 (getN ns d.v).v (getN ns d.lo).v (getN ns d.hi).v = u := ⟨(min3 (getN ns d.v).v (getN ns d.lo).v (getN ns d.hi).v).toNat, by omega⟩
        have hf : First ns u d := ⟨by omega, by omega, by omega, by omega⟩
        refine (join_new (PL := JOut op N most n ns (lowD ns u d)) (PH := fun ns1 _ _ => JOut op N most n ns1 (highD ns u d)) hent hR h d hr (fun W hW => ?_) ⟨kl, hkl⟩ u hu'
          (fun X hX => ih (u + 1) (lowD ns u d) (by omega) (h.below hX) hu hval (lowD_from hg hd.in hf))
          (fun X g1 cap1 ns1 kvs1 k1 J1 A => ih (u + 1) (highD ns u d) (by omega) J1 A.upto A.valid ((highD_from hg hd.in hf).on A.on))).mono ?_
        · rcases mapIs.look lawT Try.underlying74 (zeroI W) (h.below hW).map h.keys hkl with ⟨h1, _⟩ | ⟨y, hy, ey, _⟩
          · exact h1
          · exact absurd ⟨y, hy, ey⟩ hh
        · rintro e w' ⟨g', cap', ns', kvs', k, err, rfl, J, K, G, R⟩
          exact ⟨g', cap', ns', kvs', k, err, rfl, J, K, G, fin_out (by omega) hg hd.in hf R⟩

/-- What is known behind a call that puts diagrams together. -/
def IPost (p m : Nat) (most : Int) (w : World) (g : Nat) (R : List Nd → Int → Int → Prop) (e : Ending) (w' : World) : Prop :=
  ∃ g' cap' ns' k err, e = .returned (.tuple #[.int .i64 k, errV err]) ∧ ArenaAt 48 44 w' p g' m cap' most ns' ∧ Kept [p, g, m] w w' ∧ (g' = g ∨ w.heap.size ≤ g') ∧ R ns' k err
def IOut (op : Bool → Bool → Bool → Bool) (N : Nat) (most : Int) (ns : List Nd) (d : Nd) (ns' : List Nd) (k err : Int) : Prop := ∃ kvs', JOut op N most N ns ⟨nodeP ns d.v, nodeP ns d.lo, nodeP ns d.hi⟩ ns' kvs' k err
theorem nodeP_in {most : Int} {ns : List Nd} (h : Good most ns) (k : Int) : In ns (nodeP ns k) := by
  unfold nodeP
  by_cases hb : hasB ns k = true
  · rw [if_pos hb]
    obtain ⟨i, rfl, hi⟩ := hasB_elim hb
    exact ⟨i, rfl, hi⟩
  · rw [if_neg hb]
    exact in0 h
theorem nodeP_is {ns : List Nd} {k : Int} (h : In ns k) : nodeP ns k = k := by
  obtain ⟨i, rfl, hi⟩ := h
  unfold nodeP
  rw [if_pos (hasB_nat.2 hi)]

set_option maxHeartbeats 1000000 in
set_option maxRecDepth 20000 in
theorem ijoin_any {F : FuncId} {rule : Nd → Option Int} {op : Bool → Bool → Bool → Bool} (hent : ∀ args W, Sem.run Try.prog (callFunc F args) W = .ok (.enter F args) W)
    (hR : ∀ (d : Nd) (W : World), Calls Try.prog F #[ndV d] W fun e W' => e = .returned (ruleV (rule d)) ∧ Below W.heap.size W W') (ok : RuleOk rule op) (N : Nat) (hN : N ≤ 1024)
    {w : World} {p g m cap : Nat} {most : Int} {ns : List Nd} (h : ArenaAt 48 44 w p g m cap most ns) (hu : Upto N ns) (d : Nd) :
    Calls Try.prog 25 #[.pointer (some ⟨p, 0, none⟩), .func (.func F) #[] #[], ndV d] w (IPost p m most w g (IOut op N most ns d)) := by
  have hmm := @run_makeMap Try.prog
  obtain ⟨x, y, z⟩ := d
  unfold ndV
  go_enter Try.func25, Try.ntmps25
  go_wp2_with fail
  obtain ⟨W, hW⟩ : ∃ W, W = ((w.alloc (.cells #[.int .i64 x, .int .i64 y, .int .i64 z] 58)).alloc (.map #[] 0)).alloc (.cells #[.pointer (some ⟨p, 0, none⟩), .func (.func F) #[] #[], .map (some (w.heap.size + 1))] 76) := ⟨_, rfl⟩
  rw [← hW]
  have hbW : Below w.heap.size w W := by rw [hW]; exact (((Below.refl _ _).alloc (Nat.le_refl _) _).alloc (by simp) _).alloc (by simp; omega) _
  have hjW : W.heap[w.heap.size + 1 + 1]? = some (.cells #[.pointer (some ⟨p, 0, none⟩), .func (.func F) #[] #[], .map (some (w.heap.size + 1))] 76 (0, 0)) := by rw [hW]; exact heap_new_at _ _ _ (by simp)
  have hqW : W.heap[w.heap.size + 1]? = some (.map #[] 0) := by
    rw [hW, (MapKept.heap_alloc _ _).2 _ (by simp)]
    exact heap_new_at _ _ _ (by simp)
  have hcW : W.heap[w.heap.size]? = some (.cells #[.int .i64 x, .int .i64 y, .int .i64 z] 58 (0, 0)) := by
    rw [hW, (MapKept.heap_alloc _ _).2 _ (by simp; omega), (MapKept.heap_alloc _ _).2 _ (by simp)]
    exact heap_new_at _ _ _ rfl
  have lp := h.ltp
  have lg := h.ltg
  have lm := h.ltm
  obtain ⟨b, hb⟩ : ∃ b, b = w.heap.size := ⟨_, rfl⟩
  obtain ⟨q, hq⟩ : ∃ q, q = w.heap.size + 1 := ⟨_, rfl⟩
  obtain ⟨j, hj⟩ : ∃ j, j = w.heap.size + 1 + 1 := ⟨_, rfl⟩
  rw [← hj] at hjW ⊢
  rw [← hq] at hjW hqW
  rw [← hb] at hcW ⊢
  have hJ : JoinAt F W j p g m q cap most ns [] := ⟨hjW, h.below hbW, ⟨#[], 0, hqW, by simp⟩, by simp; omega, by simp; omega, by simp⟩
  have hg := h.good
  have hd : From3 ns ⟨nodeP ns x, nodeP ns y, nodeP ns z⟩ 0 := ⟨(nodeP_in hg x).from hg, (nodeP_in hg y).from hg, (nodeP_in hg z).from hg⟩
  have hjoin : ∀ Y, Below W.heap.size W Y → _ := fun Y hY => join_any hent hR ok N hN N 0 ⟨nodeP ns x, nodeP ns y, nodeP ns z⟩ (by omega) (hJ.below hY) hu (fun _ h => by cases h) hd
  have NX := fun (k : Int) (Y : World) (hY : Below W.heap.size W Y) => node_any ((h.below hbW).below hY) k
  have HO : ∀ ns' kvs' k err, JOut op N most N ns ⟨nodeP ns x, nodeP ns y, nodeP ns z⟩ ns' kvs' k err → IOut op N most ns ⟨x, y, z⟩ ns' k err := fun _ kvs' _ _ H => ⟨kvs', H⟩
  generalize hnx : nodeP ns x = nx at *
  generalize hny : nodeP ns y = ny at *
  generalize hnz : nodeP ns z = nz at *
  have NX1 := NX x
  have NX2 := NX y
  have NX3 := NX z
  rw [hnx] at NX1
  rw [hny] at NX2
  rw [hnz] at NX3
  unfold ndV at hjoin
  obtain ⟨C0, C1, C2⟩ := three_cells hcW
  have lb := (Array.getElem?_eq_some_iff.1 hcW).1
  have HC : ∀ Y, Below W.heap.size W Y → Y.cell? ⟨b, 0, none⟩ = some (.int .i64 x) ∧ Y.cell? ⟨b, 1, none⟩ = some (.int .i64 y) ∧ Y.cell? ⟨b, 2, none⟩ = some (.int .i64 z) := fun Y hY => three_cells (below_block hY hcW)
  have HCK : ∀ Y Y1, Below W.heap.size W Y → Kept [p, g, m, q] Y Y1 → Y1.cell? ⟨b, 0, none⟩ = some (.int .i64 x) ∧ Y1.cell? ⟨b, 1, none⟩ = some (.int .i64 y) ∧ Y1.cell? ⟨b, 2, none⟩ = some (.int .i64 z) := fun Y Y1 hY k => three_cells (k.stays (below_block hY hcW) (by simp; omega))
  have hX0 : Below W.heap.size W W.drew := (Below.refl _ _).drew
  have HQ : Hid (q = w.heap.size + 1) := hq
  clear NX hnx hny hnz hW hb hq hj hR ok hmm hJ hd hjW hqW hcW hu hent C0 C1 C2
  go_region_held3 (fun Y => Y.cell? ⟨b, 0, none⟩ = some (.int .i64 x) ∧ Y.cell? ⟨b, 1, none⟩ = some (.int .i64 y) ∧ Y.cell? ⟨b, 2, none⟩ = some (.int .i64 z))
    (first
      | exact HC _ hX0
      | exact HC _ hXn
      | exact HCK _ _ hXn q1)
    (first
      | (go_at_call_of 33 (Value.int .i64 x); refine (NX1 _ (by assumption)).mono ?_; rintro e Y ⟨rfl, rfl⟩; have hXn := hX0)
      | (go_at_call_of 33 (Value.int .i64 y); refine (NX2 _ (by assumption)).mono ?_; rintro e Y ⟨rfl, rfl⟩; have hXn := hX0)
      | (go_at_call_of 33 (Value.int .i64 z); refine (NX3 _ (by assumption)).mono ?_; rintro e Y ⟨rfl, rfl⟩; have hXn := hX0)
      | (go_at_call 32; refine (hjoin _ hXn).mono ?_; rintro e Y1 ⟨g1, cap1, ns1, kvs1, k1, e1, rfl, J1, q1, z1, RR1⟩))
  have K1 : Kept [p, g, m] w Y1 := by
    have k0 : Kept [p, g, m] w W.drew := (Kept.of_below hbW _).more (Kept.of_below hX0 []) (by simp)
    refine k0.more q1 (fun t ht => ?_)
    have := HQ.out
    simp at ht ⊢
    omega
  have sW := hbW.size
  have G1 : g1 = g ∨ w.heap.size ≤ g1 := by
    have e : W.drew.heap.size = W.heap.size := rfl
    omega
  have A1 := J1.arena
  have O1 := HO _ _ _ _ RR1
  obtain ⟨E1, hE⟩ : ∃ E1, E1 = errV e1 := ⟨_, rfl⟩
  rw [← hE]
  have HE : Hid (E1 = errV e1) := hE
  clear hE
  clear HC HCK NX1 NX2 NX3 hjoin HO RR1 J1
  go_wp2_with fail
  go_ret2
  exact ⟨g1, cap1, ns1, k1, e1, by rw [← HE.out]; rfl, A1, K1, G1, O1⟩
set_option maxHeartbeats 400000 in
set_option maxRecDepth 20000 in
theorem iof_any {w : World} {p g m cap : Nat} {most : Int} {ns : List Nd} (h : ArenaAt 48 44 w p g m cap most ns) {N : Nat} (hN : N ≤ 1024) (hu : Upto N ns) (f' g' h' : Int) :
    Calls Try.prog 19 #[.pointer (some ⟨p, 0, none⟩), .int .i64 f', .int .i64 g', .int .i64 h'] w (IPost p m most w g (IOut opChoose N most ns ⟨f', g', h'⟩)) := by
  have hc := ijoin_any enterChoose choose_any choose_ok N hN h hu ⟨f', g', h'⟩
  unfold ndV at hc
  dsimp only at hc
  generalize IOut opChoose N most ns ⟨f', g', h'⟩ = R at hc ⊢
  clear h hu
  go_enter Try.func19, Try.ntmps19
  go_wp2_with fail
  refine hc.mono ?_
  rintro e w1 ⟨g1, cap1, ns1, k1, e1, rfl, A1, K1, G1, O1⟩
  obtain ⟨E1, hE⟩ : ∃ E1, E1 = errV e1 := ⟨_, rfl⟩
  rw [← hE]
  have HE : Hid (E1 = errV e1) := hE
  clear hE hc
  go_wp2_with fail
  go_ret2
  exact ⟨g1, cap1, ns1, k1, e1, by rw [← HE.out]; rfl, A1, K1, G1, O1⟩
end Go.Proofs.Ytahjkkegbcalnaa
