/- What package compose answers. -/
import Derived.Test.YtahjkkegbcalnaaDoorXL
namespace Go.Proofs.YtahjkkegbcalnaaDoor
open Go.RowKit Go.Maps

/-- A variable that no diagram asks. -/
theorem free_out {most : Int} {ns : List Nd} (h : Good most ns) {v k : Int} (hk : In ns k) (hv : v < 0 ∨ 1024 ≤ v) : Free ns v k := by
  obtain ⟨i, rfl, hi⟩ := hk
  have key : ∀ (n i : Nat), i < n → i < ns.length → Free ns v i := by
    intro n
    induction n with
    | zero => intro i hn; omega
    | succ n ih =>
      intro i hn hi f
      by_cases hl : (ndAt ns i).v < 1024
      · obtain ⟨_, h0, ⟨a, ea, la, va⟩, ⟨b, eb, lb, vb⟩, _⟩ := asks_at h hi hl
        rw [evalP_at h hi hl, evalP_at h hi hl, turn_other _ _ (by omega), turn_other _ _ (by omega), ea, eb]
        cases f (ndAt ns i).v with
        | true => simp only [if_true]; exact ih b (by omega) (by omega) f
        | false => simp only [Bool.false_eq_true, if_false]; exact ih a (by omega) (by omega) f
      · rw [evalP_end _ (by rw [getN_in hi]; exact hl), evalP_end _ (by rw [getN_in hi]; exact hl)]
  exact key (i + 1) i (by omega) hi
theorem opOf_same (ru : Int) (a b : Bool) : opOf ru a b b = b := by
  unfold opOf
  split
  · simp [opEither]
  · simp [opChoose]

/-- What compose answers: f where v is what g says (or either of both). -/
def COut (ru v : Int) (N : Nat) (most : Int) (ns : List Nd) (f g : Int) (ns' : List Nd) (k err : Int) : Prop :=
  (err = 8 ∧ k = 0 ∧ most < ns.length + 2 ^ N - 1) ∨ (err = 0 ∧ Went N most ns ns' k (M3 (opOf ru) ns v ⟨nodeP ns g, nodeP ns f, nodeP ns f⟩))

section
variable {w : World} {p g m cap : Nat} {most : Int} {ns : List Nd}
set_option maxHeartbeats 1000000 in
set_option maxRecDepth 20000 in
theorem cput_out (h : ArenaAt 39 35 w p g m cap most ns) {N : Nat} (hu : Upto N ns) (ru f v g' : Int) (hv : v < 0 ∨ 1024 ≤ v) :
    Calls Tryd.prog 11 #[.pointer (some ⟨p, 0, none⟩), .int .i64 ru, .int .i64 f, .int .i64 v, .int .i64 g'] w (IPost p m most w g (COut ru v N most ns f g')) := by
  have hg := h.good
  have hin := nodeP_in hg f
  have hO : COut ru v N most ns f g' ns (nodeP ns f) 0 := by
    have hp := one_le_pow N
    refine .inr ⟨rfl, hg, On.refl _, hu, ⟨hin, fun φ => ?_⟩, by omega, fun _ _ => rfl⟩
    have hf := free_out hg hin hv
    unfold M3
    simp only
    rw [hf.turn, hf.turn, opOf_same]
  have n1 := cnode_any h f
  have n2 := cnode_any h g'
  generalize nodeP ns f = nf at *
  generalize nodeP ns g' = ng at *
  have HO : Hid (COut ru v N most ns f g' ns nf 0) := hO
  clear hO hin
  rcases hv with hv | hv
  all_goals
    go_enter Tryd.func11, Tryd.ntmps11
    go_wp2_with fail
    refine n1.mono ?_
    rintro e w1 ⟨rfl, rfl⟩
    go_wp2_with fail
    refine n2.mono ?_
    rintro e w2 ⟨rfl, rfl⟩
    clear n1 n2
    go_wp2_with fail
    go_ret2
    exact ⟨g, cap, ns, nf, 0, rfl, h, Kept.of_below (Below.refl _ _) _, .inl rfl, HO.out⟩

set_option maxHeartbeats 1000000 in
set_option maxRecDepth 20000 in
theorem cput_in (h : ArenaAt 39 35 w p g m cap most ns) {N : Nat} (hN : N ≤ 1024) (hu : Upto N ns) (ru f v g' : Int) (hv0 : 0 ≤ v) (hv1 : v < 1024) :
    Calls Tryd.prog 11 #[.pointer (some ⟨p, 0, none⟩), .int .i64 ru, .int .i64 f, .int .i64 v, .int .i64 g'] w (IPost p m most w g (COut ru v N most ns f g')) := by
  have hmm := @run_makeMap Tryd.prog
  have hg := h.good
  have h3 : From3 ns ⟨nodeP ns g', nodeP ns f, nodeP ns f⟩ 0 := ⟨(nodeP_in hg g').from hg, (nodeP_in hg f).from hg, (nodeP_in hg f).from hg⟩
  have hbo : Both (opOf ru) v ns ([], []) := ⟨fun _ h => (by cases h), fun _ h => (by cases h)⟩
  have hput : ∀ (X : World) (j qa qd : Nat), PutAt X j p g m qa qd cap most ru v ns [] [] → _ := fun X j qa qd A => put_any ru v hv1 N hN N 0 ⟨nodeP ns g', nodeP ns f, nodeP ns f⟩ (by omega) A hu hbo h3 rfl
  have HO : ∀ ns' s' k err, POut (opOf ru) v N most N ns (M3 (opOf ru) ns v ⟨nodeP ns g', nodeP ns f, nodeP ns f⟩) ns' s' k err → COut ru v N most ns f g' ns' k err := by
    intro ns' s' k err P
    rcases P.out with ⟨e8, k0, hm⟩ | ⟨e0, kin, kev, klen, knew⟩
    · exact .inl ⟨e8, k0, hm⟩
    · exact .inr ⟨e0, P.good, P.on, P.upto, ⟨kin, kev⟩, klen, fun i di => knew i di.1 di.2⟩
  have n1 := cnode_any h f
  have n2 := cnode_any h g'
  generalize POut (opOf ru) v N most N ns (M3 (opOf ru) ns v ⟨nodeP ns g', nodeP ns f, nodeP ns f⟩) = R0 at *
  generalize COut ru v N most ns f g' = R1 at *
  unfold ndV at hput
  generalize nodeP ns f = nf at *
  generalize nodeP ns g' = ng at *
  clear h3 hu hN hbo
  go_enter Tryd.func11, Tryd.ntmps11
  go_wp2_with fail
  refine n1.mono ?_
  rintro e w1 ⟨rfl, rfl⟩
  go_wp2_with fail
  refine n2.mono ?_
  rintro e w2 ⟨rfl, rfl⟩
  clear n1 n2
  go_wp2_with fail
  have lp := h.ltp
  have lg := h.ltg
  have lm := h.ltm
  obtain ⟨W, hW⟩ : ∃ W, W = ((w2.alloc (.map #[] 0)).alloc (.map #[] 0)).alloc (.cells #[.pointer (some ⟨p, 0, none⟩), .int .i64 ru, .int .i64 v, .map (some w2.heap.size), .map (some (w2.heap.size + 1))] 51) := ⟨_, rfl⟩
  rw [← hW]
  have hbW : Below w2.heap.size w2 W := by rw [hW]; exact (((Below.refl _ _).alloc (Nat.le_refl _) _).alloc (by simp) _).alloc (by simp; omega) _
  have hjW : W.heap[w2.heap.size + 1 + 1]? = some (.cells #[.pointer (some ⟨p, 0, none⟩), .int .i64 ru, .int .i64 v, .map (some w2.heap.size), .map (some (w2.heap.size + 1))] 51 (0, 0)) := by rw [hW]; exact heap_new_at _ _ _ (by simp)
  have hdW : W.heap[w2.heap.size + 1]? = some (.map #[] 0) := by
    rw [hW, (MapKept.heap_alloc _ _).2 _ (by simp)]
    exact heap_new_at _ _ _ (by simp)
  have haW : W.heap[w2.heap.size]? = some (.map #[] 0) := by
    rw [hW, (MapKept.heap_alloc _ _).2 _ (by simp; omega), (MapKept.heap_alloc _ _).2 _ (by simp)]
    exact heap_new_at _ _ _ rfl
  have hP : PutAt W (w2.heap.size + 1 + 1) p g m w2.heap.size (w2.heap.size + 1) cap most ru v ns [] [] := ⟨hjW, h.below hbW, ⟨#[], 0, haW, by simp⟩, ⟨#[], 0, hdW, by simp⟩, by simp; omega, by simp; omega, by simp; omega, by omega, by simp, by simp⟩
  have hq := hput W _ _ _ hP
  clear hput hP hjW hdW haW hW hmm
  refine hq.mono ?_
  rintro e Y1 ⟨g1, cap1, ns1, s1, k1, e1, rfl, J1, q1, z1, RR1⟩
  have K1 : Kept [p, g, m] w2 Y1 := by
    refine (Kept.of_below hbW _).more q1 (fun t ht => ?_)
    simp at ht ⊢
    omega
  have sW := hbW.size
  have G1 : g1 = g ∨ w2.heap.size ≤ g1 := by omega
  have A1 := J1.arena
  have O1 := HO _ _ _ _ RR1
  obtain ⟨E1, hE⟩ : ∃ E1, E1 = errV e1 := ⟨_, rfl⟩
  rw [← hE]
  have HE : Hid (E1 = errV e1) := hE
  clear hE hq HO RR1 J1 q1 z1 sW hbW
  go_wp2_with fail
  go_ret2
  exact ⟨g1, cap1, ns1, k1, e1, by rw [← HE.out]; rfl, A1, K1, G1, O1⟩

theorem cput_any (h : ArenaAt 39 35 w p g m cap most ns) {N : Nat} (hN : N ≤ 1024) (hu : Upto N ns) (ru f v g' : Int) :
    Calls Tryd.prog 11 #[.pointer (some ⟨p, 0, none⟩), .int .i64 ru, .int .i64 f, .int .i64 v, .int .i64 g'] w (IPost p m most w g (COut ru v N most ns f g')) := by
  by_cases hv : v < 0 ∨ 1024 ≤ v
  · exact cput_out h hu ru f v g' hv
  · exact cput_in h hN hu ru f v g' (by omega) (by omega)

set_option maxHeartbeats 400000 in
set_option maxRecDepth 20000 in
theorem cof_any (h : ArenaAt 39 35 w p g m cap most ns) {N : Nat} (hN : N ≤ 1024) (hu : Upto N ns) (f v g' : Int) :
    Calls Tryd.prog 10 #[.pointer (some ⟨p, 0, none⟩), .int .i64 f, .int .i64 v, .int .i64 g'] w (IPost p m most w g (COut 0 v N most ns f g')) := by
  have hc := cput_any h hN hu 0 f v g'
  generalize COut 0 v N most ns f g' = R at hc ⊢
  clear h hu
  go_enter Tryd.func10, Tryd.ntmps10
  go_wp2_with fail
  refine hc.mono ?_
  rintro e w1 ⟨g1, cap1, ns1, k1, e1, rfl, A1, K1, G1, O1⟩
  obtain ⟨E1, hE⟩ : ∃ E1, E1 = errV e1 := ⟨_, rfl⟩
  rw [← hE]
  have HE : Hid (E1 = errV e1) := hE
  clear hE hc
  go_wp2_with fail
  go_ret2
  exact ⟨g1, cap1, ns1, k1, e1, by rw [← HE.out]; rfl, A1, K1, G1, O1⟩
set_option maxHeartbeats 400000 in
set_option maxRecDepth 20000 in
theorem csome_any (h : ArenaAt 39 35 w p g m cap most ns) {N : Nat} (hN : N ≤ 1024) (hu : Upto N ns) (f v : Int) :
    Calls Tryd.prog 7 #[.pointer (some ⟨p, 0, none⟩), .int .i64 f, .int .i64 v] w (IPost p m most w g (COut 1 v N most ns f 0)) := by
  have hc := cput_any h hN hu 1 f v 0
  generalize COut 1 v N most ns f 0 = R at hc ⊢
  clear h hu
  go_enter Tryd.func7, Tryd.ntmps7
  go_wp2_with fail
  refine hc.mono ?_
  rintro e w1 ⟨g1, cap1, ns1, k1, e1, rfl, A1, K1, G1, O1⟩
  obtain ⟨E1, hE⟩ : ∃ E1, E1 = errV e1 := ⟨_, rfl⟩
  rw [← hE]
  have HE : Hid (E1 = errV e1) := hE
  clear hE hc
  go_wp2_with fail
  go_ret2
  exact ⟨g1, cap1, ns1, k1, e1, by rw [← HE.out]; rfl, A1, K1, G1, O1⟩
set_option maxHeartbeats 400000 in
set_option maxRecDepth 20000 in
theorem crestrict_any (h : ArenaAt 39 35 w p g m cap most ns) {N : Nat} (hN : N ≤ 1024) (hu : Upto N ns) (f v : Int) (one : Bool) :
    Calls Tryd.prog 6 #[.pointer (some ⟨p, 0, none⟩), .int .i64 f, .int .i64 v, .bool one] w (IPost p m most w g (COut 0 v N most ns f (if one = true then 1 else 0))) := by
  cases one with
  | true =>
    simp only [if_true]
    have hc := cof_any h hN hu f v 1
    generalize COut 0 v N most ns f 1 = R at hc ⊢
    clear h hu
    go_enter Tryd.func6, Tryd.ntmps6
    go_wp2_with fail
    refine hc.mono ?_
    rintro e w1 ⟨g1, cap1, ns1, k1, e1, rfl, A1, K1, G1, O1⟩
    obtain ⟨E1, hE⟩ : ∃ E1, E1 = errV e1 := ⟨_, rfl⟩
    rw [← hE]
    have HE : Hid (E1 = errV e1) := hE
    clear hE hc
    go_wp2_with fail
    go_ret2
    exact ⟨g1, cap1, ns1, k1, e1, by rw [← HE.out]; rfl, A1, K1, G1, O1⟩
  | false =>
    simp only [Bool.false_eq_true, if_false]
    have hc := cof_any h hN hu f v 0
    generalize COut 0 v N most ns f 0 = R at hc ⊢
    clear h hu
    go_enter Tryd.func6, Tryd.ntmps6
    go_wp2_with fail
    refine hc.mono ?_
    rintro e w1 ⟨g1, cap1, ns1, k1, e1, rfl, A1, K1, G1, O1⟩
    obtain ⟨E1, hE⟩ : ∃ E1, E1 = errV e1 := ⟨_, rfl⟩
    rw [← hE]
    have HE : Hid (E1 = errV e1) := hE
    clear hE hc
    go_wp2_with fail
    go_ret2
    exact ⟨g1, cap1, ns1, k1, e1, by rw [← HE.out]; rfl, A1, K1, G1, O1⟩
theorem crestrict1_any (h : ArenaAt 39 35 w p g m cap most ns) {N : Nat} (hN : N ≤ 1024) (hu : Upto N ns) (f v : Int) :
    Calls Tryd.prog 6 #[.pointer (some ⟨p, 0, none⟩), .int .i64 f, .int .i64 v, .bool true] w (IPost p m most w g (COut 0 v N most ns f 1)) := crestrict_any h hN hu f v true
theorem crestrict0_any (h : ArenaAt 39 35 w p g m cap most ns) {N : Nat} (hN : N ≤ 1024) (hu : Upto N ns) (f v : Int) :
    Calls Tryd.prog 6 #[.pointer (some ⟨p, 0, none⟩), .int .i64 f, .int .i64 v, .bool false] w (IPost p m most w g (COut 0 v N most ns f 0)) := crestrict_any h hN hu f v false
end

/-! ### What is put for a variable, by what diagrams say -/
section
variable {most : Int} {ns ns' : List Nd} {N : Nat} {v k err f g : Int} {α β : (Int → Bool) → Bool}
theorem cout_of (da : D ns f α) (db : D ns g β) (h : COut 0 v N most ns f g ns' k err) (hr : (ns.length : Int) + 2 ^ N - 1 ≤ most) : err = 0 ∧ Went N most ns ns' k (fun φ => if β φ = true then α (turn φ v true) else α (turn φ v false)) := by
  rcases h with ⟨_, _, h1⟩ | ⟨e0, W⟩
  · omega
  · refine ⟨e0, ?_⟩
    have e : M3 (opOf 0) ns v ⟨nodeP ns g, nodeP ns f, nodeP ns f⟩ = fun φ => if β φ = true then α (turn φ v true) else α (turn φ v false) := by
      funext φ
      rw [nodeP_is da.1, nodeP_is db.1]
      unfold M3
      simp only
      rw [da.2, da.2, db.2]
      rfl
    rwa [e] at W
theorem cout_restrict (hg : Good most ns) (da : D ns f α) {one : Bool} (h : COut 0 v N most ns f (if one = true then 1 else 0) ns' k err) (hr : (ns.length : Int) + 2 ^ N - 1 ≤ most) : err = 0 ∧ Went N most ns ns' k (fun φ => α (turn φ v one)) := by
  cases one with
  | true => exact cout_of da (d1 hg) h hr
  | false => exact cout_of da (d0 hg) h hr
theorem cout_one (hg : Good most ns) (da : D ns f α) (h : COut 0 v N most ns f 1 ns' k err) (hr : (ns.length : Int) + 2 ^ N - 1 ≤ most) : err = 0 ∧ Went N most ns ns' k (fun φ => α (turn φ v true)) := cout_restrict (one := true) hg da h hr
theorem cout_zero (hg : Good most ns) (da : D ns f α) (h : COut 0 v N most ns f 0 ns' k err) (hr : (ns.length : Int) + 2 ^ N - 1 ≤ most) : err = 0 ∧ Went N most ns ns' k (fun φ => α (turn φ v false)) := cout_restrict (one := false) hg da h hr
theorem cout_some (_hg : Good most ns) (da : D ns f α) (h : COut 1 v N most ns f g ns' k err) (hr : (ns.length : Int) + 2 ^ N - 1 ≤ most) : err = 0 ∧ Went N most ns ns' k (fun φ => α (turn φ v true) || α (turn φ v false)) := by
  rcases h with ⟨_, _, h1⟩ | ⟨e0, W⟩
  · omega
  · refine ⟨e0, ?_⟩
    have e : M3 (opOf 1) ns v ⟨nodeP ns g, nodeP ns f, nodeP ns f⟩ = fun φ => α (turn φ v true) || α (turn φ v false) := by
      funext φ
      rw [nodeP_is da.1]
      unfold M3
      simp only
      rw [da.2, da.2]
      rfl
    rwa [e] at W
end
end Go.Proofs.YtahjkkegbcalnaaDoor
