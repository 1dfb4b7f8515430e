/- What puts diagrams together: the walk, where the rule tells, or the map knows. -/
import Derived.Test.YtahjkkegbcalnaaI
namespace Go.Proofs.Ytahjkkegbcalnaa
open Go.RowKit Go.Maps

theorem wideT : (match Try.prog.underlying 58 with | some (.array _ _) | some (.struct _) => true | _ => false) = true := by kernel_rfl
theorem rowT : (58 : TypeId) < Try.prog.types.size := of_decide_eq_true (by kernel_rfl)
set_option maxRecDepth 100000 in
theorem lawT : Keyed Try.prog 58 := Keyed.of_law (deep_law_laid laidOut (m := 2) (by omega) rowT (by kernel_rfl) wideT)
theorem keyTypeT : Try.prog.keyType 58 = true := by kernel_rfl
theorem cellsT : Try.prog.cellsOf 58 = 3 := by kernel_rfl
theorem keyT (a b c : Int) (ha : (Lit.int .i64 a).wf = true) (hb : (Lit.int .i64 b).wf = true) (hc : (Lit.int .i64 c).wf = true) : ∃ l, keyOf Try.prog 58 (ndV ⟨a, b, c⟩) = some l := by
  have h1 : (ndV ⟨a, b, c⟩).formed Try.prog 58 = true := by simp [ndV, Value.formed, Try.underlying58, cellsT]
  obtain ⟨k, hk⟩ : ∃ k, Try.prog.types.size = k + 1 := ⟨Try.prog.types.size - 1, by have : (0 : Nat) < Try.prog.types.size := Nat.lt_of_le_of_lt (Nat.zero_le _) rowT; omega⟩
  refine ⟨.string (keyBytes [.int .i64 a, .int .i64 b, .int .i64 c]), ?_⟩
  simp [keyOf, Try.underlying58, keyTypeT, h1, hk]
  unfold Program.keyLits
  simp [Try.underlying58, cellsT, ndV, Value.cells, cells3, lits3, ha, hb, hc]

/-- A key that may be there, or not, gets a value. -/
theorem mapIs.put {P : Program} {w : World} {m : Nat} {k e t : TypeId} (K : Keyed P k) (ht : P.underlying t = some (.map k e)) {kvs : List (Value × Value)} (h : mapIs w m kvs) (hk : ∀ x ∈ kvs, ∃ l, keyOf P k x.1 = some l) {key val : Value} {kl : Lit} (hkey : keyOf P k key = some kl) :
    ∃ w' kvs', (Instr.mapUpdate t (.map (some m)) key val).run P w = .ok () w' ∧ mapIs w' m kvs' ∧ w.grownBy w' (some m) ∧ ∀ x ∈ kvs', x ∈ kvs ∨ x = (key, val) := by
  obtain ⟨es, c, hb, rfl⟩ := h
  rcases K.find w hkey es.toList (fun e he => hk _ (List.mem_map.2 ⟨e, he, rfl⟩)) with ⟨h1, h2⟩ | ⟨j, e0, h1, h2, h3⟩
  · refine ⟨ChangeMaps.setBlock w m (.map (es.push ⟨key, val, c⟩) (c + 1)), _, ?_, ⟨_, _, ChangeMaps.heap_setBlock_same hb _, rfl⟩, ⟨rfl, rfl, rfl, by simp [ChangeMaps.setBlock], fun i _ hi => ChangeMaps.heap_setBlock_other hb _ (fun e => hi (by rw [e]))⟩, ?_⟩
    · simp [Instr.mapUpdate, run_underlying ht, MapKept.run_getObj_map hb, K.check w false hkey, h1, MapKept.run_setObj_map _ hb, Result.andThen, ChangeMaps.setBlock]
    · intro x hx
      simp only [Array.toList_push, List.map_append, List.mem_append, List.map_cons, List.map_nil, List.mem_singleton] at hx
      exact hx
  · have hj : es[j]? = some e0 := by simpa using h2
    refine ⟨ChangeMaps.setBlock w m (.map (es.modify j (fun e' => { e' with key := key, val := val })) c), _, ?_, ⟨_, _, ChangeMaps.heap_setBlock_same hb _, rfl⟩, ⟨rfl, rfl, rfl, by simp [ChangeMaps.setBlock], fun i _ hi => ChangeMaps.heap_setBlock_other hb _ (fun e => hi (by rw [e]))⟩, ?_⟩
    · simp [Instr.mapUpdate, run_underlying ht, MapKept.run_getObj_map hb, K.check w false hkey, h1, hj, h3, K.stays w hkey, MapKept.run_setObj_map _ hb, Result.andThen, ChangeMaps.setBlock]
    · intro x hx
      obtain ⟨e, he, rfl⟩ := List.mem_map.1 hx
      rw [Array.toList_modify, ChangeMaps.modify_eq_set _ _ _ _ h2] at he
      rcases List.mem_or_eq_of_mem_set he with h | rfl
      · exact .inl (List.mem_map.2 ⟨e, h, rfl⟩)
      · exact .inr rfl

/-- A joiner lies at j: its arena at p, its map in block q, its rule is function F. -/
structure JoinAt (F : FuncId) (w : World) (j p g m q cap : Nat) (most : Int) (ns : List Nd) (kvs : List (Value × Value)) : Prop where
  here : w.heap[j]? = some (.cells #[.pointer (some ⟨p, 0, none⟩), .func (.func F) #[] #[], .map (some q)] 76 (0, 0))
  arena : ArenaAt 48 44 w p g m cap most ns
  map : mapIs w q kvs
  nj : j ∉ [p, g, m]
  nq : q ∉ [p, g, m]
  keys : ∀ x ∈ kvs, ∃ l, keyOf Try.prog 58 x.1 = some l
section
variable {F : FuncId} {w : World} {j p g m q cap : Nat} {most : Int} {ns : List Nd} {kvs : List (Value × Value)}
theorem JoinAt.ltj (h : JoinAt F w j p g m q cap most ns kvs) : j < w.heap.size := (Array.getElem?_eq_some_iff.1 h.here).1
theorem JoinAt.ltq (h : JoinAt F w j p g m q cap most ns kvs) : q < w.heap.size := by
  obtain ⟨es, c, hm, _⟩ := h.map
  exact (Array.getElem?_eq_some_iff.1 hm).1
theorem JoinAt.jq (h : JoinAt F w j p g m q cap most ns kvs) : j ≠ q := by
  rintro rfl
  obtain ⟨es, c, hm, _⟩ := h.map
  rw [h.here] at hm
  cases hm
theorem JoinAt.c0 (h : JoinAt F w j p g m q cap most ns kvs) : w.cell? ⟨j, 0, none⟩ = some (.pointer (some ⟨p, 0, none⟩)) := by simp [World.cell?, h.here]
theorem JoinAt.c1 (h : JoinAt F w j p g m q cap most ns kvs) : w.cell? ⟨j, 1, none⟩ = some (.func (.func F) #[] #[]) := by simp [World.cell?, h.here]
theorem JoinAt.c2 (h : JoinAt F w j p g m q cap most ns kvs) : w.cell? ⟨j, 2, none⟩ = some (.map (some q)) := by simp [World.cell?, h.here]
theorem JoinAt.below {w' : World} (h : JoinAt F w j p g m q cap most ns kvs) (hb : Below w.heap.size w w') : JoinAt F w' j p g m q cap most ns kvs := by
  obtain ⟨es, c, k1, k2⟩ := h.map
  exact ⟨(hb.block j h.ltj).trans h.here, h.arena.below hb, ⟨es, c, (hb.block q h.ltq).trans k1, k2⟩, h.nj, h.nq, h.keys⟩
end

/-- All but own blocks is as it was, twice. -/
theorem Kept.more {own own' : List Nat} {w W W' : World} (h : Kept own w W) (k : Kept own' W W') (hs : ∀ x ∈ own', x ∈ own ∨ w.heap.size ≤ x) : Kept own w W' :=
  ⟨k.os.trans h.os, k.tape.trans h.tape, k.output.trans h.output, Nat.le_trans h.size k.size, fun i hi hn => (k.block i (Nat.lt_of_lt_of_le hi h.size) (fun hm => (hs i hm).elim hn (fun h1 => by omega))).trans (h.block i hi hn)⟩
theorem Kept.grown {own : List Nat} {w W : World} {q : Nat} (h : w.grownBy W (some q)) (hq : q ∈ own) : Kept own w W :=
  ⟨h.os, h.tape, h.output, h.size, fun i hi hn => h.block i hi (fun e => hn (by cases e; exact hq))⟩
/-- What is made in the arena leaves the joiner. -/
theorem JoinAt.next {F : FuncId} {w W : World} {j p g m q cap g' cap' : Nat} {most : Int} {ns ns' : List Nd} {kvs : List (Value × Value)} (h : JoinAt F w j p g m q cap most ns kvs) (a : ArenaAt 48 44 W p g' m cap' most ns') (k : Kept [p, g, m] w W) (hg : g' = g ∨ w.heap.size ≤ g') : JoinAt F W j p g' m q cap' most ns' kvs := by
  have hj := h.ltj
  have hq := h.ltq
  have nj := h.nj
  have nq := h.nq
  obtain ⟨es, c, k1, k2⟩ := h.map
  refine ⟨k.stays h.here h.nj, a, ⟨es, c, k.stays k1 h.nq, k2⟩, ?_, ?_, h.keys⟩
  · simp at nj ⊢; omega
  · simp at nq ⊢; omega
/-- What is put into the map leaves the arena. -/
theorem JoinAt.put {F : FuncId} {w W : World} {j p g m q cap : Nat} {most : Int} {ns : List Nd} {kvs kvs' : List (Value × Value)} {d : Nd} {v : Value} (h : JoinAt F w j p g m q cap most ns kvs) (k : w.grownBy W (some q)) (hm : mapIs W q kvs') (hx : ∀ x ∈ kvs', x ∈ kvs ∨ x = (ndV d, v)) (hd : ∃ l, keyOf Try.prog 58 (ndV d) = some l) : JoinAt F W j p g m q cap most ns kvs' := by
  have nq := h.nq
  simp at nq
  refine ⟨(k.block j h.ltj (fun e => h.jq (by cases e; rfl))).trans h.here, h.arena.stays (k.block p h.arena.ltp (fun e => nq.1 (by cases e; rfl))) (k.block g h.arena.ltg (fun e => nq.2.1 (by cases e; rfl))) (k.block m h.arena.ltm (fun e => nq.2.2 (by cases e; rfl))), hm, h.nj, h.nq, ?_⟩
  intro x hx'
  rcases hx x hx' with h1 | rfl
  · exact h.keys x h1
  · exact hd

section
variable {F : FuncId} {rule : Nd → Option Int} {w : World} {j p g m q cap : Nat} {most : Int} {ns : List Nd} {kvs : List (Value × Value)}

set_option maxHeartbeats 1000000 in
set_option maxRecDepth 20000 in
theorem join_told (hent : ∀ args W, Sem.run Try.prog (callFunc F args) W = .ok (.enter F args) W)
    (hR : ∀ (d : Nd) (W : World), Calls Try.prog F #[ndV d] W fun e W' => e = .returned (ruleV (rule d)) ∧ Below W.heap.size W W')
    (h : JoinAt F w j p g m q cap most ns kvs) (d : Nd) (k : Int) (hk : rule d = some k) :
    Calls Try.prog 32 #[.pointer (some ⟨j, 0, none⟩), ndV d] w fun e w' => e = .returned (.tuple #[.int .i64 k, .nilIface]) ∧ Below w.heap.size w w' := by
  obtain ⟨x, y, z⟩ := d
  have hr := hR ⟨x, y, z⟩
  rw [hk] at hr
  unfold ruleV ndV at hr
  simp only [Option.getD_some, Option.isSome_some] at hr
  unfold ndV
  clear hR hk
  have c1 := h.c1
  have hj := h.ltj
  clear h
  go_enter Try.func32, Try.ntmps32
  go_wp2_with fail
  obtain ⟨W, hW⟩ : ∃ W, W = w.alloc (.cells #[.int .i64 x, .int .i64 y, .int .i64 z] 58) := ⟨_, rfl⟩
  rw [← hW]
  obtain ⟨b, hb⟩ : ∃ b, b = w.heap.size := ⟨_, rfl⟩
  rw [← hb]
  have hcW : W.heap[b]? = some (.cells #[.int .i64 x, .int .i64 y, .int .i64 z] 58) := by rw [hW, hb]; exact heap_new_at _ _ _ rfl
  have hbW : Below w.heap.size w W := by rw [hW]; exact (Below.refl _ _).alloc (Nat.le_refl _) _
  have C0 : W.cell? ⟨b, 0, none⟩ = some (.int .i64 x) := by simp [World.cell?, hcW]
  have C1 : W.cell? ⟨b, 1, none⟩ = some (.int .i64 y) := by simp [World.cell?, hcW]
  have C2 : W.cell? ⟨b, 2, none⟩ = some (.int .i64 z) := by simp [World.cell?, hcW]
  have D1 : W.cell? ⟨j, 1, none⟩ = some (.func (.func F) #[] #[]) := by rw [hbW.cell hj]; exact c1
  have lb : b < W.heap.size := (Array.getElem?_eq_some_iff.1 hcW).1
  have lj : j < W.heap.size := Nat.lt_of_lt_of_le hj hbW.size
  have HC : ∀ U, Below W.heap.size W U → U.cell? ⟨b, 0, none⟩ = some (.int .i64 x) ∧ U.cell? ⟨b, 1, none⟩ = some (.int .i64 y) ∧ U.cell? ⟨b, 2, none⟩ = some (.int .i64 z) ∧ U.cell? ⟨j, 1, none⟩ = some (.func (.func F) #[] #[]) := fun U hU =>
    ⟨by rw [hU.cell lb]; exact C0, by rw [hU.cell lb]; exact C1, by rw [hU.cell lb]; exact C2, by rw [hU.cell lj]; exact D1⟩
  clear hW hb c1 hj hcW
  go_region_held3 (fun U => U.cell? ⟨b, 0, none⟩ = some (.int .i64 x) ∧ U.cell? ⟨b, 1, none⟩ = some (.int .i64 y) ∧ U.cell? ⟨b, 2, none⟩ = some (.int .i64 z) ∧ U.cell? ⟨j, 1, none⟩ = some (.func (.func F) #[] #[]))
    (first
      | exact ⟨C0, C1, C2, D1⟩
      | exact HC _ hbu)
    (first
      | (refine (hr _).mono ?_; rintro e V ⟨rfl, hbu0⟩; have hbu := Below.up (Below.refl W.heap.size W).drew hbu0 (Nat.le_refl _)))
  clear hr HC
  go_wp2_with fail
  go_ret2
  exact ⟨rfl, Below.up hbW hbu (Nat.le_refl _)⟩

set_option maxHeartbeats 1000000 in
set_option maxRecDepth 20000 in
theorem join_known (hent : ∀ args W, Sem.run Try.prog (callFunc F args) W = .ok (.enter F args) W)
    (hR : ∀ (d : Nd) (W : World), Calls Try.prog F #[ndV d] W fun e W' => e = .returned (ruleV (rule d)) ∧ Below W.heap.size W W')
    (h : JoinAt F w j p g m q cap most ns kvs) (d : Nd) (k : Int) (hk : rule d = none)
    (hlook : ∀ W, Below w.heap.size w W → Sem.run Try.prog (Instr.lookup 74 (.map (some q)) (ndV d) true) W = .ok (.tuple #[.int .i64 k, .bool true]) W) :
    Calls Try.prog 32 #[.pointer (some ⟨j, 0, none⟩), ndV d] w fun e w' => e = .returned (.tuple #[.int .i64 k, .nilIface]) ∧ Below w.heap.size w w' := by
  obtain ⟨x, y, z⟩ := d
  have hr := hR ⟨x, y, z⟩
  rw [hk] at hr
  unfold ruleV ndV at hr
  simp only [Option.getD_none, Option.isSome_none] at hr
  unfold ndV at hlook ⊢
  clear hR hk
  have c1 := h.c1
  have c2 := h.c2
  have hj := h.ltj
  clear h
  go_enter Try.func32, Try.ntmps32
  go_wp2_with fail
  obtain ⟨W, hW⟩ : ∃ W, W = w.alloc (.cells #[.int .i64 x, .int .i64 y, .int .i64 z] 58) := ⟨_, rfl⟩
  rw [← hW]
  obtain ⟨b, hb⟩ : ∃ b, b = w.heap.size := ⟨_, rfl⟩
  rw [← hb]
  have hcW : W.heap[b]? = some (.cells #[.int .i64 x, .int .i64 y, .int .i64 z] 58) := by rw [hW, hb]; exact heap_new_at _ _ _ rfl
  have hbW : Below w.heap.size w W := by rw [hW]; exact (Below.refl _ _).alloc (Nat.le_refl _) _
  have C0 : W.cell? ⟨b, 0, none⟩ = some (.int .i64 x) := by simp [World.cell?, hcW]
  have C1 : W.cell? ⟨b, 1, none⟩ = some (.int .i64 y) := by simp [World.cell?, hcW]
  have C2 : W.cell? ⟨b, 2, none⟩ = some (.int .i64 z) := by simp [World.cell?, hcW]
  have D1 : W.cell? ⟨j, 1, none⟩ = some (.func (.func F) #[] #[]) := by rw [hbW.cell hj]; exact c1
  have D2 : W.cell? ⟨j, 2, none⟩ = some (.map (some q)) := by rw [hbW.cell hj]; exact c2
  have lb : b < W.heap.size := (Array.getElem?_eq_some_iff.1 hcW).1
  have lj : j < W.heap.size := Nat.lt_of_lt_of_le hj hbW.size
  have HC : ∀ U, Below W.heap.size W U → U.cell? ⟨b, 0, none⟩ = some (.int .i64 x) ∧ U.cell? ⟨b, 1, none⟩ = some (.int .i64 y) ∧ U.cell? ⟨b, 2, none⟩ = some (.int .i64 z) ∧ U.cell? ⟨j, 1, none⟩ = some (.func (.func F) #[] #[]) := fun U hU =>
    ⟨by rw [hU.cell lb]; exact C0, by rw [hU.cell lb]; exact C1, by rw [hU.cell lb]; exact C2, by rw [hU.cell lj]; exact D1⟩
  clear hW hb c1 c2 hj hcW
  go_region_held3 (fun U => U.cell? ⟨b, 0, none⟩ = some (.int .i64 x) ∧ U.cell? ⟨b, 1, none⟩ = some (.int .i64 y) ∧ U.cell? ⟨b, 2, none⟩ = some (.int .i64 z) ∧ U.cell? ⟨j, 1, none⟩ = some (.func (.func F) #[] #[]))
    (first
      | exact ⟨C0, C1, C2, D1⟩
      | exact HC _ hbu)
    (first
      | (refine (hr _).mono ?_; rintro e V ⟨rfl, hbu0⟩; have hbu := Below.up (Below.refl W.heap.size W).drew hbu0 (Nat.le_refl _)))
  clear hr
  obtain ⟨E0, E1, E2, E3⟩ := HC V hbu
  have E4 : V.cell? ⟨j, 2, none⟩ = some (.map (some q)) := by rw [hbu.cell lj]; exact D2
  have hwV := Below.up hbW hbu (Nat.le_refl _)
  have hl : ∀ nq, Sem.run Try.prog (Instr.lookup 74 (.map (some q)) (.agg #[.int .i64 x, .int .i64 y, .int .i64 z]) true) (V.drewN nq) = .ok (.tuple #[.int .i64 k, .bool true]) (V.drewN nq) := fun nq => hlook _ (below_drewN hwV nq)
  clear HC C0 C1 C2 D1 D2 lb lj hbu hbu0 hlook
  go_wp2_with fail
  go_quiet (fail)
  go_wp2_with fail
  go_ret2
  exact ⟨rfl, below_drewN hwV _⟩
end
end Go.Proofs.Ytahjkkegbcalnaa
