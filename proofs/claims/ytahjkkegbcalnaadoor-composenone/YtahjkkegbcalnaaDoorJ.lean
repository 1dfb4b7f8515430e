/- What puts diagrams together: the walk, where the rule tells, or the map knows. -/
import Derived.Test.YtahjkkegbcalnaaDoorI
namespace Go.Proofs.YtahjkkegbcalnaaDoor
open Go.RowKit Go.Maps

/-- A key that may be there, or not, gets a value. -/
theorem mapIs.put {P : Program} {w : World} {m : Nat} {k e t : TypeId} (K : Keyed P k) (ht : P.underlying t = some (.map k e)) {kvs : List (Value × Value)} (h : mapIs w m kvs) (hk : ∀ x ∈ kvs, ∃ l, keyOf P k x.1 = some l) {key val : Value} {kl : Lit} (hkey : keyOf P k key = some kl) :
    ∃ w' kvs', (Instr.mapUpdate t (.map (some m)) key val).run P w = .ok () w' ∧ mapIs w' m kvs' ∧ w.grownBy w' (some m) ∧ ∀ x ∈ kvs', x ∈ kvs ∨ x = (key, val) := by
  obtain ⟨es, c, hb, rfl⟩ := h
  rcases K.find w hkey es.toList (fun e he => hk _ (List.mem_map.2 ⟨e, he, rfl⟩)) with ⟨h1, h2⟩ | ⟨j, e0, h1, h2, h3⟩
  · refine ⟨ChangeMaps.setBlock w m (.map (es.push ⟨key, val, c⟩) (c + 1)), _, ?_, ⟨_, _, ChangeMaps.heap_setBlock_same hb _, rfl⟩, ⟨rfl, rfl, rfl, by simp [ChangeMaps.setBlock], fun i _ hi => ChangeMaps.heap_setBlock_other hb _ (fun e => hi (by rw [e]))⟩, ?_⟩
    · simp [Instr.mapUpdate, run_underlying ht, MapKept.run_getObj_map hb, K.check w false hkey, h1, MapKept.run_setObj_map _ hb, Result.andThen, ChangeMaps.setBlock]
    · intro x hx
      simp only [Array.toList_push, List.map_append, List.mem_append, List.map_cons, List.map_nil, List.mem_singleton] at hx
      exact hx
  · have hj : es[j]? = some e0 := by simpa using h2
    refine ⟨ChangeMaps.setBlock w m (.map (es.modify j (fun e' => { e' with key := key, val := val })) c), _, ?_, ⟨_, _, ChangeMaps.heap_setBlock_same hb _, rfl⟩, ⟨rfl, rfl, rfl, by simp [ChangeMaps.setBlock], fun i _ hi => ChangeMaps.heap_setBlock_other hb _ (fun e => hi (by rw [e]))⟩, ?_⟩
    · simp [Instr.mapUpdate, run_underlying ht, MapKept.run_getObj_map hb, K.check w false hkey, h1, hj, h3, K.stays w hkey, MapKept.run_setObj_map _ hb, Result.andThen, ChangeMaps.setBlock]
    · intro x hx
      obtain ⟨e, he, rfl⟩ := List.mem_map.1 hx
      rw [Array.toList_modify, ChangeMaps.modify_eq_set _ _ _ _ h2] at he
      rcases List.mem_or_eq_of_mem_set he with h | rfl
      · exact .inl (List.mem_map.2 ⟨e, h, rfl⟩)
      · exact .inr rfl

/-- All but own blocks is as it was, twice. -/
theorem Kept.more {own own' : List Nat} {w W W' : World} (h : Kept own w W) (k : Kept own' W W') (hs : ∀ x ∈ own', x ∈ own ∨ w.heap.size ≤ x) : Kept own w W' :=
  ⟨k.os.trans h.os, k.tape.trans h.tape, k.output.trans h.output, Nat.le_trans h.size k.size, fun i hi hn => (k.block i (Nat.lt_of_lt_of_le hi h.size) (fun hm => (hs i hm).elim hn (fun h1 => by omega))).trans (h.block i hi hn)⟩
theorem Kept.grown {own : List Nat} {w W : World} {q : Nat} (h : w.grownBy W (some q)) (hq : q ∈ own) : Kept own w W :=
  ⟨h.os, h.tape, h.output, h.size, fun i hi hn => h.block i hi (fun e => hn (by cases e; exact hq))⟩
end Go.Proofs.YtahjkkegbcalnaaDoor
