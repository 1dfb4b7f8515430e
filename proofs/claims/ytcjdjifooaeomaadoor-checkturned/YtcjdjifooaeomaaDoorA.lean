/- The arena's nodes as plain data, and how they lie in memory. No function is walked here. -/
import Derived.WalkKit
import Derived.WalkSpells
import Derived.DeepKeys4
import Derived.Maps.Keyed
namespace Go.Proofs.YtcjdjifooaeomaaDoor
open Go.RowKit

/-- A node. -/
structure Nd where
  v : Int
  lo : Int
  hi : Int
def ndL (n : Nd) : List Value := [.int .i64 n.v, .int .i64 n.lo, .int .i64 n.hi]
def ndV (n : Nd) : Value := .agg #[.int .i64 n.v, .int .i64 n.lo, .int .i64 n.hi]
theorem ndV_inj {a b : Nd} (h : ndV a = ndV b) : a = b := by
  cases a; cases b
  simp [ndV] at h
  simp [h]
theorem nd_ext {a b : Nd} (h1 : a.v = b.v) (h2 : a.lo = b.lo) (h3 : a.hi = b.hi) : a = b := by
  cases a; cases b
  simp_all

/-- The node of a number: that of no, if there is none. -/
def ndAt (ns : List Nd) (k : Nat) : Nd := ns.getD k ⟨1024, 0, 0⟩
def hasB (ns : List Nd) (k : Int) : Bool := decide (0 ≤ k) && decide (k < ns.length)
def getN (ns : List Nd) (k : Int) : Nd := if hasB ns k = true then ndAt ns k.toNat else ⟨1024, 0, 0⟩
def behB (ns : List Nd) (k v : Int) : Bool := hasB ns k && decide (v < (ndAt ns k.toNat).v)

theorem hasB_nat {ns : List Nd} {i : Nat} : hasB ns i = true ↔ i < ns.length := by
  simp [hasB]
theorem hasB_elim {ns : List Nd} {k : Int} (h : hasB ns k = true) : ∃ i : Nat, k = i ∧ i < ns.length := by
  simp [hasB] at h
  exact ⟨k.toNat, by omega, by omega⟩
theorem behB_elim {ns : List Nd} {k v : Int} (h : behB ns k v = true) : ∃ i : Nat, k = i ∧ i < ns.length ∧ v < (ndAt ns i).v := by
  simp only [behB, Bool.and_eq_true, decide_eq_true_eq] at h
  obtain ⟨i, rfl, hi⟩ := hasB_elim h.1
  exact ⟨i, rfl, hi, by simpa using h.2⟩

/-- What is promised of nodes that lie in an arena. -/
structure Good (most : Int) (ns : List Nd) : Prop where
  two : ∃ l, ns = ⟨1024, 0, 0⟩ :: ⟨1024, 1, 1⟩ :: l
  room : (ns.length : Int) ≤ most
  most : most ≤ 131072
  nodes : ∀ i, 2 ≤ i → i < ns.length → 0 ≤ (ndAt ns i).v ∧ (ndAt ns i).v < 1024 ∧ (∃ a : Nat, (ndAt ns i).lo = a ∧ a < i ∧ (ndAt ns i).v < (ndAt ns a).v) ∧ (∃ a : Nat, (ndAt ns i).hi = a ∧ a < i ∧ (ndAt ns i).v < (ndAt ns a).v) ∧ (ndAt ns i).lo ≠ (ndAt ns i).hi
  once : ns.Nodup

/-- The entries of the map of numbers: of all nodes but the first two. -/
def entry (ns : List Nd) (i : Nat) : Value × Value := (ndV (ndAt ns (i + 2)), .int .i64 ((i + 2 : Nat) : Int))
def entries (ns : List Nd) : List (Value × Value) := (List.range (ns.length - 2)).map (entry ns)

/-- Block m is a map of these keys and values. -/
def mapIs (w : World) (m : Nat) (kvs : List (Value × Value)) : Prop :=
  ∃ es clock, w.heap[m]? = some (.map es clock) ∧ es.toList.map (fun e => (e.key, e.val)) = kvs

/-- An arena lies at p, its nodes in block g, its map in block m (tA, tN: the types of an arena and of a node). -/
structure ArenaAt (tA tN : TypeId) (w : World) (p g m cap : Nat) (most : Int) (ns : List Nd) : Prop where
  here : w.heap[p]? = some (.cells #[.int .i64 most, .slice (some ⟨g, 0, none⟩) ns.length cap, .map (some m)] tA (0, 0))
  row : w.ownsRow 0 tN 3 (.slice (some ⟨g, 0, none⟩) ns.length cap) ns.length (ns.flatMap ndL)
  map : mapIs w m (entries ns)
  pg : p ≠ g
  good : Good most ns

theorem Good.len {most : Int} {ns : List Nd} (h : Good most ns) : 2 ≤ ns.length := by
  obtain ⟨l, rfl⟩ := h.two
  simp

section
variable {tA tN : TypeId} {w : World} {p g m cap : Nat} {most : Int} {ns : List Nd}

theorem ArenaAt.ltp (h : ArenaAt tA tN w p g m cap most ns) : p < w.heap.size := (Array.getElem?_eq_some_iff.1 h.here).1
theorem ArenaAt.ltm (h : ArenaAt tA tN w p g m cap most ns) : m < w.heap.size := by
  obtain ⟨es, c, hm, _⟩ := h.map
  exact (Array.getElem?_eq_some_iff.1 hm).1
theorem ArenaAt.ltg (h : ArenaAt tA tN w p g m cap most ns) : g < w.heap.size := (h.row.lt g rfl).2
theorem ArenaAt.pm (h : ArenaAt tA tN w p g m cap most ns) : p ≠ m := by
  rintro rfl
  obtain ⟨es, c, hm, _⟩ := h.map
  rw [h.here] at hm
  cases hm
theorem ArenaAt.block (h : ArenaAt tA tN w p g m cap most ns) : ∃ cur, w.heap[g]? = some (.cells cur tN (0, 0)) ∧ ns.length ≤ cap ∧ cap ≤ maxLen ∧ cur.size = cap * 3 ∧ cur.toList.take (ns.length * 3) = ns.flatMap ndL := by
  rcases h.row.2 with ⟨h0, _⟩ | ⟨g', cap', cur, hv, _, h1, h2, h3, h4, h5⟩
  · cases h0
  · cases hv
    exact ⟨cur, h1, h2, h3, h4, h5⟩
theorem ArenaAt.gm (h : ArenaAt tA tN w p g m cap most ns) : g ≠ m := by
  rintro rfl
  obtain ⟨es, c, hm, _⟩ := h.map
  obtain ⟨cur, hc, _⟩ := h.block
  rw [hc] at hm
  cases hm
theorem ArenaAt.c0 (h : ArenaAt tA tN w p g m cap most ns) : w.cell? ⟨p, 0, none⟩ = some (.int .i64 most) := by simp [World.cell?, h.here]
theorem ArenaAt.c1 (h : ArenaAt tA tN w p g m cap most ns) : w.cell? ⟨p, 1, none⟩ = some (.slice (some ⟨g, 0, none⟩) ns.length cap) := by simp [World.cell?, h.here]
theorem ArenaAt.c2 (h : ArenaAt tA tN w p g m cap most ns) : w.cell? ⟨p, 2, none⟩ = some (.map (some m)) := by simp [World.cell?, h.here]
theorem ArenaAt.f1 (h : ArenaAt tA tN w p g m cap most ns) : w.frozen? ⟨p, 1, none⟩ = false := by simp [World.frozen?, h.here]

theorem flat_get (ns : List Nd) : ∀ (i j : Nat), i < ns.length → j < 3 → (ns.flatMap ndL)[i * 3 + j]? = (ndL (ndAt ns i))[j]? := by
  induction ns with
  | nil => intro i j hi; simp at hi
  | cons n r ih =>
    intro i j hi hj
    rw [List.flatMap_cons]
    cases i with
    | zero => rw [List.getElem?_append_left (by simp [ndL]; omega)]; simp [ndAt]
    | succ i =>
      rw [List.getElem?_append_right (by simp [ndL]; omega)]
      have : (i + 1) * 3 + j - (ndL n).length = i * 3 + j := by simp [ndL]; omega
      rw [this, ih i j (by simpa using hi) hj]
      simp [ndAt]
theorem ArenaAt.cell (h : ArenaAt tA tN w p g m cap most ns) {i j : Nat} (hi : i < ns.length) (hj : j < 3) : w.cell? ⟨g, i * 3 + j, none⟩ = (ndL (ndAt ns i))[j]? := by
  obtain ⟨cur, h1, h2, h3, h4, h5⟩ := h.block
  simp only [World.cell?, h1]
  rw [← flat_get ns i j hi hj, ← h5, List.getElem?_take_of_lt (by omega)]
  simp
theorem ArenaAt.x (h : ArenaAt tA tN w p g m cap most ns) {i : Nat} (hi : i < ns.length) : w.cell? ⟨g, i * 3, none⟩ = some (.int .i64 (ndAt ns i).v) := h.cell (j := 0) hi (by omega)
theorem ArenaAt.y (h : ArenaAt tA tN w p g m cap most ns) {i : Nat} (hi : i < ns.length) : w.cell? ⟨g, i * 3 + 1, none⟩ = some (.int .i64 (ndAt ns i).lo) := h.cell (j := 1) hi (by omega)
theorem ArenaAt.z (h : ArenaAt tA tN w p g m cap most ns) {i : Nat} (hi : i < ns.length) : w.cell? ⟨g, i * 3 + 2, none⟩ = some (.int .i64 (ndAt ns i).hi) := h.cell (j := 2) hi (by omega)

/-- What holds of the arena holds where its three blocks are as they were. -/
theorem ArenaAt.stays {w' : World} (h : ArenaAt tA tN w p g m cap most ns) (hp : w'.heap[p]? = w.heap[p]?) (hg : w'.heap[g]? = w.heap[g]?) (hm : w'.heap[m]? = w.heap[m]?) : ArenaAt tA tN w' p g m cap most ns := by
  obtain ⟨cur, h1, h2, h3, h4, h5⟩ := h.block
  obtain ⟨es, c, k1, k2⟩ := h.map
  exact ⟨hp.trans h.here, ⟨h.row.1, .inr ⟨g, cap, cur, rfl, Nat.zero_le _, hg.trans h1, h2, h3, h4, h5⟩⟩, ⟨es, c, hm.trans k1, k2⟩, h.pg, h.good⟩
theorem ArenaAt.below {w' : World} (h : ArenaAt tA tN w p g m cap most ns) (hb : Below w.heap.size w w') : ArenaAt tA tN w' p g m cap most ns :=
  h.stays (hb.block p h.ltp) (hb.block g h.ltg) (hb.block m h.ltm)
end

/-! ### The map -/
section
variable {P : Program} {w : World} {m : Nat} {k e t : TypeId}
open Go.Maps

theorem mapIs.look (K : Keyed P k) (ht : P.underlying t = some (.map k e)) {z : Value} (hz : (zeroValue e).run P w = .ok z w) {kvs : List (Value × Value)} (h : mapIs w m kvs) (hk : ∀ x ∈ kvs, ∃ l, keyOf P k x.1 = some l) {key : Value} {kl : Lit} (hkey : keyOf P k key = some kl) :
    ((Instr.lookup t (.map (some m)) key true).run P w = .ok (.tuple #[z, .bool false]) w ∧ ∀ x ∈ kvs, x.1 ≠ key) ∨
    ∃ x ∈ kvs, x.1 = key ∧ (Instr.lookup t (.map (some m)) key true).run P w = .ok (.tuple #[x.2, .bool true]) w := by
  obtain ⟨es, c, hb, rfl⟩ := h
  rcases K.find w hkey es.toList (fun e he => hk _ (List.mem_map.2 ⟨e, he, rfl⟩)) with ⟨h1, h2⟩ | ⟨j, e0, h1, h2, h3⟩
  · refine Or.inl ⟨by simp [Instr.lookup, run_underlying ht, MapKept.run_getObj_map hb, K.check w _ hkey, h1, hz, Result.andThen], ?_⟩
    intro x hx
    obtain ⟨e, he, rfl⟩ := List.mem_map.1 hx
    exact h2 e he
  · exact Or.inr ⟨_, List.mem_map.2 ⟨e0, List.mem_of_getElem? h2, rfl⟩, h3, by simp [Instr.lookup, run_underlying ht, MapKept.run_getObj_map hb, K.check w _ hkey, h1, Result.andThen]⟩

theorem mapIs.store (K : Keyed P k) (ht : P.underlying t = some (.map k e)) {kvs : List (Value × Value)} (h : mapIs w m kvs) (hk : ∀ x ∈ kvs, ∃ l, keyOf P k x.1 = some l) {key val : Value} {kl : Lit} (hkey : keyOf P k key = some kl) (hnew : ∀ x ∈ kvs, x.1 ≠ key) :
    ∃ w', (Instr.mapUpdate t (.map (some m)) key val).run P w = .ok () w' ∧ mapIs w' m (kvs ++ [(key, val)]) ∧ w.grownBy w' (some m) := by
  obtain ⟨es, c, hb, rfl⟩ := h
  rcases K.find w hkey es.toList (fun e he => hk _ (List.mem_map.2 ⟨e, he, rfl⟩)) with ⟨h1, h2⟩ | ⟨j, e0, h1, h2, h3⟩
  · refine ⟨ChangeMaps.setBlock w m (.map (es.push ⟨key, val, c⟩) (c + 1)), ?_, ⟨_, _, ChangeMaps.heap_setBlock_same hb _, by simp⟩, ⟨rfl, rfl, rfl, by simp [ChangeMaps.setBlock], fun i _ hi => ChangeMaps.heap_setBlock_other hb _ (fun e => hi (by rw [e]))⟩⟩
    simp [Instr.mapUpdate, run_underlying ht, MapKept.run_getObj_map hb, K.check w false hkey, h1, MapKept.run_setObj_map _ hb, Result.andThen, ChangeMaps.setBlock]
  · exact absurd h3 (hnew (e0.key, e0.val) (List.mem_map.2 ⟨e0, List.mem_of_getElem? h2, rfl⟩))
end
end Go.Proofs.YtcjdjifooaeomaaDoor
