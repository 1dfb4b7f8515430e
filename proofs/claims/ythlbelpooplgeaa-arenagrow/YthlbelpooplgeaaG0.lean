/- Many diagrams in one arena: plain mathematics. -/
import Derived.Test.YthlbelpooplgeaaEv
namespace Go.Proofs.Ythlbelpooplgeaa
open Go.RowKit Go.Maps

/-- The nodes behind k tables. -/
def grw (t : Nat → Nat) : Nat → List Nd
  | 0 => first2
  | k + 1 => (bld 4096 (t k) 4 0 0 (grw t k)).2
/-- The diagram of table k. -/
def grk (t : Nat → Nat) (k : Nat) : Int := (bld 4096 (t k) 4 0 0 (grw t k)).1

theorem grw_all (t : Nat → Nat) : ∀ k, k ≤ 20 → Good 4096 (grw t k) ∧ ((grw t k).length : Int) ≤ 2 + 15 * k
  | 0, _ => ⟨good2 4096, by simp [grw, first2]⟩
  | k + 1, hk => by
    obtain ⟨g, l⟩ := grw_all t k (by omega)
    have e2 : (2 : Int) ^ 4 = 16 := rfl
    obtain ⟨a1, a2, a3, _⟩ := bld_all 4096 (t k) 4 0 0 (grw t k) g (by decide) (by rw [e2]; omega)
    rw [e2] at a3
    rw [grw]
    exact ⟨a1, by omega⟩
theorem grw_step (t : Nat → Nat) (k : Nat) (hk : k < 20) : On (grw t k) (grw t (k + 1)) ∧ From (grw t (k + 1)) (grk t k) 0 ∧ ∀ f, evalP (grw t (k + 1)) f (grk t k) = (bitN (t k) (rowOf f 4 0 0) == 1) := by
  obtain ⟨g, l⟩ := grw_all t k (by omega)
  have e2 : (2 : Int) ^ 4 = 16 := rfl
  obtain ⟨a1, a2, a3, a4, a5, _⟩ := bld_all 4096 (t k) 4 0 0 (grw t k) g (by decide) (by rw [e2]; omega)
  rw [grw, grk]
  exact ⟨a2, a4, a5⟩
theorem grw_on (t : Nat → Nat) (k : Nat) : ∀ d, k + d ≤ 20 → On (grw t k) (grw t (k + d))
  | 0, _ => On.refl _
  | d + 1, h => (grw_on t k d (by omega)).trans (grw_step t (k + d) (by omega)).1
/-- Each table's diagram is right at the end. -/
theorem grw_right (t : Nat → Nat) (k n : Nat) (hk : k < n) (hn : n ≤ 20) (ht : t k < 65536) : numTo (fun i => evalP (grw t n) (rowF i) (grk t k)) 16 = t k := by
  obtain ⟨d, rfl⟩ : ∃ d, n = k + 1 + d := ⟨n - (k + 1), by omega⟩
  rw [numTo_congr (c := fun i => bitN (t k) i == 1) 16, numTo_bits]
  · omega
  · intro i hi
    obtain ⟨_, ⟨j, ej, hj, _⟩, h3⟩ := grw_step t k (by omega)
    have := evalP_on (grw_all t (k + 1) (by omega)).1 (grw_all t (k + 1 + d) hn).1 (grw_on t (k + 1) d hn) (rowF i) (j + 1) j (by omega) hj
    rw [← ej] at this
    rw [this, h3, rowOf_rowF i hi]

/-- The numbers of the first n diagrams. -/
def fsTo (t : Nat → Nat) (n : Nat) : List Int := (List.range n).map (grk t)
theorem fsTo_succ (t : Nat → Nat) (n : Nat) : fsTo t (n + 1) = fsTo t n ++ [grk t n] := by simp [fsTo, List.range_succ]
theorem fsTo_len (t : Nat → Nat) (n : Nat) : (fsTo t n).length = n := by simp [fsTo]
def ints (l : List Int) : List Value := l.map (Value.int .i64)
theorem ints_len (l : List Int) : (ints l).length = l.length := by simp [ints]

/-- A row of numbers lies at a slice's own block, which none of the arena's is. -/
theorem row_kept {w w' : World} {fv : Value} {n : Nat} {xs : List Value} {e : TypeId} {own : List Nat} (h : w.ownsRow 0 e 1 fv n xs) (k : Kept own w w') (hn : ∀ b, fv.ownBlock = some b → b ∉ own) : w'.ownsRow 0 e 1 fv n xs := by
  obtain ⟨h1, h2⟩ := h
  refine ⟨h1, ?_⟩
  rcases h2 with h2 | ⟨g, cap, cur, rfl, hb, hg, r⟩
  · exact .inl h2
  · exact .inr ⟨g, cap, cur, rfl, hb, k.stays hg (hn g rfl), r⟩
theorem row_lt {w : World} {fv : Value} {n : Nat} {xs : List Value} {e : TypeId} (h : w.ownsRow 0 e 1 fv n xs) : ∀ b, fv.ownBlock = some b → b < w.heap.size := fun b hb => (h.lt b hb).2
theorem row_below {w w' : World} {fv : Value} {n : Nat} {xs : List Value} {e : TypeId} (h : w.ownsRow 0 e 1 fv n xs) (k : Below w.heap.size w w') : w'.ownsRow 0 e 1 fv n xs := row_kept h (Kept.of_below k []) (by simp)
theorem arena_grown {tA tN : TypeId} {w w' : World} {p g m cap : Nat} {most : Int} {ns : List Nd} {row : Option Nat} (h : ArenaAt tA tN w p g m cap most ns) (k : w.grownBy w' row) (hn : ∀ b, row = some b → b ≠ p ∧ b ≠ g ∧ b ≠ m) : ArenaAt tA tN w' p g m cap most ns := by
  refine h.stays (k.block p h.ltp fun e => (hn p e.symm).1 rfl) (k.block g h.ltg fun e => (hn g e.symm).2.1 rfl) (k.block m h.ltm fun e => (hn m e.symm).2.2 rfl)
theorem row_form {w : World} {fv : Value} {n : Nat} {t : Nat → Nat} {e : TypeId} (h : w.ownsRow 0 e 1 fv n (ints (fsTo t n))) :
    ∃ ao capf, fv = .slice ao n capf ∧ (0 < n → ∃ gf, ao = some ⟨gf, 0, none⟩ ∧ fv.ownBlock = some gf ∧ ∀ i, i < n → w.cell? ⟨gf, i, none⟩ = some (.int .i64 (grk t i))) := by
  rcases h.2 with ⟨rfl, rfl⟩ | ⟨gf, capf, cur, rfl, _, hg, h1, _, h3, h4⟩
  · exact ⟨none, 0, rfl, fun h => by omega⟩
  · refine ⟨_, capf, rfl, fun _ => ⟨gf, rfl, rfl, fun i hi => ?_⟩⟩
    simp only [World.cell?, hg]
    have : (cur.toList.take (n * 1))[i]? = cur.toList[i]? := List.getElem?_take_of_lt (by omega)
    rw [h4] at this
    simp [ints, fsTo, hi] at this
    simp [← this]
theorem info3 : (Try.prog.info? 3).map (fun i => (i.zero, i.size, i.bytes)) = some (some (.int .i64 0), 1, 8) := by kernel_rfl

/-! ### The map of those that were seen -/
def seenTo (ns : List Nd) (i : Nat) : List (Value × Value) := (List.range (i - 2)).map fun k => (ndV (ndAt ns (k + 2)), .bool true)
theorem seenTo_succ (ns : List Nd) (i : Nat) (h : 2 ≤ i) : seenTo ns (i + 1) = seenTo ns i ++ [(ndV (ndAt ns i), .bool true)] := by
  obtain ⟨k, rfl⟩ : ∃ k, i = k + 2 := ⟨i - 2, by omega⟩
  have e1 : k + 2 + 1 - 2 = k + 1 := by omega
  have e2 : k + 2 - 2 = k := by omega
  unfold seenTo
  rw [e1, e2, List.range_succ]
  simp
theorem seenTo_keys {most : Int} {ns : List Nd} (h : Good most ns) {i : Nat} (hi : i ≤ ns.length) : ∀ x ∈ seenTo ns i, ∃ l, keyOf Try.prog 33 x.1 = some l := by
  intro x hx
  obtain ⟨k, hk, rfl⟩ := List.mem_map.1 hx
  simp only [List.mem_range] at hk
  exact good_wf h (by omega) (by omega)
theorem seenTo_new {most : Int} {ns : List Nd} (h : Good most ns) {i : Nat} (hi : i < ns.length) : ∀ x ∈ seenTo ns i, x.1 ≠ ndV (ndAt ns i) := by
  intro x hx e
  obtain ⟨k, hk, rfl⟩ := List.mem_map.1 hx
  simp only [List.mem_range] at hk
  have := ndAt_inj h.once (by omega) hi (ndV_inj e)
  omega
theorem seen_look {w : World} {m : Nat} {most : Int} {ns : List Nd} (h : Good most ns) {i : Nat} (h2 : 2 ≤ i) (hi : i < ns.length) (hm : mapIs w m (seenTo ns i)) :
    Sem.run Try.prog (Instr.lookup 37 (.map (some m)) (ndV (ndAt ns i)) false) w = .ok (.bool false) w := by
  obtain ⟨es, c, hb, he⟩ := hm
  obtain ⟨l, hl⟩ := good_wf h h2 hi
  have hk := seenTo_keys h (Nat.le_of_lt hi)
  have hn := seenTo_new h hi
  rw [← he] at hk hn
  rcases lawN.find w hl es.toList (fun e he => hk _ (List.mem_map.2 ⟨e, he, rfl⟩)) with ⟨h1, _⟩ | ⟨j, e0, _, h3, h4⟩
  · simp [Instr.lookup, run_underlying Try.underlying37, MapKept.run_getObj_map hb, lawN.check w _ hl, h1, Result.andThen]
  · exact absurd h4 (hn (e0.key, e0.val) (List.mem_map.2 ⟨e0, List.mem_of_getElem? h3, rfl⟩))
theorem seen_store {w : World} {m : Nat} {most : Int} {ns : List Nd} (h : Good most ns) {i : Nat} (h2 : 2 ≤ i) (hi : i < ns.length) (hm : mapIs w m (seenTo ns i)) :
    ∃ w', Sem.run Try.prog (Instr.mapUpdate 37 (.map (some m)) (ndV (ndAt ns i)) (.bool true)) w = .ok () w' ∧ mapIs w' m (seenTo ns (i + 1)) ∧ w.grownBy w' (some m) := by
  obtain ⟨l, hl⟩ := good_wf h h2 hi
  have := mapIs.store (val := .bool true) lawN Try.underlying37 hm (seenTo_keys h (Nat.le_of_lt hi)) hl (seenTo_new h hi)
  rwa [← seenTo_succ ns i h2] at this
theorem c4096 : clampN 4096 = 4096 := rfl
end Go.Proofs.Ythlbelpooplgeaa
