/- ArenaScript: what is known of its lists. -/
import Derived.Test.YthlbelpooplgeaaDoorLim
import Derived.Deep.AppendLies
namespace Go.Proofs.YthlbelpooplgeaaDoor
open Go.RowKit Go.Maps

/-- What came in: a list of acts. -/
structure CameA (w : World) (a : Option Addr) (len : Nat) (x : Nat → Nd) : Prop where
  some : 0 < len → ∃ b off, a = some ⟨b, off, none⟩ ∧ ∀ i, i < len → w.cell? ⟨b, off + i * 3, none⟩ = some (.int .i8 (x i).v) ∧ w.cell? ⟨b, off + i * 3 + 1, none⟩ = some (.int .i8 (x i).lo) ∧ w.cell? ⟨b, off + i * 3 + 2, none⟩ = some (.int .i8 (x i).hi)
  small : ∀ i, i < len → -128 ≤ (x i).v ∧ (x i).v ≤ 127 ∧ -128 ≤ (x i).lo ∧ (x i).lo ≤ 127 ∧ -128 ≤ (x i).hi ∧ (x i).hi ≤ 127

/-- The law's own list of nodes: its cells. -/
theorem row3_cell {w : World} {g cap : Nat} {e : TypeId} {ns : List Nd} (h : w.ownsRow 0 e 3 (.slice (some ⟨g, 0, none⟩) ns.length cap) ns.length (ns.flatMap ndL)) {i j : Nat} (hi : i < ns.length) (hj : j < 3) : w.cell? ⟨g, i * 3 + j, none⟩ = (ndL (ndAt ns i))[j]? := by
  rcases h.2 with ⟨h0, _⟩ | ⟨g', cap', cur, hv, _, h1, h2, h3, h4, h5⟩
  · cases h0
  · cases hv
    simp only [World.cell?, h1]
    rw [← flat_get ns i j hi hj, ← h5, List.getElem?_take_of_lt (by omega)]
    simp
theorem row3_x {w : World} {g cap : Nat} {e : TypeId} {ns : List Nd} (h : w.ownsRow 0 e 3 (.slice (some ⟨g, 0, none⟩) ns.length cap) ns.length (ns.flatMap ndL)) {i : Nat} (hi : i < ns.length) : w.cell? ⟨g, i * 3, none⟩ = some (.int .i64 (ndAt ns i).v) := row3_cell h (j := 0) hi (by omega)
theorem row3_y {w : World} {g cap : Nat} {e : TypeId} {ns : List Nd} (h : w.ownsRow 0 e 3 (.slice (some ⟨g, 0, none⟩) ns.length cap) ns.length (ns.flatMap ndL)) {i : Nat} (hi : i < ns.length) : w.cell? ⟨g, i * 3 + 1, none⟩ = some (.int .i64 (ndAt ns i).lo) := row3_cell h (j := 1) hi (by omega)
theorem row3_z {w : World} {g cap : Nat} {e : TypeId} {ns : List Nd} (h : w.ownsRow 0 e 3 (.slice (some ⟨g, 0, none⟩) ns.length cap) ns.length (ns.flatMap ndL)) {i : Nat} (hi : i < ns.length) : w.cell? ⟨g, i * 3 + 2, none⟩ = some (.int .i64 (ndAt ns i).hi) := row3_cell h (j := 2) hi (by omega)

theorem row3_kept {w w' : World} {g cap : Nat} {e : TypeId} {n : Nat} {xs : List Value} {own : List Nat} (h : w.ownsRow 0 e 3 (.slice (some ⟨g, 0, none⟩) n cap) n xs) (k : Kept own w w') (hn : g ∉ own) : w'.ownsRow 0 e 3 (.slice (some ⟨g, 0, none⟩) n cap) n xs := by
  obtain ⟨h1, h2⟩ := h
  refine ⟨h1, ?_⟩
  rcases h2 with h2 | ⟨g', cap', cur, hv, hb, hg, r⟩
  · exact .inl h2
  · cases hv
    exact .inr ⟨g, cap, cur, rfl, hb, (k.block g (Array.getElem?_eq_some_iff.1 hg).1 hn).trans hg, r⟩
theorem row3_below {w w' : World} {g cap : Nat} {e : TypeId} {n : Nat} {xs : List Value} (h : w.ownsRow 0 e 3 (.slice (some ⟨g, 0, none⟩) n cap) n xs) (k : Below w.heap.size w w') : w'.ownsRow 0 e 3 (.slice (some ⟨g, 0, none⟩) n cap) n xs := row3_kept h (Kept.of_below k []) (by simp)
theorem Kept.stays {own : List Nat} {w W : World} {b : Nat} {o : Obj} (h : Kept own w W) (hb : w.heap[b]? = some o) (hn : b ∉ own) : W.heap[b]? = some o :=
  (h.block b (Array.getElem?_eq_some_iff.1 hb).1 hn).trans hb

theorem arena_grown {tA tN : TypeId} {w w' : World} {p g m cap : Nat} {most : Int} {ns : List Nd} {row : Option Nat} (h : ArenaAt tA tN w p g m cap most ns) (k : w.grownBy w' row) (hn : ∀ b, row = some b → b ≠ p ∧ b ≠ g ∧ b ≠ m) : ArenaAt tA tN w' p g m cap most ns := by
  refine h.stays (k.block p h.ltp fun e => (hn p e.symm).1 rfl) (k.block g h.ltg fun e => (hn g e.symm).2.1 rfl) (k.block m h.ltm fun e => (hn m e.symm).2.2 rfl)

/-- Why Mk refuses, or that it does not: in the order in which the law asks. -/
theorem parts (ns : List Nd) (v lo hi : Int) (hv : v ≤ 127) :
    (okB ns v lo hi = false ∧ (decide (v < 0) = true ∨ (decide (v < 0) = false ∧ decide (lo < 0) = true) ∨ (decide (v < 0) = false ∧ decide (lo < 0) = false ∧ decide ((ns.length : Int) ≤ lo) = true) ∨
      (decide (v < 0) = false ∧ decide (lo < 0) = false ∧ decide ((ns.length : Int) ≤ lo) = false ∧ decide (hi < 0) = true) ∨
      (decide (v < 0) = false ∧ decide (lo < 0) = false ∧ decide ((ns.length : Int) ≤ lo) = false ∧ decide (hi < 0) = false ∧ decide ((ns.length : Int) ≤ hi) = true))) ∨
    (okB ns v lo hi = false ∧ decide (v < 0) = false ∧ decide (lo < 0) = false ∧ decide ((ns.length : Int) ≤ lo) = false ∧ decide (hi < 0) = false ∧ decide ((ns.length : Int) ≤ hi) = false ∧ (decide ((ndAt ns lo.toNat).v ≤ v) = true ∨ (decide ((ndAt ns lo.toNat).v ≤ v) = false ∧ decide ((ndAt ns hi.toNat).v ≤ v) = true))) ∨
    (okB ns v lo hi = true ∧ decide (v < 0) = false ∧ decide (lo < 0) = false ∧ decide ((ns.length : Int) ≤ lo) = false ∧ decide (hi < 0) = false ∧ decide ((ns.length : Int) ≤ hi) = false ∧ decide ((ndAt ns lo.toNat).v ≤ v) = false ∧ decide ((ndAt ns hi.toNat).v ≤ v) = false) := by
  have hok : okB ns v lo hi = (!decide (v < 0) && !decide (lo < 0) && !decide ((ns.length : Int) ≤ lo) && !decide ((ndAt ns lo.toNat).v ≤ v) && (!decide (hi < 0) && !decide ((ns.length : Int) ≤ hi) && !decide ((ndAt ns hi.toNat).v ≤ v))) := by
    rw [Bool.eq_iff_iff]
    simp only [okB, behB, hasB, Bool.and_eq_true, decide_eq_true_eq, Bool.not_eq_true', decide_eq_false_iff_not]
    omega
  rw [hok]
  cases decide (v < 0) <;> cases decide (lo < 0) <;> cases decide ((ns.length : Int) ≤ lo) <;> cases decide (hi < 0) <;> cases decide ((ns.length : Int) ≤ hi) <;> cases decide ((ndAt ns lo.toNat).v ≤ v) <;> cases decide ((ndAt ns hi.toNat).v ≤ v) <;> simp

/-- The last place of a node, up to i: -1, if there is none. -/
def lastTo (ns : List Nd) (n : Nd) : Nat → Int
  | 0 => -1
  | i + 1 => if sameN (ndAt ns i) n = true then i else lastTo ns n i
theorem lastTo_none {ns : List Nd} {n : Nd} (h : findN ns n = none) : ∀ i, i ≤ ns.length → lastTo ns n i = -1
  | 0, _ => rfl
  | i + 1, hi => by
    have : ¬ sameN (ndAt ns i) n = true := fun e => findN_none.1 h _ (ndAt_mem (by omega)) (sameN_iff.1 e)
    rw [lastTo, if_neg this, lastTo_none h i (by omega)]
theorem lastTo_some {ns : List Nd} {n : Nd} {j : Nat} (hn : ns.Nodup) (h : findN ns n = some j) : ∀ i, i ≤ ns.length → lastTo ns n i = if j < i then (j : Int) else -1
  | 0, _ => by simp [lastTo]
  | i + 1, hi => by
    obtain ⟨hj, ej⟩ := findN_some h
    rw [lastTo, lastTo_some hn h i (by omega)]
    by_cases e : sameN (ndAt ns i) n = true
    · have : i = j := ndAt_inj hn (by omega) hj ((sameN_iff.1 e).trans ej.symm)
      subst this
      rw [if_pos e, if_pos (by omega)]
    · have : i ≠ j := fun q => e (by subst q; exact sameN_iff.2 ej)
      rw [if_neg e]
      by_cases q : j < i
      · rw [if_pos q, if_pos (by omega)]
      · rw [if_neg q, if_neg (by omega)]
theorem lastTo_found {ns : List Nd} {n : Nd} {j : Nat} (hn : ns.Nodup) (h : findN ns n = some j) : lastTo ns n ns.length = j := by
  rw [lastTo_some hn h _ (Nat.le_refl _), if_pos (findN_some h).1]
end Go.Proofs.YthlbelpooplgeaaDoor
