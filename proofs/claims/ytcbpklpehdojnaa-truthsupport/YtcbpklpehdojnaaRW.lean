/- Rows of numbers that a call has made. -/
import Derived.Test.YtcbpklpehdojnaaBu
namespace Go.Proofs.Ytcbpklpehdojnaa
open Go.RowKit Go.Maps

def ints (l : List Int) : List Value := l.map (Value.int .i64)
theorem ints_len (l : List Int) : (ints l).length = l.length := by simp [ints]

/-- A row of numbers lies at a slice's own block, which none of the arena's is. -/
theorem row_kept {w w' : World} {fv : Value} {n : Nat} {xs : List Value} {e : TypeId} {own : List Nat} (h : w.ownsRow 0 e 1 fv n xs) (k : Kept own w w') (hn : ∀ b, fv.ownBlock = some b → b ∉ own) : w'.ownsRow 0 e 1 fv n xs := by
  obtain ⟨h1, h2⟩ := h
  refine ⟨h1, ?_⟩
  rcases h2 with h2 | ⟨g, cap, cur, rfl, hb, hg, r⟩
  · exact .inl h2
  · exact .inr ⟨g, cap, cur, rfl, hb, k.stays hg (hn g rfl), r⟩
theorem row_lt {w : World} {fv : Value} {n : Nat} {xs : List Value} {e : TypeId} (h : w.ownsRow 0 e 1 fv n xs) : ∀ b, fv.ownBlock = some b → b < w.heap.size := fun b hb => (h.lt b hb).2
theorem row_below {w w' : World} {fv : Value} {n : Nat} {xs : List Value} {e : TypeId} (h : w.ownsRow 0 e 1 fv n xs) (k : Below w.heap.size w w') : w'.ownsRow 0 e 1 fv n xs := row_kept h (Kept.of_below k []) (by simp)
theorem arena_grown {tA tN : TypeId} {w w' : World} {p g m cap : Nat} {most : Int} {ns : List Nd} {row : Option Nat} (h : ArenaAt tA tN w p g m cap most ns) (k : w.grownBy w' row) (hn : ∀ b, row = some b → b ≠ p ∧ b ≠ g ∧ b ≠ m) : ArenaAt tA tN w' p g m cap most ns := by
  refine h.stays (k.block p h.ltp fun e => (hn p e.symm).1 rfl) (k.block g h.ltg fun e => (hn g e.symm).2.1 rfl) (k.block m h.ltm fun e => (hn m e.symm).2.2 rfl)
theorem info3 : (Try.prog.info? 3).map (fun i => (i.zero, i.size, i.bytes)) = some (some (.int .i64 0), 1, 8) := by kernel_rfl
/-- What lies in a row of numbers. -/
theorem row_at {w : World} {fv : Value} {n : Nat} {l : List Int} {e : TypeId} (h : w.ownsRow 0 e 1 fv n (ints l)) (hl : l.length = n) :
    ∃ ao capf, fv = .slice ao n capf ∧ (0 < n → ∃ gf, ao = some ⟨gf, 0, none⟩ ∧ fv.ownBlock = some gf ∧ ∀ i x, l[i]? = some x → w.cell? ⟨gf, i, none⟩ = some (.int .i64 x)) := by
  rcases h.2 with ⟨rfl, h0⟩ | ⟨gf, capf, cur, rfl, _, hg, h1, _, h3, h4⟩
  · exact ⟨none, 0, by rw [h0], fun h => by omega⟩
  · refine ⟨_, capf, rfl, fun _ => ⟨gf, rfl, rfl, fun i x hx => ?_⟩⟩
    have hi : i < n := by rw [← hl]; exact (List.getElem?_eq_some_iff.1 hx).1
    simp only [World.cell?, hg]
    have : (cur.toList.take (n * 1))[i]? = cur.toList[i]? := List.getElem?_take_of_lt (by omega)
    rw [h4] at this
    simp [ints, hx] at this
    simp [← this]
end Go.Proofs.Ytcbpklpehdojnaa
