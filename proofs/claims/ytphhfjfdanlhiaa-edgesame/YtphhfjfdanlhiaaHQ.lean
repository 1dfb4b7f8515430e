/- A region that draws its order, whose own operations only read, and whose calls leave all that was there as it was: one walk, in the text's order. No program. -/
import Derived.MapKept
import Derived.WalkKit
import Derived.BigQuiet
import Derived.Deep.Quiet
import Derived.Deep.QuietTactic
import Derived.Deep.RegionWith
namespace Go.Proofs.Ytphhfjfdanlhiaa
open Go.RowKit

/-- A world in which all that was there is as it was. -/
structure BelOf (U : World) where
  w : World
  h : Below U.heap.size U w
theorem bel_ne (U : World) : Nonempty (BelOf U) := ⟨⟨U, Below.refl _ _⟩⟩
theorem wp_region_bel {P : Program} {id : Nat} {Q : Exit → Act → World → Prop} {a : Act} {w : World} {l : List Oper} (hm : P.follows .mixedOrders = true) (hB : Region.lexB .any l.toArray = true)
    (h : wpQuiet P l.toArray (fun w' => ∃ p : BelOf w, w' = p.w) (fun a' => ∀ w', (∃ p : BelOf w, w' = p.w) → Q .normal a' w') l a) : (Code.region id l.toArray true).wp P Q a w :=
  wp_region_quiet (C := fun w' => ∃ p : BelOf w, w' = p.w) hm hB ⟨⟨w.drew, (Below.refl _ _).drew⟩, rfl⟩ (by simpa using h)
theorem bel_up {w w' w2 : World} {B B' : Nat} (h1 : Below B w w') (h2 : Below B' w' w2) (h : B ≤ B') : Below B w w2 := h1.trans (h2.mono h)
/-- A call, met in such a world. -/
theorem bel_of {P : Program} {f : FuncId} {args : Array Value} {U : World} {p : BelOf U} {v : Value}
    (h : Calls P f args p.w fun e w' => e = .returned v ∧ Below p.w.heap.size p.w w') : Calls P f args p.w fun e w' => e = .returned v ∧ ∃ q : BelOf U, w' = q.w :=
  h.mono fun _ w' ⟨he, hb⟩ => ⟨he, ⟨w', bel_up p.h hb p.h.size⟩, rfl⟩
theorem bel_same {P : Program} {f : FuncId} {args : Array Value} {U : World} {p : BelOf U} {v : Value}
    (h : Calls P f args p.w fun e w' => e = .returned v ∧ w' = p.w) : Calls P f args p.w fun e w' => e = .returned v ∧ ∃ q : BelOf U, w' = q.w :=
  h.mono fun _ _ ⟨he, hb⟩ => ⟨he, p, hb⟩
theorem bel_cell {U : World} {b i : Nat} {v : Value} (hb : b < U.heap.size) (h : U.cell? ⟨b, i, none⟩ = some v) (p : BelOf U) : p.w.cell? ⟨b, i, none⟩ = some v := by
  rw [p.h.cell (p := ⟨b, i, none⟩) hb]
  exact h
theorem pf_new (w : World) (o : Obj) (k : Nat) (hk : k = w.heap.size) : (w.alloc o).heap[k]? = some o := by
  subst hk
  exact (MapKept.heap_alloc w o).1
theorem pf_block {W W' : World} {b : Nat} {o : Obj} (h : Below W.heap.size W W') (hb : W.heap[b]? = some o) : W'.heap[b]? = some o :=
  (h.block b (Array.getElem?_eq_some_iff.1 hb).1).trans hb
theorem bel_drewN {B : Nat} {a w : World} (h : Below B a w) (n : Nat) : Below B a (w.drewN n) := ⟨h.os, h.tape, h.output, h.size, h.block⟩
theorem bel_alloc {w U : World} (h : Below w.heap.size w U) (o : Obj) : Below w.heap.size w (U.alloc o) := h.alloc h.size o
theorem cells_two {w : World} {b t : Nat} {x y : Value} (h : w.heap[b]? = some (.cells #[x, y] t (0, 0))) : w.cell? ⟨b, 0, none⟩ = some x ∧ w.cell? ⟨b, 1, none⟩ = some y := by
  constructor <;> simp [World.cell?, h]
/-- The same, from such a world on. -/
theorem wp_region_belU {P : Program} {U : World} {p : BelOf U} {id : Nat} {Q : Exit → Act → World → Prop} {a : Act} {l : List Oper} (hm : P.follows .mixedOrders = true) (hB : Region.lexB .any l.toArray = true)
    (h : wpQuiet P l.toArray (fun w' => ∃ q : BelOf U, w' = q.w) (fun a' => ∀ w', (∃ q : BelOf U, w' = q.w) → Q .normal a' w') l a) : (Code.region id l.toArray true).wp P Q a p.w :=
  wp_region_quiet (C := fun w' => ∃ q : BelOf U, w' = q.w) hm hB ⟨⟨p.w.drew, p.h.drew⟩, rfl⟩ (by simpa using h)
/-- A contract, in every such world. -/
theorem bel_all {P : Program} {f : FuncId} {args : Array Value} {v : Value} (h : ∀ w, Calls P f args w fun e w' => e = .returned v ∧ Below w.heap.size w w') (U : World) (p : BelOf U) : Calls P f args p.w fun e w' => e = .returned v ∧ ∃ q : BelOf U, w' = q.w := bel_of (h p.w)
theorem bel_start (U : World) : ∃ p : BelOf U, U = p.w := ⟨⟨U, Below.refl _ _⟩, rfl⟩
end Go.Proofs.Ytphhfjfdanlhiaa
