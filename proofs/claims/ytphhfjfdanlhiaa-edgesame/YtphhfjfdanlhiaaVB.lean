/- What is kept but for one block; a region that draws its order, with one call that writes there. No program. -/
import Derived.Test.YtphhfjfdanlhiaaOW
import Derived.Test.YtphhfjfdanlhiaaUS
namespace Go.Proofs.Ytphhfjfdanlhiaa
open Go.RowKit

/-- All that was there, but for one block, is as it was. -/
structure BelX (b : Nat) (w w' : World) : Prop where
  os : w'.os = w.os
  tape : w'.tape = w.tape
  output : w'.output = w.output
  size : w.heap.size ≤ w'.heap.size
  block : ∀ k, k < w.heap.size → k ≠ b → w'.heap[k]? = w.heap[k]?
section
variable {b : Nat} {w w' u : World}
theorem BelX.refl (b : Nat) (w : World) : BelX b w w := ⟨rfl, rfl, rfl, Nat.le_refl _, fun _ _ _ => rfl⟩
theorem BelX.trans (h : BelX b w w') (k : BelX b w' u) : BelX b w u :=
  ⟨k.os.trans h.os, k.tape.trans h.tape, k.output.trans h.output, Nat.le_trans h.size k.size, fun i hi hb => (k.block i (Nat.lt_of_lt_of_le hi h.size) hb).trans (h.block i hi hb)⟩
theorem BelX.of (b : Nat) (h : Below w.heap.size w w') : BelX b w w' := ⟨h.os, h.tape, h.output, h.size, fun k hk _ => h.block k hk⟩
theorem BelX.below (h : BelX b w w') (k : Below w'.heap.size w' u) : BelX b w u := h.trans (.of b k)
theorem BelX.drewN (h : BelX b w w') (n : Nat) : BelX b w (w'.drewN n) := ⟨h.os, h.tape, h.output, h.size, h.block⟩
theorem BelX.drew (h : BelX b w w') : BelX b w w'.drew := ⟨h.os, h.tape, h.output, h.size, h.block⟩
theorem BelX.alloc (h : BelX b w w') (o : Obj) : BelX b w (w'.alloc o) := h.below (bel_alloc (Below.refl _ _) o)
/-- A cell of the block, or of a later one, is written. -/
theorem BelX.set (h : BelX b w w') {p i : Nat} (hp : p = b ∨ w.heap.size ≤ p) (x : Value) : BelX b w (w'.setCell ⟨p, i, none⟩ x) := by
  refine ⟨h.os, h.tape, h.output, Nat.le_trans h.size (by simp [World.setCell]), fun k hk hb => ?_⟩
  rw [Below.heap_setCell _ _ _ _ (show k ≠ (⟨p, i, none⟩ : Addr).block from by
    show k ≠ p
    omega)]
  exact h.block k hk hb
theorem BelX.get (h : BelX b w w') {k : Nat} {o : Obj} (hk : w.heap[k]? = some o) (hb : k ≠ b) : w'.heap[k]? = some o := (h.block k (Array.getElem?_eq_some_iff.1 hk).1 hb).trans hk
theorem BelX.own (h : BelX b w w') {B e z n : Nat} {v : Value} {xs : List Value} (ho : w.ownsRow B e z v n xs) (hb : ∀ g, v.ownBlock = some g → g ≠ b) : w'.ownsRow B e z v n xs := by
  refine ⟨ho.1, ?_⟩
  rcases ho.2 with h0 | ⟨g, cap, cur, h1, h2, h3, h4⟩
  · exact .inl h0
  · exact .inr ⟨g, cap, cur, h1, h2, h.get h3 (hb g (by rw [h1]; rfl)), h4⟩
/-- Where the block is a new one, all that was there is as it was. -/
theorem BelX.bel {U : World} (h : BelX b w w') (k : Below U.heap.size U w) (hb : U.heap.size ≤ b) : Below U.heap.size U w' :=
  ⟨h.os.trans k.os, h.tape.trans k.tape, h.output.trans k.output, Nat.le_trans k.size h.size, fun i hi => (h.block i (Nat.lt_of_lt_of_le hi k.size) (by omega)).trans (k.block i hi)⟩
end
/-- Worlds in which all but one block is as it was. -/
structure XOf (b : Nat) (U : World) where
  w : World
  h : BelX b U w
theorem x_ne (b : Nat) (U : World) : Nonempty (XOf b U) := ⟨⟨U, BelX.refl b U⟩⟩
theorem x_cell {b : Nat} {U : World} {k i : Nat} {v : Value} (h : U.cell? ⟨k, i, none⟩ = some v) (hk : k < U.heap.size) (hb : k ≠ b) (p : XOf b U) : p.w.cell? ⟨k, i, none⟩ = some v := by
  have := p.h.block k hk hb
  unfold World.cell? at h ⊢
  dsimp only at h ⊢
  rw [this]
  exact h

section
variable {P : Program} {C : World → Prop} {Q : Exit → Act → World → Prop} {md : Region.Mode} {e1 : Nat → Bool}
/-- What only reads, met first, leaves the world where it was. -/
theorem G_plain1 {l : List Oper} (hs : Region.noSelect l.toArray = true) (hQ : ∀ c a d v w, Q (.panic c) (Act.put a d v) w → Q (.panic c) a w) {k : Nat} {w : World} (hw : C w) :
    ∀ (xs : List Nat) (L : Array Bool) (a : Act), Closed md l.toArray L → lexX md l.toArray e1 xs L = true →
      wpQuiet P l.toArray C (fun a' => wpAnyG P md l.toArray Q C e1 k (listAll L xs) a' w) (pickL l xs) a → wpAnyG P md l.toArray Q C e1 (xs.length + k) L a w
  | [], L, a, _, _, h => by
    have h' : wpAnyG P md l.toArray Q C e1 k L a w := h
    simpa using h'
  | i :: r, L, a, hcl, hB, h => by
    simp only [lexX, Bool.and_eq_true] at hB
    obtain ⟨⟨⟨⟨⟨hr, hf⟩, hp⟩, hwt⟩, he⟩, hB'⟩ := hB
    have hr' : i ∈ Region.ready md l.toArray L := by simpa using hr
    cases ho : l.toArray[i]? with
    | none => rw [ho] at hp; cases hp
    | some o =>
      rw [ho] at hp
      have ho' : l[i]? = some o := by simpa using ho
      rw [pickL_cons ho'] at h
      have hE : ∀ j, e1 j = true → j < l.toArray.size → L.getD j true = false → waitsB md l.toArray l.toArray.size j i = true := by
        intro j hj hlt hun
        have := List.all_eq_true.1 hwt j (List.mem_range.2 hlt)
        rw [hj, hun] at this
        simpa using this
      have key : ∀ v, YieldsIf P l.toArray C o v a → wpQuiet P l.toArray C (fun a' => wpAnyG P md l.toArray Q C e1 k (listAll L (i :: r)) a' w) (pickL l r) (a.put o.dst v) → wpAnyG P md l.toArray Q C e1 ((i :: r).length + k) L a w := by
        intro v hy hn
        have ih := G_plain1 hs hQ hw r (L.setIfInBounds i true) (a.put o.dst v) (hcl.put hr') hB' hn
        rw [List.length_cons, Nat.add_right_comm]
        exact G_first (D := C) ho (Region.noSelect_spec hs) (fun c a w => hQ c a _ _ w) (fun _ h => h) _ L a w hcl (.inr hE) (Region.free_spec ho hf) hr' hy hw ih (fun _ => hw)
      unfold wpQuiet at h
      by_cases hwn : Region.wanted o (yielded l.toArray a.tmps) = true
      · rw [if_pos hwn] at h
        obtain ⟨v, h1, h2⟩ := h
        refine key v (.inl ⟨hwn, fun w' hw' => ?_⟩) h2
        have h3 := h1 w' hw'
        unfold Oper.quietAt at h3
        cases hrun : (execOp a.eval o).run P w' with
        | halt x w1 => rw [hrun] at h3; exact h3.elim
        | ok n w1 =>
          obtain ⟨u, rfl⟩ := plain_value hp hrun
          rw [hrun] at h3
          obtain ⟨rfl, rfl⟩ := h3
          rfl
      · rw [if_neg hwn] at h
        exact key undef (.inr ⟨by simpa using hwn, rfl⟩) h
/-- A region: what is read, in a class of worlds; then, from its own world on, what keeps the class; then what writes. -/
theorem wp_region_from {id : Nat} {l : List Oper} (xs hs r : List Nat) {a : Act} {w : World} (hm : P.follows .mixedOrders = true)
    (hB : (Region.noSelect l.toArray && lexX .any l.toArray (fun i => r.contains i) xs (Array.replicate l.length false) && lexE .any l.toArray (hs ++ r) (listAll (Array.replicate l.length false) xs)) = true)
    (hn : xs.length + (hs ++ r).length = l.length) (hC : C w.drew) (hQ : ∀ c a d v w, Q (.panic c) (Act.put a d v) w → Q (.panic c) a w)
    (h : wpQuiet P l.toArray C (fun a' => chainC P l C Q hs (wpList P l.toArray Q (pickL l r)) a' w.drew) (pickL l xs) a) : (Code.region id l.toArray true).wp P Q a w := by
  simp only [Bool.and_eq_true] at hB
  obtain ⟨⟨hs', hX⟩, hE⟩ := hB
  refine wp_region_any hm ?_
  have h1 := G_plain1 (md := .any) (e1 := fun i => r.contains i) hs' hQ hC xs (Array.replicate l.length false) a (Closed.none _) hX (wpQuiet_mono (fun a' h' => G_heads hs r _ a' _ hE (fun j hj => by simp [hj]) hC h') _ _ h)
  have := wpAny_of_G _ _ _ _ h1
  rw [hn] at this
  simpa using this
end
end Go.Proofs.Ytphhfjfdanlhiaa
