/- An arena that a law holds in a variable of its own: its calls, one behind the other. -/
import Derived.Test.YthiomnlbemimjaaM2
namespace Go.Proofs.Ythiomnlbemimjaa
open Go.RowKit

/-- The arena at p, and the variable at block v that holds it, both made behind w. -/
structure Sit (w V : World) (p m v : Nat) (most : Int) (ns : List Nd) : Prop where
  arena : ∃ g cap, ArenaAt 49 44 V p g m cap most ns ∧ w.heap.size ≤ g ∧ v ≠ g
  below : Below w.heap.size w V
  var : V.heap[v]? = some (.cells #[.pointer (some ⟨p, 0, none⟩)] 24 (0, 0))
  vp : v ≠ p ∧ v ≠ m
  hp : w.heap.size ≤ p
  hm : w.heap.size ≤ m
  upto : Upto 4 ns
section
variable {w V : World} {p m v : Nat} {most : Int} {ns : List Nd}
theorem Sit.good (h : Sit w V p m v most ns) : Good most ns := by
  obtain ⟨g, cap, a, _⟩ := h.arena
  exact a.good
theorem Sit.cell (h : Sit w V p m v most ns) : V.cell? ⟨v, 0, none⟩ = some (.pointer (some ⟨p, 0, none⟩)) := by simp [World.cell?, h.var]
theorem Sit.on {V' : World} (h : Sit w V p m v most ns) (hb : Below V.heap.size V V') : Sit w V' p m v most ns := by
  obtain ⟨g, cap, a, hg, hv⟩ := h.arena
  exact ⟨⟨g, cap, a.below hb, hg, hv⟩, Below.up h.below hb (Nat.le_refl _), below_block hb h.var, h.vp, h.hp, h.hm, h.upto⟩
theorem Sit.kept {V' : World} {g g' cap cap' : Nat} {ns' : List Nd} (h : Sit w V p m v most ns) (_a : ArenaAt 49 44 V p g m cap most ns) (hg : w.heap.size ≤ g) (hv : v ≠ g) (a' : ArenaAt 49 44 V' p g' m cap' most ns') (k : Kept [p, g, m] V V') (e : g' = g ∨ V.heap.size ≤ g') (hu : Upto 4 ns') : Sit w V' p m v most ns' := by
  have hlt := (Array.getElem?_eq_some_iff.1 h.var).1
  have hn : v ∉ [p, g, m] := by
    have := h.vp
    simp
    exact ⟨this.1, hv, this.2⟩
  obtain ⟨b, hg'⟩ := next h.below (Nat.le_refl _) h.hp hg h.hm k e
  exact ⟨⟨g', cap', a', hg', by omega⟩, b, k.stays h.var hn, h.vp, h.hp, h.hm, hu⟩

theorem sit_build (h : Sit w V p m v most ns) (bits : Nat) (hb : bits < 65536) :
    Calls Try.prog 10 #[.pointer (some ⟨p, 0, none⟩), .int .u16 bits] V fun e V' => e = .returned (.int .i64 (bld most bits 4 0 0 ns).1) ∧ Sit w V' p m v most (bld most bits 4 0 0 ns).2 := by
  obtain ⟨g, cap, a, hg, hv⟩ := h.arena
  refine (build_any bits hb a).mono ?_
  rintro e V' ⟨g', cap', rfl, a', k, e'⟩
  exact ⟨rfl, h.kept a hg hv a' k e' (upto_bld 4 0 0 ns (by decide) h.upto)⟩

/-- What is known behind a call that puts diagrams together. -/
def SitOut (w : World) (p m v : Nat) (most : Int) (ns : List Nd) (φ : (Int → Bool) → Bool) (e : Ending) (V' : World) : Prop :=
  ∃ k ns', e = .returned (.tuple #[.int .i64 k, .nilIface]) ∧ Sit w V' p m v most ns' ∧ Went 4 most ns ns' k φ
theorem sit_out {op : Bool → Bool → Bool → Bool} {a b c : Int} {α β γ : (Int → Bool) → Bool} {g cap : Nat} (h : Sit w V p m v most ns) (ar : ArenaAt 49 44 V p g m cap most ns) (hg : w.heap.size ≤ g) (hv : v ≠ g) (da : D ns a α) (db : D ns b β) (dc : D ns c γ) (hr : (ns.length : Int) + 15 ≤ most) {e : Ending} {V' : World}
    (hp : IPost p m most V g (IOut op 4 most ns ⟨a, b, c⟩) e V') : SitOut w p m v most ns (fun f => op (α f) (β f) (γ f)) e V' := by
  obtain ⟨g1, cap1, ns1, k1, e1, rfl, A1, K1, G1, O1⟩ := hp
  obtain ⟨rfl, W⟩ := iout_room da db dc O1 (room4 hr)
  exact ⟨k1, ns1, rfl, h.kept ar hg hv A1 K1 G1 W.upto, W⟩
theorem sit_and (h : Sit w V p m v most ns) {a b : Int} {α β : (Int → Bool) → Bool} (da : D ns a α) (db : D ns b β) (hr : (ns.length : Int) + 15 ≤ most) :
    Calls Try.prog 13 #[.pointer (some ⟨p, 0, none⟩), .int .i64 a, .int .i64 b] V (SitOut w p m v most ns (fun f => opChoose (α f) (β f) false)) := by
  obtain ⟨g, cap, ar, hg, hv⟩ := h.arena
  exact (iand_any ar (N := 4) (by decide) h.upto a b).mono fun e V' hp => sit_out h ar hg hv da db (d0 h.good) hr hp
theorem sit_or (h : Sit w V p m v most ns) {a b : Int} {α β : (Int → Bool) → Bool} (da : D ns a α) (db : D ns b β) (hr : (ns.length : Int) + 15 ≤ most) :
    Calls Try.prog 14 #[.pointer (some ⟨p, 0, none⟩), .int .i64 a, .int .i64 b] V (SitOut w p m v most ns (fun f => opChoose (α f) true (β f))) := by
  obtain ⟨g, cap, ar, hg, hv⟩ := h.arena
  exact (ior_any ar (N := 4) (by decide) h.upto a b).mono fun e V' hp => sit_out h ar hg hv da (d1 h.good) db hr hp
theorem sit_not (h : Sit w V p m v most ns) {a : Int} {α : (Int → Bool) → Bool} (da : D ns a α) (hr : (ns.length : Int) + 15 ≤ most) :
    Calls Try.prog 16 #[.pointer (some ⟨p, 0, none⟩), .int .i64 a] V (SitOut w p m v most ns (fun f => opChoose (α f) false true)) := by
  obtain ⟨g, cap, ar, hg, hv⟩ := h.arena
  exact (inot_any ar (N := 4) (by decide) h.upto a).mono fun e V' hp => sit_out h ar hg hv da (d0 h.good) (d1 h.good) hr hp
theorem sit_xor (h : Sit w V p m v most ns) {a b : Int} {α β : (Int → Bool) → Bool} (da : D ns a α) (db : D ns b β) (hr : (ns.length : Int) + 15 ≤ most) :
    Calls Try.prog 15 #[.pointer (some ⟨p, 0, none⟩), .int .i64 a, .int .i64 b] V (SitOut w p m v most ns (fun f => opDiffer (α f) (β f) false)) := by
  obtain ⟨g, cap, ar, hg, hv⟩ := h.arena
  exact (ixor_any ar (N := 4) (by decide) h.upto a b).mono fun e V' hp => sit_out h ar hg hv da db (d0 h.good) hr hp
theorem sit_table (h : Sit w V p m v most ns) (k : Int) :
    Calls Try.prog 12 #[.pointer (some ⟨p, 0, none⟩), .int .i64 k] V fun e V' => e = .returned (.agg (row16 fun i => evalP ns (rowF i) k)) ∧ Below V.heap.size V V' := by
  obtain ⟨g, cap, ar, _⟩ := h.arena
  exact table_any ar k
end

/-- A new arena, and a variable that holds it. -/
theorem sit_new {w w0 w1 : World} {most most' : Int} (hc : clampN most = most') (b0 : Below w.heap.size w w0) (a : ArenaAt 49 44 w1 (w0.heap.size + 2) w0.heap.size (w0.heap.size + 1) 2 (clampN most) first2) (b1 : Below w0.heap.size w0 w1) :
    Sit w (w1.alloc (.cells #[.pointer (some ⟨w0.heap.size + 2, 0, none⟩)] 24)) (w0.heap.size + 2) (w0.heap.size + 1) w1.heap.size most' first2 := by
  subst hc
  have h0 := b0.size
  have hb : Below w1.heap.size w1 (w1.alloc (.cells #[.pointer (some ⟨w0.heap.size + 2, 0, none⟩)] 24)) := (Below.refl _ _).alloc (Nat.le_refl _) _
  have l1 := a.ltp
  have l2 := a.ltg
  have l3 := a.ltm
  exact ⟨⟨w0.heap.size, 2, a.below hb, h0, by omega⟩, Below.up (Below.up b0 b1 (Nat.le_refl _)) hb (Nat.le_refl _), heap_new_at _ _ _ rfl, ⟨by omega, by omega⟩, by omega, by omega, upto_first 4⟩
end Go.Proofs.Ythiomnlbemimjaa
