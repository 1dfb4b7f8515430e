/- A region that draws its order, where nothing but reads can come up out of turn: reads first, in a class of worlds, then what is alone, again and again. No program. -/
import Derived.Test.YtphhfjfdanlhiaaVB
namespace Go.Proofs.Ytphhfjfdanlhiaa
open Go.RowKit

section
variable {P : Program} {C : World → Prop} {Q : Exit → Act → World → Prop} {md : Region.Mode}
def noE (_ : Nat) : Bool := false
/-- Reads, and then one that is alone; and so on; reads at the end. -/
def planB (md : Region.Mode) (ops : Array Oper) : List (List Nat × Nat) → List Nat → Array Bool → Bool
  | [], ys, L => lexX md ops noE ys L && (Region.ready md ops (listAll L ys)).isEmpty
  | p :: r, ys, L => lexX md ops noE p.1 L && decide (Region.ready md ops (listAll L p.1) = [p.2]) && (ops[p.2]?).isSome && planB md ops r ys ((listAll L p.1).setIfInBounds p.2 true)
def planN : List (List Nat × Nat) → List Nat → Nat
  | [], ys => ys.length
  | p :: r, ys => p.1.length + (planN r ys + 1)
def planC (P : Program) (l : List Oper) (C : World → Prop) (Q : Exit → Act → World → Prop) : List (List Nat × Nat) → List Nat → Act → World → Prop
  | [], ys, a, w => wpQuiet P l.toArray C (fun a' => Q .normal a' w) (pickL l ys) a
  | p :: r, ys, a, w => wpQuiet P l.toArray C (fun a' => wpList P l.toArray (exitN (fun a'' w'' => C w'' ∧ planC P l C Q r ys a'' w'') Q) (pickL l [p.2]) a' w) (pickL l p.1) a
theorem G_plan {l : List Oper} (hs : Region.noSelect l.toArray = true) (hQ : ∀ c a d v w, Q (.panic c) (Act.put a d v) w → Q (.panic c) a w) :
    ∀ (ps : List (List Nat × Nat)) (ys : List Nat) (L : Array Bool) (a : Act) (w : World), Closed md l.toArray L → planB md l.toArray ps ys L = true → C w →
      planC P l C Q ps ys a w → wpAnyG P md l.toArray Q C noE (planN ps ys) L a w
  | [], ys, L, a, w, hcl, hB, hw, h => by
    unfold planB at hB
    simp only [Bool.and_eq_true] at hB
    have := G_plain1 (md := md) (e1 := noE) (k := 0) hs hQ hw ys L a hcl hB.1 (wpQuiet_mono (fun a' h' => ⟨List.isEmpty_iff.1 hB.2, h'⟩) _ _ h)
    rw [Nat.add_zero] at this
    exact this
  | p :: r, ys, L, a, w, hcl, hB, hw, h => by
    unfold planB at hB
    simp only [Bool.and_eq_true, decide_eq_true_eq] at hB
    obtain ⟨⟨⟨hX, hr⟩, hso⟩, hB'⟩ := hB
    refine G_plain1 (md := md) (e1 := noE) (k := planN r ys + 1) hs hQ hw p.1 L a hcl hX (wpQuiet_mono (fun a' h' => ?_) _ _ h)
    have hcl2 := closed_all L hcl p.1 hX
    obtain ⟨o, ho⟩ := Option.isSome_iff_exists.1 hso
    have ho' : l[p.2]? = some o := by simpa using ho
    rw [pickL_cons ho'] at h'
    refine ⟨fun h0 => (by rw [hr] at h0; cases h0), fun j hj => ?_⟩
    have hj' := hj
    rw [hr, List.mem_singleton] at hj
    subst hj
    unfold wpList at h'
    unfold wpOp
    rw [ho]
    have hK : ∀ a w, C w ∧ planC P l C Q r ys a w → (noE p.2 = false → C w) ∧ wpAnyG P md l.toArray Q C noE (planN r ys) ((listAll L p.1).setIfInBounds p.2 true) a w := fun a w h =>
      ⟨fun _ => h.1, G_plan hs hQ r ys _ a w (hcl2.put hj') hB' h.1 h.2⟩
    simp only
    split
    · rename_i hwn
      rw [if_pos hwn] at h'
      refine h'.imp (fun h => Oper.wp_mono hK (exit_wp h)) (fun h => ⟨h.1, ?_⟩)
      exact h.2
    · rename_i hwn
      rw [if_neg hwn] at h'
      exact hK _ _ h'
theorem wp_region_plan {id : Nat} {l : List Oper} (ps : List (List Nat × Nat)) (ys : List Nat) {a : Act} {w : World} (hm : P.follows .mixedOrders = true) (hB : (Region.noSelect l.toArray && planB .any l.toArray ps ys (Array.replicate l.length false)) = true)
    (hn : planN ps ys = l.length) (hC : C w.drew) (hQ : ∀ c a d v w, Q (.panic c) (Act.put a d v) w → Q (.panic c) a w) (h : planC P l C Q ps ys a w.drew) : (Code.region id l.toArray true).wp P Q a w := by
  simp only [Bool.and_eq_true] at hB
  refine wp_region_any hm ?_
  have h1 := G_plan (md := .any) hB.1 hQ ps ys (Array.replicate l.length false) a w.drew (Closed.none _) hB.2 hC h
  have := wpAny_of_G _ _ _ _ h1
  rw [hn] at this
  simpa using this
/-- A step that is alone. -/
theorem plan_go {l : List Oper} {xs ys : List Nat} {i : Nat} {r : List (List Nat × Nat)} {a : Act} {w : World} {o : Oper} (ho : l[i]? = some o)
    (h : wpQuiet P l.toArray C (fun a' => ∀ Q2 : Exit → Act → World → Prop, (∀ a'' w'', C w'' → planC P l C Q r ys a'' w'' → Q2 .normal a'' w'') → wpList P l.toArray Q2 [o] a' w) (pickL l xs) a) : planC P l C Q ((xs, i) :: r) ys a w := by
  unfold planC
  refine wpQuiet_mono (fun a' h' => ?_) _ _ h
  rw [pickL_cons ho]
  exact h' _ fun a'' w'' h1 h2 => ⟨h1, h2⟩
theorem plan_end {l : List Oper} {a : Act} {w : World} (h : Q .normal a w) : planC P l C Q [] [] a w := h
end
end Go.Proofs.Ytphhfjfdanlhiaa
