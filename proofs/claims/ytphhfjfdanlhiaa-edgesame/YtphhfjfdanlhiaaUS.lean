/- A drawn region in parts, where more than one operation keeps what was there. No program. -/
import Derived.Test.YtphhfjfdanlhiaaUR
namespace Go.Proofs.Ytphhfjfdanlhiaa
open Go.RowKit

section
variable {P : Program} {C : World → Prop} {Q : Exit → Act → World → Prop} {md : Region.Mode} {e1 : Nat → Bool}
def exitN (K : Act → World → Prop) (Q : Exit → Act → World → Prop) : Exit → Act → World → Prop
  | .normal => K
  | e => Q e
theorem exit_wp {K K' : Act → World → Prop} {o : Oper} {a : Act} {w : World} (h : Oper.wp P o a w K (exitN K' Q)) : Oper.wp P o a w K Q := by
  unfold Oper.wp at h ⊢
  cases hr : (execOp a.eval o).run P w with
  | halt x w1 => rw [hr] at h; cases x <;> exact h
  | ok n w1 => rw [hr] at h; cases n <;> exact h
/-- One operation after the other, each of which keeps what was there. -/
def chainC (P : Program) (l : List Oper) (C : World → Prop) (Q : Exit → Act → World → Prop) : List Nat → (Act → World → Prop) → Act → World → Prop
  | [], K, a, w => K a w
  | i :: h, K, a, w => wpList P l.toArray (exitN (fun a' w' => C w' ∧ chainC P l C Q h K a' w') Q) (pickL l [i]) a w
theorem G_heads {l : List Oper} : ∀ (hs r : List Nat) (L : Array Bool) (a : Act) (w : World), lexE md l.toArray (hs ++ r) L = true → (∀ i ∈ r, e1 i = true) → C w →
    chainC P l C Q hs (wpList P l.toArray Q (pickL l r)) a w → wpAnyG P md l.toArray Q C e1 (hs ++ r).length L a w
  | [], r, L, a, w, hB, he, _, h => G_list r L a w hB he h
  | i :: hs, r, L, a, w, hB, he, hc, h => by
    simp only [List.cons_append, lexE, Bool.and_eq_true, decide_eq_true_eq] at hB
    obtain ⟨⟨hr, hg⟩, hB'⟩ := hB
    cases ho : l.toArray[i]? with
    | none => rw [ho] at hg; cases hg
    | some o =>
      rw [ho] at hg
      have ho' : l[i]? = some o := by simpa using ho
      unfold chainC at h
      rw [pickL_cons ho'] at h
      refine ⟨fun h0 => (by rw [hr] at h0; cases h0), fun j hj => ?_⟩
      rw [hr, List.mem_singleton] at hj
      subst hj
      unfold wpList at h
      unfold wpOp
      rw [ho]
      have hK : ∀ a w, C w ∧ chainC P l C Q hs (wpList P l.toArray Q (pickL l r)) a w → (e1 j = false → C w) ∧ wpAnyG P md l.toArray Q C e1 (hs ++ r).length (L.setIfInBounds j true) a w := fun a w h =>
        ⟨fun _ => h.1, G_heads hs r _ a w hB' he h.1 h.2⟩
      simp only
      split
      · rename_i hwn
        rw [if_pos hwn] at h
        refine h.imp (fun h => Oper.wp_mono hK (exit_wp h)) (fun h => ⟨h.1, ?_⟩)
        exact h.2
      · rename_i hwn
        rw [if_neg hwn] at h
        exact hK _ _ h
/-- The same as wp_region_parts3 where each of hs keeps what was there, one after the other. -/
theorem wp_region_parts4 {id : Nat} {l : List Oper} (fi : Nat) (fo : Oper) (v : Value) (xs zs hs r : List Nat) {a : Act} {w : World} (hm : P.follows .mixedOrders = true) (hfo : l[fi]? = some fo)
    (hB : partsB .any l.toArray hs.length xs zs (hs ++ r) ((Array.replicate l.length false).setIfInBounds fi true) = true) (hf : Region.free .any l.toArray (Array.replicate l.length false) fi = true)
    (hr : (Region.ready .any l.toArray (Array.replicate l.length false)).contains fi = true) (hg : fo.guard = none)
    (hn : xs.length + (zs.length + (hs ++ r).length) + 1 = l.length) (hC : C w.drew) (hQ : ∀ c a d v w, Q (.panic c) (Act.put a d v) w → Q (.panic c) a w) (hy : ∀ w, (execOp a.eval fo).run P w = .ok (.value v) w)
    (h : wpQuiet P l.toArray C (fun a' => ∀ w', C w' → chainC P l C Q hs (wpList P l.toArray Q (pickL l r)) a' w') (pickL l (xs ++ zs)) (a.put fo.dst v)) : (Code.region id l.toArray true).wp P Q a w := by
  refine wp_region_any hm ?_
  have hB' := hB
  simp only [partsB, Bool.and_eq_true] at hB'
  obtain ⟨⟨⟨⟨hs', _⟩, _⟩, _⟩, hE⟩ := hB'
  have hfi : fi < l.length := (List.getElem?_eq_some_iff.1 hfo).1
  have hfr : fi ∈ Region.ready .any l.toArray (Array.replicate l.length false) := by simpa using hr
  have hfo' : l.toArray[fi]? = some fo := by simpa using hfo
  have h1 := G_parts hs.length xs zs (hs ++ r) ((Array.replicate l.length false).setIfInBounds fi true) (a := a.put fo.dst v) (w := w.drew) (by simp) hB ((Closed.none _).put hfr) hC hQ
    (wpQuiet_mono (fun a' h' w' hw' => G_heads hs r _ a' w' hE (fun j hj => by simp [hj]) hw' (h' w' hw')) _ _ h)
  have := wpAny_of_G _ _ _ _ (G_free hfo' hs' (by simp [hfi]) (Closed.none _) hf hr (fun c a w => hQ c a _ _ w) hg hy h1)
  rw [hn] at this
  simpa using this
/-- The same without a free one. -/
theorem wp_region_parts5 {id : Nat} {l : List Oper} (xs zs hs r : List Nat) {a : Act} {w : World} (hm : P.follows .mixedOrders = true)
    (hB : partsB .any l.toArray hs.length xs zs (hs ++ r) (Array.replicate l.length false) = true)
    (hn : xs.length + (zs.length + (hs ++ r).length) = l.length) (hC : C w.drew) (hQ : ∀ c a d v w, Q (.panic c) (Act.put a d v) w → Q (.panic c) a w)
    (h : wpQuiet P l.toArray C (fun a' => ∀ w', C w' → chainC P l C Q hs (wpList P l.toArray Q (pickL l r)) a' w') (pickL l (xs ++ zs)) a) : (Code.region id l.toArray true).wp P Q a w := by
  refine wp_region_any hm ?_
  have hE : lexE .any l.toArray (hs ++ r) (listAll (listAll (Array.replicate l.length false) xs) zs) = true := by
    simp only [partsB, Bool.and_eq_true] at hB
    exact hB.2
  have := wpAny_of_G _ _ _ _ (G_parts hs.length xs zs (hs ++ r) (Array.replicate l.length false) (a := a) (w := w.drew) (by simp) hB (Closed.none _) hC hQ
    (wpQuiet_mono (fun a' h' w' hw' => G_heads hs r _ a' w' hE (fun j hj => by simp [hj]) hw' (h' w' hw')) _ _ h))
  rw [hn] at this
  simpa using this
theorem chain_step {l : List Oper} {hs : List Nat} {K : Act → World → Prop} {a : Act} {w : World} (h1 : C w) (h2 : chainC P l C Q hs K a w) : exitN (fun a' w' => C w' ∧ chainC P l C Q hs K a' w') Q .normal a w := ⟨h1, h2⟩
theorem chain_end {l : List Oper} {K : Act → World → Prop} {a : Act} {w : World} (h : K a w) : chainC P l C Q [] K a w := h
theorem chain_go {l : List Oper} {i : Nat} {h : List Nat} {K : Act → World → Prop} {a : Act} {w : World} {o : Oper} (ho : l[i]? = some o)
    (hh : ∀ Q2 : Exit → Act → World → Prop, (∀ a' w', C w' → chainC P l C Q h K a' w' → Q2 .normal a' w') → wpList P l.toArray Q2 [o] a w) : chainC P l C Q (i :: h) K a w := by
  unfold chainC
  rw [pickL_cons ho]
  exact hh _ fun a' w' h1 h2 => ⟨h1, h2⟩
end
end Go.Proofs.Ytphhfjfdanlhiaa
