/- Diagrams by what they say; the document's examples of package ite. -/
import Derived.Test.YtahjkkegbcalnaaDoorL
namespace Go.Proofs.YtahjkkegbcalnaaDoor
open Go.RowKit

/-- A node that says φ. -/
def D (ns : List Nd) (k : Int) (φ : (Int → Bool) → Bool) : Prop := In ns k ∧ ∀ f, evalP ns f k = φ f
theorem D.on {most : Int} {ns ns' : List Nd} {k : Int} {φ : (Int → Bool) → Bool} (h : Good most ns) (h' : Good most ns') (ho : On ns ns') (d : D ns k φ) : D ns' k φ := ⟨d.1.on ho, fun f => by rw [evalP_in h h' ho d.1, d.2]⟩
theorem D.one {most : Int} {ns : List Nd} {k k' : Int} {φ ψ : (Int → Bool) → Bool} (h : Good most ns) (d : D ns k φ) (d' : D ns k' ψ) (e : ∀ f, φ f = ψ f) : k = k' := same_in h d.1 d'.1 (fun f => by rw [d.2, d'.2, e])
theorem D.eq {ns : List Nd} {k : Int} {φ ψ : (Int → Bool) → Bool} (d : D ns k φ) (e : ∀ f, φ f = ψ f) : D ns k ψ := ⟨d.1, fun f => by rw [d.2, e]⟩
theorem d0 {most : Int} {ns : List Nd} (h : Good most ns) : D ns 0 (fun _ => false) := ⟨in0 h, eval0 h⟩
theorem d1 {most : Int} {ns : List Nd} (h : Good most ns) : D ns 1 (fun _ => true) := ⟨in1 h, eval1 h⟩

/-- What three come to where there is room. -/
structure Went (N : Nat) (most : Int) (ns ns' : List Nd) (k : Int) (φ : (Int → Bool) → Bool) : Prop where
  good : Good most ns'
  on : On ns ns'
  upto : Upto N ns'
  is : D ns' k φ
  len : (ns'.length : Int) ≤ ns.length + 2 ^ N - 1
  new : ∀ i, D ns i φ → ns' = ns
theorem iout_in {op : Bool → Bool → Bool → Bool} {N : Nat} {most : Int} {ns ns' : List Nd} {a b c k err : Int} {α β γ : (Int → Bool) → Bool} (da : D ns a α) (db : D ns b β) (dc : D ns c γ) (h : IOut op N most ns ⟨a, b, c⟩ ns' k err) :
    (err = 8 ∧ k = 0 ∧ most < ns.length + 2 ^ N - 1) ∨ (err = 0 ∧ Went N most ns ns' k (fun f => op (α f) (β f) (γ f))) := by
  obtain ⟨kvs', J⟩ := h
  rw [nodeP_is da.1, nodeP_is db.1, nodeP_is dc.1] at J
  have hR : ∀ f, R3 op ns ⟨a, b, c⟩ f = op (α f) (β f) (γ f) := fun f => by unfold R3; simp only; rw [da.2, db.2, dc.2]
  rcases J.out with h1 | ⟨e0, h1, h2, h3, h4⟩
  · exact .inl h1
  · exact .inr ⟨e0, J.good, J.on, J.upto, ⟨h1, fun f => by rw [h2, hR]⟩, h3, fun i di => h4 i di.1 (fun f => by rw [di.2, hR])⟩
theorem iout_room {op : Bool → Bool → Bool → Bool} {N : Nat} {most : Int} {ns ns' : List Nd} {a b c k err : Int} {α β γ : (Int → Bool) → Bool} (da : D ns a α) (db : D ns b β) (dc : D ns c γ) (h : IOut op N most ns ⟨a, b, c⟩ ns' k err) (hr : (ns.length : Int) + 2 ^ N - 1 ≤ most) :
    err = 0 ∧ Went N most ns ns' k (fun f => op (α f) (β f) (γ f)) := by
  rcases iout_in da db dc h with ⟨_, _, h1⟩ | h1
  · omega
  · exact h1

def three2 : List Nd := [⟨1024, 0, 0⟩, ⟨1024, 1, 1⟩, ⟨2, 0, 1⟩]
theorem mk2a : mkR (clampN 20) first2 2 0 1 = (2, 0, three2) := by rfl
theorem upto2 : Upto 3 three2 := by
  intro i hi
  simp [three2] at hi
  rcases (by omega : i = 0 ∨ i = 1 ∨ i = 2) with rfl | rfl | rfl
  · right; rfl
  · right; rfl
  · left; decide
theorem d2 (h : Good (clampN 20) three2) : D three2 2 (fun f => f 2) := by
  refine ⟨⟨2, rfl, by simp [three2]⟩, fun f => ?_⟩
  have e := evalP_at (f := f) h (i := 2) (by simp [three2]) (by decide)
  have e2 : (ndAt three2 2) = ⟨2, 0, 1⟩ := rfl
  rw [e2] at e
  simp only at e
  have e' : evalP three2 f 2 = evalP three2 f (if f 2 = true then 1 else 0) := e
  rw [e']
  show _ = f 2
  cases f 2 <;> simp [eval0 h, eval1 h]

end Go.Proofs.YtahjkkegbcalnaaDoor
