/- Diagrams by what they say; the document's examples of package ite. -/
import Derived.Test.YthiomnlbemimjaaDoorL
namespace Go.Proofs.YthiomnlbemimjaaDoor
open Go.RowKit

/-- A node that says φ. -/
def D (ns : List Nd) (k : Int) (φ : (Int → Bool) → Bool) : Prop := In ns k ∧ ∀ f, evalP ns f k = φ f
theorem D.on {most : Int} {ns ns' : List Nd} {k : Int} {φ : (Int → Bool) → Bool} (h : Good most ns) (h' : Good most ns') (ho : On ns ns') (d : D ns k φ) : D ns' k φ := ⟨d.1.on ho, fun f => by rw [evalP_in h h' ho d.1, d.2]⟩
theorem D.one {most : Int} {ns : List Nd} {k k' : Int} {φ ψ : (Int → Bool) → Bool} (h : Good most ns) (d : D ns k φ) (d' : D ns k' ψ) (e : ∀ f, φ f = ψ f) : k = k' := same_in h d.1 d'.1 (fun f => by rw [d.2, d'.2, e])
theorem D.eq {ns : List Nd} {k : Int} {φ ψ : (Int → Bool) → Bool} (d : D ns k φ) (e : ∀ f, φ f = ψ f) : D ns k ψ := ⟨d.1, fun f => by rw [d.2, e]⟩
theorem d0 {most : Int} {ns : List Nd} (h : Good most ns) : D ns 0 (fun _ => false) := ⟨in0 h, eval0 h⟩
theorem d1 {most : Int} {ns : List Nd} (h : Good most ns) : D ns 1 (fun _ => true) := ⟨in1 h, eval1 h⟩

/-- What three come to where there is room. -/
structure Went (N : Nat) (most : Int) (ns ns' : List Nd) (k : Int) (φ : (Int → Bool) → Bool) : Prop where
  good : Good most ns'
  on : On ns ns'
  upto : Upto N ns'
  is : D ns' k φ
  len : (ns'.length : Int) ≤ ns.length + 2 ^ N - 1
  new : ∀ i, D ns i φ → ns' = ns
theorem iout_in {op : Bool → Bool → Bool → Bool} {N : Nat} {most : Int} {ns ns' : List Nd} {a b c k err : Int} {α β γ : (Int → Bool) → Bool} (da : D ns a α) (db : D ns b β) (dc : D ns c γ) (h : IOut op N most ns ⟨a, b, c⟩ ns' k err) :
    (err = 8 ∧ k = 0 ∧ most < ns.length + 2 ^ N - 1) ∨ (err = 0 ∧ Went N most ns ns' k (fun f => op (α f) (β f) (γ f))) := by
  obtain ⟨kvs', J⟩ := h
  rw [nodeP_is da.1, nodeP_is db.1, nodeP_is dc.1] at J
  have hR : ∀ f, R3 op ns ⟨a, b, c⟩ f = op (α f) (β f) (γ f) := fun f => by unfold R3; simp only; rw [da.2, db.2, dc.2]
  rcases J.out with h1 | ⟨e0, h1, h2, h3, h4⟩
  · exact .inl h1
  · exact .inr ⟨e0, J.good, J.on, J.upto, ⟨h1, fun f => by rw [h2, hR]⟩, h3, fun i di => h4 i di.1 (fun f => by rw [di.2, hR])⟩
theorem iout_room {op : Bool → Bool → Bool → Bool} {N : Nat} {most : Int} {ns ns' : List Nd} {a b c k err : Int} {α β γ : (Int → Bool) → Bool} (da : D ns a α) (db : D ns b β) (dc : D ns c γ) (h : IOut op N most ns ⟨a, b, c⟩ ns' k err) (hr : (ns.length : Int) + 2 ^ N - 1 ≤ most) :
    err = 0 ∧ Went N most ns ns' k (fun f => op (α f) (β f) (γ f)) := by
  rcases iout_in da db dc h with ⟨_, _, h1⟩ | h1
  · omega
  · exact h1

def three2 : List Nd := [⟨1024, 0, 0⟩, ⟨1024, 1, 1⟩, ⟨2, 0, 1⟩]
theorem mk2a : mkR (clampN 20) first2 2 0 1 = (2, 0, three2) := by rfl
theorem upto2 : Upto 3 three2 := by
  intro i hi
  simp [three2] at hi
  rcases (by omega : i = 0 ∨ i = 1 ∨ i = 2) with rfl | rfl | rfl
  · right; rfl
  · right; rfl
  · left; decide
theorem d2 (h : Good (clampN 20) three2) : D three2 2 (fun f => f 2) := by
  refine ⟨⟨2, rfl, by simp [three2]⟩, fun f => ?_⟩
  have e := evalP_at (f := f) h (i := 2) (by simp [three2]) (by decide)
  have e2 : (ndAt three2 2) = ⟨2, 0, 1⟩ := rfl
  rw [e2] at e
  simp only at e
  have e' : evalP three2 f 2 = evalP three2 f (if f 2 = true then 1 else 0) := e
  rw [e']
  show _ = f 2
  cases f 2 <;> simp [eval0 h, eval1 h]

set_option maxHeartbeats 400000 in
set_option maxRecDepth 20000 in
theorem awake2_any (w : World) :
    Calls Tryd.prog 4 #[] w fun e w' => e = .returned (.bool true) ∧ Below w.heap.size w w' := by
  have hnil := errV_zero
  go_enter Tryd.func4, Tryd.ntmps4
  go_wp2_with fail
  refine (of_any 20 w).mono ?_
  rintro e w1 ⟨rfl, a1, b1, s1⟩
  obtain ⟨p, hp, hp'⟩ : ∃ p, w.heap.size ≤ p ∧ p = w.heap.size + 2 := ⟨_, by omega, rfl⟩
  obtain ⟨m, hm, hm'⟩ : ∃ m, w.heap.size ≤ m ∧ m = w.heap.size + 1 := ⟨_, by omega, rfl⟩
  rw [← hp', ← hm'] at a1
  rw [← hp']
  clear hp' hm' s1
  have v1 := variable_any a1 2
  rw [mk2a] at v1
  go_wp2_with fail
  refine v1.mono ?_
  rintro e w2 ⟨g2, c2, rfl, a2, k2, e2⟩
  obtain ⟨b2, hg2⟩ := next b1 (Nat.le_refl _) hp (Nat.le_refl _) hm k2 e2
  clear v1 a1 b1 k2 e2
  have g0 := a2.good
  have v2 := inot_any a2 (N := 3) (by decide) upto2 2
  go_wp2_with fail
  refine v2.mono ?_
  rintro e w3 ⟨g3, c3, n3, k, e1, rfl, a3, k3, e3, O3⟩
  obtain ⟨b3, hg3⟩ := next b2 (Nat.le_refl _) hp hg2 hm k3 e3
  obtain ⟨rfl, W3⟩ := iout_room (d2 g0) (d0 g0) (d1 g0) O3 (by decide)
  clear v2 a2 b2 k3 e3 O3
  have x3 := (d2 g0).on g0 W3.good W3.on
  have hk2 : k ≠ 2 := by
    rintro rfl
    have e1 := W3.is.2 (fun _ => true)
    rw [x3.2] at e1
    simp [opChoose] at e1
  have hk0 : k ≠ 0 := by
    rintro rfl
    have e1 := W3.is.2 (fun _ => false)
    rw [eval0 W3.good] at e1
    simp [opChoose] at e1
  have hk1 : k ≠ 1 := by
    rintro rfl
    have e1 := W3.is.2 (fun _ => true)
    rw [eval1 W3.good] at e1
    simp [opChoose] at e1
  have hk3 : 1 < k := by
    obtain ⟨i, rfl, _⟩ := W3.is.1
    omega
  have v3 := iand_any a3 (N := 3) (by decide) W3.upto 2 k
  go_wp2_with fail
  refine v3.mono ?_
  rintro e w4 ⟨g4, c4, n4, k', e1, rfl, a4, k4, e4, O4⟩
  obtain ⟨b4, hg4⟩ := next b3 (Nat.le_refl _) hp hg3 hm k4 e4
  have hl : (n3.length : Int) ≤ 10 := by
    have := W3.len
    have e : (three2.length : Int) = 3 := rfl
    rw [e] at this
    omega
  have c20 : clampN 20 = 20 := rfl
  obtain ⟨rfl, W4⟩ := iout_room x3 W3.is (d0 W3.good) O4 (by rw [c20]; omega)
  obtain rfl : k' = 0 := W4.is.one W4.good (d0 W4.good) (fun f => by simp only [opChoose]; cases f 2 <;> simp)
  clear v3 a3 b3 k4 e4 O4 W3 W4 x3 hk0 hk1 hl
  go_wp2_with fail
  go_ret
  exact ⟨congrArg (fun x => Ending.returned (.bool x)) (by simp [hk2]), b4⟩
end Go.Proofs.YthiomnlbemimjaaDoor
