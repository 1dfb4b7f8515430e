/- What the small functions of package ite do. -/
import Derived.Test.YtahjkkegbcalnaaBu
namespace Go.Proofs.Ytahjkkegbcalnaa
open Go.RowKit Go.Maps

/-- Where a node goes at a value of v; itself, if it asks another variable. -/
def lowP (v k : Int) (n : Nd) : Int := if n.v = v then n.lo else k
def highP (v k : Int) (n : Nd) : Int := if n.v = v then n.hi else k

set_option maxHeartbeats 400000 in
set_option maxRecDepth 20000 in
theorem low_any (v k : Int) (n : Nd) (w : World) :
    Calls Try.prog 39 #[.int .i64 v, .int .i64 k, ndV n] w fun e w' => e = .returned (.int .i64 (lowP v k n)) ∧ Below w.heap.size w w' ∧ w'.heap.size = w.heap.size + 1 := by
  obtain ⟨x, y, z⟩ := n
  unfold ndV lowP
  simp only
  by_cases h : x = v
  · rw [if_pos h]
    go_enter Try.func39, Try.ntmps39
    go_wp2
    go_ret
    exact ⟨rfl, (Below.refl _ _).alloc (Nat.le_refl _) _, by simp⟩
  · rw [if_neg h]
    go_enter Try.func39, Try.ntmps39
    go_wp2
    go_ret
    exact ⟨rfl, (Below.refl _ _).alloc (Nat.le_refl _) _, by simp⟩
set_option maxHeartbeats 400000 in
set_option maxRecDepth 20000 in
theorem high_any (v k : Int) (n : Nd) (w : World) :
    Calls Try.prog 40 #[.int .i64 v, .int .i64 k, ndV n] w fun e w' => e = .returned (.int .i64 (highP v k n)) ∧ Below w.heap.size w w' ∧ w'.heap.size = w.heap.size + 1 := by
  obtain ⟨x, y, z⟩ := n
  unfold ndV highP
  simp only
  by_cases h : x = v
  · rw [if_pos h]
    go_enter Try.func40, Try.ntmps40
    go_wp2
    go_ret
    exact ⟨rfl, (Below.refl _ _).alloc (Nat.le_refl _) _, by simp⟩
  · rw [if_neg h]
    go_enter Try.func40, Try.ntmps40
    go_wp2
    go_ret
    exact ⟨rfl, (Below.refl _ _).alloc (Nat.le_refl _) _, by simp⟩

/-- A node's number; that of no, if there is none. -/
def nodeP (ns : List Nd) (k : Int) : Int := if hasB ns k = true then k else 0
set_option maxHeartbeats 400000 in
set_option maxRecDepth 20000 in
theorem node_any {w : World} {p g m cap : Nat} {most : Int} {ns : List Nd} (h : ArenaAt 48 44 w p g m cap most ns) (k : Int) :
    Calls Try.prog 33 #[.pointer (some ⟨p, 0, none⟩), .int .i64 k] w fun e w' => e = .returned (.int .i64 (nodeP ns k)) ∧ w' = w := by
  have hl := len_any h
  unfold nodeP
  clear h
  by_cases hk : 0 ≤ k
  · rw [hasB_yes hk]
    by_cases hk2 : k < ns.length
    · rw [if_pos (by simpa using hk2)]
      go_enter Try.func33, Try.ntmps33
      go_wp2_with (first | (go_at_call 35; refine hl.mono ?_; rintro e w' ⟨rfl, rfl⟩))
      go_ret
      exact ⟨rfl, rfl⟩
    · rw [if_neg (by simpa using hk2)]
      go_enter Try.func33, Try.ntmps33
      go_wp2_with (first | (go_at_call 35; refine hl.mono ?_; rintro e w' ⟨rfl, rfl⟩))
      go_ret
      exact ⟨rfl, rfl⟩
  · rw [hasB_no hk, if_neg (by simp)]
    go_enter Try.func33, Try.ntmps33
    go_wp2
    go_ret
    exact ⟨rfl, rfl⟩

/-- What a rule tells of three diagrams. -/
def chooseP (d : Nd) : Option Int :=
  if d.v = 1 ∨ d.lo = d.hi then some d.lo else if d.v = 0 then some d.hi else if d.lo = 1 ∧ d.hi = 0 then some d.v else none
def differP (d : Nd) : Option Int :=
  if d.v = d.lo then some 0 else if d.v = 0 then some d.lo else if d.lo = 0 then some d.v else none
/-- A rule's answer. -/
def ruleV (r : Option Int) : Value := .tuple #[.int .i64 (r.getD 0), .bool r.isSome]
theorem enterChoose (args : Array Value) (W : World) : Sem.run Try.prog (callFunc 26 args) W = .ok (.enter 26 args) W := by kernel_rfl
set_option maxHeartbeats 400000 in
set_option maxRecDepth 20000 in
theorem choose_any (d : Nd) (w : World) :
    Calls Try.prog 26 #[ndV d] w fun e w' => e = .returned (ruleV (chooseP d)) ∧ Below w.heap.size w w' := by
  obtain ⟨x, y, z⟩ := d
  unfold ndV chooseP ruleV
  simp only
  cases b1 : (x == 1) with
  | true =>
    rw [if_pos (.inl (by simpa using b1))]
    go_enter Try.func26, Try.ntmps26
    go_wp2
    go_ret2
    exact ⟨rfl, (Below.refl _ _).alloc (Nat.le_refl _) _⟩
  | false =>
    cases b2 : (y == z) with
    | true =>
      rw [if_pos (.inr (by simpa using b2))]
      go_enter Try.func26, Try.ntmps26
      go_wp2
      go_ret2
      exact ⟨rfl, (Below.refl _ _).alloc (Nat.le_refl _) _⟩
    | false =>
      rw [if_neg (by rintro (h | h) <;> simp [h] at b1 b2)]
      cases b3 : (x == 0) with
      | true =>
        rw [if_pos (by simpa using b3)]
        go_enter Try.func26, Try.ntmps26
        go_wp2
        go_ret2
        exact ⟨rfl, (Below.refl _ _).alloc (Nat.le_refl _) _⟩
      | false =>
        rw [if_neg (by rintro h; simp [h] at b3)]
        cases b4 : (y == 1) with
        | true =>
          cases b5 : (z == 0) with
          | true =>
            rw [if_pos ⟨by simpa using b4, by simpa using b5⟩]
            go_enter Try.func26, Try.ntmps26
            go_wp2
            go_ret2
            exact ⟨rfl, (Below.refl _ _).alloc (Nat.le_refl _) _⟩
          | false =>
            rw [if_neg (by rintro ⟨_, h⟩; simp [h] at b5)]
            go_enter Try.func26, Try.ntmps26
            go_wp2
            go_ret2
            exact ⟨rfl, (Below.refl _ _).alloc (Nat.le_refl _) _⟩
        | false =>
          rw [if_neg (by rintro ⟨h, _⟩; simp [h] at b4)]
          go_enter Try.func26, Try.ntmps26
          go_wp2
          go_ret2
          exact ⟨rfl, (Below.refl _ _).alloc (Nat.le_refl _) _⟩

end Go.Proofs.Ytahjkkegbcalnaa
