/- What the small functions of package compose do. -/
import Derived.Test.YtahjkkegbcalnaaDoorI
namespace Go.Proofs.YtahjkkegbcalnaaDoor
open Go.RowKit Go.Maps

set_option maxHeartbeats 400000 in
set_option maxRecDepth 20000 in
theorem clow_any (v k : Int) (n : Nd) (w : World) :
    Calls Tryd.prog 32 #[.int .i64 v, .int .i64 k, ndV n] w fun e w' => e = .returned (.int .i64 (lowP v k n)) ∧ Below w.heap.size w w' ∧ w'.heap.size = w.heap.size + 1 := by
  obtain ⟨x, y, z⟩ := n
  unfold ndV lowP
  simp only
  by_cases h : x = v
  · rw [if_pos h]
    go_enter Tryd.func32, Tryd.ntmps32
    go_wp2
    go_ret
    exact ⟨rfl, (Below.refl _ _).alloc (Nat.le_refl _) _, by simp⟩
  · rw [if_neg h]
    go_enter Tryd.func32, Tryd.ntmps32
    go_wp2
    go_ret
    exact ⟨rfl, (Below.refl _ _).alloc (Nat.le_refl _) _, by simp⟩
set_option maxHeartbeats 400000 in
set_option maxRecDepth 20000 in
theorem chigh_any (v k : Int) (n : Nd) (w : World) :
    Calls Tryd.prog 33 #[.int .i64 v, .int .i64 k, ndV n] w fun e w' => e = .returned (.int .i64 (highP v k n)) ∧ Below w.heap.size w w' ∧ w'.heap.size = w.heap.size + 1 := by
  obtain ⟨x, y, z⟩ := n
  unfold ndV highP
  simp only
  by_cases h : x = v
  · rw [if_pos h]
    go_enter Tryd.func33, Tryd.ntmps33
    go_wp2
    go_ret
    exact ⟨rfl, (Below.refl _ _).alloc (Nat.le_refl _) _, by simp⟩
  · rw [if_neg h]
    go_enter Tryd.func33, Tryd.ntmps33
    go_wp2
    go_ret
    exact ⟨rfl, (Below.refl _ _).alloc (Nat.le_refl _) _, by simp⟩

set_option maxHeartbeats 400000 in
set_option maxRecDepth 20000 in
theorem cnode_any {w : World} {p g m cap : Nat} {most : Int} {ns : List Nd} (h : ArenaAt 39 35 w p g m cap most ns) (k : Int) :
    Calls Tryd.prog 14 #[.pointer (some ⟨p, 0, none⟩), .int .i64 k] w fun e w' => e = .returned (.int .i64 (nodeP ns k)) ∧ w' = w := by
  have hl := len_any h
  unfold nodeP
  clear h
  by_cases hk : 0 ≤ k
  · rw [hasB_yes hk]
    by_cases hk2 : k < ns.length
    · rw [if_pos (by simpa using hk2)]
      go_enter Tryd.func14, Tryd.ntmps14
      go_wp2_with (first | (go_at_call 21; refine hl.mono ?_; rintro e w' ⟨rfl, rfl⟩))
      go_ret
      exact ⟨rfl, rfl⟩
    · rw [if_neg (by simpa using hk2)]
      go_enter Tryd.func14, Tryd.ntmps14
      go_wp2_with (first | (go_at_call 21; refine hl.mono ?_; rintro e w' ⟨rfl, rfl⟩))
      go_ret
      exact ⟨rfl, rfl⟩
  · rw [hasB_no hk, if_neg (by simp)]
    go_enter Tryd.func14, Tryd.ntmps14
    go_wp2
    go_ret
    exact ⟨rfl, rfl⟩

set_option maxHeartbeats 400000 in
set_option maxRecDepth 20000 in
theorem given_any (d : Nd) (w : World) :
    Calls Tryd.prog 31 #[ndV d] w fun e w' => e = .returned (ruleV (chooseP d)) ∧ Below w.heap.size w w' := by
  obtain ⟨x, y, z⟩ := d
  unfold ndV chooseP ruleV
  simp only
  cases b1 : (x == 1) with
  | true =>
    rw [if_pos (.inl (by simpa using b1))]
    go_enter Tryd.func31, Tryd.ntmps31
    go_wp2
    go_ret2
    exact ⟨rfl, (Below.refl _ _).alloc (Nat.le_refl _) _⟩
  | false =>
    cases b2 : (y == z) with
    | true =>
      rw [if_pos (.inr (by simpa using b2))]
      go_enter Tryd.func31, Tryd.ntmps31
      go_wp2
      go_ret2
      exact ⟨rfl, (Below.refl _ _).alloc (Nat.le_refl _) _⟩
    | false =>
      rw [if_neg (by rintro (h | h) <;> simp [h] at b1 b2)]
      cases b3 : (x == 0) with
      | true =>
        rw [if_pos (by simpa using b3)]
        go_enter Tryd.func31, Tryd.ntmps31
        go_wp2
        go_ret2
        exact ⟨rfl, (Below.refl _ _).alloc (Nat.le_refl _) _⟩
      | false =>
        rw [if_neg (by rintro h; simp [h] at b3)]
        cases b4 : (y == 1) with
        | true =>
          cases b5 : (z == 0) with
          | true =>
            rw [if_pos ⟨by simpa using b4, by simpa using b5⟩]
            go_enter Tryd.func31, Tryd.ntmps31
            go_wp2
            go_ret2
            exact ⟨rfl, (Below.refl _ _).alloc (Nat.le_refl _) _⟩
          | false =>
            rw [if_neg (by rintro ⟨_, h⟩; simp [h] at b5)]
            go_enter Tryd.func31, Tryd.ntmps31
            go_wp2
            go_ret2
            exact ⟨rfl, (Below.refl _ _).alloc (Nat.le_refl _) _⟩
        | false =>
          rw [if_neg (by rintro ⟨h, _⟩; simp [h] at b4)]
          go_enter Tryd.func31, Tryd.ntmps31
          go_wp2
          go_ret2
          exact ⟨rfl, (Below.refl _ _).alloc (Nat.le_refl _) _⟩


/-- Yes, where one of the two is. -/
def eitherP (d : Nd) : Option Int :=
  if d.lo = 1 ∨ d.hi = 1 then some 1 else if d.lo = d.hi ∨ d.hi = 0 then some d.lo else if d.lo = 0 then some d.hi else none
set_option maxHeartbeats 400000 in
set_option maxRecDepth 20000 in
theorem either_any (d : Nd) (w : World) :
    Calls Tryd.prog 30 #[ndV d] w fun e w' => e = .returned (ruleV (eitherP d)) ∧ Below w.heap.size w w' := by
  obtain ⟨x, y, z⟩ := d
  unfold ndV eitherP ruleV
  simp only
  cases b1 : (y == 1) with
  | true =>
    rw [if_pos (.inl (by simpa using b1))]
    go_enter Tryd.func30, Tryd.ntmps30
    go_wp2
    go_ret2
    exact ⟨rfl, (Below.refl _ _).alloc (Nat.le_refl _) _⟩
  | false =>
    cases b2 : (z == 1) with
    | true =>
      rw [if_pos (.inr (by simpa using b2))]
      go_enter Tryd.func30, Tryd.ntmps30
      go_wp2
      go_ret2
      exact ⟨rfl, (Below.refl _ _).alloc (Nat.le_refl _) _⟩
    | false =>
      rw [if_neg (by rintro (h | h) <;> simp [h] at b1 b2)]
      cases b3 : (y == z) with
      | true =>
        rw [if_pos (.inl (by simpa using b3))]
        go_enter Tryd.func30, Tryd.ntmps30
        go_wp2
        go_ret2
        exact ⟨rfl, (Below.refl _ _).alloc (Nat.le_refl _) _⟩
      | false =>
        cases b4 : (z == 0) with
        | true =>
          rw [if_pos (.inr (by simpa using b4))]
          go_enter Tryd.func30, Tryd.ntmps30
          go_wp2
          go_ret2
          exact ⟨rfl, (Below.refl _ _).alloc (Nat.le_refl _) _⟩
        | false =>
          rw [if_neg (by rintro (h | h) <;> simp [h] at b3 b4)]
          cases b5 : (y == 0) with
          | true =>
            rw [if_pos (by simpa using b5)]
            go_enter Tryd.func30, Tryd.ntmps30
            go_wp2
            go_ret2
            exact ⟨rfl, (Below.refl _ _).alloc (Nat.le_refl _) _⟩
          | false =>
            rw [if_neg (by rintro h; simp [h] at b5)]
            go_enter Tryd.func30, Tryd.ntmps30
            go_wp2
            go_ret2
            exact ⟨rfl, (Below.refl _ _).alloc (Nat.le_refl _) _⟩

/-- What a rule tells. -/
def tellP (by' : Int) (d : Nd) : Option Int := if by' = 1 then eitherP d else chooseP d
set_option maxHeartbeats 400000 in
set_option maxRecDepth 20000 in
theorem tell_any (by' : Int) (d : Nd) (w : World) :
    Calls Tryd.prog 24 #[.int .i64 by', ndV d] w fun e w' => e = .returned (ruleV (tellP by' d)) ∧ Below w.heap.size w w' := by
  have h1 := fun W => either_any d W
  have h2 := fun W => given_any d W
  unfold tellP
  unfold ruleV at *
  obtain ⟨x, y, z⟩ := d
  unfold ndV at *
  generalize eitherP ⟨x, y, z⟩ = r1 at *
  generalize chooseP ⟨x, y, z⟩ = r2 at *
  by_cases h : by' = 1
  · rw [if_pos h]
    go_enter Tryd.func24, Tryd.ntmps24
    go_wp2_with fail
    refine (h1 _).mono ?_
    rintro e w1 ⟨rfl, b1⟩
    go_wp2_with fail
    go_ret2
    exact ⟨rfl, Below.up ((Below.refl _ _).alloc (Nat.le_refl _) _) b1 (Nat.le_refl _)⟩
  · rw [if_neg h]
    go_enter Tryd.func24, Tryd.ntmps24
    go_wp2_with fail
    refine (h2 _).mono ?_
    rintro e w1 ⟨rfl, b1⟩
    go_wp2_with fail
    go_ret2
    exact ⟨rfl, Below.up ((Below.refl _ _).alloc (Nat.le_refl _) _) b1 (Nat.le_refl _)⟩
end Go.Proofs.YtahjkkegbcalnaaDoor
