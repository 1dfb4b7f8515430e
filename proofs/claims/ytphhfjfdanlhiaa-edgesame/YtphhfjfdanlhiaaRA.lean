/- Routes as plain data: which is better, which are the same, the best of some. No program. -/
import Derived.WalkKit
namespace Go.Proofs.Ytphhfjfdanlhiaa
open Go.RowKit

/-- A route. -/
structure At where
  ok : Bool
  pref : Int
  cost : Int
  tags : Int
/-- As a value. -/
def atV (a : At) : Value := .agg #[.bool a.ok, .int .i64 a.pref, .int .i64 a.cost, .int .u8 a.tags]
/-- The zero one. -/
def At.zero : At := ⟨false, 0, 0, 0⟩
/-- Is the first one better? -/
def betP (a b : At) : Bool := (a.ok && !b.ok) || (a.ok && b.ok && (decide (b.pref < a.pref) || (decide (a.pref = b.pref) && (decide (a.cost < b.cost) || (decide (a.cost = b.cost) && decide (a.tags < b.tags))))))
/-- Are all their parts the same? -/
def eqP (a b : At) : Bool := decide (a.ok = b.ok) && (decide (a.pref = b.pref) && (decide (a.cost = b.cost) && decide (a.tags = b.tags)))
/-- Are they the same? -/
def samP (a b : At) : Bool := eqP a b || (!a.ok && !b.ok)
/-- The best of some, from one on. -/
def bestF (x : At) : List At → At
  | [] => x
  | a :: l => bestF (if betP a x then a else x) l
def bestP (l : List At) : At := bestF At.zero l

theorem at_eq (a b : At) : a = b ↔ a.ok = b.ok ∧ a.pref = b.pref ∧ a.cost = b.cost ∧ a.tags = b.tags := by
  cases a; cases b; simp
theorem bet_iff (a b : At) : betP a b = true ↔ a.ok = true ∧ (b.ok = false ∨ (b.ok = true ∧ (b.pref < a.pref ∨ (a.pref = b.pref ∧ (a.cost < b.cost ∨ (a.cost = b.cost ∧ a.tags < b.tags)))))) := by
  unfold betP
  cases a.ok <;> cases b.ok <;> simp
theorem sam_iff (a b : At) : samP a b = true ↔ (a.ok = false ∧ b.ok = false) ∨ (a.ok = b.ok ∧ a.pref = b.pref ∧ a.cost = b.cost ∧ a.tags = b.tags) := by
  unfold samP eqP
  simp only [Bool.or_eq_true, Bool.and_eq_true, decide_eq_true_iff]
  cases a.ok <;> cases b.ok <;> simp
theorem bool_of {x y : Bool} (h : x = true ↔ y = true) : x = y := by cases x <;> cases y <;> simp_all
theorem bool_iff (x : Bool) : x = false ↔ ¬ x = true := by cases x <;> simp
theorem eqP_iff (a b : At) : eqP a b = true ↔ a = b := by
  rw [at_eq]
  simp [eqP]
theorem sam_self (a : At) : samP a a = true := by simp [samP, eqP]
theorem sam_turn (a b : At) : samP a b = samP b a := by
  apply bool_of
  rw [sam_iff, sam_iff]
  constructor
  · rintro (⟨h1, h2⟩ | ⟨h1, h2, h3, h4⟩)
    · exact .inl ⟨h2, h1⟩
    · exact .inr ⟨h1.symm, h2.symm, h3.symm, h4.symm⟩
  · rintro (⟨h1, h2⟩ | ⟨h1, h2, h3, h4⟩)
    · exact .inl ⟨h2, h1⟩
    · exact .inr ⟨h1.symm, h2.symm, h3.symm, h4.symm⟩
/-- None is better than itself, and one way alone. -/
theorem bet_not {a b : At} (h : betP a b = true) : betP b a = false := by
  rw [bool_iff, bet_iff]
  obtain ⟨h1, h2⟩ := (bet_iff a b).1 h
  rintro ⟨g1, g2⟩
  rcases h2 with h2 | ⟨_, h2⟩
  · rw [h2] at g1; cases g1
  · rcases g2 with g2 | ⟨_, g2⟩
    · rw [h1] at g2; cases g2
    · omega
theorem bet_self (a : At) : betP a a = false := by
  cases h : betP a a with
  | false => rfl
  | true => rw [bet_not h] at h; exact h.symm
theorem bet_trans {a b c : At} (h1 : betP a b = true) (h2 : betP b c = true) : betP a c = true := by
  rw [bet_iff] at *
  obtain ⟨a1, h1⟩ := h1
  obtain ⟨b1, h2⟩ := h2
  refine ⟨a1, ?_⟩
  rcases h1 with h1 | ⟨_, h1⟩
  · rw [b1] at h1; cases h1
  · rcases h2 with h2 | ⟨h3, h2⟩
    · exact .inl h2
    · exact .inr ⟨h3, by omega⟩
/-- Of two that are not the same, one is better. -/
theorem bet_or (a b : At) : (betP a b || betP b a) = !samP a b := by
  have h2 : samP a b = false ↔ ¬ ((a.ok = false ∧ b.ok = false) ∨ (a.ok = b.ok ∧ a.pref = b.pref ∧ a.cost = b.cost ∧ a.tags = b.tags)) := by rw [bool_iff, sam_iff]
  apply bool_of
  rw [Bool.or_eq_true, bet_iff, bet_iff, Bool.not_eq_true', h2]
  cases ha : a.ok <;> cases hb : b.ok <;> simp <;> omega
/-- What is not worse than what is not worse. -/
theorem bet_no_trans {a b c : At} (h1 : betP a b = false) (h2 : betP b c = false) : betP a c = false := by
  rw [bool_iff, bet_iff] at *
  cases ha : a.ok <;> cases hb : b.ok <;> cases hc : c.ok <;> simp_all <;> omega
theorem bet_same {a b : At} (h : samP a b = true) (c : At) : betP a c = betP b c ∧ betP c a = betP c b := by
  rw [sam_iff] at h
  constructor <;> apply bool_of <;> rw [bet_iff, bet_iff] <;> cases ha : a.ok <;> cases hb : b.ok <;> simp_all
end Go.Proofs.Ytphhfjfdanlhiaa
