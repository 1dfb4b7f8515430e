/- Tokens as plain data: what may be a name, which piece is which token, what tokens a text has. No program. -/
import Derived.Test.YtejhgifadohbiaaGreatDoorHA
namespace Go.Proofs.YtejhgifadohbiaaGreatDoor
open Go.Lib

def letP (c : UInt8) : Bool := decide (97 ≤ c.toNat) && decide (c.toNat ≤ 122)
def digP (c : UInt8) : Bool := decide (48 ≤ c.toNat) && decide (c.toNat ≤ 57)
def nmcP (c : UInt8) : Bool := letP c || digP c || decide (c.toNat = 45)
def prtP (c : UInt8) : Bool := letP c || digP c || decide (c.toNat = 46) || decide (c.toNat = 47) || decide (c.toNat = 45)
def blkP (c : UInt8) : Bool := decide (c.toNat = 32) || decide (c.toNat = 9) || decide (c.toNat = 10)
def sgnP (c : UInt8) : Bool := decide (c.toNat = 123) || decide (c.toNat = 125) || decide (c.toNat = 59)
def nlfP (c : UInt8) : Bool := !decide (c.toNat = 10)
def hdP : List UInt8 → Bool
  | [] => false
  | c :: _ => letP c
/-- It may be a name. -/
def nameP (l : List UInt8) : Bool := decide (1 ≤ l.length) && decide (l.length ≤ 16) && hdP l && l.all nmcP
/-- The number of 0 to 999999 whose text it is. -/
def tnP (l : List UInt8) : Option Nat := if l.length < 1 ∨ 6 < l.length ∨ (1 < l.length ∧ l.head? = some 48) then none else accP 0 l

/-- A token. -/
structure Tk where
  kind : Nat
  text : List UInt8
  val : Nat
  a : Nat
  b : Nat
  pl : Nat
def endT (k : Nat) : Tk := ⟨0, [], 0, 0, 0, k⟩
/-- The token of a piece. -/
def pieceP (l : List UInt8) : Option Tk :=
  if nameP l = true then some ⟨1, l, 0, 0, 0, 0⟩
  else match parseP l with
    | some r => some ⟨3, l, 0, r.1, r.2, 0⟩
    | none => match tnP l with
      | some n => some ⟨2, l, n, 0, 0, 0⟩
      | none => none
def atT (t : Tk) (k : Nat) : Tk := ⟨t.kind, t.text, t.val, t.a, t.b, k⟩
/-- How many bytes ahead are so. -/
def spanN (p : UInt8 → Bool) : List UInt8 → Nat
  | [] => 0
  | c :: r => if p c = true then spanN p r + 1 else 0
/-- Tokens ahead of what comes. -/
def addT (ts : List Tk) : Nat ⊕ List Tk → Nat ⊕ List Tk
  | .inl k => .inl k
  | .inr l => .inr (ts ++ l)
/-- The tokens of a text from a place on, or the place where there is none; the first bytes are passed over. -/
def toks : List UInt8 → Nat → Nat → Nat ⊕ List Tk
  | [], _, i => .inr [endT i]
  | _ :: r, k + 1, i => toks r k (i + 1)
  | c :: r, 0, i =>
    if blkP c = true then toks r 0 (i + 1)
    else if c.toNat = 35 then toks r (spanN nlfP r) (i + 1)
    else if sgnP c = true then addT [⟨4, [c], 0, 0, 0, i⟩] (toks r 0 (i + 1))
    else match pieceP ((c :: r).take (spanN prtP (c :: r))) with
      | none => .inl i
      | some t => addT [atT t i] (toks r (spanN prtP (c :: r) - 1) (i + 1))
theorem add_add (x y : List Tk) (r : Nat ⊕ List Tk) : addT x (addT y r) = addT (x ++ y) r := by
  cases r <;> simp [addT]
theorem add_nil (r : Nat ⊕ List Tk) : addT [] r = r := by cases r <;> rfl
theorem span_le (p : UInt8 → Bool) : ∀ l, spanN p l ≤ l.length
  | [] => Nat.le_refl _
  | c :: r => by
    have := span_le p r
    rw [spanN]
    split
    · simp; omega
    · simp
theorem toks_skip : ∀ (l : List UInt8) (k i : Nat), k ≤ l.length → toks l k i = toks (l.drop k) 0 (i + k)
  | [], k, i, h => by
    obtain rfl : k = 0 := by simpa using h
    rfl
  | c :: r, 0, i, _ => rfl
  | c :: r, k + 1, i, h => by
    rw [toks, toks_skip r k (i + 1) (by simpa using h)]
    rw [List.drop_succ_cons]
    congr 1
    omega
/-- The tokens from a place of a text on. -/
def fromT (l : List UInt8) (i : Nat) : Nat ⊕ List Tk := toks (l.drop i) 0 i
section
variable {l : List UInt8} {i : Nat}
theorem drop_at (h : i < l.length) : l.drop i = l.getD i 0 :: l.drop (i + 1) := by
  rw [List.drop_eq_getElem_cons h]
  simp [List.getD, h]
theorem from_end (h : l.length ≤ i) : fromT l i = .inr [endT i] := by
  unfold fromT
  rw [List.drop_of_length_le h]
  rfl
theorem from_blk (h : i < l.length) (hb : blkP (l.getD i 0) = true) : fromT l i = fromT l (i + 1) := by
  unfold fromT
  rw [drop_at h, toks, if_pos hb]
theorem span_stop {p : UInt8 → Bool} (h : i < l.length) (hb : p (l.getD i 0) = false) : spanN p (l.drop i) = 0 := by
  rw [drop_at h, spanN, if_neg (by rw [hb]; simp)]
theorem span_go {p : UInt8 → Bool} (h : i < l.length) (hb : p (l.getD i 0) = true) : spanN p (l.drop i) = spanN p (l.drop (i + 1)) + 1 := by
  rw [drop_at h, spanN, if_pos hb]
theorem span_out {p : UInt8 → Bool} (h : l.length ≤ i) : spanN p (l.drop i) = 0 := by
  rw [List.drop_of_length_le h]
  rfl
theorem span_in {p : UInt8 → Bool} (h : i ≤ l.length) : i + spanN p (l.drop i) ≤ l.length := by
  have := span_le p (l.drop i)
  rw [List.length_drop] at this
  omega
theorem from_rem (h : i < l.length) (hb : blkP (l.getD i 0) = false) (hr : (l.getD i 0).toNat = 35) : fromT l i = fromT l (i + spanN nlfP (l.drop i)) := by
  have e := span_go (p := nlfP) h (by unfold nlfP; rw [hr]; rfl)
  rw [e]
  unfold fromT
  rw [drop_at h, toks, if_neg (by rw [hb]; simp), if_pos hr, toks_skip _ _ _ (span_le _ _), List.drop_drop]
  simp only [Nat.add_assoc, Nat.add_comm 1]
theorem from_sgn (h : i < l.length) (hb : blkP (l.getD i 0) = false) (hr : ¬ (l.getD i 0).toNat = 35) (hs : sgnP (l.getD i 0) = true) : fromT l i = addT [⟨4, [l.getD i 0], 0, 0, 0, i⟩] (fromT l (i + 1)) := by
  unfold fromT
  rw [drop_at h, toks, if_neg (by rw [hb]; simp), if_neg hr, if_pos hs]
/-- The piece at a place. -/
def pcAt (l : List UInt8) (i : Nat) : List UInt8 := (l.drop i).take (spanN prtP (l.drop i))
theorem piece_nil : pieceP [] = none := by decide
theorem from_bad (h : i < l.length) (hb : blkP (l.getD i 0) = false) (hr : ¬ (l.getD i 0).toNat = 35) (hs : sgnP (l.getD i 0) = false) (hp : pieceP (pcAt l i) = none) : fromT l i = .inl i := by
  unfold pcAt at hp
  unfold fromT
  rw [drop_at h] at hp ⊢
  rw [toks, if_neg (by rw [hb]; simp), if_neg hr, if_neg (by rw [hs]; simp), hp]
theorem from_pc {t : Tk} (h : i < l.length) (hb : blkP (l.getD i 0) = false) (hr : ¬ (l.getD i 0).toNat = 35) (hs : sgnP (l.getD i 0) = false) (hp : pieceP (pcAt l i) = some t) :
    fromT l i = addT [atT t i] (fromT l (i + spanN prtP (l.drop i))) ∧ 1 ≤ spanN prtP (l.drop i) := by
  have hpos : 1 ≤ spanN prtP (l.drop i) := by
    rcases Nat.eq_zero_or_pos (spanN prtP (l.drop i)) with h0 | h0
    · unfold pcAt at hp
      rw [h0, List.take_zero, piece_nil] at hp
      cases hp
    · exact h0
  refine ⟨?_, hpos⟩
  have hle := span_le prtP (l.drop i)
  rw [List.length_drop] at hle
  unfold pcAt at hp
  unfold fromT
  rw [drop_at h] at hp hpos hle ⊢
  rw [toks, if_neg (by rw [hb]; simp), if_neg hr, if_neg (by rw [hs]; simp), hp]
  simp only
  rw [toks_skip _ _ _ (by rw [List.length_drop]; omega), List.drop_drop, show ∀ s : Nat, 1 ≤ s → i + 1 + (s - 1) = i + s from fun s hs => by omega]
  exact hpos
end
theorem piece_text {l : List UInt8} {t : Tk} (h : pieceP l = some t) : t.text = l := by
  unfold pieceP at h
  split at h
  · cases h; rfl
  · split at h
    · cases h; rfl
    · split at h
      · cases h; rfl
      · cases h
end Go.Proofs.YtejhgifadohbiaaGreatDoor
