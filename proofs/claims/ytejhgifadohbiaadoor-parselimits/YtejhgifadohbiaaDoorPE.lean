/- What is read of tokens, as the document says: plain data. No program. -/
import Derived.Test.YtejhgifadohbiaaDoorPD
namespace Go.Proofs.YtejhgifadohbiaaDoor
open Go.Lib

/-- An error and where; or what is read, and what is left. -/
abbrev Res (α : Type) := (Nat × Nat) ⊕ (α × List Tk)
def andR {α β : Type} (x : Res α) (f : α → List Tk → Res β) : Res β := match x with
  | .inl e => .inl e
  | .inr (a, r) => f a r
theorem andR_ok {α β : Type} {x : Res α} {f : α → List Tk → Res β} {a : α} {r : List Tk} (h : x = .inr (a, r)) : andR x f = f a r := by rw [h]; rfl
theorem andR_inr {α β : Type} {x : Res α} {f : α → List Tk → Res β} {y : β × List Tk} (h : andR x f = .inr y) : ∃ a r, x = .inr (a, r) ∧ f a r = .inr y := by
  cases x with
  | inl e => cases h
  | inr p => exact ⟨p.1, p.2, rfl, h⟩
/-- A token that must stand there. -/
def wordR (w : Bs) : List Tk → Res Nat
  | [] => .inl (2, 0)
  | t :: r => if t.text = w then .inr (t.pl, r) else .inl (2, t.pl)
def nameR : List Tk → Res Bs
  | [] => .inl (2, 0)
  | t :: r => if t.kind = 1 then .inr (t.text, r) else .inl (2, t.pl)
def pfxR : List Tk → Res (Nat × Int)
  | [] => .inl (2, 0)
  | t :: r => if t.kind = 3 then .inr ((t.a, (t.b : Int)), r) else .inl (2, t.pl)
def nbrR (most : Nat) : List Tk → Res Int
  | [] => .inl (2, 0)
  | t :: r => if t.kind = 2 then (if 1 ≤ t.val ∧ t.val ≤ most then .inr ((t.val : Int), r) else .inl (6, t.pl)) else .inl (2, t.pl)
/-- Behind a word, if it is there. -/
def optN (w : Bs) (most : Nat) : List Tk → Res Int
  | [] => .inr (0, [])
  | t :: r => if t.text = w then nbrR most r else .inr (0, t :: r)
def optS (w : Bs) : List Tk → Res Bs
  | [] => .inr ([], [])
  | t :: r => if t.text = w then nameR r else .inr ([], t :: r)
def optB (w : Bs) : List Tk → Res Bool
  | [] => .inr (false, [])
  | t :: r => if t.text = w then .inr (true, r) else .inr (false, t :: r)
def tagsR : List Tk → Nat → Nat → Res Nat
  | [], bits, _ => .inr (bits, [])
  | t :: r, bits, lo => if t.kind = 2 then (if 3 < t.val then .inl (6, t.pl) else if t.val < lo then .inl (4, t.pl) else tagsR r (bits + 2 ^ t.val) (t.val + 1)) else .inr (bits, t :: r)
def tag1 : List Tk → Res Nat
  | [] => .inl (2, 0)
  | t :: r => if t.kind = 2 then tagsR (t :: r) 0 0 else .inl (2, t.pl)
def optT (w : Bs) : List Tk → Res Nat
  | [] => .inr (0, [])
  | t :: r => if t.text = w then tag1 r else .inr (0, t :: r)
/-- Any, or a net. -/
def onR : List Tk → Res (Bool × Nat × Int)
  | [] => .inl (2, 0)
  | t :: r => if t.text = [97, 110, 121] then .inr ((true, 0, 0), r) else if t.kind = 3 then .inr ((false, t.a, (t.b : Int)), r) else .inl (2, t.pl)
def claR (ts : List Tk) : Res ClD :=
  andR (wordR [105, 102] ts) fun _ r => andR (onR r) fun o r => andR (optT [119, 105, 116, 104] r) fun wi r => andR (optT [111, 117, 116] r) fun ou r => andR (wordR [116, 104, 101, 110] r) fun _ r =>
  andR (optB [100, 114, 111, 112] r) fun d r => andR (optT [115, 101, 116] r) fun se r => andR (optT [99, 108, 101, 97, 114] r) fun cl r => andR (optN [109, 111, 114, 101] 15 r) fun m r => andR (optN [112, 114, 101, 102] 255 r) fun p r =>
  andR (wordR [59] r) fun _ r => .inr (⟨o.1, o.2.1, o.2.2, wi, ou, d, se, cl, m, p⟩, r)
/-- Clauses up to the brace, at most so many. -/
def clasR : Nat → List Tk → Res (List ClD)
  | _, [] => .inr ([], [])
  | n, t :: r => if t.text = [125] then .inr ([], t :: r) else match n with
    | 0 => .inl (7, t.pl)
    | n + 1 => andR (claR (t :: r)) fun c r => andR (clasR n r) fun cs r => .inr (c :: cs, r)
/-- Things that begin with a word, at most so many. -/
def manyR {α : Type} (w : Bs) (f : List Tk → Res α) : Nat → List Tk → Res (List α)
  | _, [] => .inr ([], [])
  | n, t :: r => if t.text = w then (match n with
    | 0 => .inl (7, t.pl)
    | n + 1 => andR (f (t :: r)) fun c r => andR (manyR w f n r) fun cs r => .inr (c :: cs, r)) else .inr ([], t :: r)
def mapR (ts : List Tk) : Res MpD :=
  andR (wordR [109, 97, 112] ts) fun p r => andR (nameR r) fun n r => andR (wordR [123] r) fun _ r => andR (clasR 16 r) fun cs r => andR (wordR [125] r) fun _ r => .inr (⟨n, cs, (p : Int)⟩, r)
def netR (ts : List Tk) : Res (Nat × Int) := andR (wordR [110, 101, 116] ts) fun _ r => andR (pfxR r) fun p r => andR (wordR [59] r) fun _ r => .inr (p, r)
def lnkR (ts : List Tk) : Res LkD :=
  andR (wordR [108, 105, 110, 107] ts) fun p r => andR (nameR r) fun n r => andR (wordR [99, 111, 115, 116] r) fun _ r => andR (nbrR 1000 r) fun c r => andR (optS [105, 109, 112, 111, 114, 116] r) fun i r => andR (optS [101, 120, 112, 111, 114, 116] r) fun e r =>
  andR (wordR [59] r) fun _ r => .inr (⟨n, c, i, e, (p : Int)⟩, r)
def staR (ts : List Tk) : Res StD :=
  andR (wordR [115, 116, 97, 116, 105, 99] ts) fun p r => andR (pfxR r) fun x r => andR (wordR [118, 105, 97] r) fun _ r => andR (nameR r) fun n r => andR (wordR [59] r) fun _ r => .inr (⟨x.1, x.2, n, (p : Int)⟩, r)
def rouR (ts : List Tk) : Res RoD :=
  andR (wordR [114, 111, 117, 116, 101, 114] ts) fun p r => andR (nameR r) fun n r => andR (wordR [123] r) fun _ r => andR (manyR [110, 101, 116] netR 8 r) fun ns r => andR (manyR [108, 105, 110, 107] lnkR 64 r) fun ls r =>
  andR (manyR [115, 116, 97, 116, 105, 99] staR 8 r) fun ss r => andR (wordR [125] r) fun _ r => .inr (⟨n, ns, ls, ss, (p : Int)⟩, r)
def endR : List Tk → Res Nat
  | [] => .inl (2, 0)
  | t :: r => if t.kind = 0 then .inr (t.pl, r) else .inl (2, t.pl)
/-- The configuration that tokens are. -/
def cfgR (ts : List Tk) : Res CfD :=
  andR (manyR [109, 97, 112] mapR 64 ts) fun ms r => andR (manyR [114, 111, 117, 116, 101, 114] rouR 64 r) fun rs r => andR (endR r) fun _ r => .inr (⟨ms, rs⟩, r)
/-- What is read of a text: an error and where, or a configuration. -/
def readP (l : Bs) : (Nat × Nat) ⊕ CfD :=
  if 65536 < l.length then .inl (7, 0) else match toks l 0 0 with
  | .inl k => .inl (1, k)
  | .inr ts => match cfgR ts with
    | .inl e => .inl e
    | .inr (c, _) => .inr c
end Go.Proofs.YtejhgifadohbiaaDoor
