/- Texts that are laid out of tokens, one behind the other. No program. -/
import Derived.Test.YtejhgifadohbiaaDoorKY
import Derived.Test.YtejhgifadohbiaaDoorKV
import Derived.Test.YtejhgifadohbiaaDoorUA
namespace Go.Proofs.YtejhgifadohbiaaDoor
open Go.Lib

/-- The token that some bytes are, where they stand apart. -/
def tokOf (x : Bs) : Option Tk := match x with
  | [c] => if sgnP c = true then some ⟨4, [c], 0, 0, 0, 0⟩ else pieceP x
  | _ => pieceP x
/-- The token of some bytes that stand so far behind a place. -/
def tkAt (i : Nat) (p : Bs × Nat) : Tk := atT ((tokOf p.1).getD (endT 0)) (i + p.2)
/-- No piece goes on there. -/
def Stop : Bs → Prop
  | [] => True
  | c :: _ => prtP c = false
/-- A text has these tokens, whatever stands behind it (where cl is true), or where no piece goes on behind it. -/
def Lays (cl : Bool) (l : Bs) (wo : List (Bs × Nat)) : Prop := ∀ r i, (cl = true ∨ Stop r) → toks (l ++ r) 0 i = addT (wo.map (tkAt i)) (toks r 0 (i + l.length))
def Words (cl : Bool) (l : Bs) (ws : List Bs) : Prop := ∃ wo, wo.map (·.1) = ws ∧ Lays cl l wo
theorem stop_app {l r : Bs} (h1 : Stop l) (h2 : Stop r) : Stop (l ++ r) := by
  cases l with
  | nil => exact h2
  | cons c l => exact h1
theorem stop_app1 {l r : Bs} (h1 : Stop l) (h2 : l ≠ []) : Stop (l ++ r) := by
  cases l with
  | nil => exact absurd rfl h2
  | cons c l => exact h1
theorem Lays.nil : Lays true [] [] := fun _ _ _ => (add_nil _).symm
theorem Lays.open {cl : Bool} {l : Bs} {wo : List (Bs × Nat)} (h : Lays cl l wo) : Lays false l wo := fun r i hr => h r i (.inr (hr.elim (fun h => by cases h) id))
theorem Lays.app {c1 c2 : Bool} {l1 l2 : Bs} {w1 w2 : List (Bs × Nat)} (h1 : Lays c1 l1 w1) (h2 : Lays c2 l2 w2) (hc : c1 = true ∨ Stop l2 ∧ (c2 = false ∨ l2 ≠ [])) :
    Lays c2 (l1 ++ l2) (w1 ++ w2.map fun p => (p.1, p.2 + l1.length)) := by
  intro r i hr
  have h3 : c1 = true ∨ Stop (l2 ++ r) := by
    rcases hc with h | ⟨h, h'⟩
    · exact .inl h
    · rcases h' with h' | h'
      · subst h'
        exact .inr (stop_app h (hr.elim (fun h => by cases h) id))
      · exact .inr (stop_app1 h h')
  rw [List.append_assoc, h1 (l2 ++ r) i h3, h2 r (i + l1.length) hr, add_add, List.map_append, List.map_map, List.length_append, Nat.add_assoc]
  congr 2
  congr 1
  funext p
  show atT _ _ = atT _ _
  congr 1
  dsimp only
  omega
theorem Words.app {c1 c2 : Bool} {l1 l2 : Bs} {w1 w2 : List Bs} (h1 : Words c1 l1 w1) (h2 : Words c2 l2 w2) (hc : c1 = true ∨ Stop l2 ∧ (c2 = false ∨ l2 ≠ [])) : Words c2 (l1 ++ l2) (w1 ++ w2) := by
  obtain ⟨o1, e1, h1⟩ := h1
  obtain ⟨o2, e2, h2⟩ := h2
  refine ⟨_, ?_, h1.app h2 hc⟩
  rw [List.map_append, List.map_map, e1]
  congr 1
theorem Words.nil : Words true [] [] := ⟨[], rfl, Lays.nil⟩
theorem Words.open {cl : Bool} {l : Bs} {ws : List Bs} (h : Words cl l ws) : Words false l ws := by
  obtain ⟨o, e, h⟩ := h
  exact ⟨o, e, h.open⟩
theorem lays_blk {c : UInt8} (h : blkP c = true) : Lays true [c] [] := by
  intro r i _
  show toks (c :: r) 0 i = _
  rw [toks, if_pos h]
  exact (add_nil _).symm
theorem lays_sgn {c : UInt8} (h : sgnP c = true) : Lays true [c] [([c], 0)] := by
  intro r i _
  obtain ⟨e1, e2⟩ := sgn_not h
  show toks (c :: r) 0 i = _
  rw [toks, if_neg (by rw [e1]; simp), if_neg e2, if_pos h]
  show _ = addT [atT ((tokOf [c]).getD (endT 0)) (i + 0)] _
  unfold tokOf
  simp only [if_pos h]
  rfl
theorem span_stopS {r : Bs} (hr : Stop r) : ∀ (x : Bs), (∀ c ∈ x, prtP c = true) → spanN prtP (x ++ r) = x.length
  | [], _ => by
    cases r with
    | nil => rfl
    | cons c r =>
      rw [List.nil_append, spanN, if_neg (by rw [show prtP c = false from hr]; simp)]
      rfl
  | c :: x, h => by
    rw [List.cons_append, spanN, if_pos (h c (List.mem_cons_self ..)), span_stopS hr x (fun y hy => h y (List.mem_cons_of_mem _ hy))]
    rfl
theorem lays_pc {x : Bs} {q : Tk} (h3 : ∀ c ∈ x, prtP c = true) (h1 : pieceP x = some q) : Lays false x [(x, 0)] := by
  intro r i hr
  have hr' : Stop r := hr.elim (fun h => by cases h) id
  cases x with
  | nil => rw [piece_nil] at h1; cases h1
  | cons c x =>
    obtain ⟨e1, e2, e3⟩ := prt_not (h3 c (List.mem_cons_self ..))
    have hsp : spanN prtP (c :: (x ++ r)) = (c :: x).length := span_stopS hr' (c :: x) h3
    have htk : (c :: (x ++ r)).take (c :: x).length = c :: x := by
      rw [show c :: (x ++ r) = (c :: x) ++ r from rfl, List.take_left]
    have ht : tokOf (c :: x) = some q := by
      unfold tokOf
      split
      · rename_i c' e
        injection e with e _
        subst e
        rw [if_neg (by rw [e3]; simp), h1]
      · exact h1
    rw [List.cons_append, toks, if_neg (by rw [e1]; simp), if_neg e2, if_neg (by rw [e3]; simp), hsp, htk, h1]
    simp only
    rw [List.length_cons, Nat.add_sub_cancel, toks_skip _ _ _ (by simp), List.drop_left, show i + 1 + x.length = i + (x.length + 1) by omega]
    show _ = addT [atT ((tokOf (c :: x)).getD (endT 0)) (i + 0)] _
    rw [ht]
    rfl
theorem words_blk {c : UInt8} (h : blkP c = true) : Words true [c] [] := ⟨[], rfl, lays_blk h⟩
theorem words_sgn {c : UInt8} (h : sgnP c = true) : Words true [c] [[c]] := ⟨[([c], 0)], rfl, lays_sgn h⟩
theorem words_pc {x : Bs} {q : Tk} (h3 : ∀ c ∈ x, prtP c = true) (h1 : pieceP x = some q) : Words false x [x] := ⟨[(x, 0)], rfl, lays_pc h3 h1⟩
/-- A name. -/
theorem name_prt {x : Bs} (h : nameP x = true) : ∀ c ∈ x, prtP c = true := by
  intro c hc
  unfold nameP at h
  simp only [Bool.and_eq_true] at h
  have := List.all_eq_true.1 h.2 c hc
  unfold nmcP at this
  unfold prtP
  simp only [Bool.or_eq_true] at this ⊢
  rcases this with (h | h) | h
  · exact .inl (.inl (.inl (.inl h)))
  · exact .inl (.inl (.inl (.inr h)))
  · exact .inr h
theorem words_name {x : Bs} (h : nameP x = true) : Words false x [x] := words_pc (name_prt h) (show pieceP x = some _ by unfold pieceP; rw [if_pos h])
theorem words_num {n : Nat} (h : n < 1000000) : Words false (decDigits n) [decDigits n] := by
  refine words_pc (q := ⟨2, decDigits n, n, 0, 0, 0⟩) (fun c hc => dig_prt (dec_dig n c hc)) ?_
  rw [piece_digs (dec_dig n), tn_dec h]
  rfl
theorem text_prt {a b : Nat} : ∀ c ∈ textP a b, prtP c = true := by
  intro c hc
  unfold textP at hc
  simp only [List.mem_append, List.mem_singleton] at hc
  rcases hc with (((((((h | h) | h) | h) | h) | h) | h) | h) | h
  all_goals first
    | exact dig_prt (dec_dig _ c h)
    | (subst h; decide)
theorem dec_cons (n : Nat) : ∃ c r, decDigits n = c :: r ∧ digP c = true := by
  have h := dec_pos n
  cases hd : decDigits n with
  | nil => rw [hd] at h; simp at h
  | cons c r => exact ⟨c, r, rfl, dec_dig n c (by rw [hd]; exact List.mem_cons_self ..)⟩
theorem pf_piece {a b : Nat} (hm : mayP a b = true) (ha : a < 4294967296) : pieceP (textP a b) = some ⟨3, textP a b, 0, a, b, 0⟩ := by
  have hn : nameP (textP a b) = false := by
    obtain ⟨c, r, hc, hd⟩ := dec_cons (a / 16777216)
    have hh : hdP (textP a b) = false := by
      unfold textP
      rw [hc]
      show letP c = false
      have := dig_nat hd
      unfold letP
      simp
      omega
    unfold nameP
    rw [hh]
    simp
  unfold pieceP
  rw [hn, parse_at hm ha]
  rfl
theorem words_pf {a b : Nat} (hm : mayP a b = true) (ha : a < 4294967296) : Words false (textP a b) [textP a b] := words_pc text_prt (pf_piece hm ha)
/-- What a whole text's tokens are. -/
theorem Words.toks {cl : Bool} {l : Bs} {ws : List Bs} (h : Words cl l ws) : ∃ wo : List (Bs × Nat), wo.map (·.1) = ws ∧ toks l 0 0 = .inr (wo.map (tkAt 0) ++ [endT l.length]) := by
  obtain ⟨wo, e, h⟩ := h
  refine ⟨wo, e, ?_⟩
  have := h [] 0 (.inr trivial)
  rw [List.append_nil] at this
  rw [this, Nat.zero_add]
  rfl
end Go.Proofs.YtejhgifadohbiaaDoor
