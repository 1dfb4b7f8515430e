/- The text of ParseNumbers, and what is read of it. No program. -/
import Derived.Test.YtejhgifadohbiaaDoorPI
namespace Go.Proofs.YtejhgifadohbiaaDoor
open Go.Lib

def nbHead : Bs := [109, 97, 112, 32, 109, 32, 123, 32, 105, 102, 32, 97, 110, 121, 32, 119, 105, 116, 104, 32]
def nbThen : Bs := [32, 116, 104, 101, 110, 32, 109, 111, 114, 101, 32]
def nbPref : Bs := [32, 112, 114, 101, 102, 32]
def nbRout : Bs := [59, 32, 125, 32, 114, 111, 117, 116, 101, 114, 32, 114, 32, 123, 32, 108, 105, 110, 107, 32, 113, 32, 99, 111, 115, 116, 32]
def nbEnd : Bs := [59, 32, 125]
def nbText (x y m p c : Nat) : Bs := nbHead ++ decDigits x ++ [32] ++ decDigits y ++ nbThen ++ decDigits m ++ nbPref ++ decDigits p ++ nbRout ++ decDigits c ++ nbEnd
theorem lays_name {x : Bs} (h : nameP x = true) : Lays false x [(x, 0)] := lays_pc (name_prt h) (show pieceP x = some _ by unfold pieceP; rw [if_pos h])
theorem lays_num {n : Nat} (h : n < 1000000) : Lays false (decDigits n) [(decDigits n, 0)] := by
  refine lays_pc (q := ⟨2, decDigits n, n, 0, 0, 0⟩) (fun c hc => dig_prt (dec_dig n c hc)) ?_
  rw [piece_digs (dec_dig n), tn_dec h]
  rfl
/-- A word, a blank behind it. -/
theorem lays_wd {x : Bs} (h : nameP x = true) : Lays true (x ++ [32]) [(x, 0)] := (lays_name h).app (lays_blk (c := 32) (by decide)) (.inr ⟨by show prtP 32 = false; decide, .inr (by simp)⟩)
theorem lays_sg {c : UInt8} (h : sgnP c = true) : Lays true [c, 32] [([c], 0)] := (lays_sgn h).app (lays_blk (c := 32) (by decide)) (.inl rfl)
theorem nb_head : Lays true nbHead [([109, 97, 112], 0), ([109], 4), ([123], 6), ([105, 102], 8), ([97, 110, 121], 11), ([119, 105, 116, 104], 15)] :=
  (((((lays_wd (x := [109, 97, 112]) (by decide)).app (lays_wd (x := [109]) (by decide)) (.inl rfl)).app (lays_sg (c := 123) (by decide)) (.inl rfl)).app (lays_wd (x := [105, 102]) (by decide)) (.inl rfl)).app
    (lays_wd (x := [97, 110, 121]) (by decide)) (.inl rfl)).app (lays_wd (x := [119, 105, 116, 104]) (by decide)) (.inl rfl)
theorem nb_then : Lays true nbThen [([116, 104, 101, 110], 1), ([109, 111, 114, 101], 6)] :=
  ((lays_blk (c := 32) (by decide)).app (lays_wd (x := [116, 104, 101, 110]) (by decide)) (.inl rfl)).app (lays_wd (x := [109, 111, 114, 101]) (by decide)) (.inl rfl)
theorem nb_pref : Lays true nbPref [([112, 114, 101, 102], 1)] := (lays_blk (c := 32) (by decide)).app (lays_wd (x := [112, 114, 101, 102]) (by decide)) (.inl rfl)
theorem nb_rout : Lays true nbRout [([59], 0), ([125], 2), ([114, 111, 117, 116, 101, 114], 4), ([114], 11), ([123], 13), ([108, 105, 110, 107], 15), ([113], 20), ([99, 111, 115, 116], 22)] :=
  (((((((lays_sg (c := 59) (by decide)).app (lays_sg (c := 125) (by decide)) (.inl rfl)).app (lays_wd (x := [114, 111, 117, 116, 101, 114]) (by decide)) (.inl rfl)).app (lays_wd (x := [114]) (by decide)) (.inl rfl)).app (lays_sg (c := 123) (by decide)) (.inl rfl)).app
    (lays_wd (x := [108, 105, 110, 107]) (by decide)) (.inl rfl)).app (lays_wd (x := [113]) (by decide)) (.inl rfl)).app (lays_wd (x := [99, 111, 115, 116]) (by decide)) (.inl rfl)
theorem nb_end : Lays true nbEnd [([59], 0), ([125], 2)] := (lays_sg (c := 59) (by decide)).app (lays_sgn (c := 125) (by decide)) (.inl rfl)
def nm (x : Bs) (p : Nat) : Tk := ⟨1, x, 0, 0, 0, p⟩
def sg (c : UInt8) (p : Nat) : Tk := ⟨4, [c], 0, 0, 0, p⟩
def nr (n p : Nat) : Tk := ⟨2, decDigits n, n, 0, 0, p⟩
theorem at_nm {x : Bs} (h : nameP x = true) (p : Nat) : tkAt 0 (x, p) = nm x p := by
  show atT (tk0 x) (0 + p) = _
  rw [tok_name h, Nat.zero_add]
  rfl
theorem at_sg {c : UInt8} (h : sgnP c = true) (p : Nat) : tkAt 0 ([c], p) = sg c p := by
  show atT (tk0 [c]) (0 + p) = _
  rw [tok_sgn h, Nat.zero_add]
  rfl
theorem at_nr {n : Nat} (h : n < 1000000) (p : Nat) : tkAt 0 (decDigits n, p) = nr n p := by
  show atT (tk0 (decDigits n)) (0 + p) = _
  rw [tok_num h, Nat.zero_add]
  rfl
/-- Its tokens. -/
def nbTks (x y m p c lm lp lc : Nat) : List Tk :=
  [nm [109, 97, 112] 0, nm [109] 4, sg 123 6, nm [105, 102] 8, nm [97, 110, 121] 11, nm [119, 105, 116, 104] 15, nr x 20, nr y 22, nm [116, 104, 101, 110] 24, nm [109, 111, 114, 101] 29, nr m 34, nm [112, 114, 101, 102] (35 + lm), nr p (40 + lm),
    sg 59 (40 + lm + lp), sg 125 (42 + lm + lp), nm [114, 111, 117, 116, 101, 114] (44 + lm + lp), nm [114] (51 + lm + lp), sg 123 (53 + lm + lp), nm [108, 105, 110, 107] (55 + lm + lp), nm [113] (60 + lm + lp), nm [99, 111, 115, 116] (62 + lm + lp),
    nr c (67 + lm + lp), sg 59 (67 + lm + lp + lc), sg 125 (69 + lm + lp + lc), endT (70 + lm + lp + lc)]
theorem nb_toks {x y m p c : Nat} (hx : x < 10) (hy : y < 10) (hm : m < 1000) (hp : p < 1000) (hc : c < 10000) : toks (nbText x y m p c) 0 0 = .inr (nbTks x y m p c (decDigits m).length (decDigits p).length (decDigits c).length) := by
  have hdx : (decDigits x).length = 1 := by rw [decDigits_one hx]; rfl
  have hdy : (decDigits y).length = 1 := by rw [decDigits_one hy]; rfl
  have L1 := nb_head.app (lays_num (n := x) (by omega)) (.inl rfl)
  have L2 := L1.app (lays_blk (c := 32) (by decide)) (.inr ⟨by show prtP 32 = false; decide, .inr (by simp)⟩)
  have L3 := L2.app (lays_num (n := y) (by omega)) (.inl rfl)
  have L4 := L3.app nb_then (.inr ⟨by show prtP 32 = false; decide, .inr (by simp [nbThen])⟩)
  have L5 := L4.app (lays_num (n := m) (by omega)) (.inl rfl)
  have L6 := L5.app nb_pref (.inr ⟨by show prtP 32 = false; decide, .inr (by simp [nbPref])⟩)
  have L7 := L6.app (lays_num (n := p) (by omega)) (.inl rfl)
  have L8 := L7.app nb_rout (.inr ⟨by show prtP 59 = false; decide, .inr (by simp [nbRout])⟩)
  have L9 := L8.app (lays_num (n := c) (by omega)) (.inl rfl)
  have L10 := L9.app nb_end (.inr ⟨by show prtP 59 = false; decide, .inr (by simp [nbEnd])⟩)
  have := L10 [] 0 (.inl rfl)
  rw [List.append_nil] at this
  unfold nbText
  rw [this]
  have e1 : nbHead.length = 20 := rfl
  have e2 : nbThen.length = 11 := rfl
  have e3 : nbPref.length = 6 := rfl
  have e4 : nbRout.length = 27 := rfl
  have e5 : nbEnd.length = 3 := rfl
  simp only [List.map_cons, List.map_nil, List.cons_append, List.nil_append, List.length_append, List.length_cons, List.length_nil, hdx, hdy, e1, e2, e3, e4, e5, at_nr (show x < 1000000 by omega), at_nr (show y < 1000000 by omega),
    at_nr (show m < 1000000 by omega), at_nr (show p < 1000000 by omega), at_nr (show c < 1000000 by omega), at_nm (x := [109, 97, 112]) (by decide), at_nm (x := [109]) (by decide), at_sg (c := 123) (by decide), at_nm (x := [105, 102]) (by decide),
    at_nm (x := [97, 110, 121]) (by decide), at_nm (x := [119, 105, 116, 104]) (by decide), at_nm (x := [116, 104, 101, 110]) (by decide), at_nm (x := [109, 111, 114, 101]) (by decide), at_nm (x := [112, 114, 101, 102]) (by decide), at_sg (c := 59) (by decide), at_sg (c := 125) (by decide),
    at_nm (x := [114, 111, 117, 116, 101, 114]) (by decide), at_nm (x := [114]) (by decide), at_nm (x := [108, 105, 110, 107]) (by decide), at_nm (x := [113]) (by decide), at_nm (x := [99, 111, 115, 116]) (by decide)]
  generalize (decDigits m).length = lm, (decDigits p).length = lp, (decDigits c).length = lc
  rw [toks]
  unfold nbTks
  simp only [addT, List.cons_append, List.nil_append]
  simp [nm, sg, nr, endT]
  omega
theorem andR_no {α β : Type} {x : Res α} {f : α → List Tk → Res β} {e : Nat × Nat} (h : x = .inl e) : andR x f = .inl e := by rw [h]; rfl
section
variable {β : Type} {w : Bs} {t : Tk} {r : List Tk}
theorem andV {α : Type} {a : α} {f : α → List Tk → Res β} : andR (.inr (a, r)) f = f a r := rfl
theorem andW {f : Nat → List Tk → Res β} (h : t.text = w) : andR (wordR w (t :: r)) f = f t.pl r := andR_ok (if_pos h)
theorem andN {f : Bs → List Tk → Res β} (h : t.kind = 1) : andR (nameR (t :: r)) f = f t.text r := andR_ok (if_pos h)
theorem andAny {f : Bool × Nat × Int → List Tk → Res β} (h : t.text = [97, 110, 121]) : andR (onR (t :: r)) f = f (true, 0, 0) r := andR_ok (if_pos h)
theorem andT0 {f : Nat → List Tk → Res β} (h : ¬ t.text = w) : andR (optT w (t :: r)) f = f 0 (t :: r) := andR_ok (if_neg h)
theorem andB0 {f : Bool → List Tk → Res β} (h : ¬ t.text = w) : andR (optB w (t :: r)) f = f false (t :: r) := andR_ok (if_neg h)
theorem andS0 {f : Bs → List Tk → Res β} (h : ¬ t.text = w) : andR (optS w (t :: r)) f = f [] (t :: r) := andR_ok (if_neg h)
theorem andM0 {α : Type} {g : List Tk → Res α} {n : Nat} {f : List α → List Tk → Res β} (h : ¬ t.text = w) : andR (manyR w g n (t :: r)) f = f [] (t :: r) := andR_ok (by cases n <;> rw [manyR, if_neg h])
theorem andM1 {α : Type} {g : List Tk → Res α} {n : Nat} {f : List α → List Tk → Res β} (h : t.text = w) : andR (manyR w g (n + 1) (t :: r)) f = andR (g (t :: r)) fun c r => andR (manyR w g n r) fun cs r => f (c :: cs) r := by
  rw [manyR, if_pos h]
  cases hg : g (t :: r) with
  | inl e => rfl
  | inr p =>
    show andR (andR (manyR w g n p.2) _) f = andR (manyR w g n p.2) _
    cases manyR w g n p.2 <;> rfl
theorem andC0 {n : Nat} {f : List ClD → List Tk → Res β} (h : t.text = [125]) : andR (clasR n (t :: r)) f = f [] (t :: r) := andR_ok (by cases n <;> rw [clasR, if_pos h])
theorem andC1 {n : Nat} {f : List ClD → List Tk → Res β} (h : ¬ t.text = [125]) : andR (clasR (n + 1) (t :: r)) f = andR (claR (t :: r)) fun c r => andR (clasR n r) fun cs r => f (c :: cs) r := by
  rw [clasR, if_neg h]
  cases hg : claR (t :: r) with
  | inl e => rfl
  | inr p =>
    show andR (andR (clasR n p.2) _) f = andR (clasR n p.2) _
    cases clasR n p.2 <;> rfl
theorem andQ {most : Nat} {f : Int → List Tk → Res β} (h : t.kind = 2) : andR (nbrR most (t :: r)) f = if 1 ≤ t.val ∧ t.val ≤ most then f t.val r else .inl (6, t.pl) := by
  rw [nbrR, if_pos h]
  split <;> rfl
theorem andO {most : Nat} {u : Tk} {f : Int → List Tk → Res β} (h : t.text = w) (hk : u.kind = 2) : andR (optN w most (t :: u :: r)) f = if 1 ≤ u.val ∧ u.val ≤ most then f u.val r else .inl (6, u.pl) := by
  rw [optN, if_pos h]
  exact andQ hk
theorem andT2 {u v : Tk} {f : Nat → List Tk → Res β} (h : t.text = w) (h1 : u.kind = 2) (h2 : v.kind = 2) {z : Tk} (h3 : ¬ z.kind = 2) :
    andR (optT w (t :: u :: v :: z :: r)) f = if 3 < u.val then .inl (6, u.pl) else if 3 < v.val then .inl (6, v.pl) else if v.val < u.val + 1 then .inl (4, v.pl) else f (0 + 2 ^ u.val + 2 ^ v.val) (z :: r) := by
  rw [optT, if_pos h, tag1, if_pos h1, tagsR, if_pos h1]
  split
  · rfl
  rw [if_neg (Nat.not_lt_zero _), tagsR, if_pos h2]
  split
  · rfl
  split
  · rfl
  rw [tagsR, if_neg h3]
  rfl
end
/-- What is read of it. -/
def nbSaid (x y m p c lm lp : Nat) : Option (Nat × Nat) :=
  if 3 < x then some (6, 20) else if 3 < y then some (6, 22) else if y < x + 1 then some (4, 22) else if 1 ≤ m ∧ m ≤ 15 then (if 1 ≤ p ∧ p ≤ 255 then (if 1 ≤ c ∧ c ≤ 1000 then none else some (6, 67 + lm + lp)) else some (6, 40 + lm)) else some (6, 34)
def nbRes (o : Option (Nat × Nat)) (d : CfD) : Res CfD := match o with
  | some e => .inl e
  | none => .inr (d, [])
theorem nb_cfg (x y m p c lm lp lc : Nat) : ∃ d, cfgR (nbTks x y m p c lm lp lc) = nbRes (nbSaid x y m p c lm lp) d := by
  refine ⟨⟨[⟨[109], [⟨true, 0, 0, 0 + 2 ^ x + 2 ^ y, 0, false, 0, 0, m, p⟩], 0⟩], [⟨[114], [], [⟨[113], c, [], [], ((55 + lm + lp : Nat) : Int)⟩], [], ((44 + lm + lp : Nat) : Int)⟩]⟩, ?_⟩
  unfold cfgR nbTks
  refine Eq.trans (andM1 rfl) ?_
  unfold mapR
  refine Eq.trans (congrArg (fun z => andR z _) (Eq.trans (andW rfl) (Eq.trans (andN rfl) (Eq.trans (andW rfl) (Eq.trans (andC1 (by show ¬ ([105, 102] : Bs) = [125]; decide)) rfl))))) ?_
  unfold claR
  refine Eq.trans (congrArg (fun z => andR (andR z _) _) (Eq.trans (andW rfl) (Eq.trans (andAny rfl) (andT2 rfl rfl rfl (by show ¬ (1 : Nat) = 2; decide))))) ?_
  unfold nbSaid
  by_cases h1 : 3 < x
  · rw [if_pos h1]
    show andR (andR (if 3 < x then _ else _) _) _ = _
    rw [if_pos h1]
    rfl
  rw [if_neg h1]
  show andR (andR (if 3 < x then _ else _) _) _ = _
  rw [if_neg h1]
  by_cases h2 : 3 < y
  · rw [if_pos h2]
    show andR (andR (if 3 < y then _ else _) _) _ = _
    rw [if_pos h2]
    rfl
  rw [if_neg h2]
  show andR (andR (if 3 < y then _ else _) _) _ = _
  rw [if_neg h2]
  by_cases h3 : y < x + 1
  · rw [if_pos h3]
    show andR (andR (if y < x + 1 then _ else _) _) _ = _
    rw [if_pos h3]
    rfl
  rw [if_neg h3]
  show andR (andR (if y < x + 1 then _ else _) _) _ = _
  rw [if_neg h3]
  refine Eq.trans (congrArg (fun z => andR (andR z _) _) (Eq.trans (andT0 (by show ¬ ([116, 104, 101, 110] : Bs) = [111, 117, 116]; decide)) (Eq.trans (andW rfl) (Eq.trans (andB0 (by show ¬ ([109, 111, 114, 101] : Bs) = [100, 114, 111, 112]; decide))
    (Eq.trans (andT0 (by show ¬ ([109, 111, 114, 101] : Bs) = [115, 101, 116]; decide)) (Eq.trans (andT0 (by show ¬ ([109, 111, 114, 101] : Bs) = [99, 108, 101, 97, 114]; decide)) (andO rfl rfl))))))) ?_
  by_cases h4 : 1 ≤ m ∧ m ≤ 15
  · rw [if_pos h4]
    show andR (andR (if 1 ≤ m ∧ m ≤ 15 then _ else _) _) _ = _
    rw [if_pos h4]
    refine Eq.trans (congrArg (fun z => andR (andR z _) _) (andO rfl rfl)) ?_
    by_cases h5 : 1 ≤ p ∧ p ≤ 255
    · rw [if_pos h5]
      show andR (andR (if 1 ≤ p ∧ p ≤ 255 then _ else _) _) _ = _
      rw [if_pos h5]
      refine Eq.trans (congrArg (fun z => andR (andR z _) _) (andW rfl)) ?_
      refine Eq.trans (congrArg (fun z => andR z _) (Eq.trans andV (Eq.trans (andC0 rfl) (andW rfl)))) ?_
      refine Eq.trans andV ?_
      refine Eq.trans (andM0 (by show ¬ ([114, 111, 117, 116, 101, 114] : Bs) = [109, 97, 112]; decide)) ?_
      refine Eq.trans (andM1 rfl) ?_
      unfold rouR
      refine Eq.trans (congrArg (fun z => andR z _) (Eq.trans (andW rfl) (Eq.trans (andN rfl) (Eq.trans (andW rfl) (Eq.trans (andM0 (by show ¬ ([108, 105, 110, 107] : Bs) = [110, 101, 116]; decide)) (Eq.trans (andM1 rfl) rfl)))))) ?_
      unfold lnkR
      refine Eq.trans (congrArg (fun z => andR (andR z _) _) (Eq.trans (andW rfl) (Eq.trans (andN rfl) (Eq.trans (andW rfl) (andQ rfl))))) ?_
      by_cases h6 : 1 ≤ c ∧ c ≤ 1000
      · rw [if_pos h6]
        show andR (andR (if 1 ≤ c ∧ c ≤ 1000 then _ else _) _) _ = _
        rw [if_pos h6]
        refine Eq.trans (congrArg (fun z => andR (andR z _) _) (Eq.trans (andS0 (by show ¬ ([59] : Bs) = [105, 109, 112, 111, 114, 116]; decide)) (Eq.trans (andS0 (by show ¬ ([59] : Bs) = [101, 120, 112, 111, 114, 116]; decide)) (andW rfl)))) ?_
        refine Eq.trans (congrArg (fun z => andR z _) (Eq.trans andV (Eq.trans (andM0 (by show ¬ ([125] : Bs) = [108, 105, 110, 107]; decide)) (Eq.trans (andM0 (by show ¬ ([125] : Bs) = [115, 116, 97, 116, 105, 99]; decide)) (andW rfl))))) ?_
        refine Eq.trans andV ?_
        refine Eq.trans (andM0 (by show ¬ ([] : Bs) = [114, 111, 117, 116, 101, 114]; decide)) ?_
        rfl
      · rw [if_neg h6]
        show andR (andR (if 1 ≤ c ∧ c ≤ 1000 then _ else _) _) _ = _
        rw [if_neg h6]
        rfl
    · rw [if_neg h5]
      show andR (andR (if 1 ≤ p ∧ p ≤ 255 then _ else _) _) _ = _
      rw [if_neg h5]
      rfl
  · rw [if_neg h4]
    show andR (andR (if 1 ≤ m ∧ m ≤ 15 then _ else _) _) _ = _
    rw [if_neg h4]
    rfl
theorem nb_len {x y m p c : Nat} (hx : x < 10) (hy : y < 10) (hm : m < 1000) (hp : p < 1000) (hc : c < 10000) : (nbText x y m p c).length ≤ 100 := by
  have h1 : (decDigits x).length = 1 := by rw [decDigits_one hx]; rfl
  have h2 : (decDigits y).length = 1 := by rw [decDigits_one hy]; rfl
  have h3 := dig_len 2 m (by omega)
  have h4 := dig_len 2 p (by omega)
  have h5 := dig_len 3 c (by omega)
  unfold nbText
  simp only [List.length_append, h1, h2, nbHead, nbThen, nbPref, nbRout, nbEnd, List.length_cons, List.length_nil]
  omega
/-- What is read of the text. -/
theorem nb_read {x y m p c : Nat} (hx : x < 10) (hy : y < 10) (hm : m < 1000) (hp : p < 1000) (hc : c < 10000) :
    match nbSaid x y m p c (decDigits m).length (decDigits p).length with
    | some e => readP (nbText x y m p c) = .inl e
    | none => ∃ d, readP (nbText x y m p c) = .inr d := by
  obtain ⟨d, h⟩ := nb_cfg x y m p c (decDigits m).length (decDigits p).length (decDigits c).length
  have hl := nb_len hx hy hm hp hc
  unfold readP
  rw [if_neg (by omega), nb_toks hx hy hm hp hc]
  simp only [h]
  cases nbSaid x y m p c (decDigits m).length (decDigits p).length with
  | some e => rfl
  | none => exact ⟨d, rfl⟩
end Go.Proofs.YtejhgifadohbiaaDoor
