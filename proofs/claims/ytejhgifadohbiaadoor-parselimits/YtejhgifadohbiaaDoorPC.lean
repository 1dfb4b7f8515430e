/- Blanks and remarks put in between tokens change nothing but places. No program. -/
import Derived.Test.YtejhgifadohbiaaDoorPB
namespace Go.Proofs.YtejhgifadohbiaaDoor
open Go.Lib

/-- Nothing but what is passed over. -/
def Void (W : Bs) : Prop := ∀ r i, toks (W ++ r) 0 i = toks r 0 (i + W.length)
theorem void_blk {W : Bs} (h : ∀ c ∈ W, blkP c = true) : Void W := by
  intro r i
  induction W generalizing i with
  | nil => rfl
  | cons c W ih =>
    rw [List.cons_append, toks, if_pos (h c (List.mem_cons_self ..)), ih (fun x hx => h x (List.mem_cons_of_mem _ hx)), List.length_cons]
    congr 1
    omega
theorem void_rem : Void [32, 35, 32, 120, 10] := by
  intro r i
  show toks (32 :: 35 :: 32 :: 120 :: 10 :: r) 0 i = _
  rw [toks_blank, toks, if_neg (by decide), if_pos (by decide)]
  have hs : spanN nlfP (32 :: 120 :: 10 :: r) = 2 := by
    rw [spanN, if_pos (by decide), spanN, if_pos (by decide), spanN, if_neg (by decide)]
  rw [hs, toks, toks, toks, if_pos (by decide)]
  rfl
/-- Where it is put in. -/
def gapP (c : UInt8) : Bool := decide (c.toNat = 32) || decide (c.toNat = 59) || decide (c.toNat = 10)
def blow (W l : Bs) : Bs := l.flatMap fun c => c :: if gapP c = true then W else []
theorem blow_cons (W : Bs) (c : UInt8) (r : Bs) : blow W (c :: r) = c :: ((if gapP c = true then W else []) ++ blow W r) := rfl
theorem blow_app (W a b : Bs) : blow W (a ++ b) = blow W a ++ blow W b := by
  unfold blow
  rw [List.flatMap_append]
theorem blow_prt (W : Bs) : ∀ {x : Bs}, (∀ c ∈ x, prtP c = true) → blow W x = x
  | [], _ => rfl
  | c :: x, h => by
    have hc := prt_not (h c (List.mem_cons_self ..))
    have hg : gapP c = false := by
      have h1 := hc.1
      have h3 := hc.2.2
      unfold blkP at h1
      unfold sgnP at h3
      unfold gapP
      simp at h1 h3 ⊢
      omega
    rw [blow_cons, if_neg (by rw [hg]; simp), List.nil_append, blow_prt W fun y hy => h y (List.mem_cons_of_mem _ hy)]
theorem stop_blow {W r : Bs} (h : Stop r) : Stop (blow W r) := by
  cases r with
  | nil => trivial
  | cons c r => exact h
def RelR : Nat ⊕ List Tk → Nat ⊕ List Tk → Prop
  | .inl _, .inl _ => True
  | .inr x, .inr y => RelL x y
  | _, _ => False
theorem rel_add {t u : Tk} (h : RelT t u) {a b : Nat ⊕ List Tk} (hr : RelR a b) : RelR (addT [t] a) (addT [u] b) := by
  cases a with
  | inl x => cases b with
    | inl y => trivial
    | inr y => exact hr.elim
  | inr x => cases b with
    | inl y => exact hr.elim
    | inr y => exact ⟨h, hr⟩
theorem void_if {W : Bs} (h : Void W) (b : Bool) (r : Bs) (i : Nat) : ∃ j, toks ((if b = true then W else []) ++ r) 0 i = toks r 0 j := by
  cases b with
  | true => exact ⟨_, h r i⟩
  | false => exact ⟨i, rfl⟩
theorem span_split {p : UInt8 → Bool} : ∀ (l : Bs), (∀ c ∈ l.take (spanN p l), p c = true) ∧ ∀ c r, l.drop (spanN p l) = c :: r → p c = false
  | [] => ⟨fun c h => by simp at h, fun c r h => by simp at h⟩
  | x :: l => by
    obtain ⟨h1, h2⟩ := span_split (p := p) l
    rw [spanN]
    split
    · rename_i hx
      refine ⟨fun c hc => ?_, fun c r hr => h2 c r (by simpa using hr)⟩
      rw [List.take_succ_cons] at hc
      rcases List.mem_cons.1 hc with rfl | hc
      · exact hx
      · exact h1 c hc
    · rename_i hx
      refine ⟨fun c hc => by simp at hc, fun c r hr => ?_⟩
      simp at hr
      rw [← hr.1]
      simpa using hx
theorem blow_rel {W : Bs} (hW : Void W) : ∀ (n : Nat) (l : Bs), l.length ≤ n → (35 : UInt8) ∉ l → ∀ i j, RelR (toks l 0 i) (toks (blow W l) 0 j)
  | n, [], _, _, i, j => ⟨⟨rfl, rfl, rfl, rfl, rfl⟩, trivial⟩
  | 0, c :: r, h, _, _, _ => by simp at h
  | n + 1, c :: r, hn, h35, i, j => by
    have hr35 : (35 : UInt8) ∉ r := fun h => h35 (List.mem_cons_of_mem _ h)
    have hc35 : ¬ c.toNat = 35 := fun h => h35 (by rw [show (35 : UInt8) = c from (UInt8.toNat_inj.1 (by rw [h]; rfl))]; exact List.mem_cons_self ..)
    have hrn : r.length ≤ n := by simpa using hn
    rw [blow_cons]
    by_cases hb : blkP c = true
    · obtain ⟨k, hk⟩ := void_if hW (gapP c) (blow W r) (j + 1)
      rw [toks, if_pos hb, toks, if_pos hb, hk]
      exact blow_rel hW n r hrn hr35 _ _
    · by_cases hs : sgnP c = true
      · obtain ⟨k, hk⟩ := void_if hW (gapP c) (blow W r) (j + 1)
        rw [toks, if_neg hb, if_neg hc35, if_pos hs, toks, if_neg hb, if_neg hc35, if_pos hs, hk]
        exact rel_add (t := ⟨4, [c], 0, 0, 0, i⟩) (u := ⟨4, [c], 0, 0, 0, j⟩) ⟨rfl, rfl, rfl, rfl, rfl⟩ (blow_rel hW n r hrn hr35 _ _)
      · obtain ⟨x, hx⟩ : ∃ x, x = (c :: r).take (spanN prtP (c :: r)) := ⟨_, rfl⟩
        obtain ⟨y, hy⟩ : ∃ y, y = (c :: r).drop (spanN prtP (c :: r)) := ⟨_, rfl⟩
        have hxy : c :: r = x ++ y := by rw [hx, hy, List.take_append_drop]
        have hsp := span_split (p := prtP) (c :: r)
        rw [← hx, ← hy] at hsp
        have hys : Stop y := by
          cases hy' : y with
          | nil => trivial
          | cons d z => exact hsp.2 d z hy'
        have hlen : x.length = spanN prtP (c :: r) := by
          rw [hx, List.length_take]
          have := span_le prtP (c :: r)
          omega
        have e1 : c :: ((if gapP c = true then W else []) ++ blow W r) = x ++ blow W y := by
          rw [← blow_cons, hxy, blow_app, blow_prt W hsp.1]
        cases hp : pieceP x with
        | none =>
          rw [toks, if_neg hb, if_neg hc35, if_neg hs, ← hx, hp]
          have e2 : (x ++ blow W y).take (spanN prtP (x ++ blow W y)) = x := by rw [span_stopS (stop_blow hys) x hsp.1, List.take_left]
          rw [toks, if_neg hb, if_neg hc35, if_neg hs, e1, e2, hp]
          trivial
        | some q =>
          have hx0 : x ≠ [] := by
            intro h
            rw [h, piece_nil] at hp
            cases hp
          have hL := lays_pc hsp.1 hp
          have h1 := hL y i (.inr hys)
          have h2 := hL (blow W y) j (.inr (stop_blow hys))
          rw [← hxy] at h1
          rw [e1, h1, h2]
          have hyn : y.length ≤ n := by
            have := congrArg List.length hxy
            rw [List.length_append, List.length_cons] at this
            have : 0 < x.length := List.length_pos_iff.2 hx0
            omega
          have hy35 : (35 : UInt8) ∉ y := fun h => h35 (by rw [hxy]; exact List.mem_append_right _ h)
          exact rel_add (t := tkAt i (x, 0)) (u := tkAt j (x, 0)) ⟨rfl, rfl, rfl, rfl, rfl⟩ (blow_rel hW n y hyn hy35 _ _)
end Go.Proofs.YtejhgifadohbiaaDoor
