/- truth.Table: the closure's walk. -/
import Derived.Test.YtcbpklpehdojnaaYB2
import Derived.Test.YtcbpklpehdojnaaQ
import Derived.BigQuiet
import Derived.Laws.MakeOwn
namespace Go.Proofs.Ytcbpklpehdojnaa
open Go.RowKit

/-- Bools in a row. -/
def rowsV (n : Nat) (r : Nat → Bool) : Array Value := Array.ofFn (fun i : Fin n => Value.bool (r i))
theorem rowsV_size (n : Nat) (r : Nat → Bool) : (rowsV n r).size = n := by simp [rowsV]
theorem rowsV_get {n : Nat} {r : Nat → Bool} {i : Nat} (h : i < n) : (rowsV n r)[i]? = some (.bool (r i)) := by simp [rowsV, h]
theorem rowsV_congr {n : Nat} {r s : Nat → Bool} (h : ∀ i, i < n → r i = s i) : rowsV n r = rowsV n s := by
  unfold rowsV
  congr 1
  funext i
  rw [h i i.isLt]
theorem rowsV_ext {n : Nat} {r : Nat → Bool} {a : Array Value} (hs : a.size = n) (h : ∀ i, i < n → a[i]? = some (.bool (r i))) : a = rowsV n r := by
  apply Array.ext_getElem?
  intro i
  rcases Nat.lt_or_ge i n with hi | hi
  · rw [h i hi, rowsV_get hi]
  · rw [Array.getElem?_eq_none (by omega), Array.getElem?_eq_none (by rw [rowsV_size]; omega)]
theorem rowsV_set (n : Nat) (r : Nat → Bool) (j : Nat) (x : Bool) : (rowsV n r).setIfInBounds j (.bool x) = rowsV n (fun i => if i = j then x else r i) := by
  refine rowsV_ext (by simp [rowsV_size]) (fun i hi => ?_)
  rw [Array.getElem?_setIfInBounds, rowsV_size, rowsV_get hi]
  by_cases e : i = j
  · subst e; simp [hi]
  · rw [if_neg (fun h => e h.symm), if_neg e]
theorem infoB : (Try.prog.info? 4).map (fun i => (i.zero, i.size, i.bytes)) = some (some (.bool false), 1, 1) := by kernel_rfl
theorem makeB (n : Nat) (hn : n ≤ 65536) (w : World) : Sem.run Try.prog (Instr.makeSlice 22 (.int .i64 n) (.int .i64 n)) w = .ok (.slice (some ⟨w.heap.size, 0, none⟩) n n) (w.alloc (.cells (rowsV n fun _ => false) 4)) := by
  have hI := infoB
  cases h1 : Try.prog.info? 4 with
  | none => rw [h1] at hI; cases hI
  | some i =>
    rw [h1] at hI
    simp only [Option.map_some, Option.some.injEq, Prod.mk.injEq] at hI
    obtain ⟨h2, h3, h4⟩ := hI
    have := run_make (P := Try.prog) w 22 4 i (.bool false) Try.underlying22 h1 h2 .i64 .i64 n n (by omega) (Int.le_refl _) (by rw [h4]; omega) (by omega)
    rw [this]
    simp only [Int.toNat_natCast, h3, Nat.mul_one]
    have e : madeCells (Value.bool false).cells n = rowsV n fun _ => false := rowsV_ext (size_madeCells _ _) (fun i hi => by simp [madeCells, hi, Value.cells, Nat.mod_one])
    rw [e]

/-- What Table tells, row by row. -/
def tellR (ns : List Nd) : Nat → Nat → Int → Nat → Bool
  | 0, _, k, _ => evalP ns (fun _ => false) k
  | d + 1, v, k, i => if i < 2 ^ d then tellR ns d (v + 1) (lowP v k (getN ns k)) i else tellR ns d (v + 1) (highP v k (getN ns k)) (i - 2 ^ d)
/-- A part of a row, put for another. -/
def patch (r : Nat → Bool) (off n : Nat) (t : Nat → Bool) : Nat → Bool := fun i => if off ≤ i ∧ i < off + n then t (i - off) else r i
theorem patch_two (r : Nat → Bool) (off n : Nat) (s t : Nat → Bool) : patch (patch r off n s) (off + n) n t = patch r off (2 * n) (fun i => if i < n then s i else t (i - n)) := by
  funext i
  unfold patch
  by_cases h1 : off + n ≤ i ∧ i < off + n + n
  · rw [if_pos h1, if_pos (by omega)]
    simp only
    rw [if_neg (by omega)]
    congr 1
    omega
  · rw [if_neg h1]
    by_cases h2 : off ≤ i ∧ i < off + n
    · rw [if_pos h2, if_pos (by omega)]
      simp only
      rw [if_pos (by omega)]
    · rw [if_neg h2, if_neg (by omega)]
theorem patch_one (r : Nat → Bool) (off : Nat) (t : Nat → Bool) : (fun i => if i = off then t 0 else r i) = patch r off 1 t := by
  funext i
  unfold patch
  by_cases h : i = off
  · subst h
    rw [if_pos rfl, if_pos (by omega), Nat.sub_self]
  · rw [if_neg h, if_neg (by omega)]

def tellV (b3 b4 b5 : Nat) : Value := .func (.func 22) #[] #[.pointer (some ⟨b3, 0, none⟩), .pointer (some ⟨b4, 0, none⟩), .pointer (some ⟨b5, 0, none⟩)]
theorem enterTell (args : Array Value) (W : World) : Sem.run Try.prog (callFunc 22 args) W = .ok (.enter 22 args) W := by kernel_rfl
theorem enterZero (args : Array Value) (W : World) : Sem.run Try.prog (callFunc 21 args) W = .ok (.enter 21 args) W := by kernel_rfl
set_option maxHeartbeats 400000 in
set_option maxRecDepth 20000 in
theorem zero_any (x : Int) (w : World) : Calls Try.prog 21 #[.int .i64 x] w fun e w' => e = .returned (.bool false) ∧ w' = w := by
  go_enter Try.func21, Try.ntmps21
  go_wp2
  go_ret
  exact ⟨rfl, rfl⟩

/-- What the closure works on. -/
structure TSit (w : World) (p g m cap b3 b4 b5 : Nat) (most : Int) (ns : List Nd) (b N : Nat) (r : Nat → Bool) : Prop where
  arena : ArenaAt 51 47 w p g m cap most ns
  c3 : w.heap[b3]? = some (.cells #[.pointer (some ⟨p, 0, none⟩)] 24)
  c4 : w.heap[b4]? = some (.cells #[.func (.func 21) #[] #[]] 56)
  c5 : w.heap[b5]? = some (.cells #[tellV b3 b4 b5] 57)
  rows : w.heap[b]? = some (.cells (rowsV N r) 4)
  nb : b ∉ [p, g, m, b3, b4, b5]
def TPost (w : World) (b N : Nat) (r : Nat → Bool) (e : Ending) (w' : World) : Prop :=
  e = .returned (.tuple #[]) ∧ w'.heap[b]? = some (.cells (rowsV N r) 4) ∧ Kept [b] w w'
section
variable {w W : World} {p g m cap b3 b4 b5 : Nat} {most : Int} {ns : List Nd} {b N : Nat} {r r' : Nat → Bool}
theorem TSit.next (s : TSit w p g m cap b3 b4 b5 most ns b N r) (k : Kept [b] w W) (hr : W.heap[b]? = some (.cells (rowsV N r') 4)) : TSit W p g m cap b3 b4 b5 most ns b N r' := by
  have nb := s.nb
  simp at nb
  have st : ∀ x, x < w.heap.size → x ≠ b → W.heap[x]? = w.heap[x]? := fun x hx hn => k.block x hx (by simpa using hn)
  have l3 := (Array.getElem?_eq_some_iff.1 s.c3).1
  have l4 := (Array.getElem?_eq_some_iff.1 s.c4).1
  have l5 := (Array.getElem?_eq_some_iff.1 s.c5).1
  exact ⟨s.arena.stays (st _ s.arena.ltp (by omega)) (st _ s.arena.ltg (by omega)) (st _ s.arena.ltm (by omega)), (st _ l3 (by omega)).trans s.c3, (st _ l4 (by omega)).trans s.c4, (st _ l5 (by omega)).trans s.c5, hr, s.nb⟩
theorem TSit.below (s : TSit w p g m cap b3 b4 b5 most ns b N r) (k : Below w.heap.size w W) : TSit W p g m cap b3 b4 b5 most ns b N r :=
  s.next (Kept.of_below k _) ((k.block b (Array.getElem?_eq_some_iff.1 s.rows).1).trans s.rows)

theorem Kept.setIn {own : List Nat} (k : Kept own w W) (x : Addr) (v : Value) (h : x.block ∈ own) : Kept own w (W.setCell x v) := by
  refine ⟨k.os, k.tape, k.output, by simpa [World.setCell] using k.size, fun i hi hn => ?_⟩
  rw [Below.heap_setCell _ _ _ _ (by rintro rfl; exact hn h)]
  exact k.block i hi hn

theorem Kept.both {own : List Nat} {V : World} (h : Kept own w W) (k : Kept own W V) : Kept own w V :=
  ⟨k.os.trans h.os, k.tape.trans h.tape, k.output.trans h.output, Nat.le_trans h.size k.size, fun i hi hn => (k.block i (Nat.lt_of_lt_of_le hi h.size) hn).trans (h.block i hi hn)⟩

set_option maxHeartbeats 400000 in
set_option maxRecDepth 20000 in
theorem tell_leaf (s : TSit w p g m cap b3 b4 b5 most ns b N r) (k v : Int) {off cp : Nat} (ho : off < N) :
    Calls Try.prog 22 #[.int .i64 k, .int .i64 v, .slice (some ⟨b, off, none⟩) 1 cp, .pointer (some ⟨b3, 0, none⟩), .pointer (some ⟨b4, 0, none⟩), .pointer (some ⟨b5, 0, none⟩)] w (TPost w b N (patch r off 1 (fun _ => evalP ns (fun _ => false) k))) := by
  have C3 : w.cell? ⟨b3, 0, none⟩ = some (.pointer (some ⟨p, 0, none⟩)) := by simp [World.cell?, s.c3]
  have C4 : w.cell? ⟨b4, 0, none⟩ = some (.func (.func 21) #[] #[]) := by simp [World.cell?, s.c4]
  have he := eval_any s.arena k 21 #[] (fun _ => false) enterZero (fun x W _ => (zero_any x W).mono fun e W' h => ⟨h.1, h.2 ▸ Below.refl _ _⟩)
  have hP := patch_one r off (fun _ => evalP ns (fun _ => false) k)
  rw [← hP]
  clear hP
  generalize evalP ns (fun _ => false) k = y at he ⊢
  go_enter Try.func22, Try.ntmps22
  go_wp2_with fail
  refine he.mono ?_
  rintro e w1 ⟨rfl, b1⟩
  have s1 := s.below b1
  have R0 : w1.cell? ⟨b, off, none⟩ = some (.bool (r off)) := by simp [World.cell?, s1.rows, rowsV_get ho]
  have R1 : w1.frozen? ⟨b, off, none⟩ = false := by simp [World.frozen?, s1.rows]
  have R2 := heap_set_at (i := off) s1.rows (.bool y)
  rw [rowsV_set] at R2
  clear he C3 C4 s1
  go_wp2_with fail
  go_returns
  exact ⟨rfl, R2, Kept.setIn (Kept.of_below b1 _) _ _ (by simp)⟩

set_option maxHeartbeats 400000 in
set_option maxRecDepth 20000 in
theorem tell_node (n : Nat) (hn : 1 ≤ n) (hn' : n ≤ 1024) (v : Nat) (hv : v ≤ 20) (k : Int) {off cp : Nat} (hcap : 2 * n ≤ cp) {ta tb : Nat → Bool}
    (ha : ∀ w r, TSit w p g m cap b3 b4 b5 most ns b N r → Calls Try.prog 22 #[.int .i64 (lowP v k (getN ns k)), .int .i64 ((v : Int) + 1), .slice (some ⟨b, off, none⟩) n cp, .pointer (some ⟨b3, 0, none⟩), .pointer (some ⟨b4, 0, none⟩), .pointer (some ⟨b5, 0, none⟩)] w (TPost w b N (patch r off n ta)))
    (hb : ∀ w r, TSit w p g m cap b3 b4 b5 most ns b N r → Calls Try.prog 22 #[.int .i64 (highP v k (getN ns k)), .int .i64 ((v : Int) + 1), .slice (some ⟨b, off + n, none⟩) n (cp - n), .pointer (some ⟨b3, 0, none⟩), .pointer (some ⟨b4, 0, none⟩), .pointer (some ⟨b5, 0, none⟩)] w (TPost w b N (patch r (off + n) n tb)))
    (s : TSit w p g m cap b3 b4 b5 most ns b N r) :
    Calls Try.prog 22 #[.int .i64 k, .int .i64 v, .slice (some ⟨b, off, none⟩) (2 * n) cp, .pointer (some ⟨b3, 0, none⟩), .pointer (some ⟨b4, 0, none⟩), .pointer (some ⟨b5, 0, none⟩)] w (TPost w b N (patch r off (2 * n) (fun i => if i < n then ta i else tb (i - n)))) := by
  have hent := enterTell
  rw [← patch_two]
  have C3 : w.cell? ⟨b3, 0, none⟩ = some (.pointer (some ⟨p, 0, none⟩)) := by simp [World.cell?, s.c3]
  have hg := get_any s.arena k
  obtain ⟨M, hM⟩ : ∃ M : Nat, M = 2 * n := ⟨_, rfl⟩
  have hq : (M : Int).tdiv 2 = n := by
    rw [Int.tdiv_eq_ediv_of_nonneg (by omega)]
    omega
  have hne : ((M : Int) == 1) = false := by
    rw [beq_eq_false_iff_ne]
    omega
  have h1 : (v : Int) ≤ 20 := by omega
  have h3 : (n : Int) ≤ 1024 := by omega
  have h4 : (n : Int) ≤ cp := by omega
  have h5 : (n : Int) ≤ M := by omega
  have h6 : M - n = n := by omega
  have h7 : (0 : Int) ≤ n := by omega
  have h8 : ¬ cp = n := by omega
  have hw : IntKind.i64.wrap ((v : Int) + 1) = (v : Int) + 1 := by rw [IntKind.wrap_i64]; omega
  rw [← hM] at hcap ⊢
  have hM1 : M ≤ 2048 := by omega
  have hM0 : 2 ≤ M := by omega
  have HM : Hid (M = 2 * n) := hM
  clear hM
  cases hc : ((getN ns k).v == (v : Int)) with
  | false =>
    have e1 : lowP v k (getN ns k) = k := by rw [lowP, if_neg (beq_eq_false_iff_ne.1 hc)]
    have e2 : highP v k (getN ns k) = k := by rw [highP, if_neg (beq_eq_false_iff_ne.1 hc)]
    rw [e1] at ha
    rw [e2] at hb
    clear e1 e2
    go_enter Try.func22, Try.ntmps22
    go_wp2_with fail
    refine hg.mono ?_
    rintro e w1 ⟨rfl, b1, z1⟩
    clear hg C3
    unfold ndV
    go_wp2_with fail
    obtain ⟨W, hW⟩ : ∃ W, W = w1.alloc (.cells #[.int .i64 (getN ns k).v, .int .i64 (getN ns k).lo, .int .i64 (getN ns k).hi] 47) := ⟨_, rfl⟩
    have bW : Below w.heap.size w W := by rw [hW]; exact Below.up b1 ((Below.refl _ _).alloc (Nat.le_refl _) _) (Nat.le_refl _)
    rw [← hW]
    clear hW b1 z1
    have sW := s.below bW
    have kW := Kept.of_below bW [b]
    clear s bW
    have hA := ha W.drew r (sW.below (Below.refl _ _).drew)
    have C5 : W.cell? ⟨b5, 0, none⟩ = some (.func (.func 22) #[] #[.pointer (some ⟨b3, 0, none⟩), .pointer (some ⟨b4, 0, none⟩), .pointer (some ⟨b5, 0, none⟩)]) := by simp [World.cell?, sW.c5, tellV]
    clear ha
    go_region_held3 (fun U => U.cell? ⟨b5, 0, none⟩ = some (.func (.func 22) #[] #[.pointer (some ⟨b3, 0, none⟩), .pointer (some ⟨b4, 0, none⟩), .pointer (some ⟨b5, 0, none⟩)]))
      (first
        | exact C5
        | exact cA)
      (first
        | (go_at_call 22; refine hA.mono ?_; rintro e w2 ⟨rfl, r2, k2⟩; have s2 := (sW.below (Below.refl _ _).drew).next k2 r2; have cA : w2.cell? ⟨b5, 0, none⟩ = some (.func (.func 22) #[] #[.pointer (some ⟨b3, 0, none⟩), .pointer (some ⟨b4, 0, none⟩), .pointer (some ⟨b5, 0, none⟩)]) := (by simp [World.cell?, s2.c5, tellV])))
    clear hA C5 sW
    have kA := Kept.both kW (Kept.both (Kept.of_below (Below.refl _ _).drew [b]) k2)
    clear k2 kW
    go_wp2_with fail
    have hB := hb w2.drew _ (s2.below (Below.refl _ _).drew)
    clear hb
    go_region_held3 (fun U => U.cell? ⟨b5, 0, none⟩ = some (.func (.func 22) #[] #[.pointer (some ⟨b3, 0, none⟩), .pointer (some ⟨b4, 0, none⟩), .pointer (some ⟨b5, 0, none⟩)]))
      (first
        | exact cA
        | exact cB)
      (first
        | (go_at_call 22; refine hB.mono ?_; rintro e w3 ⟨rfl, r3, k3⟩; have s3 := (s2.below (Below.refl _ _).drew).next k3 r3; have cB : w3.cell? ⟨b5, 0, none⟩ = some (.func (.func 22) #[] #[.pointer (some ⟨b3, 0, none⟩), .pointer (some ⟨b4, 0, none⟩), .pointer (some ⟨b5, 0, none⟩)]) := (by simp [World.cell?, s3.c5, tellV])))
    go_wp2_with fail
    go_returns
    exact ⟨rfl, r3, Kept.both kA (Kept.both (Kept.of_below (Below.refl _ _).drew [b]) k3)⟩
  | true =>
    have e1 : lowP v k (getN ns k) = (getN ns k).lo := by rw [lowP, if_pos (beq_iff_eq.1 hc)]
    have e2 : highP v k (getN ns k) = (getN ns k).hi := by rw [highP, if_pos (beq_iff_eq.1 hc)]
    rw [e1] at ha
    rw [e2] at hb
    clear e1 e2
    go_enter Try.func22, Try.ntmps22
    go_wp2_with fail
    refine hg.mono ?_
    rintro e w1 ⟨rfl, b1, z1⟩
    clear hg C3
    unfold ndV
    go_wp2_with fail
    go_quiet (fail)
    go_wp2_with fail
    obtain ⟨W, hW⟩ : ∃ W, W = (w1.alloc (.cells #[.int .i64 (getN ns k).v, .int .i64 (getN ns k).lo, .int .i64 (getN ns k).hi] 47)).drewN nq := ⟨_, rfl⟩
    have bW : Below w.heap.size w W := by rw [hW]; exact Below.up b1 (below_drewN ((Below.refl _ _).alloc (Nat.le_refl _) _) _) (Nat.le_refl _)
    rw [← hW]
    clear hW b1 z1
    have sW := s.below bW
    have kW := Kept.of_below bW [b]
    clear s bW
    have hA := ha W.drew r (sW.below (Below.refl _ _).drew)
    have C5 : W.cell? ⟨b5, 0, none⟩ = some (.func (.func 22) #[] #[.pointer (some ⟨b3, 0, none⟩), .pointer (some ⟨b4, 0, none⟩), .pointer (some ⟨b5, 0, none⟩)]) := by simp [World.cell?, sW.c5, tellV]
    clear ha
    go_region_held3 (fun U => U.cell? ⟨b5, 0, none⟩ = some (.func (.func 22) #[] #[.pointer (some ⟨b3, 0, none⟩), .pointer (some ⟨b4, 0, none⟩), .pointer (some ⟨b5, 0, none⟩)]))
      (first
        | exact C5
        | exact cA)
      (first
        | (go_at_call 22; refine hA.mono ?_; rintro e w2 ⟨rfl, r2, k2⟩; have s2 := (sW.below (Below.refl _ _).drew).next k2 r2; have cA : w2.cell? ⟨b5, 0, none⟩ = some (.func (.func 22) #[] #[.pointer (some ⟨b3, 0, none⟩), .pointer (some ⟨b4, 0, none⟩), .pointer (some ⟨b5, 0, none⟩)]) := (by simp [World.cell?, s2.c5, tellV])))
    clear hA C5 sW
    have kA := Kept.both kW (Kept.both (Kept.of_below (Below.refl _ _).drew [b]) k2)
    clear k2 kW
    go_wp2_with fail
    have hB := hb w2.drew _ (s2.below (Below.refl _ _).drew)
    clear hb
    go_region_held3 (fun U => U.cell? ⟨b5, 0, none⟩ = some (.func (.func 22) #[] #[.pointer (some ⟨b3, 0, none⟩), .pointer (some ⟨b4, 0, none⟩), .pointer (some ⟨b5, 0, none⟩)]))
      (first
        | exact cA
        | exact cB)
      (first
        | (go_at_call 22; refine hB.mono ?_; rintro e w3 ⟨rfl, r3, k3⟩; have s3 := (s2.below (Below.refl _ _).drew).next k3 r3; have cB : w3.cell? ⟨b5, 0, none⟩ = some (.func (.func 22) #[] #[.pointer (some ⟨b3, 0, none⟩), .pointer (some ⟨b4, 0, none⟩), .pointer (some ⟨b5, 0, none⟩)]) := (by simp [World.cell?, s3.c5, tellV])))
    go_wp2_with fail
    go_returns
    exact ⟨rfl, r3, Kept.both kA (Kept.both (Kept.of_below (Below.refl _ _).drew [b]) k3)⟩

theorem tell_any (hN : N ≤ 1024) : ∀ (d v off cp : Nat) (k : Int) (w : World) (r : Nat → Bool), v + d ≤ 11 → 2 ^ d ≤ cp → off + 2 ^ d ≤ N → TSit w p g m cap b3 b4 b5 most ns b N r →
    Calls Try.prog 22 #[.int .i64 k, .int .i64 v, .slice (some ⟨b, off, none⟩) (2 ^ d) cp, .pointer (some ⟨b3, 0, none⟩), .pointer (some ⟨b4, 0, none⟩), .pointer (some ⟨b5, 0, none⟩)] w (TPost w b N (patch r off (2 ^ d) (tellR ns d v k)))
  | 0, v, off, cp, k, w, r, _, _, ho, s => tell_leaf s k v (by have e : 2 ^ 0 = 1 := rfl; omega)
  | d + 1, v, off, cp, k, w, r, hv, hc, ho, s => by
    have hp : 2 ^ (d + 1) = 2 * 2 ^ d := by rw [Nat.pow_succ]; omega
    have hd1 : 1 ≤ 2 ^ d := Nat.one_le_two_pow
    rw [hp] at hc ho ⊢
    have key := tell_node (2 ^ d) hd1 (by omega) v (by omega) k hc
      (fun w r s => tell_any hN d (v + 1) off cp (lowP v k (getN ns k)) w r (by omega) (by omega) (by omega) s)
      (fun w r s => tell_any hN d (v + 1) (off + 2 ^ d) (cp - 2 ^ d) (highP v k (getN ns k)) w r (by omega) (by omega) (by omega) s) s
    exact key
end
end Go.Proofs.Ytcbpklpehdojnaa
