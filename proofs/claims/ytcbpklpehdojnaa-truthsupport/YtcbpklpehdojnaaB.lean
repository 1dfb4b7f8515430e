/- What the arena's small functions do. -/
import Derived.Test.YtcbpklpehdojnaaRows
import Derived.Test.YtcbpklpehdojnaaA
import Derived.WalkLawsBesides
import Derived.ProofKit
namespace Go.Proofs.Ytcbpklpehdojnaa
open Go.RowKit Go.Maps

theorem laidOut : laidOutB Try.prog = true := by kernel_rfl
theorem wideN : (match Try.prog.underlying 47 with | some (.array _ _) | some (.struct _) => true | _ => false) = true := by kernel_rfl
theorem rowN : (47 : TypeId) < Try.prog.types.size := of_decide_eq_true (by kernel_rfl)
set_option maxRecDepth 100000 in
theorem lawN : Keyed Try.prog 47 := Keyed.of_law (deep_law_laid laidOut (m := 2) (by omega) rowN (by kernel_rfl) wideN)
theorem keyTypeN : Try.prog.keyType 47 = true := by kernel_rfl
theorem cellsN : Try.prog.cellsOf 47 = 3 := by kernel_rfl
theorem cells3 : Try.prog.cellsOf 3 = 1 := by kernel_rfl
theorem zeroI (w : World) : (zeroValue 3).run Try.prog w = .ok (.int .i64 0) w := by kernel_rfl
theorem lits3 (n : Nat) (x : Int) (h : (Lit.int .i64 x).wf = true) : Try.prog.keyLits (n + 1) 3 [.int .i64 x] = some [.int .i64 x] := by
  simp [Program.keyLits, Try.underlying3, h]
theorem keyN (a b c : Int) (ha : (Lit.int .i64 a).wf = true) (hb : (Lit.int .i64 b).wf = true) (hc : (Lit.int .i64 c).wf = true) : ∃ l, keyOf Try.prog 47 (ndV ⟨a, b, c⟩) = some l := by
  have h1 : (ndV ⟨a, b, c⟩).formed Try.prog 47 = true := by simp [ndV, Value.formed, Try.underlying47, cellsN]
  obtain ⟨k, hk⟩ : ∃ k, Try.prog.types.size = k + 1 := ⟨Try.prog.types.size - 1, by have : (0 : Nat) < Try.prog.types.size := Nat.lt_of_le_of_lt (Nat.zero_le _) rowN; omega⟩
  refine ⟨.string (keyBytes [.int .i64 a, .int .i64 b, .int .i64 c]), ?_⟩
  simp [keyOf, Try.underlying47, keyTypeN, h1, hk]
  unfold Program.keyLits
  simp [Try.underlying47, cellsN, ndV, Value.cells, cells3, lits3, ha, hb, hc]

theorem hasB_no {ns : List Nd} {k : Int} (h : ¬ 0 ≤ k) : hasB ns k = false := by simp [hasB, h]
theorem hasB_yes {ns : List Nd} {k : Int} (h : 0 ≤ k) : hasB ns k = decide (k < ns.length) := by simp [hasB, h]

section
variable {w : World} {p g m cap : Nat} {most : Int} {ns : List Nd}

set_option maxHeartbeats 400000 in
set_option maxRecDepth 20000 in
theorem has_any (h : ArenaAt 51 47 w p g m cap most ns) (k : Int) :
    Calls Try.prog 32 #[.pointer (some ⟨p, 0, none⟩), .int .i64 k] w fun e w' => e = .returned (.bool (hasB ns k)) ∧ w' = w := by
  have c1 := h.c1
  clear h
  by_cases hk : 0 ≤ k
  · rw [hasB_yes hk]
    go_enter Try.func32, Try.ntmps32
    go_wp2
    go_ret
    exact ⟨rfl, rfl⟩
  · rw [hasB_no hk]
    go_enter Try.func32, Try.ntmps32
    go_wp2
    go_ret
    exact ⟨rfl, rfl⟩

set_option maxHeartbeats 400000 in
set_option maxRecDepth 20000 in
theorem behind_any (h : ArenaAt 51 47 w p g m cap most ns) (k v : Int) :
    Calls Try.prog 30 #[.pointer (some ⟨p, 0, none⟩), .int .i64 k, .int .i64 v] w fun e w' => e = .returned (.bool (behB ns k v)) ∧ w' = w := by
  cases hb : hasB ns k with
  | true =>
    obtain ⟨i, rfl, hi⟩ := hasB_elim hb
    have e : behB ns i v = decide (v < (ndAt ns i).v) := by simp [behB, hb]
    rw [e]
    have c1 := h.c1
    have cx := h.x hi
    have h1 : (0 : Int) ≤ i := by omega
    have h2 : (i : Int) < ns.length := by omega
    generalize (ndAt ns i).v = x at cx ⊢
    clear e
    have hc := has_any h i
    rw [hb] at hc
    clear h hb
    go_enter Try.func30, Try.ntmps30
    go_wp2_with (first | (go_at_call 32; refine hc.mono ?_; rintro e w' ⟨rfl, rfl⟩))
    go_ret
    exact ⟨rfl, rfl⟩
  | false =>
    have e : behB ns k v = false := by simp [behB, hb]
    rw [e]
    have hc := has_any h k
    rw [hb] at hc
    clear h hb e
    go_enter Try.func30, Try.ntmps30
    go_wp2_with (first | (go_at_call 32; refine hc.mono ?_; rintro e w' ⟨rfl, rfl⟩))
    go_ret
    exact ⟨rfl, rfl⟩

set_option maxHeartbeats 400000 in
set_option maxRecDepth 20000 in
theorem get_any (h : ArenaAt 51 47 w p g m cap most ns) (k : Int) :
    Calls Try.prog 24 #[.pointer (some ⟨p, 0, none⟩), .int .i64 k] w fun e w' => e = .returned (ndV (getN ns k)) ∧ Below w.heap.size w w' ∧ w'.heap.size = w.heap.size + 1 := by
  have hp := h.ltp
  have hg := h.ltg
  cases hb : hasB ns k with
  | true =>
    obtain ⟨i, rfl, hi⟩ := hasB_elim hb
    have e : getN ns i = ndAt ns i := by simp [getN, hb]
    rw [e]
    have c1 := h.c1
    have cx := h.x hi
    have cy := h.y hi
    have cz := h.z hi
    have h1 : (0 : Int) ≤ i := by omega
    have h2 : (i : Int) < ns.length := by omega
    generalize ndAt ns i = n at cx cy cz ⊢
    obtain ⟨x, y, z⟩ := n
    simp only at cx cy cz
    have hc := has_any (h.below ((Below.refl _ _).alloc (Nat.le_refl _) (.cells #[.int .i64 0, .int .i64 0, .int .i64 0] 47))) i
    rw [hb] at hc
    clear h hb e
    go_enter Try.func24, Try.ntmps24
    go_wp2_with (first | (go_at_call 32; refine hc.mono ?_; rintro e w' ⟨rfl, rfl⟩))
    exact bodyPost_ret (v := ndV ⟨x, y, z⟩) (by simp [results, Try.results24, go_sem, ndV]) rfl ⟨rfl, (Below.refl _ _).alloc (Nat.le_refl _) _, by simp⟩
  | false =>
    have e : getN ns k = ⟨1024, 0, 0⟩ := by simp [getN, hb]
    rw [e]
    have hc := has_any (h.below ((Below.refl _ _).alloc (Nat.le_refl _) (.cells #[.int .i64 0, .int .i64 0, .int .i64 0] 47))) k
    rw [hb] at hc
    clear h hb e
    go_enter Try.func24, Try.ntmps24
    go_wp2_with (first | (go_at_call 32; refine hc.mono ?_; rintro e w' ⟨rfl, rfl⟩))
    exact bodyPost_ret (v := ndV ⟨1024, 0, 0⟩) (by simp [results, Try.results24, go_sem, ndV]) rfl ⟨rfl, (Below.refl _ _).alloc (Nat.le_refl _) _, by simp⟩
end
end Go.Proofs.Ytcbpklpehdojnaa
