/- What Of and Mk do. -/
import Derived.Test.YtcbpklpehdojnaaB
import Derived.BigQuiet
import Derived.WalkSmall
import Derived.Deep.QuietTactic
import Derived.Deep.RegionHeld3
import Derived.Deep.AppendLies
namespace Go.Proofs.Ytcbpklpehdojnaa
open Go.RowKit Go.Maps

def clampN (most : Int) : Int := min (max most 2) 131072
theorem clampN_le (most : Int) : 2 ≤ clampN most ∧ clampN most ≤ 131072 := by unfold clampN; omega
def first2 : List Nd := [⟨1024, 0, 0⟩, ⟨1024, 1, 1⟩]
theorem good2 (most : Int) : Good (clampN most) first2 := by
  have := clampN_le most
  refine ⟨⟨[], rfl⟩, ?_, this.2, ?_, ?_⟩
  · simp [first2]; omega
  · intro i h1 h2; simp [first2] at h2; omega
  · simp [first2]

theorem made2 (w : World) (most : Int) (x : Int) (hx : clampN most = x) :
    ArenaAt 51 47 (((w.alloc (.cells #[.int .i64 1024, .int .i64 0, .int .i64 0, .int .i64 1024, .int .i64 1, .int .i64 1] 47)).alloc (.map #[] 0)).alloc (.cells #[.int .i64 x, .slice (some ⟨w.heap.size, 0, none⟩) 2 2, .map (some (w.heap.size + 1))] 51)) (w.heap.size + 2) w.heap.size (w.heap.size + 1) 2 (clampN most) first2 := by
  subst hx
  refine ⟨?_, ⟨by simp [first2, ndL], .inr ⟨w.heap.size, 2, #[.int .i64 1024, .int .i64 0, .int .i64 0, .int .i64 1024, .int .i64 1, .int .i64 1], rfl, Nat.zero_le _, ?_, by simp [first2], by unfold maxLen; omega, by simp, by simp [first2, ndL]⟩⟩, ⟨#[], 0, ?_, by simp [entries, first2]⟩, by omega, good2 most⟩
  · have := (MapKept.heap_alloc ((w.alloc (.cells #[.int .i64 1024, .int .i64 0, .int .i64 0, .int .i64 1024, .int .i64 1, .int .i64 1] 47)).alloc (.map #[] 0)) (.cells #[.int .i64 (clampN most), .slice (some ⟨w.heap.size, 0, none⟩) 2 2, .map (some (w.heap.size + 1))] 51)).1
    simpa [first2] using this
  · rw [(MapKept.heap_alloc _ _).2 _ (by simp; omega), (MapKept.heap_alloc _ _).2 _ (by simp), (MapKept.heap_alloc _ _).1]
  · rw [(MapKept.heap_alloc _ _).2 _ (by simp)]
    have := (MapKept.heap_alloc (w.alloc (.cells #[.int .i64 1024, .int .i64 0, .int .i64 0, .int .i64 1024, .int .i64 1, .int .i64 1] 47)) (.map #[] 0)).1
    simpa using this
theorem clamp_hi {most : Int} (h : 131072 < most) : clampN most = 131072 := by unfold clampN; omega
theorem clamp_mid {most : Int} (h : 2 ≤ most) (h' : most ≤ 131072) : clampN most = most := by unfold clampN; omega
theorem clamp_lo {most : Int} (h : most < 2) : clampN most = 2 := by unfold clampN; omega

set_option maxHeartbeats 400000 in
set_option maxRecDepth 20000 in
theorem of_any (most : Int) (w : World) :
    Calls Try.prog 9 #[.int .i64 most] w fun e w' => e = .returned (.pointer (some ⟨w.heap.size + 2, 0, none⟩)) ∧ ArenaAt 51 47 w' (w.heap.size + 2) w.heap.size (w.heap.size + 1) 2 (clampN most) first2 ∧ Below w.heap.size w w' ∧ w'.heap.size = w.heap.size + 3 := by
  have hmm := @run_makeMap Try.prog
  go_enter Try.func9, Try.ntmps9
  go_wp2
  all_goals
    go_ret
    refine ⟨rfl, made2 _ most _ (by first | exact clamp_hi (by assumption) | exact clamp_mid (by assumption) (by assumption) | exact clamp_lo (by assumption)), (((Below.refl _ _).alloc (Nat.le_refl _) _).alloc (by simp) _).alloc (by simp; omega) _, by simp⟩

/-! ### Mk -/
theorem ownsRow_drewN {w : World} {base : Nat} {e : TypeId} {size : Nat} {v : Value} {n : Nat} {xs : List Value} (h : w.ownsRow base e size v n xs) (k : Nat) : (w.drewN k).ownsRow base e size v n xs := h
theorem heap_new_at (w : World) (o : Obj) (k : Nat) (hk : k = w.heap.size) : (w.alloc o).heap[k]? = some o := by
  subst hk
  exact (MapKept.heap_alloc w o).1
theorem infoN : (Try.prog.info? 47).map (fun i => (i.zero, i.size, i.bytes)) = some (some (.agg #[.int .i64 0, .int .i64 0, .int .i64 0]), 3, 24) := by kernel_rfl
def sameN (a b : Nd) : Bool := a.v == b.v && a.lo == b.lo && a.hi == b.hi
theorem sameN_iff {a b : Nd} : sameN a b = true ↔ a = b := by
  constructor
  · intro h
    simp [sameN] at h
    exact nd_ext h.1.1 h.1.2 h.2
  · rintro rfl; simp [sameN]
def findN (ns : List Nd) (n : Nd) : Option Nat := ns.findIdx? (sameN n)
def okB (ns : List Nd) (v lo hi : Int) : Bool := decide (0 ≤ v) && decide (v < 1024) && behB ns lo v && behB ns hi v
/-- What Mk answers: a number, an error, the nodes behind it. -/
def mkR (most : Int) (ns : List Nd) (v lo hi : Int) : Int × Int × List Nd :=
  if okB ns v lo hi = true then
    if lo = hi then (lo, 0, ns) else
    match findN ns ⟨v, lo, hi⟩ with
    | some i => (i, 0, ns)
    | none => if most ≤ ns.length then (0, 8, ns) else (ns.length, 0, ns ++ [⟨v, lo, hi⟩])
  else (0, 10, ns)
def errV (e : Int) : Value := if e = 0 then .nilIface else .iface 52 (.int .i64 e)

/-- All but these blocks is as it was. -/
structure Kept (own : List Nat) (w w' : World) : Prop where
  os : w'.os = w.os
  tape : w'.tape = w.tape
  output : w'.output = w.output
  size : w.heap.size ≤ w'.heap.size
  block : ∀ k, k < w.heap.size → k ∉ own → w'.heap[k]? = w.heap[k]?

section
variable {w : World} {p g m cap : Nat} {most : Int} {ns : List Nd}

set_option maxHeartbeats 400000 in
set_option maxRecDepth 20000 in
theorem mk_bad (h : ArenaAt 51 47 w p g m cap most ns) (v lo hi : Int) (hb : okB ns v lo hi = false) :
    Calls Try.prog 20 #[.pointer (some ⟨p, 0, none⟩), .int .i64 v, .int .i64 lo, .int .i64 hi] w fun e w' => e = .returned (.tuple #[.int .i64 0, .iface 52 (.int .i64 10)]) ∧ w' = w := by
  have b1 := behind_any h lo v
  have b2 := behind_any h hi v
  by_cases h1 : v < 0
  · clear h
    go_enter Try.func20, Try.ntmps20
    go_wp2
    go_ret2
    exact ⟨rfl, rfl⟩
  by_cases h2 : 1024 ≤ v
  · clear h
    go_enter Try.func20, Try.ntmps20
    go_wp2
    go_ret2
    exact ⟨rfl, rfl⟩
  cases h3 : behB ns lo v with
  | false =>
    rw [h3] at b1
    clear h h3 b2
    go_enter Try.func20, Try.ntmps20
    go_wp2_with (first | (go_at_call 30; refine b1.mono ?_; rintro e w' ⟨rfl, rfl⟩))
    go_ret2
    exact ⟨rfl, rfl⟩
  | true =>
    cases h4 : behB ns hi v with
    | false =>
      rw [h3] at b1
      rw [h4] at b2
      clear h h3 h4 hb
      go_enter Try.func20, Try.ntmps20
      go_wp2_with fail
      refine b1.mono ?_
      rintro e w' ⟨rfl, rfl⟩
      go_wp2_with fail
      refine b2.mono ?_
      rintro e w' ⟨rfl, rfl⟩
      go_wp2
      go_ret2
      exact ⟨rfl, rfl⟩
    | true =>
      simp [okB, h3, h4] at hb
      omega

set_option maxHeartbeats 400000 in
set_option maxRecDepth 20000 in
theorem mk_same (h : ArenaAt 51 47 w p g m cap most ns) (v lo hi : Int) (hb : okB ns v lo hi = true) (hne : (lo == hi) = true) :
    Calls Try.prog 20 #[.pointer (some ⟨p, 0, none⟩), .int .i64 v, .int .i64 lo, .int .i64 hi] w fun e w' => e = .returned (.tuple #[.int .i64 lo, .nilIface]) ∧ w' = w := by
  have b1 := behind_any h lo v
  have b2 := behind_any h hi v
  simp only [okB, Bool.and_eq_true, decide_eq_true_eq] at hb
  obtain ⟨⟨⟨h1, h2⟩, h3⟩, h4⟩ := hb
  rw [h3] at b1
  rw [h4] at b2
  clear h3 h4
  go_enter Try.func20, Try.ntmps20
  go_wp2_with fail
  refine b1.mono ?_
  rintro e w' ⟨rfl, rfl⟩
  go_wp2_with fail
  refine b2.mono ?_
  rintro e w' ⟨rfl, rfl⟩
  go_wp2
  go_ret2
  exact ⟨rfl, rfl⟩

set_option maxHeartbeats 400000 in
set_option maxRecDepth 20000 in
theorem mk_found (h : ArenaAt 51 47 w p g m cap most ns) (v lo hi c : Int) (hb : okB ns v lo hi = true) (hne : (lo == hi) = false)
    (hlook : ∀ nq, Sem.run Try.prog (Instr.lookup 49 (.map (some m)) (.agg #[.int .i64 v, .int .i64 lo, .int .i64 hi]) true) ((w.alloc (.cells #[.int .i64 v, .int .i64 lo, .int .i64 hi] 47)).drewN nq) = .ok (.tuple #[.int .i64 c, .bool true]) ((w.alloc (.cells #[.int .i64 v, .int .i64 lo, .int .i64 hi] 47)).drewN nq)) :
    Calls Try.prog 20 #[.pointer (some ⟨p, 0, none⟩), .int .i64 v, .int .i64 lo, .int .i64 hi] w fun e w' => e = .returned (.tuple #[.int .i64 c, .nilIface]) ∧ Below w.heap.size w w' := by
  have b1 := behind_any h lo v
  have b2 := behind_any h hi v
  have c2 := h.c2
  have hp := h.ltp
  simp only [okB, Bool.and_eq_true, decide_eq_true_eq] at hb
  obtain ⟨⟨⟨h1, h2⟩, h3⟩, h4⟩ := hb
  rw [h3] at b1
  rw [h4] at b2
  clear h3 h4 h
  go_enter Try.func20, Try.ntmps20
  go_wp2_with fail
  refine b1.mono ?_
  rintro e w' ⟨rfl, rfl⟩
  go_wp2_with fail
  refine b2.mono ?_
  rintro e w' ⟨rfl, rfl⟩
  go_wp2
  clear b1 b2
  go_quiet (fail)
  go_wp2
  go_ret2
  exact ⟨rfl, below_drewN ((Below.refl _ _).alloc (Nat.le_refl _) _) _⟩

set_option maxHeartbeats 400000 in
set_option maxRecDepth 20000 in
theorem mk_full (h : ArenaAt 51 47 w p g m cap most ns) (v lo hi : Int) (hb : okB ns v lo hi = true) (hne : (lo == hi) = false) (hm : most ≤ ns.length)
    (hlook : ∀ nq, Sem.run Try.prog (Instr.lookup 49 (.map (some m)) (.agg #[.int .i64 v, .int .i64 lo, .int .i64 hi]) true) ((w.alloc (.cells #[.int .i64 v, .int .i64 lo, .int .i64 hi] 47)).drewN nq) = .ok (.tuple #[.int .i64 0, .bool false]) ((w.alloc (.cells #[.int .i64 v, .int .i64 lo, .int .i64 hi] 47)).drewN nq)) :
    Calls Try.prog 20 #[.pointer (some ⟨p, 0, none⟩), .int .i64 v, .int .i64 lo, .int .i64 hi] w fun e w' => e = .returned (.tuple #[.int .i64 0, .iface 52 (.int .i64 8)]) ∧ Below w.heap.size w w' := by
  have b1 := behind_any h lo v
  have b2 := behind_any h hi v
  have c0 := h.c0
  have c1 := h.c1
  have c2 := h.c2
  have hp := h.ltp
  simp only [okB, Bool.and_eq_true, decide_eq_true_eq] at hb
  obtain ⟨⟨⟨h1, h2⟩, h3⟩, h4⟩ := hb
  rw [h3] at b1
  rw [h4] at b2
  clear h3 h4 h
  go_enter Try.func20, Try.ntmps20
  go_wp2_with fail
  refine b1.mono ?_
  rintro e w' ⟨rfl, rfl⟩
  go_wp2_with fail
  refine b2.mono ?_
  rintro e w' ⟨rfl, rfl⟩
  go_wp2
  clear b1 b2
  go_quiet (fail)
  go_wp2
  go_quiet (fail)
  go_wp2
  go_ret2
  exact ⟨rfl, below_drewN ((Below.refl _ _).alloc (Nat.le_refl _) _) _⟩

end
end Go.Proofs.Ytcbpklpehdojnaa
