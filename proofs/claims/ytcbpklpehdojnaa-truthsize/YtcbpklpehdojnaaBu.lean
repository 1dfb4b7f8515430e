/- Build: the walk. -/
import Derived.Test.YtcbpklpehdojnaaP
import Derived.Test.YtcbpklpehdojnaaW
namespace Go.Proofs.Ytcbpklpehdojnaa
open Go.RowKit

theorem Kept.next {w W W' : World} {p g m g' : Nat} (h : Kept [p, g, m] w W) (hg : g' = g ∨ w.heap.size ≤ g') (k : Kept [p, g', m] W W') : Kept [p, g, m] w W' := by
  refine ⟨k.os.trans h.os, k.tape.trans h.tape, k.output.trans h.output, Nat.le_trans h.size k.size, fun i hi hn => ?_⟩
  have := h.size
  simp at hn
  rw [k.block i (by omega) (by simp; omega), h.block i hi (by simp; omega)]
theorem Kept.stays {own : List Nat} {w W : World} {b : Nat} {o : Obj} (h : Kept own w W) (hb : w.heap[b]? = some o) (hn : b ∉ own) : W.heap[b]? = some o :=
  (h.block b (Array.getElem?_eq_some_iff.1 hb).1 hn).trans hb

def intoV (b1 b2 b3 : Nat) : Value := .func (.func 25) #[] #[.pointer (some ⟨b1, 0, none⟩), .pointer (some ⟨b2, 0, none⟩), .pointer (some ⟨b3, 0, none⟩)]
theorem enterInto (args : Array Value) (W : World) : Sem.run Try.prog (callFunc 25 args) W = .ok (.enter 25 args) W := by kernel_rfl

/-- What the closure has captured. -/
structure Caught (w : World) (p g m b1 b2 b3 bits : Nat) : Prop where
  c1 : w.heap[b1]? = some (.cells #[.int .u16 bits] 33)
  c2 : w.heap[b2]? = some (.cells #[intoV b1 b2 b3] 60)
  c3 : w.heap[b3]? = some (.cells #[.pointer (some ⟨p, 0, none⟩)] 24)
  n1 : b1 ∉ [p, g, m]
  n2 : b2 ∉ [p, g, m]
  n3 : b3 ∉ [p, g, m]
theorem Caught.next {w W : World} {p g m b1 b2 b3 bits g' : Nat} (h : Caught w p g m b1 b2 b3 bits) (k : Kept [p, g, m] w W) (hg : g' = g ∨ w.heap.size ≤ g') : Caught W p g' m b1 b2 b3 bits := by
  have l1 := (Array.getElem?_eq_some_iff.1 h.c1).1
  have l2 := (Array.getElem?_eq_some_iff.1 h.c2).1
  have l3 := (Array.getElem?_eq_some_iff.1 h.c3).1
  have n1 := h.n1
  have n2 := h.n2
  have n3 := h.n3
  simp at n1 n2 n3
  exact ⟨k.stays h.c1 h.n1, k.stays h.c2 h.n2, k.stays h.c3 h.n3, by simp; omega, by simp; omega, by simp; omega⟩

theorem leaf_val (b fr : Nat) (hb : b < 65536) : wrap64 (bits BinOp.and IntKind.u16 ((b : Int) / 2 ^ fr) 1) = bitN b fr := by
  have e : ((b : Int) / 2 ^ fr) = ((b / 2 ^ fr : Nat) : Int) := by simp
  have hlt : b / 2 ^ fr < 65536 := Nat.lt_of_le_of_lt (Nat.div_le_self _ _) hb
  rw [e, show (1 : Int) = ((1 : Nat) : Int) from rfl, u16_and_nat _ _ hlt (by omega), Nat.and_one_is_mod]
  unfold bitN wrap64
  omega

set_option maxHeartbeats 400000 in
set_option maxRecDepth 20000 in
theorem into_leaf (bits fr : Nat) (hb : bits < 65536) (hf : fr < 16) (v : Int) {w : World} {p g m b1 b2 b3 : Nat} (c : Caught w p g m b1 b2 b3 bits) :
    Calls Try.prog 25 #[.int .i64 v, .int .i64 fr, .int .i64 1, .pointer (some ⟨b1, 0, none⟩), .pointer (some ⟨b2, 0, none⟩), .pointer (some ⟨b3, 0, none⟩)] w fun e w' => e = .returned (.int .i64 (bitN bits fr)) ∧ w' = w := by
  have C1 : w.cell? ⟨b1, 0, none⟩ = some (.int .u16 bits) := by simp [World.cell?, c.c1]
  clear c
  have h1 : (0 : Int) ≤ fr := by omega
  have h2 : (fr : Int) < 16 := by omega
  have h3 : (0 : Int) ≤ bits := by omega
  have h4 : (bits : Int) < 65536 := by omega
  go_enter Try.func25, Try.ntmps25
  go_wp2
  go_ret
  exact ⟨congrArg (fun x => Ending.returned (.int .i64 x)) (leaf_val bits fr hb), rfl⟩

set_option maxHeartbeats 400000 in
set_option maxRecDepth 20000 in
theorem into_node (bits n : Nat) (hn : 1 ≤ n) (hn' : n ≤ 8) (v fr : Nat) (hv : v ≤ 4) (hf : fr ≤ 16) {w : World} {p g m b1 b2 b3 : Nat} {most : Int} {nsA nsB : List Nd} {ka kb : Int} (c : Caught w p g m b1 b2 b3 bits)
    (ha : Calls Try.prog 25 #[.int .i64 ((v : Int) + 1), .int .i64 fr, .int .i64 n, .pointer (some ⟨b1, 0, none⟩), .pointer (some ⟨b2, 0, none⟩), .pointer (some ⟨b3, 0, none⟩)] w fun e w' => ∃ g' cap', e = .returned (.int .i64 ka) ∧ ArenaAt 51 47 w' p g' m cap' most nsA ∧ Kept [p, g, m] w w' ∧ (g' = g ∨ w.heap.size ≤ g'))
    (hb : ∀ w1 g1 cap1, Caught w1 p g1 m b1 b2 b3 bits → ArenaAt 51 47 w1 p g1 m cap1 most nsA → Calls Try.prog 25 #[.int .i64 ((v : Int) + 1), .int .i64 ((fr : Int) + n), .int .i64 n, .pointer (some ⟨b1, 0, none⟩), .pointer (some ⟨b2, 0, none⟩), .pointer (some ⟨b3, 0, none⟩)] w1 fun e w' => ∃ g' cap', e = .returned (.int .i64 kb) ∧ ArenaAt 51 47 w' p g' m cap' most nsB ∧ Kept [p, g1, m] w1 w' ∧ (g' = g1 ∨ w1.heap.size ≤ g')) :
    Calls Try.prog 25 #[.int .i64 v, .int .i64 fr, .int .i64 ((2 * n : Nat) : Int), .pointer (some ⟨b1, 0, none⟩), .pointer (some ⟨b2, 0, none⟩), .pointer (some ⟨b3, 0, none⟩)] w fun e w' => ∃ g' cap', e = .returned (.int .i64 (joinD most v (ka, nsA) (kb, nsB)).1) ∧ ArenaAt 51 47 w' p g' m cap' most (joinD most v (ka, nsA) (kb, nsB)).2 ∧ Kept [p, g, m] w w' ∧ (g' = g ∨ w.heap.size ≤ g') := by
  have hent := enterInto
  have hJ : joinD most v (ka, nsA) (kb, nsB) = ((mkR most nsB v ka kb).1, (mkR most nsB v ka kb).2.2) := by unfold joinD; simp only
  rw [hJ]
  clear hJ
  generalize hR : mkR most nsB v ka kb = R
  have HR : Hid (mkR most nsB v ka kb = R) := hR
  clear hR
  have C2 : w.cell? ⟨b2, 0, none⟩ = some (.func (.func 25) #[] #[.pointer (some ⟨b1, 0, none⟩), .pointer (some ⟨b2, 0, none⟩), .pointer (some ⟨b3, 0, none⟩)]) := by simp [World.cell?, c.c2, intoV]
  have hq : ((2 * n : Nat) : Int).tdiv 2 = n := by
    rw [Int.tdiv_eq_ediv_of_nonneg (by omega)]
    omega
  have hne : (((2 * n : Nat) : Int) == 1) = false := by
    rw [beq_eq_false_iff_ne]
    omega
  have h1 : (v : Int) ≤ 4 := by omega
  have h2 : (fr : Int) ≤ 16 := by omega
  have h3 : (n : Int) ≤ 8 := by omega
  obtain ⟨M, hM⟩ : ∃ M : Int, M = ((2 * n : Nat) : Int) := ⟨_, rfl⟩
  rw [← hM] at hq hne ⊢
  have hM1 : M ≤ 16 := by omega
  have hM0 : 2 ≤ M := by omega
  clear hM
  go_enter Try.func25, Try.ntmps25
  go_wp2_with fail
  refine ha.mono ?_
  rintro e w1 ⟨g1, cap1, rfl, a1, k1, e1⟩
  have c1 := c.next k1 e1
  have hb1 := hb w1 g1 cap1 c1 a1
  clear ha hb C2
  have C2 : w1.cell? ⟨b2, 0, none⟩ = some (.func (.func 25) #[] #[.pointer (some ⟨b1, 0, none⟩), .pointer (some ⟨b2, 0, none⟩), .pointer (some ⟨b3, 0, none⟩)]) := by simp [World.cell?, c1.c2, intoV]
  go_wp2_with fail
  refine hb1.mono ?_
  rintro e w2 ⟨g2, cap2, rfl, a2, k2, e2⟩
  have c2 := c1.next k2 e2
  have k12 := k1.next e1 k2
  have C3 : w2.cell? ⟨b3, 0, none⟩ = some (.pointer (some ⟨p, 0, none⟩)) := by simp [World.cell?, c2.c3]
  have e12 : g2 = g ∨ w.heap.size ≤ g2 := by
    have := k1.size
    omega
  clear hb1 C2 c c1 c2 k1 k2 e1 e2 a1
  have hm := mk_any a2 v ka kb
  rw [HR.out] at hm
  generalize errV R.2.1 = E at hm
  clear a2
  go_wp2_with fail
  refine hm.mono ?_
  rintro e w3 ⟨g3, cap3, rfl, a3, k3, e3⟩
  clear hm
  go_wp2_with fail
  go_ret
  refine ⟨g3, cap3, rfl, a3, k12.next e12 k3, ?_⟩
  have := k12.size
  omega

theorem into_any (bits : Nat) (hb : bits < 65536) : ∀ (d v fr : Nat) {w : World} {p g m cap b1 b2 b3 : Nat} {most : Int} {ns : List Nd}, v + d ≤ 4 → fr + 2 ^ d ≤ 16 → Caught w p g m b1 b2 b3 bits → ArenaAt 51 47 w p g m cap most ns →
    Calls Try.prog 25 #[.int .i64 v, .int .i64 fr, .int .i64 ((2 ^ d : Nat) : Int), .pointer (some ⟨b1, 0, none⟩), .pointer (some ⟨b2, 0, none⟩), .pointer (some ⟨b3, 0, none⟩)] w fun e w' => ∃ g' cap', e = .returned (.int .i64 (bld most bits d v fr ns).1) ∧ ArenaAt 51 47 w' p g' m cap' most (bld most bits d v fr ns).2 ∧ Kept [p, g, m] w w' ∧ (g' = g ∨ w.heap.size ≤ g')
  | 0, v, fr, w, p, g, m, cap, b1, b2, b3, most, ns, hv, hf, c, h => by
    refine (into_leaf bits fr hb (by simp at hf; omega) v c).mono ?_
    rintro _ _ ⟨rfl, rfl⟩
    exact ⟨g, cap, rfl, h, Kept.refl _ _, .inl rfl⟩
  | d + 1, v, fr, w, p, g, m, cap, b1, b2, b3, most, ns, hv, hf, c, h => by
    have hp : 2 ^ (d + 1) = 2 * 2 ^ d := by rw [Nat.pow_succ]; omega
    have hd : 2 ^ d ≤ 8 := by omega
    have hd1 : 1 ≤ 2 ^ d := Nat.one_le_two_pow
    rw [hp] at hf
    have hA := into_any bits hb d (v + 1) fr (by omega) (by omega) c h
    have hB := fun w1 g1 cap1 (c1 : Caught w1 p g1 m b1 b2 b3 bits) (h1 : ArenaAt 51 47 w1 p g1 m cap1 most (bld most bits d (v + 1) fr ns).2) => into_any bits hb d (v + 1) (fr + 2 ^ d) (by omega) (by omega) c1 h1
    have key := into_node bits (2 ^ d) hd1 hd v fr (by omega) (by omega) c hA hB
    rw [bld_succ, hp]
    exact key

set_option maxHeartbeats 400000 in
set_option maxRecDepth 20000 in
theorem build_any (bits : Nat) (hb : bits < 65536) {w : World} {p g m cap : Nat} {most : Int} {ns : List Nd} (h : ArenaAt 51 47 w p g m cap most ns) :
    Calls Try.prog 13 #[.pointer (some ⟨p, 0, none⟩), .int .u16 bits] w fun e w' => ∃ g' cap', e = .returned (.int .i64 (bld most bits 4 0 0 ns).1) ∧ ArenaAt 51 47 w' p g' m cap' most (bld most bits 4 0 0 ns).2 ∧ Kept [p, g, m] w w' ∧ (g' = g ∨ w.heap.size ≤ g') := by
  have hmf : ∀ (fn : Fn) (first cap : Array Value) (w : World), (Instr.makeFunc fn first cap).run Try.prog w = .ok (.func fn first cap) w := fun _ _ _ _ => rfl
  have hent := enterInto
  have hst : Sem.run Try.prog (store ⟨w.heap.size + 1 + 1, 0, none⟩ (intoV (w.heap.size + 1) (w.heap.size + 1 + 1) w.heap.size)) (((w.alloc (.cells #[.pointer (some ⟨p, 0, none⟩)] 24)).alloc (.cells #[.int .u16 bits] 33)).alloc (.cells #[.nilFunc] 60)) = .ok () (((w.alloc (.cells #[.pointer (some ⟨p, 0, none⟩)] 24)).alloc (.cells #[.int .u16 bits] 33)).alloc (.cells #[intoV (w.heap.size + 1) (w.heap.size + 1 + 1) w.heap.size] 60)) := by
    rw [run_store Try.prog _ _ _ _ (by rfl)]
    simp [go_sem]
  unfold intoV at hst
  go_enter Try.func13, Try.ntmps13
  go_wp2_with fail
  obtain ⟨W, hW⟩ : ∃ W, W = (((w.alloc (.cells #[.pointer (some ⟨p, 0, none⟩)] 24)).alloc (.cells #[.int .u16 bits] 33)).alloc (.cells #[intoV (w.heap.size + 1) (w.heap.size + 1 + 1) w.heap.size] 60)) := ⟨_, rfl⟩
  have hb1 : Below w.heap.size w W := by rw [hW]; exact (((Below.refl _ _).alloc (Nat.le_refl _) _).alloc (by simp) _).alloc (by simp; omega) _
  have hsz : W.heap.size = w.heap.size + 3 := by rw [hW]; simp
  have hc : Caught W p g m (w.heap.size + 1) (w.heap.size + 1 + 1) w.heap.size bits := by
    have hp := h.ltp
    have hg := h.ltg
    have hm := h.ltm
    refine ⟨?_, ?_, ?_, by simp; omega, by simp; omega, by simp; omega⟩
    · rw [hW, (MapKept.heap_alloc _ _).2 _ (by simp)]
      exact heap_new_at _ _ _ (by simp)
    · rw [hW]
      exact heap_new_at _ _ _ (by simp)
    · rw [hW, (MapKept.heap_alloc _ _).2 _ (by simp; omega), (MapKept.heap_alloc _ _).2 _ (by simp)]
      exact heap_new_at _ _ _ rfl
  have hi := into_any bits hb 4 0 0 (by decide) (by decide) hc (h.below hb1)
  unfold intoV at hW
  rw [← hW]
  clear hst hent hmf
  refine Calls.mono hi ?_
  rintro e w1 ⟨g1, cap1, rfl, a1, k1, e1⟩
  clear hi hW hc
  go_wp2_with fail
  go_ret
  refine ⟨g1, cap1, rfl, a1, ?_, by omega⟩
  exact ⟨k1.os.trans hb1.os, k1.tape.trans hb1.tape, k1.output.trans hb1.output, Nat.le_trans hb1.size k1.size, fun i hi hn => (k1.block i (by omega) hn).trans (hb1.block i hi)⟩
end Go.Proofs.Ytcbpklpehdojnaa
