/- truth.Build: the walk. -/
import Derived.Test.YtcbpklpehdojnaaBu
import Derived.Deep.RegionHeld3
namespace Go.Proofs.Ytcbpklpehdojnaa
open Go.RowKit

theorem bitN_bool (bits i : Nat) : bitN bits i = if bits.testBit i = true then 1 else 0 := by
  rw [Nat.testBit_eq_decide_div_mod_eq, bitN]
  generalize bits / 2 ^ i = q
  by_cases h : q % 2 = 1
  · simp [h]
  · have : q % 2 = 0 := by omega
    simp [this]

def bldV (b1 b2 : Nat) : Value := .func (.func 18) #[] #[.pointer (some ⟨b1, 0, none⟩), .pointer (some ⟨b2, 0, none⟩)]
theorem enterBld (args : Array Value) (W : World) : Sem.run Try.prog (callFunc 18 args) W = .ok (.enter 18 args) W := by kernel_rfl

/-- What the closure has captured. -/
structure CaughtB (w : World) (p g m b1 b2 : Nat) : Prop where
  c1 : w.heap[b1]? = some (.cells #[bldV b1 b2] 53)
  c2 : w.heap[b2]? = some (.cells #[.pointer (some ⟨p, 0, none⟩)] 24)
  n1 : b1 ∉ [p, g, m]
  n2 : b2 ∉ [p, g, m]
theorem CaughtB.next {w W : World} {p g m b1 b2 g' : Nat} (h : CaughtB w p g m b1 b2) (k : Kept [p, g, m] w W) (hg : g' = g ∨ w.heap.size ≤ g') : CaughtB W p g' m b1 b2 := by
  have l1 := (Array.getElem?_eq_some_iff.1 h.c1).1
  have l2 := (Array.getElem?_eq_some_iff.1 h.c2).1
  have n1 := h.n1
  have n2 := h.n2
  simp at n1 n2
  exact ⟨k.stays h.c1 h.n1, k.stays h.c2 h.n2, by simp; omega, by simp; omega⟩

/-- Rows of bools lie in block b, from off on. -/
def RowsAt (w : World) (b off n : Nat) (r : Nat → Bool) : Prop := ∀ i, i < n → w.cell? ⟨b, off + i, none⟩ = some (.bool (r i))
theorem RowsAt.lt {w : World} {b off n : Nat} {r : Nat → Bool} (h : RowsAt w b off n r) (hn : 0 < n) : b < w.heap.size := World.block_lt_of_cell? w ⟨b, off + 0, none⟩ (h 0 hn)
theorem RowsAt.kept {w W : World} {b off n : Nat} {r : Nat → Bool} {own : List Nat} (h : RowsAt w b off n r) (k : Kept own w W) (hn : b ∉ own) : RowsAt W b off n r := fun i hi => by
  have l := World.block_lt_of_cell? w ⟨b, off + i, none⟩ (h i hi)
  rw [World.cell?_of_block (k.block b l hn)]
  exact h i hi
theorem RowsAt.below {w W : World} {b off n : Nat} {r : Nat → Bool} (h : RowsAt w b off n r) (k : Below w.heap.size w W) : RowsAt W b off n r := fun i hi => by
  have l := World.block_lt_of_cell? w ⟨b, off + i, none⟩ (h i hi)
  rw [World.cell?_of_block (k.block b l)]
  exact h i hi
theorem RowsAt.low {w : World} {b off n : Nat} {r : Nat → Bool} (h : RowsAt w b off (2 * n) r) : RowsAt w b off n r := fun i hi => h i (by omega)
theorem RowsAt.high {w : World} {b off n : Nat} {r : Nat → Bool} (h : RowsAt w b off (2 * n) r) : RowsAt w b (off + n) n (fun i => r (n + i)) := fun i hi => by
  rw [Nat.add_assoc]
  exact h (n + i) (by omega)

set_option maxHeartbeats 400000 in
set_option maxRecDepth 20000 in
theorem answer_any (x : Bool) (w : World) : Calls Try.prog 19 #[.bool x] w fun e w' => e = .returned (.int .i64 (if x = true then 1 else 0)) ∧ w' = w := by
  cases x with
  | _ =>
    go_enter Try.func19, Try.ntmps19
    go_wp2
    go_ret
    exact ⟨rfl, rfl⟩

set_option maxHeartbeats 400000 in
set_option maxRecDepth 20000 in
theorem tbuild_leaf (x : Bool) (v : Int) {w : World} {b off cap b1 b2 : Nat} (hr : w.cell? ⟨b, off, none⟩ = some (.bool x)) :
    Calls Try.prog 18 #[.int .i64 v, .slice (some ⟨b, off, none⟩) 1 cap, .pointer (some ⟨b1, 0, none⟩), .pointer (some ⟨b2, 0, none⟩)] w fun e w' => e = .returned (.tuple #[.int .i64 (if x = true then 1 else 0), .nilIface]) ∧ w' = w := by
  have ha := answer_any x w
  generalize (if x = true then (1 : Int) else 0) = y at ha ⊢
  go_enter Try.func18, Try.ntmps18
  go_wp2_with fail
  refine ha.mono ?_
  rintro e w' ⟨rfl, rfl⟩
  go_wp2_with fail
  go_ret2
  exact ⟨rfl, rfl⟩

/-- What the closure works on: an arena, what it has captured, rows. -/
structure BSit (w : World) (p g m cap b1 b2 : Nat) (most : Int) (ns : List Nd) (b : Nat) : Prop where
  arena : ArenaAt 51 47 w p g m cap most ns
  caught : CaughtB w p g m b1 b2
  nb : b ∉ [p, g, m]
  lb : b < w.heap.size
def BPost (p m : Nat) (most : Int) (w : World) (g : Nat) (k : Int) (ns : List Nd) (e : Ending) (w' : World) : Prop :=
  ∃ g' cap', e = .returned (.tuple #[.int .i64 k, .nilIface]) ∧ ArenaAt 51 47 w' p g' m cap' most ns ∧ Kept [p, g, m] w w' ∧ (g' = g ∨ w.heap.size ≤ g')
theorem BSit.drew {w : World} {p g m cap b1 b2 : Nat} {most : Int} {ns : List Nd} {b : Nat} (h : BSit w p g m cap b1 b2 most ns b) : BSit w.drew p g m cap b1 b2 most ns b :=
  ⟨h.arena.below (Below.refl _ _).drew, ⟨h.caught.c1, h.caught.c2, h.caught.n1, h.caught.n2⟩, h.nb, h.lb⟩
theorem BSit.next {w W : World} {p g m cap b1 b2 : Nat} {most : Int} {ns ns' : List Nd} {b g' cap' : Nat} (h : BSit w p g m cap b1 b2 most ns b) (a : ArenaAt 51 47 W p g' m cap' most ns') (k : Kept [p, g, m] w W) (e : g' = g ∨ w.heap.size ≤ g') : BSit W p g' m cap' b1 b2 most ns' b := by
  have nb := h.nb
  have lb := h.lb
  simp at nb
  exact ⟨a, h.caught.next k e, by simp; omega, Nat.lt_of_lt_of_le lb k.size⟩

set_option maxHeartbeats 400000 in
set_option maxRecDepth 20000 in
theorem tbuild_node (n : Nat) (hn : 1 ≤ n) (hn' : n ≤ 1024) (v : Nat) (hv : v ≤ 20) {p g m b off cap b1 b2 cp : Nat} {most : Int} {ns nsA nsB : List Nd} {ka kb : Int} (r : Nat → Bool) (hcap : 2 * n ≤ cap) (he : (mkR most nsB v ka kb).2.1 = 0)
    (ha : ∀ w g cp, BSit w p g m cp b1 b2 most ns b → RowsAt w b off n r → Calls Try.prog 18 #[.int .i64 ((v : Int) + 1), .slice (some ⟨b, off, none⟩) n cap, .pointer (some ⟨b1, 0, none⟩), .pointer (some ⟨b2, 0, none⟩)] w (BPost p m most w g ka nsA))
    (hb : ∀ w g cp, BSit w p g m cp b1 b2 most nsA b → RowsAt w b (off + n) n (fun i => r (n + i)) → Calls Try.prog 18 #[.int .i64 ((v : Int) + 1), .slice (some ⟨b, off + n, none⟩) n (cap - n), .pointer (some ⟨b1, 0, none⟩), .pointer (some ⟨b2, 0, none⟩)] w (BPost p m most w g kb nsB))
    {w : World} (s : BSit w p g m cp b1 b2 most ns b) (hr : RowsAt w b off (2 * n) r) :
    Calls Try.prog 18 #[.int .i64 v, .slice (some ⟨b, off, none⟩) (2 * n) cap, .pointer (some ⟨b1, 0, none⟩), .pointer (some ⟨b2, 0, none⟩)] w (BPost p m most w g (joinD most v (ka, nsA) (kb, nsB)).1 (joinD most v (ka, nsA) (kb, nsB)).2) := by
  have hent := enterBld
  have hJ : joinD most v (ka, nsA) (kb, nsB) = ((mkR most nsB v ka kb).1, (mkR most nsB v ka kb).2.2) := by unfold joinD; simp only
  rw [hJ]
  clear hJ
  generalize hR : mkR most nsB v ka kb = R at he ⊢
  have HR : Hid (mkR most nsB v ka kb = R) := hR
  have HE : Hid (R.2.1 = 0) := he
  clear he hR
  have C2 : w.cell? ⟨b1, 0, none⟩ = some (.func (.func 18) #[] #[.pointer (some ⟨b1, 0, none⟩), .pointer (some ⟨b2, 0, none⟩)]) := by simp [World.cell?, s.caught.c1, bldV]
  have l1 : b1 < w.heap.size := World.block_lt_of_cell? w _ C2
  have hA := ha w.drew g cp s.drew (hr.low.below (Below.refl _ _).drew)
  clear ha
  obtain ⟨M, hM⟩ : ∃ M : Nat, M = 2 * n := ⟨_, rfl⟩
  have hq : (M : Int).tdiv 2 = n := by
    rw [Int.tdiv_eq_ediv_of_nonneg (by omega)]
    omega
  have hne : ((M : Int) == 1) = false := by
    rw [beq_eq_false_iff_ne]
    omega
  have h1 : (v : Int) ≤ 20 := by omega
  have h3 : (n : Int) ≤ 1024 := by omega
  have h4 : (n : Int) ≤ cap := by omega
  have h5 : (n : Int) ≤ M := by omega
  have h6 : M - n = n := by omega
  have h7 : (0 : Int) ≤ n := by omega
  have h8 : ¬ cap = n := by omega
  have hw : IntKind.i64.wrap ((v : Int) + 1) = (v : Int) + 1 := by rw [IntKind.wrap_i64]; omega
  rw [← hM] at hcap hr ⊢
  have hM1 : M ≤ 2048 := by omega
  have hM0 : 2 ≤ M := by omega
  have HM : Hid (M = 2 * n) := hM
  clear hM
  go_enter Try.func18, Try.ntmps18
  go_wp2_with fail
  go_region_held3 (fun U => U.cell? ⟨b1, 0, none⟩ = some (.func (.func 18) #[] #[.pointer (some ⟨b1, 0, none⟩), .pointer (some ⟨b2, 0, none⟩)]))
    (first
      | exact C2
      | exact cA)
    (first
      | (go_at_call 18; refine hA.mono ?_; rintro e w1 ⟨g1, cap1, rfl, a1, k1, e1⟩; have s1 := s.drew.next a1 k1 e1; have cA : w1.cell? ⟨b1, 0, none⟩ = some (.func (.func 18) #[] #[.pointer (some ⟨b1, 0, none⟩), .pointer (some ⟨b2, 0, none⟩)]) := (by simp [World.cell?, s1.caught.c1, bldV])))
  clear hA C2
  have hr1 : RowsAt w1 b off M r := (hr.below (Below.refl _ _).drew).kept k1 s.nb
  go_wp2_with fail
  rw [HM.out] at hr1
  have hB := hb w1.drew g1 cap1 s1.drew (hr1.high.below (Below.refl _ _).drew)
  clear hb hr hr1
  go_region_held3 (fun U => U.cell? ⟨b1, 0, none⟩ = some (.func (.func 18) #[] #[.pointer (some ⟨b1, 0, none⟩), .pointer (some ⟨b2, 0, none⟩)]))
    (first
      | exact cA
      | exact cB)
    (first
      | (go_at_call 18; refine hB.mono ?_; rintro e w2 ⟨g2, cap2, rfl, a2, k2, e2⟩; have s2 := s1.drew.next a2 k2 e2; have cB : w2.cell? ⟨b1, 0, none⟩ = some (.func (.func 18) #[] #[.pointer (some ⟨b1, 0, none⟩), .pointer (some ⟨b2, 0, none⟩)]) := (by simp [World.cell?, s2.caught.c1, bldV])))
  clear hB cA
  have C3 : w2.cell? ⟨b2, 0, none⟩ = some (.pointer (some ⟨p, 0, none⟩)) := by simp [World.cell?, s2.caught.c2]
  have k1' : Kept [p, g, m] w w1 := Kept.next (g' := g) (Kept.of_below (Below.refl _ _).drew _) (.inl rfl) k1
  have k12 := k1'.next e1 (Kept.next (g' := g1) (Kept.of_below (Below.refl _ _).drew _) (.inl rfl) k2)
  have e12 : g2 = g ∨ w.heap.size ≤ g2 := by
    have h1 := k1'.size
    have h2 : w1.drew.heap.size = w1.heap.size := rfl
    have h3 : w.drew.heap.size = w.heap.size := rfl
    omega
  have hm := mk_any a2 v ka kb
  rw [HR.out, HE.out, errV_zero] at hm
  clear a2 k1 k2 e1 e2 a1 s s1 s2 k1'
  go_wp2_with fail
  refine hm.mono ?_
  rintro e w3 ⟨g3, cap3, rfl, a3, k3, e3⟩
  clear hm
  go_wp2_with fail
  go_ret2
  refine ⟨g3, cap3, rfl, a3, k12.next e12 k3, ?_⟩
  have := k12.size
  omega

theorem tbuild_any (bits : Nat) {p m b b1 b2 : Nat} {most : Int} : ∀ (d v fr off cap : Nat) (ns : List Nd), v + d ≤ 11 → 2 ^ d ≤ cap → Good most ns → (ns.length : Int) + 2 ^ d ≤ most + 1 → ∀ (w : World) (g cp : Nat) (r : Nat → Bool), (∀ i, i < 2 ^ d → r i = bits.testBit (fr + i)) → BSit w p g m cp b1 b2 most ns b → RowsAt w b off (2 ^ d) r →
    Calls Try.prog 18 #[.int .i64 v, .slice (some ⟨b, off, none⟩) (2 ^ d) cap, .pointer (some ⟨b1, 0, none⟩), .pointer (some ⟨b2, 0, none⟩)] w (BPost p m most w g (bld most bits d v fr ns).1 (bld most bits d v fr ns).2)
  | 0, v, fr, off, cap, ns, hv, hcap, hg, hroom, w, g, cp, r, hr, s, hrow => by
    have h0 := hrow 0 (by simp)
    rw [hr 0 (by simp)] at h0
    refine (tbuild_leaf (bits.testBit fr) v (b1 := b1) (b2 := b2) (cap := cap) h0).mono ?_
    rintro _ _ ⟨rfl, rfl⟩
    rw [← bitN_bool]
    exact ⟨g, cp, rfl, s.arena, Kept.refl _ _, .inl rfl⟩
  | d + 1, v, fr, off, cap, ns, hv, hcap, hg, hroom, w, g, cp, r, hr, s, hrow => by
    have hp : 2 ^ (d + 1) = 2 * 2 ^ d := by rw [Nat.pow_succ]; omega
    have hpi : (2 : Int) ^ (d + 1) = 2 ^ d + 2 ^ d := by rw [Int.pow_succ]; omega
    have hp1 : (1 : Int) ≤ 2 ^ d := by
      have : (0 : Int) < 2 ^ d := Int.pow_pos (by decide)
      omega
    have hd : 2 ^ d ≤ 2 ^ 10 := Nat.pow_le_pow_right (by decide) (by omega)
    have hd' : (2 : Nat) ^ 10 = 1024 := rfl
    have hd1 : 1 ≤ 2 ^ d := Nat.one_le_two_pow
    rw [hp] at hcap hr hrow
    obtain ⟨a1, a2, a3, a4, _, _⟩ := bld_all most bits d (v + 1) fr ns hg (by omega) (by omega)
    have eA : bld most bits d (v + 1) fr ns = ((bld most bits d (v + 1) fr ns).1, (bld most bits d (v + 1) fr ns).2) := rfl
    obtain ⟨b1', b2', b3, b4, _, _⟩ := bld_all most bits d (v + 1) (fr + 2 ^ d) (bld most bits d (v + 1) fr ns).2 a1 (by omega) (by omega)
    have hE : (mkR most (bld most bits d (v + 1) (fr + 2 ^ d) (bld most bits d (v + 1) fr ns).2).2 v (bld most bits d (v + 1) fr ns).1 (bld most bits d (v + 1) (fr + 2 ^ d) (bld most bits d (v + 1) fr ns).2).1).2.1 = 0 := by
      obtain ⟨k, ns', e, _⟩ := mk_room b1' (v := v) (by omega) (a4.on b2') b4 (by omega)
      rw [e]
    have hA := fun w g cp (s : BSit w p g m cp b1 b2 most ns b) (hR : RowsAt w b off (2 ^ d) r) => tbuild_any bits (b := b) (b1 := b1) (b2 := b2) d (v + 1) fr off cap ns (by omega) (by omega) hg (by omega) w g cp r (fun i hi => hr i (by omega)) s hR
    have hB := fun w g cp (s : BSit w p g m cp b1 b2 most (bld most bits d (v + 1) fr ns).2 b) (hR : RowsAt w b (off + 2 ^ d) (2 ^ d) (fun i => r (2 ^ d + i))) => tbuild_any bits (b := b) (b1 := b1) (b2 := b2) d (v + 1) (fr + 2 ^ d) (off + 2 ^ d) (cap - 2 ^ d) (bld most bits d (v + 1) fr ns).2 (by omega) (by omega) a1 (by omega) w g cp (fun i => r (2 ^ d + i)) (fun i hi => by rw [hr _ (by omega), Nat.add_assoc]) s hR
    have key := tbuild_node (2 ^ d) hd1 (by omega) v (by omega) r hcap hE hA hB s hrow
    rw [bld_succ, hp]
    exact key
end Go.Proofs.Ytcbpklpehdojnaa
