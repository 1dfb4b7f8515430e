/- What three come to by their halves: split. -/
import Derived.Test.YtahjkkegbcalnaaDoorXA
import Derived.Test.YtahjkkegbcalnaaDoorR
namespace Go.Proofs.YtahjkkegbcalnaaDoor
open Go.RowKit Go.Maps

abbrev Two := List (Value × Value) × List (Value × Value)
/-- What is known behind a call that makes one of three. -/
def PPost (j p m qa qd : Nat) (most ru v : Int) (w : World) (g : Nat) (R : List Nd → Two → Int → Int → Prop) (e : Ending) (w' : World) : Prop :=
  ∃ g' cap' ns' s' k err, e = .returned (.tuple #[.int .i64 k, errV err]) ∧ PutAt w' j p g' m qa qd cap' most ru v ns' s'.1 s'.2 ∧ Kept [p, g, m, qa, qd] w w' ∧ (g' = g ∨ w.heap.size ≤ g') ∧ R ns' s' k err
/-- The four variables of the walk. -/
structure FourS (W : World) (b b1 b2 b3 : Nat) (x y z x0 x1 x2 y0 y1 y2 z0 z1 z2 : Int) : Prop where
  h : W.heap[b]? = some (.cells #[.int .i64 x, .int .i64 y, .int .i64 z] 54 (0, 0))
  h1 : W.heap[b1]? = some (.cells #[.int .i64 x0, .int .i64 x1, .int .i64 x2] 35 (0, 0))
  h2 : W.heap[b2]? = some (.cells #[.int .i64 y0, .int .i64 y1, .int .i64 y2] 35 (0, 0))
  h3 : W.heap[b3]? = some (.cells #[.int .i64 z0, .int .i64 z1, .int .i64 z2] 35 (0, 0))
theorem FourS.kept {own : List Nat} {W W' : World} {b b1 b2 b3 : Nat} {x y z x0 x1 x2 y0 y1 y2 z0 z1 z2 : Int} (h : FourS W b b1 b2 b3 x y z x0 x1 x2 y0 y1 y2 z0 z1 z2) (k : Kept own W W') (hb : b ∉ own) (hb1 : b1 ∉ own) (hb2 : b2 ∉ own) (hb3 : b3 ∉ own) : FourS W' b b1 b2 b3 x y z x0 x1 x2 y0 y1 y2 z0 z1 z2 :=
  ⟨k.stays h.h hb, k.stays h.h1 hb1, k.stays h.h2 hb2, k.stays h.h3 hb3⟩
theorem FourS.below {W W' : World} {b b1 b2 b3 : Nat} {x y z x0 x1 x2 y0 y1 y2 z0 z1 z2 : Int} (h : FourS W b b1 b2 b3 x y z x0 x1 x2 y0 y1 y2 z0 z1 z2) (k : Below W.heap.size W W') : FourS W' b b1 b2 b3 x y z x0 x1 x2 y0 y1 y2 z0 z1 z2 :=
  h.kept (Kept.of_below k []) (by simp) (by simp) (by simp) (by simp)
def CellsS (W : World) (b b1 b2 b3 : Nat) (x y z x0 x1 x2 y0 y1 y2 z0 z1 z2 : Int) : Prop :=
  W.cell? ⟨b, 0, none⟩ = some (.int .i64 x) ∧ W.cell? ⟨b, 1, none⟩ = some (.int .i64 y) ∧ W.cell? ⟨b, 2, none⟩ = some (.int .i64 z) ∧ W.cell? ⟨b1, 0, none⟩ = some (.int .i64 x0) ∧ W.cell? ⟨b1, 1, none⟩ = some (.int .i64 x1) ∧ W.cell? ⟨b1, 2, none⟩ = some (.int .i64 x2) ∧ W.cell? ⟨b2, 0, none⟩ = some (.int .i64 y0) ∧ W.cell? ⟨b2, 1, none⟩ = some (.int .i64 y1) ∧ W.cell? ⟨b2, 2, none⟩ = some (.int .i64 y2) ∧ W.cell? ⟨b3, 0, none⟩ = some (.int .i64 z0) ∧ W.cell? ⟨b3, 1, none⟩ = some (.int .i64 z1) ∧ W.cell? ⟨b3, 2, none⟩ = some (.int .i64 z2)
theorem FourS.cells {W : World} {b b1 b2 b3 : Nat} {x y z x0 x1 x2 y0 y1 y2 z0 z1 z2 : Int} (h : FourS W b b1 b2 b3 x y z x0 x1 x2 y0 y1 y2 z0 z1 z2) : CellsS W b b1 b2 b3 x y z x0 x1 x2 y0 y1 y2 z0 z1 z2 := by
  obtain ⟨p0, p1, p2⟩ := three_cells h.h
  obtain ⟨q0, q1, q2⟩ := three_cells h.h1
  obtain ⟨r0, r1, r2⟩ := three_cells h.h2
  obtain ⟨s0, s1, s2⟩ := three_cells h.h3
  exact ⟨p0, p1, p2, q0, q1, q2, r0, r1, r2, s0, s1, s2⟩

def fr8 (j p b : Nat) (x y z : Int) (v6 v7 v8 v19 v26 v33 : Value) : Array Value := #[.pointer (some ⟨j, 0, none⟩), .agg #[.int .i64 x, .int .i64 y, .int .i64 z], undef, .pointer (some ⟨b, 0, none⟩), .int .i64 0, .nilIface, v6, v7, v8, undef, undef, undef, undef, .pointer (some ⟨j, 0, none⟩), .pointer (some ⟨j, 0, none⟩), .pointer (some ⟨j, 0, none⟩), .pointer (some ⟨p, 0, none⟩), .pointer (some ⟨b, 0, none⟩), .int .i64 x, v19, .pointer (some ⟨j, 0, none⟩), .pointer (some ⟨j, 0, none⟩), .pointer (some ⟨j, 0, none⟩), .pointer (some ⟨p, 0, none⟩), .pointer (some ⟨b, 1, none⟩), .int .i64 y, v26, .pointer (some ⟨j, 0, none⟩), .pointer (some ⟨j, 0, none⟩), .pointer (some ⟨j, 0, none⟩), .pointer (some ⟨p, 0, none⟩), .pointer (some ⟨b, 2, none⟩), .int .i64 z, v33, undef, undef, undef, undef, undef, undef, undef, undef, undef, undef, undef, undef, undef, undef, undef, undef, undef, undef, undef, undef, undef, undef, undef, undef, undef, undef, undef, undef, undef, undef, undef, undef, undef, undef, undef, undef, undef, undef, undef, undef, undef, undef, undef, undef, undef, undef, undef, undef, undef, undef, undef, undef, undef, undef, undef, undef, undef, undef, undef, undef, undef, undef, undef, undef, undef]
/-- What holds between the operations that make and fill three variables with what three calls tell. -/
structure MidS (U : World) (j p b : Nat) (x y z : Int) (nx ny nz : Nd) (l : Array Bool) (a : Act) (w : World) (l6 l13 l20 l21 l22 l23 l24 l25 l26 : Bool) (v10 v11 v12 v46 v53 v60 : Value) (b1 b2 b3 : Nat) : Prop where
  hl : l = #[true, true, true, true, true, true, l6, true, true, true, true, true, true, l13, true, true, true, true, true, true, l20, l21, l22, l23, l24, l25, l26]
  ha : a = ⟨fr8 j p b x y z v10 v11 v12 v46 v53 v60, []⟩
  hb : Below U.heap.size U w
  c6 : l6 = true → v46 = ndV nx
  c13 : l13 = true → v53 = ndV ny
  c20 : l20 = true → v60 = ndV nz
  x1 : Box U.heap.size w l21 v10 b1 l24 nx
  x2 : Box U.heap.size w l22 v11 b2 l25 ny
  x3 : Box U.heap.size w l23 v12 b3 l26 nz
  n12 : l21 = true → l22 = true → b1 ≠ b2
  n13 : l21 = true → l23 = true → b1 ≠ b3
  n23 : l22 = true → l23 = true → b2 ≠ b3
  d1 : l24 = true → l21 = true
  d2 : l25 = true → l22 = true
  d3 : l26 = true → l23 = true
def MidSE (U : World) (j p b : Nat) (x y z : Int) (nx ny nz : Nd) (l : Array Bool) (a : Act) (w : World) : Prop :=
  ∃ l6 l13 l20 l21 l22 l23 l24 l25 l26 v10 v11 v12 v46 v53 v60 b1 b2 b3, MidS U j p b x y z nx ny nz l a w l6 l13 l20 l21 l22 l23 l24 l25 l26 v10 v11 v12 v46 v53 v60 b1 b2 b3
section
variable {w : World} {j p g m qa qd cap : Nat} {most ru v : Int} {ns : List Nd} {ka kd : List (Value × Value)}
set_option maxHeartbeats 4000000 in
set_option maxRecDepth 20000 in
theorem split_new (h : PutAt w j p g m qa qd cap most ru v ns ka kd) (d : Nd) (u : Int) (hv : min3 (getN ns d.v).v (getN ns d.lo).v (getN ns d.hi).v = u)
    {PL : List Nd → Two → Int → Int → Prop} {PH : List Nd → Two → Int → List Nd → Two → Int → Int → Prop}
    (hlow : ∀ X, Below w.heap.size w X → Calls Tryd.prog 15 #[.pointer (some ⟨j, 0, none⟩), ndV ⟨lowP u d.v (getN ns d.v), lowP u d.lo (getN ns d.lo), lowP u d.hi (getN ns d.hi)⟩] X (PPost j p m qa qd most ru v X g PL))
    (hhigh : ∀ X g1 cap1 ns1 s1 k1, PutAt X j p g1 m qa qd cap1 most ru v ns1 s1.1 s1.2 → PL ns1 s1 k1 0 → Calls Tryd.prog 15 #[.pointer (some ⟨j, 0, none⟩), ndV ⟨highP u d.v (getN ns d.v), highP u d.lo (getN ns d.lo), highP u d.hi (getN ns d.hi)⟩] X (PPost j p m qa qd most ru v X g1 (PH ns1 s1 k1))) :
    Calls Tryd.prog 25 #[.pointer (some ⟨j, 0, none⟩), ndV d] w (PPost j p m qa qd most ru v w g (FinS most u PL PH)) := by
  obtain ⟨x, y, z⟩ := d
  have HJ : Hid (PutAt w j p g m qa qd cap most ru v ns ka kd) := h
  dsimp only at hv hlow hhigh
  have HND : ndV ⟨x, y, z⟩ = .agg #[.int .i64 x, .int .i64 y, .int .i64 z] := rfl
  rw [HND]
  clear HND
  have c0 := h.c0
  have hj := h.ltj
  have ha := h.arena
  clear h
  go_enter Tryd.func25, Tryd.ntmps25
  go_wp2_with fail
  obtain ⟨U, hU⟩ : ∃ U, U = w.alloc (.cells #[.int .i64 x, .int .i64 y, .int .i64 z] 54) := ⟨_, rfl⟩
  rw [← hU]
  obtain ⟨b, hb⟩ : ∃ b, b = w.heap.size := ⟨_, rfl⟩
  rw [← hb]
  have hcU : U.heap[b]? = some (.cells #[.int .i64 x, .int .i64 y, .int .i64 z] 54) := by rw [hU, hb]; exact heap_new_at _ _ _ rfl
  have hwU : Below w.heap.size w U := by rw [hU]; exact (Below.refl _ _).alloc (Nat.le_refl _) _
  obtain ⟨C0, C1, C2⟩ := three_cells hcU
  have D0 : U.cell? ⟨j, 0, none⟩ = some (.pointer (some ⟨p, 0, none⟩)) := by rw [hwU.cell hj]; exact c0
  have lb : b < U.heap.size := (Array.getElem?_eq_some_iff.1 hcU).1
  have lj : j < U.heap.size := Nat.lt_of_lt_of_le hj hwU.size
  have hAU := ha.below hwU
  have HC : ∀ U', Below U.heap.size U U' → U'.cell? ⟨b, 0, none⟩ = some (.int .i64 x) ∧ U'.cell? ⟨b, 1, none⟩ = some (.int .i64 y) ∧ U'.cell? ⟨b, 2, none⟩ = some (.int .i64 z) ∧ U'.cell? ⟨j, 0, none⟩ = some (.pointer (some ⟨p, 0, none⟩)) ∧ Below U.heap.size U U' := fun U' hU =>
    ⟨by rw [hU.cell lb]; exact C0, by rw [hU.cell lb]; exact C1, by rw [hU.cell lb]; exact C2, by rw [hU.cell lj]; exact D0, hU⟩
  have HBW : Hid (w.heap.size ≤ b) := Nat.le_of_eq hb.symm
  clear hU hb c0 hj ha
  have GA : ∀ (k : Int) U', Below U.heap.size U U' → Calls Tryd.prog 23 #[.pointer (some ⟨p, 0, none⟩), .int .i64 k] U' fun e U2 => e = .returned (ndV (getN ns k)) ∧ Below U'.heap.size U' U2 ∧ U2.heap.size = U'.heap.size + 1 := fun k U' hU => get_any (hAU.below hU) k
  unfold ndV at GA
  refine wp_region_noPanic ?_
  refine wp_region_held_drew (S := (fun U' => U'.cell? ⟨b, 0, none⟩ = some (.int .i64 x) ∧ U'.cell? ⟨b, 1, none⟩ = some (.int .i64 y) ∧ U'.cell? ⟨b, 2, none⟩ = some (.int .i64 z) ∧ U'.cell? ⟨j, 0, none⟩ = some (.pointer (some ⟨p, 0, none⟩)) ∧ Below U.heap.size U U')) (by kernel_rfl) (HC _ (Below.refl _ _).drew) (fun hHeld => ?_)
  refine wpAnyH_take2 (i := 0) (d := some 13) (v := .pointer (some ⟨j, 0, none⟩)) rfl (by kernel_rfl) (by kernel_rfl) (by kernel_rfl) (fun _ _ _ h => h) (fun o ho => ?_) hHeld ?_
  · simp only [List.getElem?_toArray, List.getElem?_cons_zero, Option.some.injEq] at ho
    subst ho
    refine ⟨by rfl, fun w hSw => ?_⟩
    (try dsimp only at hSw)
    go_simp
  simp only [Act.put, List.setIfInBounds_toArray, List.set_cons_zero, List.set_cons_succ]
  refine wpAnyH_take2 (i := 1) (d := some 14) (v := .pointer (some ⟨j, 0, none⟩)) rfl (by kernel_rfl) (by kernel_rfl) (by kernel_rfl) (fun _ _ _ h => h) (fun o ho => ?_) hHeld ?_
  · simp only [List.getElem?_toArray, List.getElem?_cons_zero, List.getElem?_cons_succ, Option.some.injEq] at ho
    subst ho
    refine ⟨by rfl, fun w hSw => ?_⟩
    (try dsimp only at hSw)
    go_simp
  simp only [Act.put, List.setIfInBounds_toArray, List.set_cons_zero, List.set_cons_succ]
  refine wpAnyH_take2 (i := 2) (d := some 15) (v := .pointer (some ⟨j, 0, none⟩)) rfl (by kernel_rfl) (by kernel_rfl) (by kernel_rfl) (fun _ _ _ h => h) (fun o ho => ?_) hHeld ?_
  · simp only [List.getElem?_toArray, List.getElem?_cons_zero, List.getElem?_cons_succ, Option.some.injEq] at ho
    subst ho
    refine ⟨by rfl, fun w hSw => ?_⟩
    (try dsimp only at hSw)
    go_simp
  simp only [Act.put, List.setIfInBounds_toArray, List.set_cons_zero, List.set_cons_succ]
  refine wpAnyH_take2 (i := 3) (d := some 16) (v := .pointer (some ⟨p, 0, none⟩)) rfl (by kernel_rfl) (by kernel_rfl) (by kernel_rfl) (fun _ _ _ h => h) (fun o ho => ?_) hHeld ?_
  · simp only [List.getElem?_toArray, List.getElem?_cons_zero, List.getElem?_cons_succ, Option.some.injEq] at ho
    subst ho
    refine ⟨by rfl, fun w hSw => ?_⟩
    (try dsimp only at hSw)
    go_simp
  simp only [Act.put, List.setIfInBounds_toArray, List.set_cons_zero, List.set_cons_succ]
  refine wpAnyH_take2 (i := 4) (d := some 17) (v := .pointer (some ⟨b, 0, none⟩)) rfl (by kernel_rfl) (by kernel_rfl) (by kernel_rfl) (fun _ _ _ h => h) (fun o ho => ?_) hHeld ?_
  · simp only [List.getElem?_toArray, List.getElem?_cons_zero, List.getElem?_cons_succ, Option.some.injEq] at ho
    subst ho
    refine ⟨by rfl, fun w hSw => ?_⟩
    (try dsimp only at hSw)
    go_simp
  simp only [Act.put, List.setIfInBounds_toArray, List.set_cons_zero, List.set_cons_succ]
  refine wpAnyH_take2 (i := 5) (d := some 18) (v := .int .i64 x) rfl (by kernel_rfl) (by kernel_rfl) (by kernel_rfl) (fun _ _ _ h => h) (fun o ho => ?_) hHeld ?_
  · simp only [List.getElem?_toArray, List.getElem?_cons_zero, List.getElem?_cons_succ, Option.some.injEq] at ho
    subst ho
    refine ⟨by rfl, fun w hSw => ?_⟩
    (try dsimp only at hSw)
    go_simp
  simp only [Act.put, List.setIfInBounds_toArray, List.set_cons_zero, List.set_cons_succ]
  refine wpAnyH_take2 (i := 7) (d := some 20) (v := .pointer (some ⟨j, 0, none⟩)) rfl (by kernel_rfl) (by kernel_rfl) (by kernel_rfl) (fun _ _ _ h => h) (fun o ho => ?_) hHeld ?_
  · simp only [List.getElem?_toArray, List.getElem?_cons_zero, List.getElem?_cons_succ, Option.some.injEq] at ho
    subst ho
    refine ⟨by rfl, fun w hSw => ?_⟩
    (try dsimp only at hSw)
    go_simp
  simp only [Act.put, List.setIfInBounds_toArray, List.set_cons_zero, List.set_cons_succ]
  refine wpAnyH_take2 (i := 8) (d := some 21) (v := .pointer (some ⟨j, 0, none⟩)) rfl (by kernel_rfl) (by kernel_rfl) (by kernel_rfl) (fun _ _ _ h => h) (fun o ho => ?_) hHeld ?_
  · simp only [List.getElem?_toArray, List.getElem?_cons_zero, List.getElem?_cons_succ, Option.some.injEq] at ho
    subst ho
    refine ⟨by rfl, fun w hSw => ?_⟩
    (try dsimp only at hSw)
    go_simp
  simp only [Act.put, List.setIfInBounds_toArray, List.set_cons_zero, List.set_cons_succ]
  refine wpAnyH_take2 (i := 9) (d := some 22) (v := .pointer (some ⟨j, 0, none⟩)) rfl (by kernel_rfl) (by kernel_rfl) (by kernel_rfl) (fun _ _ _ h => h) (fun o ho => ?_) hHeld ?_
  · simp only [List.getElem?_toArray, List.getElem?_cons_zero, List.getElem?_cons_succ, Option.some.injEq] at ho
    subst ho
    refine ⟨by rfl, fun w hSw => ?_⟩
    (try dsimp only at hSw)
    go_simp
  simp only [Act.put, List.setIfInBounds_toArray, List.set_cons_zero, List.set_cons_succ]
  refine wpAnyH_take2 (i := 10) (d := some 23) (v := .pointer (some ⟨p, 0, none⟩)) rfl (by kernel_rfl) (by kernel_rfl) (by kernel_rfl) (fun _ _ _ h => h) (fun o ho => ?_) hHeld ?_
  · simp only [List.getElem?_toArray, List.getElem?_cons_zero, List.getElem?_cons_succ, Option.some.injEq] at ho
    subst ho
    refine ⟨by rfl, fun w hSw => ?_⟩
    (try dsimp only at hSw)
    go_simp
  simp only [Act.put, List.setIfInBounds_toArray, List.set_cons_zero, List.set_cons_succ]
  refine wpAnyH_take2 (i := 11) (d := some 24) (v := .pointer (some ⟨b, 1, none⟩)) rfl (by kernel_rfl) (by kernel_rfl) (by kernel_rfl) (fun _ _ _ h => h) (fun o ho => ?_) hHeld ?_
  · simp only [List.getElem?_toArray, List.getElem?_cons_zero, List.getElem?_cons_succ, Option.some.injEq] at ho
    subst ho
    refine ⟨by rfl, fun w hSw => ?_⟩
    (try dsimp only at hSw)
    go_simp
  simp only [Act.put, List.setIfInBounds_toArray, List.set_cons_zero, List.set_cons_succ]
  refine wpAnyH_take2 (i := 12) (d := some 25) (v := .int .i64 y) rfl (by kernel_rfl) (by kernel_rfl) (by kernel_rfl) (fun _ _ _ h => h) (fun o ho => ?_) hHeld ?_
  · simp only [List.getElem?_toArray, List.getElem?_cons_zero, List.getElem?_cons_succ, Option.some.injEq] at ho
    subst ho
    refine ⟨by rfl, fun w hSw => ?_⟩
    (try dsimp only at hSw)
    go_simp
  simp only [Act.put, List.setIfInBounds_toArray, List.set_cons_zero, List.set_cons_succ]
  refine wpAnyH_take2 (i := 14) (d := some 27) (v := .pointer (some ⟨j, 0, none⟩)) rfl (by kernel_rfl) (by kernel_rfl) (by kernel_rfl) (fun _ _ _ h => h) (fun o ho => ?_) hHeld ?_
  · simp only [List.getElem?_toArray, List.getElem?_cons_zero, List.getElem?_cons_succ, Option.some.injEq] at ho
    subst ho
    refine ⟨by rfl, fun w hSw => ?_⟩
    (try dsimp only at hSw)
    go_simp
  simp only [Act.put, List.setIfInBounds_toArray, List.set_cons_zero, List.set_cons_succ]
  refine wpAnyH_take2 (i := 15) (d := some 28) (v := .pointer (some ⟨j, 0, none⟩)) rfl (by kernel_rfl) (by kernel_rfl) (by kernel_rfl) (fun _ _ _ h => h) (fun o ho => ?_) hHeld ?_
  · simp only [List.getElem?_toArray, List.getElem?_cons_zero, List.getElem?_cons_succ, Option.some.injEq] at ho
    subst ho
    refine ⟨by rfl, fun w hSw => ?_⟩
    (try dsimp only at hSw)
    go_simp
  simp only [Act.put, List.setIfInBounds_toArray, List.set_cons_zero, List.set_cons_succ]
  refine wpAnyH_take2 (i := 16) (d := some 29) (v := .pointer (some ⟨j, 0, none⟩)) rfl (by kernel_rfl) (by kernel_rfl) (by kernel_rfl) (fun _ _ _ h => h) (fun o ho => ?_) hHeld ?_
  · simp only [List.getElem?_toArray, List.getElem?_cons_zero, List.getElem?_cons_succ, Option.some.injEq] at ho
    subst ho
    refine ⟨by rfl, fun w hSw => ?_⟩
    (try dsimp only at hSw)
    go_simp
  simp only [Act.put, List.setIfInBounds_toArray, List.set_cons_zero, List.set_cons_succ]
  refine wpAnyH_take2 (i := 17) (d := some 30) (v := .pointer (some ⟨p, 0, none⟩)) rfl (by kernel_rfl) (by kernel_rfl) (by kernel_rfl) (fun _ _ _ h => h) (fun o ho => ?_) hHeld ?_
  · simp only [List.getElem?_toArray, List.getElem?_cons_zero, List.getElem?_cons_succ, Option.some.injEq] at ho
    subst ho
    refine ⟨by rfl, fun w hSw => ?_⟩
    (try dsimp only at hSw)
    go_simp
  simp only [Act.put, List.setIfInBounds_toArray, List.set_cons_zero, List.set_cons_succ]
  refine wpAnyH_take2 (i := 18) (d := some 31) (v := .pointer (some ⟨b, 2, none⟩)) rfl (by kernel_rfl) (by kernel_rfl) (by kernel_rfl) (fun _ _ _ h => h) (fun o ho => ?_) hHeld ?_
  · simp only [List.getElem?_toArray, List.getElem?_cons_zero, List.getElem?_cons_succ, Option.some.injEq] at ho
    subst ho
    refine ⟨by rfl, fun w hSw => ?_⟩
    (try dsimp only at hSw)
    go_simp
  simp only [Act.put, List.setIfInBounds_toArray, List.set_cons_zero, List.set_cons_succ]
  refine wpAnyH_take2 (i := 19) (d := some 32) (v := .int .i64 z) rfl (by kernel_rfl) (by kernel_rfl) (by kernel_rfl) (fun _ _ _ h => h) (fun o ho => ?_) hHeld ?_
  · simp only [List.getElem?_toArray, List.getElem?_cons_zero, List.getElem?_cons_succ, Option.some.injEq] at ho
    subst ho
    refine ⟨by rfl, fun w hSw => ?_⟩
    (try dsimp only at hSw)
    go_simp
  simp only [Act.put, List.setIfInBounds_toArray, List.set_cons_zero, List.set_cons_succ]
  refine wpAnyH_inv (I := MidSE U j p b x y z (getN ns x) (getN ns y) (getN ns z)) (by kernel_rfl) ?hsz ?hS ?hstep ?hend _ _ _ _ ?hc ?hI
  case hc => decide
  case hI => exact ⟨false, false, false, false, false, false, false, false, false, undef, undef, undef, undef, undef, undef, 0, 0, 0, rfl, rfl, (Below.refl _ _).drew, (by simp), (by simp), (by simp), (fun h => by cases h), (fun h => by cases h), (fun h => by cases h), (by simp), (by simp), (by simp), (by simp), (by simp), (by simp)⟩
  case hsz =>
    rintro l a w ⟨l6, l13, l20, l21, l22, l23, l24, l25, l26, v10, v11, v12, v46, v53, v60, b1, b2, b3, M⟩
    rw [M.hl]
    rfl
  case hS =>
    rintro l a w ⟨l6, l13, l20, l21, l22, l23, l24, l25, l26, v10, v11, v12, v46, v53, v60, b1, b2, b3, M⟩
    exact HC _ M.hb
  case hstep =>
    rintro l a w ⟨l6, l13, l20, l21, l22, l23, l24, l25, l26, v10, v11, v12, v46, v53, v60, b1, b2, b3, M⟩ i o h1 ho h2
    obtain ⟨rfl, rfl, hb, c6, c13, c20, x1, x2, x3, n12, n13, n23, d1, d2, d3⟩ := M
    have hi : i < 27 := (Array.getElem?_eq_some_iff.1 ho).1
    rcases (by omega : i = 0 ∨ i = 1 ∨ i = 2 ∨ i = 3 ∨ i = 4 ∨ i = 5 ∨ i = 6 ∨ i = 7 ∨ i = 8 ∨ i = 9 ∨ i = 10 ∨ i = 11 ∨ i = 12 ∨ i = 13 ∨ i = 14 ∨ i = 15 ∨ i = 16 ∨ i = 17 ∨ i = 18 ∨ i = 19 ∨ i = 20 ∨ i = 21 ∨ i = 22 ∨ i = 23 ∨ i = 24 ∨ i = 25 ∨ i = 26) with rfl | rfl | rfl | rfl | rfl | rfl | rfl | rfl | rfl | rfl | rfl | rfl | rfl | rfl | rfl | rfl | rfl | rfl | rfl | rfl | rfl | rfl | rfl | rfl | rfl | rfl | rfl
    · simp at h1
    · simp at h1
    · simp at h1
    · simp at h1
    · simp at h1
    · simp at h1
    · simp only [List.getElem?_toArray, List.getElem?_cons_zero, List.getElem?_cons_succ, Option.some.injEq] at ho
      subst ho
      refine wpOp_is rfl (by rfl) ?_
      clear h2
      unfold fr8
      go_simp
      refine (GA x _ hb).mono ?_
      rintro e w2 ⟨rfl, hb2, hs2⟩
      exact ⟨true, l13, l20, l21, l22, l23, l24, l25, l26, v10, v11, v12, ndV (getN ns x), v53, v60, b1, b2, b3, rfl, rfl, Below.up hb hb2 (Nat.le_refl _), fun _ => rfl, c13, c20, x1.below hb2, x2.below hb2, x3.below hb2, n12, n13, n23, d1, d2, d3⟩
    · simp at h1
    · simp at h1
    · simp at h1
    · simp at h1
    · simp at h1
    · simp at h1
    · simp only [List.getElem?_toArray, List.getElem?_cons_zero, List.getElem?_cons_succ, Option.some.injEq] at ho
      subst ho
      refine wpOp_is rfl (by rfl) ?_
      clear h2
      unfold fr8
      go_simp
      refine (GA y _ hb).mono ?_
      rintro e w2 ⟨rfl, hb2, hs2⟩
      exact ⟨l6, true, l20, l21, l22, l23, l24, l25, l26, v10, v11, v12, v46, ndV (getN ns y), v60, b1, b2, b3, rfl, rfl, Below.up hb hb2 (Nat.le_refl _), c6, fun _ => rfl, c20, x1.below hb2, x2.below hb2, x3.below hb2, n12, n13, n23, d1, d2, d3⟩
    · simp at h1
    · simp at h1
    · simp at h1
    · simp at h1
    · simp at h1
    · simp at h1
    · simp only [List.getElem?_toArray, List.getElem?_cons_zero, List.getElem?_cons_succ, Option.some.injEq] at ho
      subst ho
      refine wpOp_is rfl (by rfl) ?_
      clear h2
      unfold fr8
      go_simp
      refine (GA z _ hb).mono ?_
      rintro e w2 ⟨rfl, hb2, hs2⟩
      exact ⟨l6, l13, true, l21, l22, l23, l24, l25, l26, v10, v11, v12, v46, v53, ndV (getN ns z), b1, b2, b3, rfl, rfl, Below.up hb hb2 (Nat.le_refl _), c6, c13, fun _ => rfl, x1.below hb2, x2.below hb2, x3.below hb2, n12, n13, n23, d1, d2, d3⟩
    · simp only [List.getElem?_toArray, List.getElem?_cons_zero, List.getElem?_cons_succ, Option.some.injEq] at ho
      subst ho
      refine wpOp_is rfl (by rfl) ?_
      clear h2
      have hs := hb.size
      have hal : Below w.heap.size w (w.alloc (.cells #[.int .i64 0, .int .i64 0, .int .i64 0] 35)) := (Below.refl _ _).alloc (Nat.le_refl _) _
      unfold fr8
      go_simp
      refine ⟨l6, l13, l20, true, l22, l23, l24, l25, l26, .pointer (some ⟨w.heap.size, 0, none⟩), v11, v12, v46, v53, v60, w.heap.size, b2, b3, rfl, rfl, Below.up hb hal (Nat.le_refl _), c6, c13, c20, ?new, x2.below hal, x3.below hal, fun _ h => Nat.ne_of_gt (x2.lt h), fun _ h => Nat.ne_of_gt (x3.lt h), n23, fun _ => rfl, d2, d3⟩
      case new => exact fun _ => ⟨rfl, hs, _, _, _, heap_new_at _ _ _ rfl, fun h => absurd (d1 h) (by simpa using h1)⟩
    · simp only [List.getElem?_toArray, List.getElem?_cons_zero, List.getElem?_cons_succ, Option.some.injEq] at ho
      subst ho
      refine wpOp_is rfl (by rfl) ?_
      clear h2
      have hs := hb.size
      have hal : Below w.heap.size w (w.alloc (.cells #[.int .i64 0, .int .i64 0, .int .i64 0] 35)) := (Below.refl _ _).alloc (Nat.le_refl _) _
      unfold fr8
      go_simp
      refine ⟨l6, l13, l20, l21, true, l23, l24, l25, l26, v10, .pointer (some ⟨w.heap.size, 0, none⟩), v12, v46, v53, v60, b1, w.heap.size, b3, rfl, rfl, Below.up hb hal (Nat.le_refl _), c6, c13, c20, x1.below hal, ?new, x3.below hal, fun h _ => Nat.ne_of_lt (x1.lt h), n13, fun _ h => Nat.ne_of_gt (x3.lt h), d1, fun _ => rfl, d3⟩
      case new => exact fun _ => ⟨rfl, hs, _, _, _, heap_new_at _ _ _ rfl, fun h => absurd (d2 h) (by simpa using h1)⟩
    · simp only [List.getElem?_toArray, List.getElem?_cons_zero, List.getElem?_cons_succ, Option.some.injEq] at ho
      subst ho
      refine wpOp_is rfl (by rfl) ?_
      clear h2
      have hs := hb.size
      have hal : Below w.heap.size w (w.alloc (.cells #[.int .i64 0, .int .i64 0, .int .i64 0] 35)) := (Below.refl _ _).alloc (Nat.le_refl _) _
      unfold fr8
      go_simp
      refine ⟨l6, l13, l20, l21, l22, true, l24, l25, l26, v10, v11, .pointer (some ⟨w.heap.size, 0, none⟩), v46, v53, v60, b1, b2, w.heap.size, rfl, rfl, Below.up hb hal (Nat.le_refl _), c6, c13, c20, x1.below hal, x2.below hal, ?new, n12, fun h _ => Nat.ne_of_lt (x1.lt h), fun h _ => Nat.ne_of_lt (x2.lt h), d1, d2, fun _ => rfl⟩
      case new => exact fun _ => ⟨rfl, hs, _, _, _, heap_new_at _ _ _ rfl, fun h => absurd (d3 h) (by simpa using h1)⟩
    · simp only [List.getElem?_toArray, List.getElem?_cons_zero, List.getElem?_cons_succ, Option.some.injEq] at ho
      subst ho
      refine wpOp_is rfl (by rfl) ?_
      have q1 : l21 = true := by simpa using h2 ⟨21, .data⟩ (by simp) rfl
      have q2 : l6 = true := by simpa using h2 ⟨6, .data⟩ (by simp) rfl
      clear h2
      subst q1 q2
      obtain ⟨rfl, hB, k0, k1, k2, hk, _⟩ := x1 rfl
      obtain rfl := c6 rfl
      have K0 : w.cell? ⟨b1, 0, none⟩ = some k0 := by simp [World.cell?, hk]
      have K1 : w.cell? ⟨b1, 1, none⟩ = some k1 := by simp [World.cell?, hk]
      have K2 : w.cell? ⟨b1, 2, none⟩ = some k2 := by simp [World.cell?, hk]
      have Z0 : w.frozen? ⟨b1, 0, none⟩ = false := by simp [World.frozen?, hk]
      have Z1 : w.frozen? ⟨b1, 1, none⟩ = false := by simp [World.frozen?, hk]
      have Z2 : w.frozen? ⟨b1, 2, none⟩ = false := by simp [World.frozen?, hk]
      unfold fr8 ndV
      go_simp
      exact ⟨true, l13, l20, true, l22, l23, true, l25, l26, _, v11, v12, _, v53, v60, b1, b2, b3, rfl, rfl, putN_below hb hB, fun _ => rfl, c13, c20, x1.own, x2.put (fun h => n12 rfl h), x3.put (fun h => n13 rfl h), n12, n13, n23, fun _ => rfl, d2, d3⟩
    · simp only [List.getElem?_toArray, List.getElem?_cons_zero, List.getElem?_cons_succ, Option.some.injEq] at ho
      subst ho
      refine wpOp_is rfl (by rfl) ?_
      have q1 : l22 = true := by simpa using h2 ⟨22, .data⟩ (by simp) rfl
      have q2 : l13 = true := by simpa using h2 ⟨13, .data⟩ (by simp) rfl
      clear h2
      subst q1 q2
      obtain ⟨rfl, hB, k0, k1, k2, hk, _⟩ := x2 rfl
      obtain rfl := c13 rfl
      have K0 : w.cell? ⟨b2, 0, none⟩ = some k0 := by simp [World.cell?, hk]
      have K1 : w.cell? ⟨b2, 1, none⟩ = some k1 := by simp [World.cell?, hk]
      have K2 : w.cell? ⟨b2, 2, none⟩ = some k2 := by simp [World.cell?, hk]
      have Z0 : w.frozen? ⟨b2, 0, none⟩ = false := by simp [World.frozen?, hk]
      have Z1 : w.frozen? ⟨b2, 1, none⟩ = false := by simp [World.frozen?, hk]
      have Z2 : w.frozen? ⟨b2, 2, none⟩ = false := by simp [World.frozen?, hk]
      unfold fr8 ndV
      go_simp
      exact ⟨l6, true, l20, l21, true, l23, l24, true, l26, v10, _, v12, v46, _, v60, b1, b2, b3, rfl, rfl, putN_below hb hB, c6, fun _ => rfl, c20, x1.put (fun h => Ne.symm (n12 h rfl)), x2.own, x3.put (fun h => n23 rfl h), n12, n13, n23, d1, fun _ => rfl, d3⟩
    · simp only [List.getElem?_toArray, List.getElem?_cons_zero, List.getElem?_cons_succ, Option.some.injEq] at ho
      subst ho
      refine wpOp_is rfl (by rfl) ?_
      have q1 : l23 = true := by simpa using h2 ⟨23, .data⟩ (by simp) rfl
      have q2 : l20 = true := by simpa using h2 ⟨20, .data⟩ (by simp) rfl
      clear h2
      subst q1 q2
      obtain ⟨rfl, hB, k0, k1, k2, hk, _⟩ := x3 rfl
      obtain rfl := c20 rfl
      have K0 : w.cell? ⟨b3, 0, none⟩ = some k0 := by simp [World.cell?, hk]
      have K1 : w.cell? ⟨b3, 1, none⟩ = some k1 := by simp [World.cell?, hk]
      have K2 : w.cell? ⟨b3, 2, none⟩ = some k2 := by simp [World.cell?, hk]
      have Z0 : w.frozen? ⟨b3, 0, none⟩ = false := by simp [World.frozen?, hk]
      have Z1 : w.frozen? ⟨b3, 1, none⟩ = false := by simp [World.frozen?, hk]
      have Z2 : w.frozen? ⟨b3, 2, none⟩ = false := by simp [World.frozen?, hk]
      unfold fr8 ndV
      go_simp
      exact ⟨l6, l13, true, l21, l22, true, l24, l25, true, v10, v11, _, v46, v53, _, b1, b2, b3, rfl, rfl, putN_below hb hB, c6, c13, fun _ => rfl, x1.put (fun h => Ne.symm (n13 h rfl)), x2.put (fun h => Ne.symm (n23 h rfl)), x3.own, n12, n13, n23, d1, d2, fun _ => rfl⟩
  case hend =>
    rintro l a X ⟨l6, l13, l20, l21, l22, l23, l24, l25, l26, v10, v11, v12, v46, v53, v60, b1, b2, b3, M⟩ hall
    have q6 : l6 = true := by have := hall 6; rw [M.hl] at this; simpa using this
    have q13 : l13 = true := by have := hall 13; rw [M.hl] at this; simpa using this
    have q20 : l20 = true := by have := hall 20; rw [M.hl] at this; simpa using this
    have q21 : l21 = true := by have := hall 21; rw [M.hl] at this; simpa using this
    have q22 : l22 = true := by have := hall 22; rw [M.hl] at this; simpa using this
    have q23 : l23 = true := by have := hall 23; rw [M.hl] at this; simpa using this
    have q24 : l24 = true := by have := hall 24; rw [M.hl] at this; simpa using this
    have q25 : l25 = true := by have := hall 25; rw [M.hl] at this; simpa using this
    have q26 : l26 = true := by have := hall 26; rw [M.hl] at this; simpa using this
    subst q6 q13 q20 q21 q22 q23 q24 q25 q26
    obtain ⟨_, rfl, hbX, c6, c13, c20, x1, x2, x3, n12, n13, n23, _, _, _⟩ := M
    obtain ⟨rfl, hB1, _, _, _, hk1, hd1⟩ := x1 rfl
    obtain ⟨rfl, rfl, rfl⟩ := hd1 rfl
    obtain ⟨rfl, hB2, _, _, _, hk2, hd2⟩ := x2 rfl
    obtain ⟨rfl, rfl, rfl⟩ := hd2 rfl
    obtain ⟨rfl, hB3, _, _, _, hk3, hd3⟩ := x3 rfl
    obtain ⟨rfl, rfl, rfl⟩ := hd3 rfl
    obtain rfl := c6 rfl
    obtain rfl := c13 rfl
    obtain rfl := c20 rfl
    clear x1 x2 x3 hd1 hd2 hd3 c6 c13 c20 n12 n13 n23 hall
    refine NoPanic.normal ?_
    unfold fr8 ndV
    have FX0 : FourS X b b1 b2 b3 x y z (getN ns x).v (getN ns x).lo (getN ns x).hi (getN ns y).v (getN ns y).lo (getN ns y).hi (getN ns z).v (getN ns z).lo (getN ns z).hi := ⟨below_block hbX hcU, hk1, hk2, hk3⟩
    have hwX := Below.up hwU hbX (Nat.le_refl _)
    have hsU := hwU.size
    have hwb : w.heap.size ≤ b := HBW.out
    have hwb1 : w.heap.size ≤ b1 := Nat.le_trans hsU hB1
    have hwb2 : w.heap.size ≤ b2 := Nat.le_trans hsU hB2
    have hwb3 : w.heap.size ≤ b3 := Nat.le_trans hsU hB3
    clear hk1 hk2 hk3 hB1 hB2 hB3 hbX hwU hsU HC GA C0 C1 C2 D0 lb lj hcU HBW
    have hlowX : ∀ Y, Below X.heap.size X Y → _ := fun Y hY => hlow Y (Below.up hwX hY (Nat.le_refl _))
    clear hlow
    unfold ndV at hlowX hhigh
    generalize hnx : getN ns x = nx at *
    generalize hny : getN ns y = ny at *
    generalize hnz : getN ns z = nz at *
    obtain ⟨x0, x1, x2⟩ := nx
    obtain ⟨y0, y1, y2⟩ := ny
    obtain ⟨z0, z1, z2⟩ := nz
    have LX := clow_any u x ⟨x0, x1, x2⟩
    have LY := clow_any u y ⟨y0, y1, y2⟩
    have LZ := clow_any u z ⟨z0, z1, z2⟩
    have MX := chigh_any u x ⟨x0, x1, x2⟩
    have MY := chigh_any u y ⟨y0, y1, y2⟩
    have MZ := chigh_any u z ⟨z0, z1, z2⟩
    unfold ndV at LX LY LZ MX MY MZ
    generalize lowP u x ⟨x0, x1, x2⟩ = lx at *
    generalize lowP u y ⟨y0, y1, y2⟩ = ly at *
    generalize lowP u z ⟨z0, z1, z2⟩ = lz at *
    generalize highP u x ⟨x0, x1, x2⟩ = hx at *
    generalize highP u y ⟨y0, y1, y2⟩ = hy at *
    generalize highP u z ⟨z0, z1, z2⟩ = hz at *
    dsimp only at *
    clear hnx hny hnz
    obtain ⟨t2, ht2⟩ : ∃ t2, (if y0 < x0 then y0 else x0) = t2 := ⟨_, rfl⟩
    unfold min3 at hv
    rw [ht2] at hv
    obtain ⟨P0, P1, P2, Q0, Q1, Q2, R0, R1, R2, T0, T1, T2⟩ := FX0.cells
    have HCX : ∀ Y, Below X.heap.size X Y → _ := fun Y hY => (FX0.below hY).cells
    unfold CellsS at HCX
    have lp := HJ.out.arena.ltp
    have lg := HJ.out.arena.ltg
    have lm := HJ.out.arena.ltm
    have lqa := HJ.out.amap.lt
    have lqd := HJ.out.dmap.lt
    have nb : b ∉ [p, g, m, qa, qd] := by simp; omega
    have nb1 : b1 ∉ [p, g, m, qa, qd] := by simp; omega
    have nb2 : b2 ∉ [p, g, m, qa, qd] := by simp; omega
    have nb3 : b3 ∉ [p, g, m, qa, qd] := by simp; omega
    have lb := (Array.getElem?_eq_some_iff.1 FX0.h).1
    have lb1 := (Array.getElem?_eq_some_iff.1 FX0.h1).1
    have lb2 := (Array.getElem?_eq_some_iff.1 FX0.h2).1
    have lb3 := (Array.getElem?_eq_some_iff.1 FX0.h3).1
    have HCK : ∀ Y Y1, Below X.heap.size X Y → Kept [p, g, m, qa, qd] Y Y1 → _ := fun Y Y1 hY k => ((FX0.below hY).kept k nb nb1 nb2 nb3).cells
    unfold CellsS at HCK
    go_wp2_with fail
    have hX0 : Below X.heap.size X X.drew := (Below.refl _ _).drew
    go_region_held3 (fun Y => Y.cell? ⟨b, 0, none⟩ = some (.int .i64 x) ∧ Y.cell? ⟨b, 1, none⟩ = some (.int .i64 y) ∧ Y.cell? ⟨b, 2, none⟩ = some (.int .i64 z) ∧ Y.cell? ⟨b1, 0, none⟩ = some (.int .i64 x0) ∧ Y.cell? ⟨b1, 1, none⟩ = some (.int .i64 x1) ∧ Y.cell? ⟨b1, 2, none⟩ = some (.int .i64 x2) ∧ Y.cell? ⟨b2, 0, none⟩ = some (.int .i64 y0) ∧ Y.cell? ⟨b2, 1, none⟩ = some (.int .i64 y1) ∧ Y.cell? ⟨b2, 2, none⟩ = some (.int .i64 y2) ∧ Y.cell? ⟨b3, 0, none⟩ = some (.int .i64 z0) ∧ Y.cell? ⟨b3, 1, none⟩ = some (.int .i64 z1) ∧ Y.cell? ⟨b3, 2, none⟩ = some (.int .i64 z2))
      (first
        | exact HCX _ hX0
        | exact HCX _ hXn
        | exact HCK _ _ hXn q1)
      (first
        | (go_at_call_of 32 (Value.int .i64 x); refine (LX _).mono ?_; rintro e Y ⟨rfl, hbu, hsu⟩; have hXn := Below.up (by assumption) hbu (Nat.le_refl _))
        | (go_at_call_of 32 (Value.int .i64 y); refine (LY _).mono ?_; rintro e Y ⟨rfl, hbu, hsu⟩; have hXn := Below.up (by assumption) hbu (Nat.le_refl _))
        | (go_at_call_of 32 (Value.int .i64 z); refine (LZ _).mono ?_; rintro e Y ⟨rfl, hbu, hsu⟩; have hXn := Below.up (by assumption) hbu (Nat.le_refl _))
        | (go_at_call 15; refine (hlowX _ hXn).mono ?_; rintro e Y1 ⟨g1, cap1, ns1, s1, k1, e1, rfl, J1, q1, z1, RR1⟩))
    have F1 := (FX0.below hXn).kept q1 nb nb1 nb2 nb3
    have hwY := Below.up hwX hXn (Nat.le_refl _)
    have K1 : Kept [p, g, m, qa, qd] w Y1 := (Kept.of_below hwY _).more q1 (fun x hx => .inl hx)
    have sXY := hXn.size
    have swY := hwY.size
    have G1 : g1 = g ∨ w.heap.size ≤ g1 := by omega
    have nb' : b ∉ [p, g1, m, qa, qd] := by simp at nb ⊢; omega
    have nb1' : b1 ∉ [p, g1, m, qa, qd] := by simp at nb1 ⊢; omega
    have nb2' : b2 ∉ [p, g1, m, qa, qd] := by simp at nb2 ⊢; omega
    have nb3' : b3 ∉ [p, g1, m, qa, qd] := by simp at nb3 ⊢; omega
    clear LX LY LZ hlowX HCX HCK P0 P1 P2 Q0 Q1 Q2 R0 R1 R2 T0 T1 T2 FX0 hX0 hXn hwX hwY sXY swY q1 z1 nb nb1 nb2 nb3 hsu
    by_cases he1 : e1 = 0
    case neg =>
      have HE := errV_some he1
      rw [HE]
      clear hhigh MX MY MZ
      go_wp2_with fail
      go_ret2
      exact ⟨g1, cap1, ns1, s1, 0, e1, by rw [HE]; rfl, J1, K1, G1, .inl ⟨he1, rfl, k1, RR1⟩⟩
    subst he1
    rw [errV_zero]
    have HCX : ∀ Y, Below Y1.heap.size Y1 Y → _ := fun Y hY => (F1.below hY).cells
    have HCK : ∀ Y Y2, Below Y1.heap.size Y1 Y → Kept [p, g1, m, qa, qd] Y Y2 → _ := fun Y Y2 hY k => ((F1.below hY).kept k nb' nb1' nb2' nb3').cells
    unfold CellsS at HCX HCK
    have hh := fun (Y : World) (hY : Below Y1.heap.size Y1 Y) => hhigh Y g1 cap1 ns1 s1 k1 (J1.below hY) RR1
    clear hhigh
    obtain ⟨P0, P1, P2, Q0, Q1, Q2, R0, R1, R2, T0, T1, T2⟩ := F1.cells
    go_wp2_with fail
    have hX0 : Below Y1.heap.size Y1 Y1.drew := (Below.refl _ _).drew
    go_region_held3 (fun Y => Y.cell? ⟨b, 0, none⟩ = some (.int .i64 x) ∧ Y.cell? ⟨b, 1, none⟩ = some (.int .i64 y) ∧ Y.cell? ⟨b, 2, none⟩ = some (.int .i64 z) ∧ Y.cell? ⟨b1, 0, none⟩ = some (.int .i64 x0) ∧ Y.cell? ⟨b1, 1, none⟩ = some (.int .i64 x1) ∧ Y.cell? ⟨b1, 2, none⟩ = some (.int .i64 x2) ∧ Y.cell? ⟨b2, 0, none⟩ = some (.int .i64 y0) ∧ Y.cell? ⟨b2, 1, none⟩ = some (.int .i64 y1) ∧ Y.cell? ⟨b2, 2, none⟩ = some (.int .i64 y2) ∧ Y.cell? ⟨b3, 0, none⟩ = some (.int .i64 z0) ∧ Y.cell? ⟨b3, 1, none⟩ = some (.int .i64 z1) ∧ Y.cell? ⟨b3, 2, none⟩ = some (.int .i64 z2))
      (first
        | exact HCX _ hX0
        | exact HCX _ hXn
        | exact HCK _ _ hXn q2)
      (first
        | (go_at_call_of 33 (Value.int .i64 x); refine (MX _).mono ?_; rintro e Z ⟨rfl, hbu, hsu⟩; have hXn := Below.up (by assumption) hbu (Nat.le_refl _))
        | (go_at_call_of 33 (Value.int .i64 y); refine (MY _).mono ?_; rintro e Z ⟨rfl, hbu, hsu⟩; have hXn := Below.up (by assumption) hbu (Nat.le_refl _))
        | (go_at_call_of 33 (Value.int .i64 z); refine (MZ _).mono ?_; rintro e Z ⟨rfl, hbu, hsu⟩; have hXn := Below.up (by assumption) hbu (Nat.le_refl _))
        | (go_at_call 15; refine (hh _ hXn).mono ?_; rintro e Y2 ⟨g2, cap2, ns2, s2, k2, e2, rfl, J2, q2, z2, RR2⟩))
    have F2 := (F1.below hXn).kept q2 nb' nb1' nb2' nb3'
    have K2 : Kept [p, g, m, qa, qd] w Y2 := (K1.more (Kept.of_below hXn []) (by simp)).more q2 (fun x hx => by simp at hx ⊢; omega)
    have sYZ := hXn.size
    have swY := K1.size
    have G2 : g2 = g ∨ w.heap.size ≤ g2 := by omega
    have F2h := F2.h
    have lb2' := (Array.getElem?_eq_some_iff.1 F2h).1
    have nbk : b ∉ [p, g2, m] := by
      have := (Array.getElem?_eq_some_iff.1 (F1.below hXn).h).1
      simp at nb' ⊢
      omega
    clear MX MY MZ hh HCX HCK P0 P1 P2 Q0 Q1 Q2 R0 R1 R2 T0 T1 T2 F1 hX0 hXn sYZ swY q2 z2 nb' nb1' nb2' nb3' hsu F2 J1 K1 G1
    by_cases he2 : e2 = 0
    case neg =>
      have HE := errV_some he2
      rw [HE]
      go_wp2_with fail
      go_ret2
      exact ⟨g2, cap2, ns2, s2, 0, e2, by rw [HE]; rfl, J2, K2, G2, .inr ⟨ns1, s1, k1, RR1, .inl ⟨he2, rfl, k2, RR2⟩⟩⟩
    subst he2
    rw [errV_zero]
    have hm := mk_any J2.arena u k1 k2
    have j0 := J2.c0
    obtain ⟨r, hr⟩ : ∃ r, r = mkR most ns2 u k1 k2 := ⟨_, rfl⟩
    rw [← hr] at hm
    have HR : Hid (r = mkR most ns2 u k1 k2) := hr
    clear hr
    go_wp2_with fail
    refine hm.mono ?_
    rintro e Y3 ⟨g3, cap3, rfl, a3, q3, z3⟩
    have J3 := J2.next a3 q3 z3
    have K3 : Kept [p, g, m, qa, qd] w Y3 := K2.more q3 (fun x hx => by simp at hx ⊢; omega)
    have swY := K2.size
    have G3 : g3 = g ∨ w.heap.size ≤ g3 := by omega
    clear hm j0 a3 q3 z3 J2 K2 G2 F2h lb2' nbk swY
    have HF : Hid (FinS most u PL PH r.2.2 s2 r.1 r.2.1) := .inr ⟨ns1, s1, k1, RR1, .inr ⟨ns2, k2, RR2, by rw [HR.out], by rw [HR.out], by rw [HR.out]⟩⟩
    obtain ⟨E1, hE⟩ : ∃ E1, E1 = errV r.2.1 := ⟨_, rfl⟩
    rw [← hE]
    have HE : Hid (E1 = errV r.2.1) := hE
    clear hE RR1 RR2
    go_wp2_with fail
    go_ret2
    exact ⟨g3, cap3, r.2.2, s2, r.1, r.2.1, by rw [← HE.out]; rfl, J3, K3, G3, HF.out⟩
end
end Go.Proofs.YtahjkkegbcalnaaDoor
