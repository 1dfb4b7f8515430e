/- put: the walk, by its ways. -/
import Derived.Test.YtahjkkegbcalnaaDoorXS
namespace Go.Proofs.YtahjkkegbcalnaaDoor
open Go.RowKit Go.Maps

def fr9 (j p b : Nat) (x y z : Int) (v6 v23 : Value) : Array Value := #[.pointer (some ⟨j, 0, none⟩), .agg #[.int .i64 x, .int .i64 y, .int .i64 z], undef, .pointer (some ⟨b, 0, none⟩), .int .i64 0, .nilIface, v6, undef, undef, undef, undef, undef, undef, .pointer (some ⟨j, 0, none⟩), .pointer (some ⟨b, 1, none⟩), .int .i64 y, .bool true, .pointer (some ⟨j, 0, none⟩), .pointer (some ⟨j, 0, none⟩), .pointer (some ⟨j, 0, none⟩), .pointer (some ⟨p, 0, none⟩), .pointer (some ⟨b, 1, none⟩), .int .i64 y, v23, undef, undef, undef, undef, undef, undef, undef, undef, undef, undef, undef, undef, undef, undef, undef, undef, undef, undef, undef, undef, undef, undef, undef, undef, undef, undef, undef, undef, undef, undef, undef, undef, undef, undef, undef, undef, undef, undef, undef, undef, undef, undef, undef, undef, undef, undef, undef, undef, undef, undef, undef, undef, undef, undef, undef, undef]
/-- What holds between the operations that make and fill a variable with what a call tells. -/
structure MidP (U : World) (j p b : Nat) (x y z : Int) (n : Nd) (l : Array Bool) (a : Act) (w : World) (l6 l7 l8 : Bool) (v6 v23 : Value) (b1 : Nat) : Prop where
  hl : l = #[true, true, true, true, true, true, l6, l7, l8]
  ha : a = ⟨fr9 j p b x y z v6 v23, []⟩
  hb : Below U.heap.size U w
  c6 : l6 = true → v23 = ndV n
  x1 : Box U.heap.size w l7 v6 b1 l8 n
  d1 : l8 = true → l7 = true
def MidPE (U : World) (j p b : Nat) (x y z : Int) (n : Nd) (l : Array Bool) (a : Act) (w : World) : Prop :=
  ∃ l6 l7 l8 v6 v23 b1, MidP U j p b x y z n l a w l6 l7 l8 v6 v23 b1

section
variable {w : World} {j p g m qa qd cap : Nat} {most ru v : Int} {ns : List Nd} {ka kd : List (Value × Value)}
set_option maxHeartbeats 1000000 in
set_option maxRecDepth 20000 in
theorem put_told (h : PutAt w j p g m qa qd cap most ru v ns ka kd) (d : Nd) (k : Int) {PA : Bool → List (Value × Value) → Prop}
    (hask : ∀ X, Below w.heap.size w X → Calls Tryd.prog 22 #[.pointer (some ⟨j, 0, none⟩), .int .i64 d.lo] X (APost X j p g m qa qd cap most ru v ns kd PA))
    (hno : ∀ b ka', PA b ka' → b = false) (hk : tellP ru d = some k) :
    Calls Tryd.prog 15 #[.pointer (some ⟨j, 0, none⟩), ndV d] w (PPost j p m qa qd most ru v w g fun ns' s' k' err => ns' = ns ∧ k' = k ∧ err = 0 ∧ s'.2 = kd ∧ PA false s'.1) := by
  obtain ⟨x, y, z⟩ := d
  have HP : Hid (PutAt w j p g m qa qd cap most ru v ns ka kd) := h
  have ht := tell_any ru ⟨x, y, z⟩
  rw [hk] at ht
  have HND : ndV ⟨x, y, z⟩ = .agg #[.int .i64 x, .int .i64 y, .int .i64 z] := rfl
  rw [HND] at ht ⊢
  unfold ruleV at ht
  simp only [Option.getD_some, Option.isSome_some] at ht
  dsimp only at *
  clear HND hk
  have lj := h.ltj
  have la := h.amap.lt
  clear h
  go_enter Tryd.func15, Tryd.ntmps15
  go_wp2_with fail
  obtain ⟨W, hW⟩ : ∃ W, W = w.alloc (.cells #[.int .i64 x, .int .i64 y, .int .i64 z] 54) := ⟨_, rfl⟩
  rw [← hW]
  obtain ⟨b, hb⟩ : ∃ b, b = w.heap.size := ⟨_, rfl⟩
  rw [← hb]
  have hcW : W.heap[b]? = some (.cells #[.int .i64 x, .int .i64 y, .int .i64 z] 54) := by rw [hW, hb]; exact heap_new_at _ _ _ rfl
  have hbW : Below w.heap.size w W := by rw [hW]; exact (Below.refl _ _).alloc (Nat.le_refl _) _
  have nb : b ∉ [qa] := by simp; omega
  clear hW hb
  refine (hask W hbW).mono ?_
  rintro e w1 ⟨t, ka1, rfl, A1, q1, R1⟩
  obtain rfl := hno _ _ R1
  have hc1 := q1.stays hcW nb
  obtain ⟨C0, C1, C2⟩ := three_cells hc1
  have K1 : Kept [p, g, m, qa, qd] w w1 := (Kept.of_below hbW _).more q1 (fun x hx => .inl (by simp at hx ⊢; omega))
  have c1 := A1.c1
  clear hask hno hcW hbW q1 nb
  have HC : ∀ U, Below w1.heap.size w1 U → U.cell? ⟨b, 0, none⟩ = some (.int .i64 x) ∧ U.cell? ⟨b, 1, none⟩ = some (.int .i64 y) ∧ U.cell? ⟨b, 2, none⟩ = some (.int .i64 z) ∧ U.cell? ⟨j, 1, none⟩ = some (.int .i64 ru) := fun U hU => by
    obtain ⟨e0, e1, e2⟩ := three_cells (below_block hU hc1)
    exact ⟨e0, e1, e2, (A1.below hU).c1⟩
  go_wp2_with fail
  go_region_held3 (fun U => U.cell? ⟨b, 0, none⟩ = some (.int .i64 x) ∧ U.cell? ⟨b, 1, none⟩ = some (.int .i64 y) ∧ U.cell? ⟨b, 2, none⟩ = some (.int .i64 z) ∧ U.cell? ⟨j, 1, none⟩ = some (.int .i64 ru))
    (first
      | exact ⟨C0, C1, C2, c1⟩
      | exact HC _ hbu)
    (first
      | (refine (ht _).mono ?_; rintro e V ⟨rfl, hbu0⟩; have hbu := Below.up (Below.refl w1.heap.size w1).drew hbu0 (Nat.le_refl _)))
  clear ht HC
  go_wp2_with fail
  go_ret2
  exact ⟨g, cap, ns, (ka1, kd), k, 0, rfl, A1.below hbu, K1.more (Kept.of_below hbu []) (by simp), .inl rfl, rfl, rfl, rfl, rfl, R1⟩

/-- The way on to the map: the variable is to come, behind; or the rule does not tell. -/
def Way (ru v : Int) (ns : List Nd) (d : Nd) (b : Bool) : Prop := (b = true ∧ (getN ns d.lo).v ≠ v) ∨ (b = false ∧ tellP ru d = none)

set_option maxHeartbeats 1000000 in
set_option maxRecDepth 20000 in
theorem put_known (h : PutAt w j p g m qa qd cap most ru v ns ka kd) (d : Nd) (k : Int) {PA : Bool → List (Value × Value) → Prop}
    (hask : ∀ X, Below w.heap.size w X → Calls Tryd.prog 22 #[.pointer (some ⟨j, 0, none⟩), .int .i64 d.lo] X (APost X j p g m qa qd cap most ru v ns kd PA))
    (hway : ∀ b ka', PA b ka' → Way ru v ns d b)
    (hlook : ∀ W, mapIs W qd kd → Sem.run Tryd.prog (Instr.lookup 49 (.map (some qd)) (ndV d) true) W = .ok (.tuple #[.int .i64 k, .bool true]) W) :
    Calls Tryd.prog 15 #[.pointer (some ⟨j, 0, none⟩), ndV d] w (PPost j p m qa qd most ru v w g fun ns' s' k' err => ns' = ns ∧ k' = k ∧ err = 0 ∧ s'.2 = kd ∧ ∃ b, PA b s'.1) := by
  obtain ⟨x, y, z⟩ := d
  have HP : Hid (PutAt w j p g m qa qd cap most ru v ns ka kd) := h
  have ht := tell_any ru ⟨x, y, z⟩
  have HND : ndV ⟨x, y, z⟩ = .agg #[.int .i64 x, .int .i64 y, .int .i64 z] := rfl
  rw [HND] at ht hlook ⊢
  unfold ruleV at ht
  unfold Way at hway
  dsimp only at *
  clear HND
  have lj := h.ltj
  have la := h.amap.lt
  clear h
  go_enter Tryd.func15, Tryd.ntmps15
  go_wp2_with fail
  obtain ⟨W, hW⟩ : ∃ W, W = w.alloc (.cells #[.int .i64 x, .int .i64 y, .int .i64 z] 54) := ⟨_, rfl⟩
  rw [← hW]
  obtain ⟨b, hb⟩ : ∃ b, b = w.heap.size := ⟨_, rfl⟩
  rw [← hb]
  have hcW : W.heap[b]? = some (.cells #[.int .i64 x, .int .i64 y, .int .i64 z] 54) := by rw [hW, hb]; exact heap_new_at _ _ _ rfl
  have hbW : Below w.heap.size w W := by rw [hW]; exact (Below.refl _ _).alloc (Nat.le_refl _) _
  have nb : b ∉ [qa] := by simp; omega
  clear hW hb
  refine (hask W hbW).mono ?_
  rintro e w1 ⟨t, ka1, rfl, A1, q1, R1⟩
  have hc1 := q1.stays hcW nb
  obtain ⟨C0, C1, C2⟩ := three_cells hc1
  have K1 : Kept [p, g, m, qa, qd] w w1 := (Kept.of_below hbW _).more q1 (fun x hx => .inl (by simp at hx ⊢; omega))
  have c1 := A1.c1
  rcases hway _ _ R1 with ⟨rfl, hne⟩ | ⟨rfl, htn⟩
  · -- the variable is to come
    clear ht hask hway hcW hbW q1 nb C0 C1 C2 c1
    have HC : ∀ U', Below w1.heap.size w1 U' → U'.cell? ⟨b, 1, none⟩ = some (.int .i64 y) ∧ U'.cell? ⟨j, 0, none⟩ = some (.pointer (some ⟨p, 0, none⟩)) := fun U' hU =>
      ⟨(three_cells (below_block hU hc1)).2.1, (A1.below hU).c0⟩
    have GA : ∀ U', Below w1.heap.size w1 U' → Calls Tryd.prog 23 #[.pointer (some ⟨p, 0, none⟩), .int .i64 y] U' fun e U2 => e = .returned (ndV (getN ns y)) ∧ Below U'.heap.size U' U2 ∧ U2.heap.size = U'.heap.size + 1 := fun U' hU => get_any (A1.arena.below hU) y
    generalize hn : getN ns y = n at *
    unfold ndV at GA
    go_wp2_with fail
    refine wp_region_noPanic ?_
    refine wp_region_held_drew (S := (fun U' => U'.cell? ⟨b, 1, none⟩ = some (.int .i64 y) ∧ U'.cell? ⟨j, 0, none⟩ = some (.pointer (some ⟨p, 0, none⟩)))) (by kernel_rfl) (HC _ (Below.refl _ _).drew) (fun hHeld => ?_)
    refine wpAnyH_take2 (i := 0) (d := some 17) (v := .pointer (some ⟨j, 0, none⟩)) rfl (by kernel_rfl) (by kernel_rfl) (by kernel_rfl) (fun _ _ _ h => h) (fun o ho => ?_) hHeld ?_
    · simp only [List.getElem?_toArray, List.getElem?_cons_zero, Option.some.injEq] at ho
      subst ho
      refine ⟨by rfl, fun w hSw => ?_⟩
      (try dsimp only at hSw)
      go_simp
    simp only [Act.put, List.setIfInBounds_toArray, List.set_cons_zero, List.set_cons_succ]
    refine wpAnyH_take2 (i := 1) (d := some 18) (v := .pointer (some ⟨j, 0, none⟩)) rfl (by kernel_rfl) (by kernel_rfl) (by kernel_rfl) (fun _ _ _ h => h) (fun o ho => ?_) hHeld ?_
    · simp only [List.getElem?_toArray, List.getElem?_cons_zero, List.getElem?_cons_succ, Option.some.injEq] at ho
      subst ho
      refine ⟨by rfl, fun w hSw => ?_⟩
      (try dsimp only at hSw)
      go_simp
    simp only [Act.put, List.setIfInBounds_toArray, List.set_cons_zero, List.set_cons_succ]
    refine wpAnyH_take2 (i := 2) (d := some 19) (v := .pointer (some ⟨j, 0, none⟩)) rfl (by kernel_rfl) (by kernel_rfl) (by kernel_rfl) (fun _ _ _ h => h) (fun o ho => ?_) hHeld ?_
    · simp only [List.getElem?_toArray, List.getElem?_cons_zero, List.getElem?_cons_succ, Option.some.injEq] at ho
      subst ho
      refine ⟨by rfl, fun w hSw => ?_⟩
      (try dsimp only at hSw)
      go_simp
    simp only [Act.put, List.setIfInBounds_toArray, List.set_cons_zero, List.set_cons_succ]
    refine wpAnyH_take2 (i := 3) (d := some 20) (v := .pointer (some ⟨p, 0, none⟩)) rfl (by kernel_rfl) (by kernel_rfl) (by kernel_rfl) (fun _ _ _ h => h) (fun o ho => ?_) hHeld ?_
    · simp only [List.getElem?_toArray, List.getElem?_cons_zero, List.getElem?_cons_succ, Option.some.injEq] at ho
      subst ho
      refine ⟨by rfl, fun w hSw => ?_⟩
      (try dsimp only at hSw)
      go_simp
    simp only [Act.put, List.setIfInBounds_toArray, List.set_cons_zero, List.set_cons_succ]
    refine wpAnyH_take2 (i := 4) (d := some 21) (v := .pointer (some ⟨b, 1, none⟩)) rfl (by kernel_rfl) (by kernel_rfl) (by kernel_rfl) (fun _ _ _ h => h) (fun o ho => ?_) hHeld ?_
    · simp only [List.getElem?_toArray, List.getElem?_cons_zero, List.getElem?_cons_succ, Option.some.injEq] at ho
      subst ho
      refine ⟨by rfl, fun w hSw => ?_⟩
      (try dsimp only at hSw)
      go_simp
    simp only [Act.put, List.setIfInBounds_toArray, List.set_cons_zero, List.set_cons_succ]
    refine wpAnyH_take2 (i := 5) (d := some 22) (v := .int .i64 y) rfl (by kernel_rfl) (by kernel_rfl) (by kernel_rfl) (fun _ _ _ h => h) (fun o ho => ?_) hHeld ?_
    · simp only [List.getElem?_toArray, List.getElem?_cons_zero, List.getElem?_cons_succ, Option.some.injEq] at ho
      subst ho
      refine ⟨by rfl, fun w hSw => ?_⟩
      (try dsimp only at hSw)
      go_simp
    simp only [Act.put, List.setIfInBounds_toArray, List.set_cons_zero, List.set_cons_succ]
    refine wpAnyH_inv (I := MidPE w1 j p b x y z n) (by kernel_rfl) ?hsz ?hS ?hstep ?hend _ _ _ _ ?hc ?hI
    case hc => decide
    case hI => exact ⟨false, false, false, undef, undef, 0, rfl, rfl, (Below.refl _ _).drew, (by simp), (fun h => by cases h), (by simp)⟩
    case hsz =>
      rintro l a w ⟨l6, l7, l8, v6, v23, b1, M⟩
      rw [M.hl]
      rfl
    case hS =>
      rintro l a w ⟨l6, l7, l8, v6, v23, b1, M⟩
      exact HC _ M.hb
    case hstep =>
      rintro l a w ⟨l6, l7, l8, v6, v23, b1, M⟩ i o h1 ho h2
      obtain ⟨rfl, rfl, hb, c6, x1, d1⟩ := M
      have hi : i < 9 := (Array.getElem?_eq_some_iff.1 ho).1
      rcases (by omega : i = 0 ∨ i = 1 ∨ i = 2 ∨ i = 3 ∨ i = 4 ∨ i = 5 ∨ i = 6 ∨ i = 7 ∨ i = 8) with rfl | rfl | rfl | rfl | rfl | rfl | rfl | rfl | rfl
      · simp at h1
      · simp at h1
      · simp at h1
      · simp at h1
      · simp at h1
      · simp at h1
      · simp only [List.getElem?_toArray, List.getElem?_cons_zero, List.getElem?_cons_succ, Option.some.injEq] at ho
        subst ho
        refine wpOp_is rfl (by rfl) ?_
        clear h2
        unfold fr9
        go_simp
        refine (GA _ hb).mono ?_
        rintro e w2 ⟨rfl, hb2, hs2⟩
        exact ⟨true, l7, l8, v6, ndV n, b1, rfl, rfl, Below.up hb hb2 (Nat.le_refl _), fun _ => rfl, x1.below hb2, d1⟩
      · simp only [List.getElem?_toArray, List.getElem?_cons_zero, List.getElem?_cons_succ, Option.some.injEq] at ho
        subst ho
        refine wpOp_is rfl (by rfl) ?_
        clear h2
        have hs := hb.size
        have hal : Below w.heap.size w (w.alloc (.cells #[.int .i64 0, .int .i64 0, .int .i64 0] 35)) := (Below.refl _ _).alloc (Nat.le_refl _) _
        unfold fr9
        go_simp
        refine ⟨l6, true, l8, .pointer (some ⟨w.heap.size, 0, none⟩), v23, w.heap.size, rfl, rfl, Below.up hb hal (Nat.le_refl _), c6, ?new, fun _ => rfl⟩
        case new => exact fun _ => ⟨rfl, hs, _, _, _, heap_new_at _ _ _ rfl, fun h => absurd (d1 h) (by simpa using h1)⟩
      · simp only [List.getElem?_toArray, List.getElem?_cons_zero, List.getElem?_cons_succ, Option.some.injEq] at ho
        subst ho
        refine wpOp_is rfl (by rfl) ?_
        have q1 : l7 = true := by simpa using h2 ⟨7, .data⟩ (by simp) rfl
        have q2 : l6 = true := by simpa using h2 ⟨6, .data⟩ (by simp) rfl
        clear h2
        subst q1 q2
        obtain ⟨rfl, hB, k0, k1, k2, hk, _⟩ := x1 rfl
        obtain rfl := c6 rfl
        have K0 : w.cell? ⟨b1, 0, none⟩ = some k0 := by simp [World.cell?, hk]
        have K1 : w.cell? ⟨b1, 1, none⟩ = some k1 := by simp [World.cell?, hk]
        have K2 : w.cell? ⟨b1, 2, none⟩ = some k2 := by simp [World.cell?, hk]
        have Z0 : w.frozen? ⟨b1, 0, none⟩ = false := by simp [World.frozen?, hk]
        have Z1 : w.frozen? ⟨b1, 1, none⟩ = false := by simp [World.frozen?, hk]
        have Z2 : w.frozen? ⟨b1, 2, none⟩ = false := by simp [World.frozen?, hk]
        unfold fr9 ndV
        go_simp
        exact ⟨true, true, true, _, _, b1, rfl, rfl, putN_below hb hB, fun _ => rfl, x1.own, fun _ => rfl⟩
    case hend =>
      rintro l a X ⟨l6, l7, l8, v6, v23, b1, M⟩ hall
      have q6 : l6 = true := by have := hall 6; rw [M.hl] at this; simpa using this
      have q7 : l7 = true := by have := hall 7; rw [M.hl] at this; simpa using this
      have q8 : l8 = true := by have := hall 8; rw [M.hl] at this; simpa using this
      subst q6 q7 q8
      obtain ⟨_, rfl, hbX, c6, x1, _⟩ := M
      obtain ⟨rfl, hB1, _, _, _, hk1, hd1⟩ := x1 rfl
      obtain ⟨rfl, rfl, rfl⟩ := hd1 rfl
      obtain rfl := c6 rfl
      clear x1 hd1 c6 hall HC GA
      refine NoPanic.normal ?_
      unfold fr9 ndV
      obtain ⟨C0, C1, C2⟩ := three_cells (below_block hbX hc1)
      obtain ⟨N0, N1, N2⟩ := three_cells hk1
      have hcX := below_block hbX hc1
      have AX := A1.below hbX
      have KX : Kept [p, g, m, qa, qd] w X := K1.more (Kept.of_below hbX []) (by simp)
      have X2 := AX.c2
      have hcY : ∀ nq, (X.drewN nq).heap[b]? = some (.cells #[.int .i64 x, .int .i64 y, .int .i64 z] 54) := fun _ => hcX
      clear A1 K1 hc1 hk1 hcX hbX hn
      obtain ⟨n0, n1, n2⟩ := n
      dsimp only at *
      go_wp2_with fail
      go_quiet (fail)
      go_wp2_with fail
      have AY := AX.below (below_drewN (Below.refl X.heap.size X) nq)
      have KY : Kept [p, g, m, qa, qd] w (X.drewN nq) := KX.more (Kept.of_below (below_drewN (Below.refl X.heap.size X) nq) []) (by simp)
      clear AX KX X2 C0 C1 C2 N0 N1 N2
      obtain ⟨C0, C1, C2⟩ := three_cells (hcY nq)
      generalize X.drewN nq = Y at *
      have X4 := AY.c4
      have hl : ∀ nq, Sem.run Tryd.prog (Instr.lookup 49 (.map (some qd)) (.agg #[.int .i64 x, .int .i64 y, .int .i64 z]) true) (Y.drewN nq) = .ok (.tuple #[.int .i64 k, .bool true]) (Y.drewN nq) := fun nq => hlook _ AY.dmap
      clear hlook hcY
      go_wp2_with fail
      go_quiet (fail)
      go_wp2_with fail
      go_ret2
      have hd := below_drewN (Below.refl Y.heap.size Y) nq
      exact ⟨g, cap, ns, (ka1, kd), k, 0, rfl, AY.below hd, KY.more (Kept.of_below hd []) (by simp), .inl rfl, rfl, rfl, rfl, rfl, true, R1⟩
  · rw [htn] at ht
    simp only [Option.getD_none, Option.isSome_none] at ht
    clear hask hway hcW hbW q1 nb htn
    have HC : ∀ U, Below w1.heap.size w1 U → U.cell? ⟨b, 0, none⟩ = some (.int .i64 x) ∧ U.cell? ⟨b, 1, none⟩ = some (.int .i64 y) ∧ U.cell? ⟨b, 2, none⟩ = some (.int .i64 z) ∧ U.cell? ⟨j, 1, none⟩ = some (.int .i64 ru) := fun U hU => by
      obtain ⟨e0, e1, e2⟩ := three_cells (below_block hU hc1)
      exact ⟨e0, e1, e2, (A1.below hU).c1⟩
    go_wp2_with fail
    go_region_held3 (fun U => U.cell? ⟨b, 0, none⟩ = some (.int .i64 x) ∧ U.cell? ⟨b, 1, none⟩ = some (.int .i64 y) ∧ U.cell? ⟨b, 2, none⟩ = some (.int .i64 z) ∧ U.cell? ⟨j, 1, none⟩ = some (.int .i64 ru))
      (first
        | exact ⟨C0, C1, C2, c1⟩
        | exact HC _ hbu)
      (first
        | (refine (ht _).mono ?_; rintro e V ⟨rfl, hbu0⟩; have hbu := Below.up (Below.refl w1.heap.size w1).drew hbu0 (Nat.le_refl _)))
    obtain ⟨E0, E1, E2, E3⟩ := HC V hbu
    have AV := A1.below hbu
    have E4 := AV.c4
    have hl : ∀ nq, Sem.run Tryd.prog (Instr.lookup 49 (.map (some qd)) (.agg #[.int .i64 x, .int .i64 y, .int .i64 z]) true) (V.drewN nq) = .ok (.tuple #[.int .i64 k, .bool true]) (V.drewN nq) := fun nq => hlook _ AV.dmap
    have K2 : Kept [p, g, m, qa, qd] w V := K1.more (Kept.of_below hbu []) (by simp)
    clear ht HC C0 C1 C2 c1 hbu hbu0 hlook A1 K1
    go_wp2_with fail
    go_quiet (fail)
    go_wp2_with fail
    go_ret2
    have hd := below_drewN (Below.refl V.heap.size V) nq
    exact ⟨g, cap, ns, (ka1, kd), k, 0, rfl, AV.below hd, K2.more (Kept.of_below hd []) (by simp), .inl rfl, rfl, rfl, rfl, rfl, false, R1⟩

set_option maxHeartbeats 1000000 in
set_option maxRecDepth 20000 in
theorem put_down (h : PutAt w j p g m qa qd cap most ru v ns ka kd) (d : Nd) {PA : Bool → List (Value × Value) → Prop}
    (hask : ∀ X, Below w.heap.size w X → Calls Tryd.prog 22 #[.pointer (some ⟨j, 0, none⟩), .int .i64 d.lo] X (APost X j p g m qa qd cap most ru v ns kd PA))
    (hyes : ∀ b ka', PA b ka' → b = true) (hv : (getN ns d.lo).v = v) {R : List Nd → Two → Int → Int → Prop}
    (hput : ∀ X ka', PutAt X j p g m qa qd cap most ru v ns ka' kd → PA true ka' → Calls Tryd.prog 15 #[.pointer (some ⟨j, 0, none⟩), ndV ⟨d.v, (getN ns d.lo).hi, (getN ns d.lo).lo⟩] X (PPost j p m qa qd most ru v X g R)) :
    Calls Tryd.prog 15 #[.pointer (some ⟨j, 0, none⟩), ndV d] w (PPost j p m qa qd most ru v w g R) := by
  obtain ⟨x, y, z⟩ := d
  have HP : Hid (PutAt w j p g m qa qd cap most ru v ns ka kd) := h
  have HND : ndV ⟨x, y, z⟩ = .agg #[.int .i64 x, .int .i64 y, .int .i64 z] := rfl
  rw [HND]
  unfold ndV at hput
  dsimp only at *
  clear HND
  have lj := h.ltj
  have la := h.amap.lt
  clear h
  go_enter Tryd.func15, Tryd.ntmps15
  go_wp2_with fail
  obtain ⟨W, hW⟩ : ∃ W, W = w.alloc (.cells #[.int .i64 x, .int .i64 y, .int .i64 z] 54) := ⟨_, rfl⟩
  rw [← hW]
  obtain ⟨b, hb⟩ : ∃ b, b = w.heap.size := ⟨_, rfl⟩
  rw [← hb]
  have hcW : W.heap[b]? = some (.cells #[.int .i64 x, .int .i64 y, .int .i64 z] 54) := by rw [hW, hb]; exact heap_new_at _ _ _ rfl
  have hbW : Below w.heap.size w W := by rw [hW]; exact (Below.refl _ _).alloc (Nat.le_refl _) _
  have nb : b ∉ [qa] := by simp; omega
  have HBW : Hid (w.heap.size ≤ b) := Nat.le_of_eq hb.symm
  clear hW hb
  refine (hask W hbW).mono ?_
  rintro e w1 ⟨t, ka1, rfl, A1, q1, R1⟩
  have hc1 := q1.stays hcW nb
  have K1 : Kept [p, g, m, qa, qd] w w1 := (Kept.of_below hbW _).more q1 (fun x hx => .inl (by simp at hx ⊢; omega))
  obtain rfl := hyes _ _ R1
  have HV : Hid ((getN ns y).v = v) := hv
  clear hv
  clear hask hyes hcW hbW q1 nb
  have HC : ∀ U', Below w1.heap.size w1 U' → U'.cell? ⟨b, 1, none⟩ = some (.int .i64 y) ∧ U'.cell? ⟨j, 0, none⟩ = some (.pointer (some ⟨p, 0, none⟩)) := fun U' hU =>
    ⟨(three_cells (below_block hU hc1)).2.1, (A1.below hU).c0⟩
  have GA : ∀ U', Below w1.heap.size w1 U' → Calls Tryd.prog 23 #[.pointer (some ⟨p, 0, none⟩), .int .i64 y] U' fun e U2 => e = .returned (ndV (getN ns y)) ∧ Below U'.heap.size U' U2 ∧ U2.heap.size = U'.heap.size + 1 := fun U' hU => get_any (A1.arena.below hU) y
  generalize hn : getN ns y = n at *
  unfold ndV at GA
  go_wp2_with fail
  refine wp_region_noPanic ?_
  refine wp_region_held_drew (S := (fun U' => U'.cell? ⟨b, 1, none⟩ = some (.int .i64 y) ∧ U'.cell? ⟨j, 0, none⟩ = some (.pointer (some ⟨p, 0, none⟩)))) (by kernel_rfl) (HC _ (Below.refl _ _).drew) (fun hHeld => ?_)
  refine wpAnyH_take2 (i := 0) (d := some 17) (v := .pointer (some ⟨j, 0, none⟩)) rfl (by kernel_rfl) (by kernel_rfl) (by kernel_rfl) (fun _ _ _ h => h) (fun o ho => ?_) hHeld ?_
  · simp only [List.getElem?_toArray, List.getElem?_cons_zero, Option.some.injEq] at ho
    subst ho
    refine ⟨by rfl, fun w hSw => ?_⟩
    (try dsimp only at hSw)
    go_simp
  simp only [Act.put, List.setIfInBounds_toArray, List.set_cons_zero, List.set_cons_succ]
  refine wpAnyH_take2 (i := 1) (d := some 18) (v := .pointer (some ⟨j, 0, none⟩)) rfl (by kernel_rfl) (by kernel_rfl) (by kernel_rfl) (fun _ _ _ h => h) (fun o ho => ?_) hHeld ?_
  · simp only [List.getElem?_toArray, List.getElem?_cons_zero, List.getElem?_cons_succ, Option.some.injEq] at ho
    subst ho
    refine ⟨by rfl, fun w hSw => ?_⟩
    (try dsimp only at hSw)
    go_simp
  simp only [Act.put, List.setIfInBounds_toArray, List.set_cons_zero, List.set_cons_succ]
  refine wpAnyH_take2 (i := 2) (d := some 19) (v := .pointer (some ⟨j, 0, none⟩)) rfl (by kernel_rfl) (by kernel_rfl) (by kernel_rfl) (fun _ _ _ h => h) (fun o ho => ?_) hHeld ?_
  · simp only [List.getElem?_toArray, List.getElem?_cons_zero, List.getElem?_cons_succ, Option.some.injEq] at ho
    subst ho
    refine ⟨by rfl, fun w hSw => ?_⟩
    (try dsimp only at hSw)
    go_simp
  simp only [Act.put, List.setIfInBounds_toArray, List.set_cons_zero, List.set_cons_succ]
  refine wpAnyH_take2 (i := 3) (d := some 20) (v := .pointer (some ⟨p, 0, none⟩)) rfl (by kernel_rfl) (by kernel_rfl) (by kernel_rfl) (fun _ _ _ h => h) (fun o ho => ?_) hHeld ?_
  · simp only [List.getElem?_toArray, List.getElem?_cons_zero, List.getElem?_cons_succ, Option.some.injEq] at ho
    subst ho
    refine ⟨by rfl, fun w hSw => ?_⟩
    (try dsimp only at hSw)
    go_simp
  simp only [Act.put, List.setIfInBounds_toArray, List.set_cons_zero, List.set_cons_succ]
  refine wpAnyH_take2 (i := 4) (d := some 21) (v := .pointer (some ⟨b, 1, none⟩)) rfl (by kernel_rfl) (by kernel_rfl) (by kernel_rfl) (fun _ _ _ h => h) (fun o ho => ?_) hHeld ?_
  · simp only [List.getElem?_toArray, List.getElem?_cons_zero, List.getElem?_cons_succ, Option.some.injEq] at ho
    subst ho
    refine ⟨by rfl, fun w hSw => ?_⟩
    (try dsimp only at hSw)
    go_simp
  simp only [Act.put, List.setIfInBounds_toArray, List.set_cons_zero, List.set_cons_succ]
  refine wpAnyH_take2 (i := 5) (d := some 22) (v := .int .i64 y) rfl (by kernel_rfl) (by kernel_rfl) (by kernel_rfl) (fun _ _ _ h => h) (fun o ho => ?_) hHeld ?_
  · simp only [List.getElem?_toArray, List.getElem?_cons_zero, List.getElem?_cons_succ, Option.some.injEq] at ho
    subst ho
    refine ⟨by rfl, fun w hSw => ?_⟩
    (try dsimp only at hSw)
    go_simp
  simp only [Act.put, List.setIfInBounds_toArray, List.set_cons_zero, List.set_cons_succ]
  refine wpAnyH_inv (I := MidPE w1 j p b x y z n) (by kernel_rfl) ?hsz ?hS ?hstep ?hend _ _ _ _ ?hc ?hI
  case hc => decide
  case hI => exact ⟨false, false, false, undef, undef, 0, rfl, rfl, (Below.refl _ _).drew, (by simp), (fun h => by cases h), (by simp)⟩
  case hsz =>
    rintro l a w ⟨l6, l7, l8, v6, v23, b1, M⟩
    rw [M.hl]
    rfl
  case hS =>
    rintro l a w ⟨l6, l7, l8, v6, v23, b1, M⟩
    exact HC _ M.hb
  case hstep =>
    rintro l a w ⟨l6, l7, l8, v6, v23, b1, M⟩ i o h1 ho h2
    obtain ⟨rfl, rfl, hb, c6, x1, d1⟩ := M
    have hi : i < 9 := (Array.getElem?_eq_some_iff.1 ho).1
    rcases (by omega : i = 0 ∨ i = 1 ∨ i = 2 ∨ i = 3 ∨ i = 4 ∨ i = 5 ∨ i = 6 ∨ i = 7 ∨ i = 8) with rfl | rfl | rfl | rfl | rfl | rfl | rfl | rfl | rfl
    · simp at h1
    · simp at h1
    · simp at h1
    · simp at h1
    · simp at h1
    · simp at h1
    · simp only [List.getElem?_toArray, List.getElem?_cons_zero, List.getElem?_cons_succ, Option.some.injEq] at ho
      subst ho
      refine wpOp_is rfl (by rfl) ?_
      clear h2
      unfold fr9
      go_simp
      refine (GA _ hb).mono ?_
      rintro e w2 ⟨rfl, hb2, hs2⟩
      exact ⟨true, l7, l8, v6, ndV n, b1, rfl, rfl, Below.up hb hb2 (Nat.le_refl _), fun _ => rfl, x1.below hb2, d1⟩
    · simp only [List.getElem?_toArray, List.getElem?_cons_zero, List.getElem?_cons_succ, Option.some.injEq] at ho
      subst ho
      refine wpOp_is rfl (by rfl) ?_
      clear h2
      have hs := hb.size
      have hal : Below w.heap.size w (w.alloc (.cells #[.int .i64 0, .int .i64 0, .int .i64 0] 35)) := (Below.refl _ _).alloc (Nat.le_refl _) _
      unfold fr9
      go_simp
      refine ⟨l6, true, l8, .pointer (some ⟨w.heap.size, 0, none⟩), v23, w.heap.size, rfl, rfl, Below.up hb hal (Nat.le_refl _), c6, ?new, fun _ => rfl⟩
      case new => exact fun _ => ⟨rfl, hs, _, _, _, heap_new_at _ _ _ rfl, fun h => absurd (d1 h) (by simpa using h1)⟩
    · simp only [List.getElem?_toArray, List.getElem?_cons_zero, List.getElem?_cons_succ, Option.some.injEq] at ho
      subst ho
      refine wpOp_is rfl (by rfl) ?_
      have q1 : l7 = true := by simpa using h2 ⟨7, .data⟩ (by simp) rfl
      have q2 : l6 = true := by simpa using h2 ⟨6, .data⟩ (by simp) rfl
      clear h2
      subst q1 q2
      obtain ⟨rfl, hB, k0, k1, k2, hk, _⟩ := x1 rfl
      obtain rfl := c6 rfl
      have K0 : w.cell? ⟨b1, 0, none⟩ = some k0 := by simp [World.cell?, hk]
      have K1 : w.cell? ⟨b1, 1, none⟩ = some k1 := by simp [World.cell?, hk]
      have K2 : w.cell? ⟨b1, 2, none⟩ = some k2 := by simp [World.cell?, hk]
      have Z0 : w.frozen? ⟨b1, 0, none⟩ = false := by simp [World.frozen?, hk]
      have Z1 : w.frozen? ⟨b1, 1, none⟩ = false := by simp [World.frozen?, hk]
      have Z2 : w.frozen? ⟨b1, 2, none⟩ = false := by simp [World.frozen?, hk]
      unfold fr9 ndV
      go_simp
      exact ⟨true, true, true, _, _, b1, rfl, rfl, putN_below hb hB, fun _ => rfl, x1.own, fun _ => rfl⟩
  case hend =>
    rintro l a X ⟨l6, l7, l8, v6, v23, b1, M⟩ hall
    have q6 : l6 = true := by have := hall 6; rw [M.hl] at this; simpa using this
    have q7 : l7 = true := by have := hall 7; rw [M.hl] at this; simpa using this
    have q8 : l8 = true := by have := hall 8; rw [M.hl] at this; simpa using this
    subst q6 q7 q8
    obtain ⟨_, rfl, hbX, c6, x1, _⟩ := M
    obtain ⟨rfl, hB1, _, _, _, hk1, hd1⟩ := x1 rfl
    obtain ⟨rfl, rfl, rfl⟩ := hd1 rfl
    obtain rfl := c6 rfl
    clear x1 hd1 c6 hall HC GA
    refine NoPanic.normal ?_
    unfold fr9 ndV
    obtain ⟨C0, C1, C2⟩ := three_cells (below_block hbX hc1)
    obtain ⟨N0, N1, N2⟩ := three_cells hk1
    have hcX := below_block hbX hc1
    have AX := A1.below hbX
    have KX : Kept [p, g, m, qa, qd] w X := K1.more (Kept.of_below hbX []) (by simp)
    have X2 := AX.c2
    have hq := fun (Y : World) (hY : Below X.heap.size X Y) => hput Y ka1 (AX.below hY) R1
    clear hput A1 K1 hc1 hcX hbX hn AX HBW
    obtain ⟨n0, n1, n2⟩ := n
    dsimp only at *
    obtain rfl := HV.out
    go_wp2_with fail
    go_quiet (fail)
    go_wp2_with fail
    have hd := below_drewN (Below.refl X.heap.size X) nq
    refine (hq _ hd).mono ?_
    rintro e Y1 ⟨g1, cap1, ns1, s1, k1, e1, rfl, J1, q1, z1, RR1⟩
    have KY : Kept [p, g, m, qa, qd] w Y1 := (KX.more (Kept.of_below hd []) (by simp)).more q1 (fun x hx => .inl hx)
    have G1 : g1 = g ∨ w.heap.size ≤ g1 := by
      have := KX.size
      have := hd.size
      omega
    obtain ⟨E1, hE⟩ : ∃ E1, E1 = errV e1 := ⟨_, rfl⟩
    rw [← hE]
    have HE : Hid (E1 = errV e1) := hE
    clear hE hq q1 z1 KX hd
    go_wp2_with fail
    go_ret2
    exact ⟨g1, cap1, ns1, s1, k1, e1, by rw [← HE.out]; rfl, J1, KY, G1, RR1⟩

/-- What three come to behind put, by what split does. -/
def FinP (d : Nd) (R : List Nd → Two → Int → Int → Prop) (ns' : List Nd) (s' : Two) (k err : Int) : Prop :=
  (err ≠ 0 ∧ k = 0 ∧ ∃ k1, R ns' s' k1 err) ∨ (err = 0 ∧ ∃ kd1, R ns' (s'.1, kd1) k 0 ∧ ∀ x ∈ s'.2, x ∈ kd1 ∨ x = (ndV d, .int .i64 k))

set_option maxHeartbeats 2000000 in
set_option maxRecDepth 20000 in
theorem put_new (h : PutAt w j p g m qa qd cap most ru v ns ka kd) (d : Nd) {PA : Bool → List (Value × Value) → Prop}
    (hask : ∀ X, Below w.heap.size w X → Calls Tryd.prog 22 #[.pointer (some ⟨j, 0, none⟩), .int .i64 d.lo] X (APost X j p g m qa qd cap most ru v ns kd PA))
    (hway : ∀ b ka', PA b ka' → Way ru v ns d b) (hkey : ∃ l, keyOf Tryd.prog 54 (ndV d) = some l)
    (hlook : ∀ W, mapIs W qd kd → Sem.run Tryd.prog (Instr.lookup 49 (.map (some qd)) (ndV d) true) W = .ok (.tuple #[.int .i64 0, .bool false]) W)
    {R : List Nd → Two → Int → Int → Prop}
    (hsplit : ∀ X ka', PutAt X j p g m qa qd cap most ru v ns ka' kd → (∃ b, PA b ka') → Calls Tryd.prog 25 #[.pointer (some ⟨j, 0, none⟩), ndV d] X (PPost j p m qa qd most ru v X g R)) :
    Calls Tryd.prog 15 #[.pointer (some ⟨j, 0, none⟩), ndV d] w (PPost j p m qa qd most ru v w g (FinP d R)) := by
  have HK : Hid (∃ l, keyOf Tryd.prog 54 (ndV d) = some l) := hkey
  clear hkey
  obtain ⟨x, y, z⟩ := d
  have HP : Hid (PutAt w j p g m qa qd cap most ru v ns ka kd) := h
  have HND : ndV ⟨x, y, z⟩ = .agg #[.int .i64 x, .int .i64 y, .int .i64 z] := rfl
  have ht := tell_any ru ⟨x, y, z⟩
  rw [HND] at ht hlook hsplit ⊢
  unfold ruleV at ht
  unfold Way at hway
  have lp := h.arena.ltp
  have lg := h.arena.ltg
  have lm := h.arena.ltm
  have ld := h.dmap.lt
  dsimp only at *
  clear HND
  have lj := h.ltj
  have la := h.amap.lt
  clear h
  go_enter Tryd.func15, Tryd.ntmps15
  go_wp2_with fail
  obtain ⟨W, hW⟩ : ∃ W, W = w.alloc (.cells #[.int .i64 x, .int .i64 y, .int .i64 z] 54) := ⟨_, rfl⟩
  rw [← hW]
  obtain ⟨b, hb⟩ : ∃ b, b = w.heap.size := ⟨_, rfl⟩
  rw [← hb]
  have hcW : W.heap[b]? = some (.cells #[.int .i64 x, .int .i64 y, .int .i64 z] 54) := by rw [hW, hb]; exact heap_new_at _ _ _ rfl
  have hbW : Below w.heap.size w W := by rw [hW]; exact (Below.refl _ _).alloc (Nat.le_refl _) _
  have nb : b ∉ [qa] := by simp; omega
  have HBW : Hid (w.heap.size ≤ b) := Nat.le_of_eq hb.symm
  clear hW hb
  refine (hask W hbW).mono ?_
  rintro e w1 ⟨t, ka1, rfl, A1, q1, R1⟩
  have hc1 := q1.stays hcW nb
  have K1 : Kept [p, g, m, qa, qd] w w1 := (Kept.of_below hbW _).more q1 (fun x hx => .inl (by simp at hx ⊢; omega))
  have hwy := hway _ _ R1
  have nb5 : b ∉ [p, g, m, qa, qd] := by
    have := HBW.out
    simp
    omega
  clear hask hway hcW hbW q1 nb HBW lp lg lm ld
  rcases hwy with ⟨rfl, hne⟩ | ⟨rfl, htn⟩
  · clear ht
    have HC : ∀ U', Below w1.heap.size w1 U' → U'.cell? ⟨b, 1, none⟩ = some (.int .i64 y) ∧ U'.cell? ⟨j, 0, none⟩ = some (.pointer (some ⟨p, 0, none⟩)) := fun U' hU =>
      ⟨(three_cells (below_block hU hc1)).2.1, (A1.below hU).c0⟩
    have GA : ∀ U', Below w1.heap.size w1 U' → Calls Tryd.prog 23 #[.pointer (some ⟨p, 0, none⟩), .int .i64 y] U' fun e U2 => e = .returned (ndV (getN ns y)) ∧ Below U'.heap.size U' U2 ∧ U2.heap.size = U'.heap.size + 1 := fun U' hU => get_any (A1.arena.below hU) y
    generalize hn : getN ns y = n at *
    unfold ndV at GA
    go_wp2_with fail
    refine wp_region_noPanic ?_
    refine wp_region_held_drew (S := (fun U' => U'.cell? ⟨b, 1, none⟩ = some (.int .i64 y) ∧ U'.cell? ⟨j, 0, none⟩ = some (.pointer (some ⟨p, 0, none⟩)))) (by kernel_rfl) (HC _ (Below.refl _ _).drew) (fun hHeld => ?_)
    refine wpAnyH_take2 (i := 0) (d := some 17) (v := .pointer (some ⟨j, 0, none⟩)) rfl (by kernel_rfl) (by kernel_rfl) (by kernel_rfl) (fun _ _ _ h => h) (fun o ho => ?_) hHeld ?_
    · simp only [List.getElem?_toArray, List.getElem?_cons_zero, Option.some.injEq] at ho
      subst ho
      refine ⟨by rfl, fun w hSw => ?_⟩
      (try dsimp only at hSw)
      go_simp
    simp only [Act.put, List.setIfInBounds_toArray, List.set_cons_zero, List.set_cons_succ]
    refine wpAnyH_take2 (i := 1) (d := some 18) (v := .pointer (some ⟨j, 0, none⟩)) rfl (by kernel_rfl) (by kernel_rfl) (by kernel_rfl) (fun _ _ _ h => h) (fun o ho => ?_) hHeld ?_
    · simp only [List.getElem?_toArray, List.getElem?_cons_zero, List.getElem?_cons_succ, Option.some.injEq] at ho
      subst ho
      refine ⟨by rfl, fun w hSw => ?_⟩
      (try dsimp only at hSw)
      go_simp
    simp only [Act.put, List.setIfInBounds_toArray, List.set_cons_zero, List.set_cons_succ]
    refine wpAnyH_take2 (i := 2) (d := some 19) (v := .pointer (some ⟨j, 0, none⟩)) rfl (by kernel_rfl) (by kernel_rfl) (by kernel_rfl) (fun _ _ _ h => h) (fun o ho => ?_) hHeld ?_
    · simp only [List.getElem?_toArray, List.getElem?_cons_zero, List.getElem?_cons_succ, Option.some.injEq] at ho
      subst ho
      refine ⟨by rfl, fun w hSw => ?_⟩
      (try dsimp only at hSw)
      go_simp
    simp only [Act.put, List.setIfInBounds_toArray, List.set_cons_zero, List.set_cons_succ]
    refine wpAnyH_take2 (i := 3) (d := some 20) (v := .pointer (some ⟨p, 0, none⟩)) rfl (by kernel_rfl) (by kernel_rfl) (by kernel_rfl) (fun _ _ _ h => h) (fun o ho => ?_) hHeld ?_
    · simp only [List.getElem?_toArray, List.getElem?_cons_zero, List.getElem?_cons_succ, Option.some.injEq] at ho
      subst ho
      refine ⟨by rfl, fun w hSw => ?_⟩
      (try dsimp only at hSw)
      go_simp
    simp only [Act.put, List.setIfInBounds_toArray, List.set_cons_zero, List.set_cons_succ]
    refine wpAnyH_take2 (i := 4) (d := some 21) (v := .pointer (some ⟨b, 1, none⟩)) rfl (by kernel_rfl) (by kernel_rfl) (by kernel_rfl) (fun _ _ _ h => h) (fun o ho => ?_) hHeld ?_
    · simp only [List.getElem?_toArray, List.getElem?_cons_zero, List.getElem?_cons_succ, Option.some.injEq] at ho
      subst ho
      refine ⟨by rfl, fun w hSw => ?_⟩
      (try dsimp only at hSw)
      go_simp
    simp only [Act.put, List.setIfInBounds_toArray, List.set_cons_zero, List.set_cons_succ]
    refine wpAnyH_take2 (i := 5) (d := some 22) (v := .int .i64 y) rfl (by kernel_rfl) (by kernel_rfl) (by kernel_rfl) (fun _ _ _ h => h) (fun o ho => ?_) hHeld ?_
    · simp only [List.getElem?_toArray, List.getElem?_cons_zero, List.getElem?_cons_succ, Option.some.injEq] at ho
      subst ho
      refine ⟨by rfl, fun w hSw => ?_⟩
      (try dsimp only at hSw)
      go_simp
    simp only [Act.put, List.setIfInBounds_toArray, List.set_cons_zero, List.set_cons_succ]
    refine wpAnyH_inv (I := MidPE w1 j p b x y z n) (by kernel_rfl) ?hsz ?hS ?hstep ?hend _ _ _ _ ?hc ?hI
    case hc => decide
    case hI => exact ⟨false, false, false, undef, undef, 0, rfl, rfl, (Below.refl _ _).drew, (by simp), (fun h => by cases h), (by simp)⟩
    case hsz =>
      rintro l a w ⟨l6, l7, l8, v6, v23, b1, M⟩
      rw [M.hl]
      rfl
    case hS =>
      rintro l a w ⟨l6, l7, l8, v6, v23, b1, M⟩
      exact HC _ M.hb
    case hstep =>
      rintro l a w ⟨l6, l7, l8, v6, v23, b1, M⟩ i o h1 ho h2
      obtain ⟨rfl, rfl, hb, c6, x1, d1⟩ := M
      have hi : i < 9 := (Array.getElem?_eq_some_iff.1 ho).1
      rcases (by omega : i = 0 ∨ i = 1 ∨ i = 2 ∨ i = 3 ∨ i = 4 ∨ i = 5 ∨ i = 6 ∨ i = 7 ∨ i = 8) with rfl | rfl | rfl | rfl | rfl | rfl | rfl | rfl | rfl
      · simp at h1
      · simp at h1
      · simp at h1
      · simp at h1
      · simp at h1
      · simp at h1
      · simp only [List.getElem?_toArray, List.getElem?_cons_zero, List.getElem?_cons_succ, Option.some.injEq] at ho
        subst ho
        refine wpOp_is rfl (by rfl) ?_
        clear h2
        unfold fr9
        go_simp
        refine (GA _ hb).mono ?_
        rintro e w2 ⟨rfl, hb2, hs2⟩
        exact ⟨true, l7, l8, v6, ndV n, b1, rfl, rfl, Below.up hb hb2 (Nat.le_refl _), fun _ => rfl, x1.below hb2, d1⟩
      · simp only [List.getElem?_toArray, List.getElem?_cons_zero, List.getElem?_cons_succ, Option.some.injEq] at ho
        subst ho
        refine wpOp_is rfl (by rfl) ?_
        clear h2
        have hs := hb.size
        have hal : Below w.heap.size w (w.alloc (.cells #[.int .i64 0, .int .i64 0, .int .i64 0] 35)) := (Below.refl _ _).alloc (Nat.le_refl _) _
        unfold fr9
        go_simp
        refine ⟨l6, true, l8, .pointer (some ⟨w.heap.size, 0, none⟩), v23, w.heap.size, rfl, rfl, Below.up hb hal (Nat.le_refl _), c6, ?new, fun _ => rfl⟩
        case new => exact fun _ => ⟨rfl, hs, _, _, _, heap_new_at _ _ _ rfl, fun h => absurd (d1 h) (by simpa using h1)⟩
      · simp only [List.getElem?_toArray, List.getElem?_cons_zero, List.getElem?_cons_succ, Option.some.injEq] at ho
        subst ho
        refine wpOp_is rfl (by rfl) ?_
        have q1 : l7 = true := by simpa using h2 ⟨7, .data⟩ (by simp) rfl
        have q2 : l6 = true := by simpa using h2 ⟨6, .data⟩ (by simp) rfl
        clear h2
        subst q1 q2
        obtain ⟨rfl, hB, k0, k1, k2, hk, _⟩ := x1 rfl
        obtain rfl := c6 rfl
        have K0 : w.cell? ⟨b1, 0, none⟩ = some k0 := by simp [World.cell?, hk]
        have K1 : w.cell? ⟨b1, 1, none⟩ = some k1 := by simp [World.cell?, hk]
        have K2 : w.cell? ⟨b1, 2, none⟩ = some k2 := by simp [World.cell?, hk]
        have Z0 : w.frozen? ⟨b1, 0, none⟩ = false := by simp [World.frozen?, hk]
        have Z1 : w.frozen? ⟨b1, 1, none⟩ = false := by simp [World.frozen?, hk]
        have Z2 : w.frozen? ⟨b1, 2, none⟩ = false := by simp [World.frozen?, hk]
        unfold fr9 ndV
        go_simp
        exact ⟨true, true, true, _, _, b1, rfl, rfl, putN_below hb hB, fun _ => rfl, x1.own, fun _ => rfl⟩
    case hend =>
      rintro l a X ⟨l6, l7, l8, v6, v23, b1, M⟩ hall
      have q6 : l6 = true := by have := hall 6; rw [M.hl] at this; simpa using this
      have q7 : l7 = true := by have := hall 7; rw [M.hl] at this; simpa using this
      have q8 : l8 = true := by have := hall 8; rw [M.hl] at this; simpa using this
      subst q6 q7 q8
      obtain ⟨_, rfl, hbX, c6, x1, _⟩ := M
      obtain ⟨rfl, hB1, _, _, _, hk1, hd1⟩ := x1 rfl
      obtain ⟨rfl, rfl, rfl⟩ := hd1 rfl
      obtain rfl := c6 rfl
      clear x1 hd1 c6 hall HC GA
      refine NoPanic.normal ?_
      unfold fr9 ndV
      obtain ⟨C0, C1, C2⟩ := three_cells (below_block hbX hc1)
      obtain ⟨N0, N1, N2⟩ := three_cells hk1
      have hcX := below_block hbX hc1
      have AX := A1.below hbX
      have KX : Kept [p, g, m, qa, qd] w X := K1.more (Kept.of_below hbX []) (by simp)
      have X2 := AX.c2
      clear A1 K1 hc1 hk1 hbX hn
      obtain ⟨n0, n1, n2⟩ := n
      dsimp only at *
      go_wp2_with fail
      go_quiet (fail)
      go_wp2_with fail
      have hdX := below_drewN (Below.refl X.heap.size X) nq
      have AY := AX.below hdX
      have KY : Kept [p, g, m, qa, qd] w (X.drewN nq) := KX.more (Kept.of_below hdX []) (by simp)
      have hcY := below_block hdX hcX
      clear AX KX X2 C0 C1 C2 N0 N1 N2 hcX hdX
      generalize X.drewN nq = Y at *
      have X4 := AY.c4
      have hl : ∀ nq, Sem.run Tryd.prog (Instr.lookup 49 (.map (some qd)) (.agg #[.int .i64 x, .int .i64 y, .int .i64 z]) true) (Y.drewN nq) = .ok (.tuple #[.int .i64 0, .bool false]) (Y.drewN nq) := fun nq => hlook _ AY.dmap
      obtain ⟨C0, C1, C2⟩ := three_cells hcY
      clear hlook
      go_wp2_with fail
      go_quiet (fail)
      go_wp2_with fail
      have hd := below_drewN (Below.refl Y.heap.size Y) nq
      have hs := hsplit _ ka1 (AY.below hd) ⟨_, R1⟩
      have hcZ := below_block hd hcY
      have KZ : Kept [p, g, m, qa, qd] w (Y.drewN nq) := KY.more (Kept.of_below hd []) (by simp)
      clear hl hsplit hd hcY AY KY X4 C0 C1 C2
      generalize Y.drewN nq = Z at *
      refine hs.mono ?_
      rintro e Y1 ⟨g1, cap1, ns1, s1, k1, e1, rfl, J1, q1, z1, RR1⟩
      have hc3 := q1.stays hcZ nb5
      have K3 : Kept [p, g, m, qa, qd] w Y1 := KZ.more q1 (fun x hx => .inl hx)
      have G1 : g1 = g ∨ w.heap.size ≤ g1 := by
        have := KZ.size
        omega
      clear hs q1 z1 KZ hcZ
      by_cases he1 : e1 = 0
      case neg =>
        have HE := errV_some he1
        rw [HE]
        clear HK
        go_wp2_with fail
        go_ret2
        exact ⟨g1, cap1, ns1, s1, 0, e1, by rw [HE]; rfl, J1, K3, G1, .inl ⟨he1, rfl, k1, RR1⟩⟩
      subst he1
      rw [errV_zero]
      obtain ⟨kl, hkl⟩ := HK.out
      obtain ⟨Y4, kd4, E5, M4, gr4, mem4⟩ := mapIs.put (val := .int .i64 k1) lawC Tryd.underlying49 (J1.below (Below.refl Y1.heap.size Y1).drew).dmap J1.dkeys hkl
      have J4 := PutAt.putd (J1.below (Below.refl Y1.heap.size Y1).drew) gr4 M4 mem4 ⟨kl, hkl⟩
      have K4 : Kept [p, g, m, qa, qd] w Y4 := (K3.more (Kept.of_below (Below.refl Y1.heap.size Y1).drew []) (by simp)).more (Kept.grown (own := [qd]) gr4 (by simp)) (fun x hx => by simp at hx ⊢; omega)
      obtain ⟨P0, P1, P2⟩ := three_cells hc3
      have j4 := J1.c4
      have HF : Hid (FinP ⟨x, y, z⟩ R ns1 (s1.1, kd4) k1 0) := .inr ⟨rfl, s1.2, RR1, mem4⟩
      clear hc3 M4 gr4 K3 hkl J1 mem4 RR1 HK
      unfold ndV at E5
      go_wp2_with fail
      go_region
      all_goals
        go_wp2_with fail
        go_ret2
        exact ⟨g1, cap1, ns1, (s1.1, kd4), k1, 0, rfl, J4, K4, G1, HF.out⟩
  · rw [htn] at ht
    simp only [Option.getD_none, Option.isSome_none] at ht
    obtain ⟨C0, C1, C2⟩ := three_cells hc1
    have c1 := A1.c1
    clear htn
    have HC : ∀ U, Below w1.heap.size w1 U → U.cell? ⟨b, 0, none⟩ = some (.int .i64 x) ∧ U.cell? ⟨b, 1, none⟩ = some (.int .i64 y) ∧ U.cell? ⟨b, 2, none⟩ = some (.int .i64 z) ∧ U.cell? ⟨j, 1, none⟩ = some (.int .i64 ru) := fun U hU => by
      obtain ⟨e0, e1, e2⟩ := three_cells (below_block hU hc1)
      exact ⟨e0, e1, e2, (A1.below hU).c1⟩
    go_wp2_with fail
    go_region_held3 (fun U => U.cell? ⟨b, 0, none⟩ = some (.int .i64 x) ∧ U.cell? ⟨b, 1, none⟩ = some (.int .i64 y) ∧ U.cell? ⟨b, 2, none⟩ = some (.int .i64 z) ∧ U.cell? ⟨j, 1, none⟩ = some (.int .i64 ru))
      (first
        | exact ⟨C0, C1, C2, c1⟩
        | exact HC _ hbu)
      (first
        | (refine (ht _).mono ?_; rintro e Y ⟨rfl, hbu0⟩; have hbu := Below.up (Below.refl w1.heap.size w1).drew hbu0 (Nat.le_refl _)))
    have AY := A1.below hbu
    have hcY := below_block hbu hc1
    have KY : Kept [p, g, m, qa, qd] w Y := K1.more (Kept.of_below hbu []) (by simp)
    clear ht HC C0 C1 C2 c1 hbu hbu0 A1 K1 hc1
    have X4 := AY.c4
    have hl : ∀ nq, Sem.run Tryd.prog (Instr.lookup 49 (.map (some qd)) (.agg #[.int .i64 x, .int .i64 y, .int .i64 z]) true) (Y.drewN nq) = .ok (.tuple #[.int .i64 0, .bool false]) (Y.drewN nq) := fun nq => hlook _ AY.dmap
    obtain ⟨C0, C1, C2⟩ := three_cells hcY
    clear hlook
    go_wp2_with fail
    go_quiet (fail)
    go_wp2_with fail
    have hd := below_drewN (Below.refl Y.heap.size Y) nq
    have hs := hsplit _ ka1 (AY.below hd) ⟨_, R1⟩
    have hcZ := below_block hd hcY
    have KZ : Kept [p, g, m, qa, qd] w (Y.drewN nq) := KY.more (Kept.of_below hd []) (by simp)
    clear hl hsplit hd hcY AY KY X4 C0 C1 C2
    generalize Y.drewN nq = Z at *
    refine hs.mono ?_
    rintro e Y1 ⟨g1, cap1, ns1, s1, k1, e1, rfl, J1, q1, z1, RR1⟩
    have hc3 := q1.stays hcZ nb5
    have K3 : Kept [p, g, m, qa, qd] w Y1 := KZ.more q1 (fun x hx => .inl hx)
    have G1 : g1 = g ∨ w.heap.size ≤ g1 := by
      have := KZ.size
      omega
    clear hs q1 z1 KZ hcZ
    by_cases he1 : e1 = 0
    case neg =>
      have HE := errV_some he1
      rw [HE]
      clear HK
      go_wp2_with fail
      go_ret2
      exact ⟨g1, cap1, ns1, s1, 0, e1, by rw [HE]; rfl, J1, K3, G1, .inl ⟨he1, rfl, k1, RR1⟩⟩
    subst he1
    rw [errV_zero]
    obtain ⟨kl, hkl⟩ := HK.out
    obtain ⟨Y4, kd4, E5, M4, gr4, mem4⟩ := mapIs.put (val := .int .i64 k1) lawC Tryd.underlying49 (J1.below (Below.refl Y1.heap.size Y1).drew).dmap J1.dkeys hkl
    have J4 := PutAt.putd (J1.below (Below.refl Y1.heap.size Y1).drew) gr4 M4 mem4 ⟨kl, hkl⟩
    have K4 : Kept [p, g, m, qa, qd] w Y4 := (K3.more (Kept.of_below (Below.refl Y1.heap.size Y1).drew []) (by simp)).more (Kept.grown (own := [qd]) gr4 (by simp)) (fun x hx => by simp at hx ⊢; omega)
    obtain ⟨P0, P1, P2⟩ := three_cells hc3
    have j4 := J1.c4
    have HF : Hid (FinP ⟨x, y, z⟩ R ns1 (s1.1, kd4) k1 0) := .inr ⟨rfl, s1.2, RR1, mem4⟩
    clear hc3 M4 gr4 K3 hkl J1 mem4 RR1 HK
    unfold ndV at E5
    go_wp2_with fail
    go_region
    all_goals
      go_wp2_with fail
      go_ret2
      exact ⟨g1, cap1, ns1, (s1.1, kd4), k1, 0, rfl, J4, K4, G1, HF.out⟩
end
end Go.Proofs.YtahjkkegbcalnaaDoor
