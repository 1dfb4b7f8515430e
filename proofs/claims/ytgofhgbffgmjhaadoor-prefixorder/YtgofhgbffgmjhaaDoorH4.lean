/- PrefixOrder: the walk. -/
import Derived.Test.YtgofhgbffgmjhaaDoorHW
import Derived.Test.YtgofhgbffgmjhaaDoorHG
namespace Go.Proofs.YtgofhgbffgmjhaaDoor
open Go.RowKit Go.Lib

/-- Three prefixes in boxes. -/
theorem three_pf (w : World) (a c g : Nat) (b d h : Int) {U : World} {b1 b2 b3 : Nat} (hU : U = ((w.alloc (.cells #[.int .u32 a, .int .i64 b] 24)).alloc (.cells #[.int .u32 c, .int .i64 d] 24)).alloc (.cells #[.int .u32 g, .int .i64 h] 24)) (hb1 : b1 = w.heap.size) (hb2 : b2 = w.heap.size + 1) (hb3 : b3 = w.heap.size + 1 + 1) :
    Below w.heap.size w U ∧ (∀ p : BelOf U, p.w.cell? ⟨b1, 0, none⟩ = some (.int .u32 a)) ∧ (∀ p : BelOf U, p.w.cell? ⟨b1, 1, none⟩ = some (.int .i64 b)) ∧ (∀ p : BelOf U, p.w.cell? ⟨b2, 0, none⟩ = some (.int .u32 c)) ∧ (∀ p : BelOf U, p.w.cell? ⟨b2, 1, none⟩ = some (.int .i64 d)) ∧ (∀ p : BelOf U, p.w.cell? ⟨b3, 0, none⟩ = some (.int .u32 g)) ∧ ∀ p : BelOf U, p.w.cell? ⟨b3, 1, none⟩ = some (.int .i64 h) := by
  obtain ⟨U1, hU1⟩ : ∃ U1, U1 = (w.alloc (.cells #[.int .u32 a, .int .i64 b] 24)).alloc (.cells #[.int .u32 c, .int .i64 d] 24) := ⟨_, rfl⟩
  have s1 : U1.heap.size = w.heap.size + 1 + 1 := by rw [hU1]; simp
  obtain ⟨q1, C0, C1, D0, D1⟩ := two_pf w a c b d hU1 hb1 hb2
  rw [← hU1] at hU
  have q2 : Below U1.heap.size U1 U := by rw [hU]; exact bel_alloc (Below.refl _ _) _
  have hc3 : U.heap[b3]? = some (.cells #[.int .u32 g, .int .i64 h] 24 (0, 0)) := by rw [hU]; exact pf_new _ _ _ (by rw [s1]; exact hb3)
  obtain ⟨E0, E1⟩ := cells_two hc3
  have l3 := (Array.getElem?_eq_some_iff.1 hc3).1
  exact ⟨bel_up q1 q2 q1.size, fun p => C0 ⟨p.w, bel_up q2 p.h q2.size⟩, fun p => C1 ⟨p.w, bel_up q2 p.h q2.size⟩, fun p => D0 ⟨p.w, bel_up q2 p.h q2.size⟩, fun p => D1 ⟨p.w, bel_up q2 p.h q2.size⟩, bel_cell l3 E0, bel_cell l3 E1⟩
theorem cov_mine4 (c : Nat) (d : Int) (h : mayP c d = true) : covP c d c d = true := by
  unfold covP
  have h' := may_bounds h
  have e := (fst_eq c d.toNat).2 h'.2.2
  simp [e, h]
theorem cov_parts {x y : Nat} {xb yb : Int} (h : covP x xb y yb = true) : mayP x xb = true ∧ mayP y yb = true ∧ xb ≤ yb ∧ fstP y xb.toNat = x := by
  unfold covP at h
  simp only [Bool.and_eq_true, decide_eq_true_iff] at h
  exact ⟨h.1.1.1, h.1.1.2, h.1.2, h.2⟩
theorem fst_fst (z i j : Nat) (h : j ≤ i) : z / 2 ^ j * 2 ^ j / 2 ^ i = z / 2 ^ i := by
  obtain ⟨k, rfl⟩ : ∃ k, i = j + k := ⟨i - j, by omega⟩
  rw [Nat.pow_add, ← Nat.div_div_eq_div_mul, ← Nat.div_div_eq_div_mul, Nat.mul_div_cancel _ (Nat.two_pow_pos j)]
theorem cov_trans {x y z : Nat} {xb yb zb : Int} (h1 : covP x xb y yb = true) (h2 : covP y yb z zb = true) : covP x xb z zb = true := by
  obtain ⟨m1, m2, l1, f1⟩ := cov_parts h1
  obtain ⟨_, m3, l2, f2⟩ := cov_parts h2
  have b1 := may_bounds m1
  have e : fstP z xb.toNat = x := by
    rw [← f1, ← f2]
    unfold fstP
    rw [fst_fst _ _ _ (by omega)]
  unfold covP
  rw [m1, m3, decide_eq_true (show xb ≤ zb by omega), decide_eq_true e]
  rfl
theorem cov_anti {x y : Nat} {xb yb : Int} (h1 : covP x xb y yb = true) (h2 : covP y yb x xb = true) : x = y ∧ xb = yb := by
  obtain ⟨m1, m2, l1, f1⟩ := cov_parts h1
  obtain ⟨_, _, l2, f2⟩ := cov_parts h2
  have e : xb = yb := by omega
  subst e
  have b1 := may_bounds m2
  rw [(fst_eq y xb.toNat).2 b1.2.2] at f1
  exact ⟨f1.symm, rfl⟩
/-- Which is less. -/
def lssP (x : Nat) (xb : Int) (y : Nat) (yb : Int) : Bool := decide (x < y) || (decide (x = y) && decide (xb < yb))
theorem lss_iff {x y : Nat} {xb yb : Int} : lssP x xb y yb = true ↔ x < y ∨ (x = y ∧ xb < yb) := by
  unfold lssP
  simp
theorem lss_no {x y : Nat} {xb yb : Int} (h : ¬ (x < y ∨ (x = y ∧ xb < yb))) : lssP x xb y yb = false := by
  cases hc : lssP x xb y yb with
  | false => rfl
  | true => exact absurd (lss_iff.1 hc) h
theorem cov_lss {x y : Nat} {xb yb : Int} (h : covP x xb y yb = true) : lssP y yb x xb = false := by
  obtain ⟨_, _, l1, f1⟩ := cov_parts h
  have : fstP y xb.toNat ≤ y := Nat.div_mul_le_self _ _
  exact lss_no (by omega)
theorem less_lss (x y : Nat) (xb yb : Int) (w : World) :
    Calls Tryd.prog 19 #[.agg #[.int .u32 x, .int .i64 xb], .agg #[.int .u32 y, .int .i64 yb]] w fun e w' => e = .returned (.bool (lssP x xb y yb)) ∧ Below w.heap.size w w' := less_any x y xb yb w
theorem cov_agg (x y : Nat) (xb yb : Int) (hx : x < 4294967296) (hy : y < 4294967296) (w : World) :
    Calls Tryd.prog 18 #[.agg #[.int .u32 x, .int .i64 xb], .agg #[.int .u32 y, .int .i64 yb]] w fun e w' => e = .returned (.bool (covP x xb y yb)) ∧ Below w.heap.size w w' := covers_any x y xb yb hx hy w
theorem order_con (x y z : Nat) (xb yb zb : Int) (hne : ¬ (x = y ∧ xb = yb)) :
    ((!covP x xb y yb || !(covP x xb y yb && covP y yb z zb) || covP x xb z zb) && !(covP x xb y yb && (covP x xb y yb && covP y yb x xb)) && (!lssP x xb y yb || !(lssP x xb y yb && lssP y yb z zb) || lssP x xb z zb) && (lssP x xb y yb != lssP y yb x xb) && !(covP x xb y yb && lssP y yb x xb) && (covP x xb y yb || !(covP x xb y yb && covP y yb z zb)) && (lssP x xb y yb || !(lssP x xb y yb && lssP y yb z zb)) && (covP x xb y yb || !(covP x xb y yb && covP y yb x xb))) = true := by
  have t1 := @cov_trans x y z xb yb zb
  have t2 : covP x xb y yb = true → covP y yb x xb = true → False := fun h1 h2 => hne (cov_anti h1 h2)
  have t3 : lssP x xb y yb = true → lssP y yb z zb = true → lssP x xb z zb = true := fun h1 h2 => lss_iff.2 (by have := lss_iff.1 h1; have := lss_iff.1 h2; omega)
  have t4 : lssP x xb y yb = true → lssP y yb x xb = true → False := fun h1 h2 => by have := lss_iff.1 h1; have := lss_iff.1 h2; omega
  have t5 : lssP x xb y yb = false → lssP y yb x xb = false → False := fun h1 h2 => by
    have k1 : ¬ (x < y ∨ (x = y ∧ xb < yb)) := fun h => by rw [lss_iff.2 h] at h1; cases h1
    have k2 : ¬ (y < x ∨ (y = x ∧ yb < xb)) := fun h => by rw [lss_iff.2 h] at h2; cases h2
    omega
  have t6 := @cov_lss x y xb yb
  revert t1 t2 t3 t4 t5 t6
  generalize covP x xb y yb = c1
  generalize covP y yb z zb = c2
  generalize covP x xb z zb = c3
  generalize covP y yb x xb = c4
  generalize lssP x xb y yb = l1
  generalize lssP y yb z zb = l2
  generalize lssP x xb z zb = l3
  generalize lssP y yb x xb = l4
  cases c1 <;> cases c4 <;> cases l1 <;> cases l4 <;> simp
  all_goals (cases c2 <;> cases c3 <;> cases l2 <;> cases l3 <;> simp)
set_option maxHeartbeats 32000000 in
set_option maxRecDepth 20000 in
theorem order_same (n m k : Nat) (x z : Nat) (xb zb : Int) (cyz cxz : Bool) (con : (!cyz || cxz) = true)
    (mk1 : ∀ w, Calls Tryd.prog 13 #[.int .u8 n] w fun e w' => e = .returned (.agg #[.int .u32 x, .int .i64 xb]) ∧ Below w.heap.size w w')
    (mk2 : ∀ w, Calls Tryd.prog 13 #[.int .u8 m] w fun e w' => e = .returned (.agg #[.int .u32 x, .int .i64 xb]) ∧ Below w.heap.size w w')
    (mk3 : ∀ w, Calls Tryd.prog 13 #[.int .u8 k] w fun e w' => e = .returned (.agg #[.int .u32 z, .int .i64 zb]) ∧ Below w.heap.size w w')
    (vxy : ∀ w, Calls Tryd.prog 18 #[.agg #[.int .u32 x, .int .i64 xb], .agg #[.int .u32 x, .int .i64 xb]] w fun e w' => e = .returned (.bool true) ∧ Below w.heap.size w w')
    (vyz : ∀ w, Calls Tryd.prog 18 #[.agg #[.int .u32 x, .int .i64 xb], .agg #[.int .u32 z, .int .i64 zb]] w fun e w' => e = .returned (.bool cyz) ∧ Below w.heap.size w w')
    (vxz : ∀ w, Calls Tryd.prog 18 #[.agg #[.int .u32 x, .int .i64 xb], .agg #[.int .u32 z, .int .i64 zb]] w fun e w' => e = .returned (.bool cxz) ∧ Below w.heap.size w w')
    (vyx : ∀ w, Calls Tryd.prog 18 #[.agg #[.int .u32 x, .int .i64 xb], .agg #[.int .u32 x, .int .i64 xb]] w fun e w' => e = .returned (.bool true) ∧ Below w.heap.size w w')
    (wxy : ∀ w, Calls Tryd.prog 19 #[.agg #[.int .u32 x, .int .i64 xb], .agg #[.int .u32 x, .int .i64 xb]] w fun e w' => e = .returned (.bool false) ∧ Below w.heap.size w w')
    (wxx : ∀ w, Calls Tryd.prog 19 #[.agg #[.int .u32 x, .int .i64 xb], .agg #[.int .u32 x, .int .i64 xb]] w fun e w' => e = .returned (.bool false) ∧ Below w.heap.size w w')
    (wyx : ∀ w, Calls Tryd.prog 19 #[.agg #[.int .u32 x, .int .i64 xb], .agg #[.int .u32 x, .int .i64 xb]] w fun e w' => e = .returned (.bool false) ∧ Below w.heap.size w w') (w : World) (ht : TabP w) :
    Calls Tryd.prog 6 #[.int .u8 n, .int .u8 m, .int .u8 k] w fun e w' => e = .returned (.bool true) ∧ Below w.heap.size w w' := by
  have HT : Hid (TabP w) := ht
  clear ht
  cases cyz
  all_goals (try (have hcx : cxz = true := by simpa using con); try subst hcx)
  all_goals
    try clear con
    go_enter Tryd.func6, Tryd.ntmps6
    go_wp2_with fail
    refine (awake5_any w HT.out).mono ?_
    rintro e V0 ⟨rfl, q0⟩
    go_wp2_with fail
    refine (mk1 _).mono ?_
    rintro e V1 ⟨rfl, q1⟩
    go_wp2_with fail
    refine (mk2 _).mono ?_
    rintro e V2 ⟨rfl, q2⟩
    go_wp2_with fail
    refine (mk3 _).mono ?_
    rintro e V3 ⟨rfl, q3⟩
    have r1 := bel_up q0 q1 q0.size
    have r2 := bel_up r1 q2 r1.size
    have r3 := bel_up r2 q3 r2.size
    clear mk1 mk2 mk3 q0 q1 q2 q3 r1 r2
    go_wp2_with fail
    obtain ⟨X, hX⟩ : ∃ X, X = ((V3.alloc (.cells #[.int .u32 x, .int .i64 xb] 24)).alloc (.cells #[.int .u32 x, .int .i64 xb] 24)).alloc (.cells #[.int .u32 z, .int .i64 zb] 24) := ⟨_, rfl⟩
    rw [← hX]
    obtain ⟨b1, hb1⟩ : ∃ b, b = V3.heap.size := ⟨_, rfl⟩
    obtain ⟨b2, hb2⟩ : ∃ b, b = V3.heap.size + 1 := ⟨_, rfl⟩
    obtain ⟨b3, hb3⟩ : ∃ b, b = V3.heap.size + 1 + 1 := ⟨_, rfl⟩
    rw [← hb3, ← hb2, ← hb1]
    obtain ⟨hVX, C0, C1, D0, D1, E0, E1⟩ := three_pf V3 x x z xb xb zb hX hb1 hb2 hb3
    have hwX := bel_up r3 hVX r3.size
    clear hX hb1 hb2 hb3 hVX r3
    obtain ⟨p0, hp0⟩ := bel_start X
    rw [hp0]
    clear hp0
    have hne := bel_ne X
    try replace vxy := bel_all vxy X
    try replace vyz := bel_all vyz X
    try replace vxz := bel_all vxz X
    try replace vyx := bel_all vyx X
    try replace wxy := bel_all wxy X
    try replace wxx := bel_all wxx X
    try replace wyx := bel_all wyx X
    go_wp2_with (first
      | (go_at_call 18; with_reducible refine (vxy _).mono ?_; rintro e w' ⟨rfl, q, rfl⟩)
      | (go_at_call 18; with_reducible refine (vyz _).mono ?_; rintro e w' ⟨rfl, q, rfl⟩)
      | (go_at_call 18; with_reducible refine (vxz _).mono ?_; rintro e w' ⟨rfl, q, rfl⟩)
      | (go_at_call 18; with_reducible refine (vyx _).mono ?_; rintro e w' ⟨rfl, q, rfl⟩)
      | (go_at_call 19; with_reducible refine (wxy _).mono ?_; rintro e w' ⟨rfl, q, rfl⟩)
      | (go_at_call 19; with_reducible refine (wxx _).mono ?_; rintro e w' ⟨rfl, q, rfl⟩)
      | (go_at_call 19; with_reducible refine (wyx _).mono ?_; rintro e w' ⟨rfl, q, rfl⟩))
    refine wp_region_belU (by kernel_rfl) (by kernel_rfl) ?_
    repeat (go_big_quiet_step (first
      | (go_at_call 18; with_reducible exact vxy _)
      | (go_at_call 18; with_reducible exact vyz _)
      | (go_at_call 18; with_reducible exact vxz _)
      | (go_at_call 18; with_reducible exact vyx _)
      | (go_at_call 19; with_reducible exact wxy _)
      | (go_at_call 19; with_reducible exact wxx _)
      | (go_at_call 19; with_reducible exact wyx _)))
    refine wpQuiet_nil ?_
    rintro W ⟨q, rfl⟩
    have hq := bel_up hwX q.h hwX.size
    clear C0 C1 D0 D1 E0 E1 hne
    go_wp2_with fail
    go_ret
    exact ⟨rfl, hq⟩
set_option maxHeartbeats 32000000 in
set_option maxRecDepth 20000 in
theorem order_far (n m k : Nat) (x y z : Nat) (xb yb zb : Int) (cxy cyz cxz cyx lxy lyz lxz lyx : Bool) (k1 : ¬ ((x : Int) = (y : Int))) (con : ((!cxy || !cyz || cxz) && !(cxy && cyx) && (!lxy || !lyz || lxz) && (lxy != lyx) && !(cxy && lyx) && (cxy || !cyz) && (lxy || !lyz) && (cxy || !cyx)) = true)
    (mk1 : ∀ w, Calls Tryd.prog 13 #[.int .u8 n] w fun e w' => e = .returned (.agg #[.int .u32 x, .int .i64 xb]) ∧ Below w.heap.size w w')
    (mk2 : ∀ w, Calls Tryd.prog 13 #[.int .u8 m] w fun e w' => e = .returned (.agg #[.int .u32 y, .int .i64 yb]) ∧ Below w.heap.size w w')
    (mk3 : ∀ w, Calls Tryd.prog 13 #[.int .u8 k] w fun e w' => e = .returned (.agg #[.int .u32 z, .int .i64 zb]) ∧ Below w.heap.size w w')
    (vxy : ∀ w, Calls Tryd.prog 18 #[.agg #[.int .u32 x, .int .i64 xb], .agg #[.int .u32 y, .int .i64 yb]] w fun e w' => e = .returned (.bool cxy) ∧ Below w.heap.size w w')
    (vyz : cxy = true → ∀ w, Calls Tryd.prog 18 #[.agg #[.int .u32 y, .int .i64 yb], .agg #[.int .u32 z, .int .i64 zb]] w fun e w' => e = .returned (.bool cyz) ∧ Below w.heap.size w w')
    (vxz : ∀ w, Calls Tryd.prog 18 #[.agg #[.int .u32 x, .int .i64 xb], .agg #[.int .u32 z, .int .i64 zb]] w fun e w' => e = .returned (.bool cxz) ∧ Below w.heap.size w w')
    (vyx : cxy = true → ∀ w, Calls Tryd.prog 18 #[.agg #[.int .u32 y, .int .i64 yb], .agg #[.int .u32 x, .int .i64 xb]] w fun e w' => e = .returned (.bool cyx) ∧ Below w.heap.size w w')
    (wxy : ∀ w, Calls Tryd.prog 19 #[.agg #[.int .u32 x, .int .i64 xb], .agg #[.int .u32 y, .int .i64 yb]] w fun e w' => e = .returned (.bool lxy) ∧ Below w.heap.size w w')
    (wyz : lxy = true → ∀ w, Calls Tryd.prog 19 #[.agg #[.int .u32 y, .int .i64 yb], .agg #[.int .u32 z, .int .i64 zb]] w fun e w' => e = .returned (.bool lyz) ∧ Below w.heap.size w w')
    (wxz : ∀ w, Calls Tryd.prog 19 #[.agg #[.int .u32 x, .int .i64 xb], .agg #[.int .u32 z, .int .i64 zb]] w fun e w' => e = .returned (.bool lxz) ∧ Below w.heap.size w w')
    (wxx : ∀ w, Calls Tryd.prog 19 #[.agg #[.int .u32 x, .int .i64 xb], .agg #[.int .u32 x, .int .i64 xb]] w fun e w' => e = .returned (.bool false) ∧ Below w.heap.size w w')
    (wyx : ∀ w, Calls Tryd.prog 19 #[.agg #[.int .u32 y, .int .i64 yb], .agg #[.int .u32 x, .int .i64 xb]] w fun e w' => e = .returned (.bool lyx) ∧ Below w.heap.size w w') (w : World) (ht : TabP w) :
    Calls Tryd.prog 6 #[.int .u8 n, .int .u8 m, .int .u8 k] w fun e w' => e = .returned (.bool true) ∧ Below w.heap.size w w' := by
  have HT : Hid (TabP w) := ht
  clear ht
  cases cxy <;> cases cyz <;> cases cyx <;> cases lxy <;> cases lyz <;> cases lyx <;> simp at con
  all_goals (try (replace vyz := vyz rfl))
  all_goals (try (replace vyx := vyx rfl))
  all_goals (try (replace wyz := wyz rfl))
  all_goals (try (obtain ⟨hcx, hlx⟩ := con; subst hcx hlx))
  all_goals (try subst con)
  all_goals
    try clear con
    go_enter Tryd.func6, Tryd.ntmps6
    go_wp2_with fail
    refine (awake5_any w HT.out).mono ?_
    rintro e V0 ⟨rfl, q0⟩
    go_wp2_with fail
    refine (mk1 _).mono ?_
    rintro e V1 ⟨rfl, q1⟩
    go_wp2_with fail
    refine (mk2 _).mono ?_
    rintro e V2 ⟨rfl, q2⟩
    go_wp2_with fail
    refine (mk3 _).mono ?_
    rintro e V3 ⟨rfl, q3⟩
    have r1 := bel_up q0 q1 q0.size
    have r2 := bel_up r1 q2 r1.size
    have r3 := bel_up r2 q3 r2.size
    clear mk1 mk2 mk3 q0 q1 q2 q3 r1 r2
    go_wp2_with fail
    obtain ⟨X, hX⟩ : ∃ X, X = ((V3.alloc (.cells #[.int .u32 x, .int .i64 xb] 24)).alloc (.cells #[.int .u32 y, .int .i64 yb] 24)).alloc (.cells #[.int .u32 z, .int .i64 zb] 24) := ⟨_, rfl⟩
    rw [← hX]
    obtain ⟨b1, hb1⟩ : ∃ b, b = V3.heap.size := ⟨_, rfl⟩
    obtain ⟨b2, hb2⟩ : ∃ b, b = V3.heap.size + 1 := ⟨_, rfl⟩
    obtain ⟨b3, hb3⟩ : ∃ b, b = V3.heap.size + 1 + 1 := ⟨_, rfl⟩
    rw [← hb3, ← hb2, ← hb1]
    obtain ⟨hVX, C0, C1, D0, D1, E0, E1⟩ := three_pf V3 x y z xb yb zb hX hb1 hb2 hb3
    have hwX := bel_up r3 hVX r3.size
    clear hX hb1 hb2 hb3 hVX r3
    obtain ⟨p0, hp0⟩ := bel_start X
    rw [hp0]
    clear hp0
    have hne := bel_ne X
    try replace vxy := bel_all vxy X
    try replace vyz := bel_all vyz X
    try replace vxz := bel_all vxz X
    try replace vyx := bel_all vyx X
    try replace wxy := bel_all wxy X
    try replace wyz := bel_all wyz X
    try replace wxz := bel_all wxz X
    try replace wxx := bel_all wxx X
    try replace wyx := bel_all wyx X
    go_wp2_with (first
      | (go_at_call 18; with_reducible refine (vxy _).mono ?_; rintro e w' ⟨rfl, q, rfl⟩)
      | (go_at_call 18; with_reducible refine (vyz _).mono ?_; rintro e w' ⟨rfl, q, rfl⟩)
      | (go_at_call 18; with_reducible refine (vxz _).mono ?_; rintro e w' ⟨rfl, q, rfl⟩)
      | (go_at_call 18; with_reducible refine (vyx _).mono ?_; rintro e w' ⟨rfl, q, rfl⟩)
      | (go_at_call 19; with_reducible refine (wxy _).mono ?_; rintro e w' ⟨rfl, q, rfl⟩)
      | (go_at_call 19; with_reducible refine (wyz _).mono ?_; rintro e w' ⟨rfl, q, rfl⟩)
      | (go_at_call 19; with_reducible refine (wxz _).mono ?_; rintro e w' ⟨rfl, q, rfl⟩)
      | (go_at_call 19; with_reducible refine (wxx _).mono ?_; rintro e w' ⟨rfl, q, rfl⟩)
      | (go_at_call 19; with_reducible refine (wyx _).mono ?_; rintro e w' ⟨rfl, q, rfl⟩))
    refine wp_region_belU (by kernel_rfl) (by kernel_rfl) ?_
    repeat (go_big_quiet_step (first
      | (go_at_call 18; with_reducible exact vxy _)
      | (go_at_call 18; with_reducible exact vyz _)
      | (go_at_call 18; with_reducible exact vxz _)
      | (go_at_call 18; with_reducible exact vyx _)
      | (go_at_call 19; with_reducible exact wxy _)
      | (go_at_call 19; with_reducible exact wyz _)
      | (go_at_call 19; with_reducible exact wxz _)
      | (go_at_call 19; with_reducible exact wxx _)
      | (go_at_call 19; with_reducible exact wyx _)))
    refine wpQuiet_nil ?_
    rintro W ⟨q, rfl⟩
    have hq := bel_up hwX q.h hwX.size
    clear C0 C1 D0 D1 E0 E1 hne
    go_wp2_with fail
    go_ret
    exact ⟨rfl, hq⟩
set_option maxHeartbeats 32000000 in
set_option maxRecDepth 20000 in
theorem order_near (n m k : Nat) (x z : Nat) (xb yb zb : Int) (cxy cyz cxz cyx lxy lyz lxz lyx : Bool) (k1 : ¬ (xb = yb)) (con : ((!cxy || !cyz || cxz) && !(cxy && cyx) && (!lxy || !lyz || lxz) && (lxy != lyx) && !(cxy && lyx) && (cxy || !cyz) && (lxy || !lyz) && (cxy || !cyx)) = true)
    (mk1 : ∀ w, Calls Tryd.prog 13 #[.int .u8 n] w fun e w' => e = .returned (.agg #[.int .u32 x, .int .i64 xb]) ∧ Below w.heap.size w w')
    (mk2 : ∀ w, Calls Tryd.prog 13 #[.int .u8 m] w fun e w' => e = .returned (.agg #[.int .u32 x, .int .i64 yb]) ∧ Below w.heap.size w w')
    (mk3 : ∀ w, Calls Tryd.prog 13 #[.int .u8 k] w fun e w' => e = .returned (.agg #[.int .u32 z, .int .i64 zb]) ∧ Below w.heap.size w w')
    (vxy : ∀ w, Calls Tryd.prog 18 #[.agg #[.int .u32 x, .int .i64 xb], .agg #[.int .u32 x, .int .i64 yb]] w fun e w' => e = .returned (.bool cxy) ∧ Below w.heap.size w w')
    (vyz : cxy = true → ∀ w, Calls Tryd.prog 18 #[.agg #[.int .u32 x, .int .i64 yb], .agg #[.int .u32 z, .int .i64 zb]] w fun e w' => e = .returned (.bool cyz) ∧ Below w.heap.size w w')
    (vxz : ∀ w, Calls Tryd.prog 18 #[.agg #[.int .u32 x, .int .i64 xb], .agg #[.int .u32 z, .int .i64 zb]] w fun e w' => e = .returned (.bool cxz) ∧ Below w.heap.size w w')
    (vyx : cxy = true → ∀ w, Calls Tryd.prog 18 #[.agg #[.int .u32 x, .int .i64 yb], .agg #[.int .u32 x, .int .i64 xb]] w fun e w' => e = .returned (.bool cyx) ∧ Below w.heap.size w w')
    (wxy : ∀ w, Calls Tryd.prog 19 #[.agg #[.int .u32 x, .int .i64 xb], .agg #[.int .u32 x, .int .i64 yb]] w fun e w' => e = .returned (.bool lxy) ∧ Below w.heap.size w w')
    (wyz : lxy = true → ∀ w, Calls Tryd.prog 19 #[.agg #[.int .u32 x, .int .i64 yb], .agg #[.int .u32 z, .int .i64 zb]] w fun e w' => e = .returned (.bool lyz) ∧ Below w.heap.size w w')
    (wxz : ∀ w, Calls Tryd.prog 19 #[.agg #[.int .u32 x, .int .i64 xb], .agg #[.int .u32 z, .int .i64 zb]] w fun e w' => e = .returned (.bool lxz) ∧ Below w.heap.size w w')
    (wxx : ∀ w, Calls Tryd.prog 19 #[.agg #[.int .u32 x, .int .i64 xb], .agg #[.int .u32 x, .int .i64 xb]] w fun e w' => e = .returned (.bool false) ∧ Below w.heap.size w w')
    (wyx : ∀ w, Calls Tryd.prog 19 #[.agg #[.int .u32 x, .int .i64 yb], .agg #[.int .u32 x, .int .i64 xb]] w fun e w' => e = .returned (.bool lyx) ∧ Below w.heap.size w w') (w : World) (ht : TabP w) :
    Calls Tryd.prog 6 #[.int .u8 n, .int .u8 m, .int .u8 k] w fun e w' => e = .returned (.bool true) ∧ Below w.heap.size w w' := by
  have HT : Hid (TabP w) := ht
  clear ht
  cases cxy <;> cases cyz <;> cases cyx <;> cases lxy <;> cases lyz <;> cases lyx <;> simp at con
  all_goals (try (replace vyz := vyz rfl))
  all_goals (try (replace vyx := vyx rfl))
  all_goals (try (replace wyz := wyz rfl))
  all_goals (try (obtain ⟨hcx, hlx⟩ := con; subst hcx hlx))
  all_goals (try subst con)
  all_goals
    try clear con
    go_enter Tryd.func6, Tryd.ntmps6
    go_wp2_with fail
    refine (awake5_any w HT.out).mono ?_
    rintro e V0 ⟨rfl, q0⟩
    go_wp2_with fail
    refine (mk1 _).mono ?_
    rintro e V1 ⟨rfl, q1⟩
    go_wp2_with fail
    refine (mk2 _).mono ?_
    rintro e V2 ⟨rfl, q2⟩
    go_wp2_with fail
    refine (mk3 _).mono ?_
    rintro e V3 ⟨rfl, q3⟩
    have r1 := bel_up q0 q1 q0.size
    have r2 := bel_up r1 q2 r1.size
    have r3 := bel_up r2 q3 r2.size
    clear mk1 mk2 mk3 q0 q1 q2 q3 r1 r2
    go_wp2_with fail
    obtain ⟨X, hX⟩ : ∃ X, X = ((V3.alloc (.cells #[.int .u32 x, .int .i64 xb] 24)).alloc (.cells #[.int .u32 x, .int .i64 yb] 24)).alloc (.cells #[.int .u32 z, .int .i64 zb] 24) := ⟨_, rfl⟩
    rw [← hX]
    obtain ⟨b1, hb1⟩ : ∃ b, b = V3.heap.size := ⟨_, rfl⟩
    obtain ⟨b2, hb2⟩ : ∃ b, b = V3.heap.size + 1 := ⟨_, rfl⟩
    obtain ⟨b3, hb3⟩ : ∃ b, b = V3.heap.size + 1 + 1 := ⟨_, rfl⟩
    rw [← hb3, ← hb2, ← hb1]
    obtain ⟨hVX, C0, C1, D0, D1, E0, E1⟩ := three_pf V3 x x z xb yb zb hX hb1 hb2 hb3
    have hwX := bel_up r3 hVX r3.size
    clear hX hb1 hb2 hb3 hVX r3
    obtain ⟨p0, hp0⟩ := bel_start X
    rw [hp0]
    clear hp0
    have hne := bel_ne X
    try replace vxy := bel_all vxy X
    try replace vyz := bel_all vyz X
    try replace vxz := bel_all vxz X
    try replace vyx := bel_all vyx X
    try replace wxy := bel_all wxy X
    try replace wyz := bel_all wyz X
    try replace wxz := bel_all wxz X
    try replace wxx := bel_all wxx X
    try replace wyx := bel_all wyx X
    go_wp2_with (first
      | (go_at_call 18; with_reducible refine (vxy _).mono ?_; rintro e w' ⟨rfl, q, rfl⟩)
      | (go_at_call 18; with_reducible refine (vyz _).mono ?_; rintro e w' ⟨rfl, q, rfl⟩)
      | (go_at_call 18; with_reducible refine (vxz _).mono ?_; rintro e w' ⟨rfl, q, rfl⟩)
      | (go_at_call 18; with_reducible refine (vyx _).mono ?_; rintro e w' ⟨rfl, q, rfl⟩)
      | (go_at_call 19; with_reducible refine (wxy _).mono ?_; rintro e w' ⟨rfl, q, rfl⟩)
      | (go_at_call 19; with_reducible refine (wyz _).mono ?_; rintro e w' ⟨rfl, q, rfl⟩)
      | (go_at_call 19; with_reducible refine (wxz _).mono ?_; rintro e w' ⟨rfl, q, rfl⟩)
      | (go_at_call 19; with_reducible refine (wxx _).mono ?_; rintro e w' ⟨rfl, q, rfl⟩)
      | (go_at_call 19; with_reducible refine (wyx _).mono ?_; rintro e w' ⟨rfl, q, rfl⟩))
    refine wp_region_belU (by kernel_rfl) (by kernel_rfl) ?_
    repeat (go_big_quiet_step (first
      | (go_at_call 18; with_reducible exact vxy _)
      | (go_at_call 18; with_reducible exact vyz _)
      | (go_at_call 18; with_reducible exact vxz _)
      | (go_at_call 18; with_reducible exact vyx _)
      | (go_at_call 19; with_reducible exact wxy _)
      | (go_at_call 19; with_reducible exact wyz _)
      | (go_at_call 19; with_reducible exact wxz _)
      | (go_at_call 19; with_reducible exact wxx _)
      | (go_at_call 19; with_reducible exact wyx _)))
    refine wpQuiet_nil ?_
    rintro W ⟨q, rfl⟩
    have hq := bel_up hwX q.h hwX.size
    clear C0 C1 D0 D1 E0 E1 hne
    go_wp2_with fail
    go_ret
    exact ⟨rfl, hq⟩
theorem order_walk (n m k : Nat) (hn : n < 256) (hm : m < 256) (hk : k < 256) (w : World) (ht : TabP w) :
    Calls Tryd.prog 6 #[.int .u8 n, .int .u8 m, .int .u8 k] w fun e w' => e = .returned (.bool true) ∧ Below w.heap.size w w' := by
  have mk1 := make_any n hn
  have mk2 := make_any m hm
  have mk3 := make_any k hk
  have lx := mkA_lt hn
  have ly := mkA_lt hm
  have lz := mkA_lt hk
  have mx := mk_may n
  unfold pfV at mk1 mk2 mk3
  obtain ⟨x, hx⟩ : ∃ x, x = mkA n := ⟨_, rfl⟩
  obtain ⟨xb, hxb⟩ : ∃ x : Int, x = (mkB n : Nat) := ⟨_, rfl⟩
  obtain ⟨y, hy⟩ : ∃ x, x = mkA m := ⟨_, rfl⟩
  obtain ⟨yb, hyb⟩ : ∃ x : Int, x = (mkB m : Nat) := ⟨_, rfl⟩
  obtain ⟨z, hz⟩ : ∃ x, x = mkA k := ⟨_, rfl⟩
  obtain ⟨zb, hzb⟩ : ∃ x : Int, x = (mkB k : Nat) := ⟨_, rfl⟩
  rw [← hx, ← hxb] at mk1 mx
  rw [← hx] at lx
  rw [← hy, ← hyb] at mk2
  rw [← hy] at ly
  rw [← hz, ← hzb] at mk3
  rw [← hz] at lz
  clear hx hxb hy hyb hz hzb
  by_cases hxy : x = y ∧ xb = yb
  · obtain ⟨rfl, rfl⟩ := hxy
    have e1 := cov_mine4 x xb mx
    have e2 : lssP x xb x xb = false := lss_no (by omega)
    have v1 := cov_agg x x xb xb lx lx
    have w1 := less_lss x x xb xb
    rw [e1] at v1
    rw [e2] at w1
    exact order_same n m k x z xb zb (covP x xb z zb) (covP x xb z zb) (by cases covP x xb z zb <;> rfl) mk1 mk2 mk3 v1 (cov_agg x z xb zb lx lz) (cov_agg x z xb zb lx lz) v1 w1 w1 w1 w ht
  · have con := order_con x y z xb yb zb hxy
    have vyz : covP x xb y yb = true → ∀ w, Calls Tryd.prog 18 #[.agg #[.int .u32 y, .int .i64 yb], .agg #[.int .u32 z, .int .i64 zb]] w fun e w' => e = .returned (.bool (covP x xb y yb && covP y yb z zb)) ∧ Below w.heap.size w w' := fun h => by rw [h]; exact cov_agg y z yb zb ly lz
    have vyx : covP x xb y yb = true → ∀ w, Calls Tryd.prog 18 #[.agg #[.int .u32 y, .int .i64 yb], .agg #[.int .u32 x, .int .i64 xb]] w fun e w' => e = .returned (.bool (covP x xb y yb && covP y yb x xb)) ∧ Below w.heap.size w w' := fun h => by rw [h]; exact cov_agg y x yb xb ly lx
    have wyz : lssP x xb y yb = true → ∀ w, Calls Tryd.prog 19 #[.agg #[.int .u32 y, .int .i64 yb], .agg #[.int .u32 z, .int .i64 zb]] w fun e w' => e = .returned (.bool (lssP x xb y yb && lssP y yb z zb)) ∧ Below w.heap.size w w' := fun h => by rw [h]; exact less_lss y z yb zb
    have wxx := less_lss x x xb xb
    rw [show lssP x xb x xb = false from lss_no (by omega)] at wxx
    by_cases hx : x = y
    · subst hx
      exact order_near n m k x z xb yb zb _ _ _ _ _ _ _ _ (fun h => hxy ⟨rfl, h⟩) con mk1 mk2 mk3 (cov_agg x x xb yb lx lx) vyz (cov_agg x z xb zb lx lz) vyx (less_lss x x xb yb) wyz (less_lss x z xb zb) wxx (less_lss x x yb xb) w ht
    · exact order_far n m k x y z xb yb zb _ _ _ _ _ _ _ _ (by omega) con mk1 mk2 mk3 (cov_agg x y xb yb lx ly) vyz (cov_agg x z xb zb lx lz) vyx (less_lss x y xb yb) wyz (less_lss x z xb zb) wxx (less_lss y x yb xb) w ht
end Go.Proofs.YtgofhgbffgmjhaaDoor
