/- What clauses do one by one: leads, Matches, behind. -/
import Derived.Test.YtphhfjfdanlhiaaFA
import Derived.Test.YtphhfjfdanlhiaaHC
import Derived.Test.YtphhfjfdanlhiaaSC
import Derived.Test.YtphhfjfdanlhiaaRO
namespace Go.Proofs.Ytphhfjfdanlhiaa
open Go.RowKit Go.Lib

/-- The ten cells of a clause's box. -/
def clB (c : ClD) : Obj := .cells #[.bool c.any, .int .u32 c.a, .int .i64 c.b, .int .u8 c.wi, .int .u8 c.ou, .bool c.drop, .int .u8 c.se, .int .u8 c.cl, .int .i64 c.more, .int .i64 c.pref] 53 (0, 0)
set_option maxHeartbeats 4000000 in
set_option maxRecDepth 20000 in
theorem leads_any (c : ClD) (hc : c.ok) (a : Nat) (b : Int) (ha : a < 4294967296) (w : World) :
    Calls Try.prog 23 #[clV c, pfV a b] w fun e w' => e = .returned (.bool (forC c a b)) ∧ Below w.heap.size w w' := by
  have hcv := covers_any c.a a c.b b hc.a ha
  obtain ⟨any, ca, cb, wi, ou, dr, se, cl, mo, pr⟩ := c
  unfold clV pfV forC
  unfold pfV at hcv
  dsimp only at hcv ⊢
  cases any
  · go_enter Try.func23, Try.ntmps23
    go_wp2_with fail
    refine (hcv _).mono ?_
    rintro e W ⟨rfl, q⟩
    go_wp2_with fail
    go_ret
    exact ⟨by simp, bel_up (bel_alloc2 _ _ _) q (bel_alloc2 _ _ _).size⟩
  · go_enter Try.func23, Try.ntmps23
    go_wp2_with fail
    go_ret
    exact ⟨by simp, bel_alloc2 _ _ _⟩
theorem with_int {t wi : Nat} (ht : t < 256) (hwi : wi < 256) : (bits BinOp.and IntKind.u8 (t : Int) (wi : Int) == (wi : Int)) = decide (wi &&& t = wi) := by
  rw [u8_and_nat t wi ht hwi, Nat.and_comm, Bool.eq_iff_iff, beq_iff_eq, decide_eq_true_iff]
  omega
theorem out_int {t ou : Nat} (ht : t < 256) (hou : ou < 256) : (bits BinOp.and IntKind.u8 (t : Int) (ou : Int) == 0) = decide (ou &&& t = 0) := by
  rw [u8_and_nat t ou ht hou, Nat.and_comm, Bool.eq_iff_iff, beq_iff_eq, decide_eq_true_iff]
  omega
theorem cl_cell {w : World} {b : Nat} {c : ClD} (h : w.heap[b]? = some (clB c)) :
    w.cell? ⟨b, 0, none⟩ = some (.bool c.any) ∧ w.cell? ⟨b, 1, none⟩ = some (.int .u32 c.a) ∧ w.cell? ⟨b, 2, none⟩ = some (.int .i64 c.b) ∧ w.cell? ⟨b, 3, none⟩ = some (.int .u8 c.wi) ∧ w.cell? ⟨b, 4, none⟩ = some (.int .u8 c.ou) ∧
    w.cell? ⟨b, 5, none⟩ = some (.bool c.drop) ∧ w.cell? ⟨b, 6, none⟩ = some (.int .u8 c.se) ∧ w.cell? ⟨b, 7, none⟩ = some (.int .u8 c.cl) ∧ w.cell? ⟨b, 8, none⟩ = some (.int .i64 c.more) ∧ w.cell? ⟨b, 9, none⟩ = some (.int .i64 c.pref) := cells_ten h
set_option maxHeartbeats 4000000 in
set_option maxRecDepth 20000 in
theorem matches_any (c : ClD) (hc : c.ok) (a : Nat) (b : Int) (ha : a < 4294967296) (t : Nat) (ht : t < 256) (w : World) :
    Calls Try.prog 21 #[clV c, pfV a b, .int .u8 t] w fun e w' => e = .returned (.bool (matP c a b t)) ∧ Below w.heap.size w w' := by
  have hl := leads_any c hc a b ha
  obtain ⟨x, hx⟩ : ∃ x, x = decide (c.wi &&& t = c.wi) := ⟨_, rfl⟩
  obtain ⟨y, hy⟩ : ∃ y, y = decide (c.ou &&& t = 0) := ⟨_, rfl⟩
  obtain ⟨f, hf⟩ : ∃ f, f = forC c a b := ⟨_, rfl⟩
  have e1 := with_int ht hc.wi
  have e2 := out_int ht hc.ou
  have HM : Hid (matP c a b t = (f && (x && y))) := by
    show matP c a b t = _
    unfold matP tagP
    rw [hx, hy, hf]
  rw [← hx] at e1
  rw [← hy] at e2
  rw [← hf] at hl
  obtain ⟨D, hD⟩ : ∃ D, D = clB c := ⟨_, rfl⟩
  unfold clV at hl ⊢
  unfold pfV at hl ⊢
  go_enter Try.func21, Try.ntmps21
  go_wp2_with fail
  obtain ⟨U, hU⟩ : ∃ U, U = (w.alloc (clB c)).alloc (.cells #[.int .u32 a, .int .i64 b] 50) := ⟨_, rfl⟩
  have hwU : Below w.heap.size w U := by rw [hU]; exact bel_alloc2 _ _ _
  have hcU : U.heap[w.heap.size]? = some (clB c) := by rw [hU]; exact pf_block (bel_alloc (Below.refl _ _) _) (pf_new _ _ _ rfl)
  unfold clB at hU
  rw [← hU]
  clear hx hy hf hU hD D
  refine (hl _).mono ?_
  rintro e W ⟨rfl, q⟩
  obtain ⟨_, _, _, C3, C4, _⟩ := cl_cell (pf_block q hcU)
  have hw := bel_up hwU q hwU.size
  clear hl hcU q hwU
  cases f <;> cases x <;> cases y
  all_goals
    go_wp2_with fail
    go_ret
    exact ⟨by rw [HM.out]; rfl, hw⟩
theorem bel_alloc3 (w : World) (o p q : Obj) : Below w.heap.size w (((w.alloc o).alloc p).alloc q) := bel_alloc (bel_alloc2 w o p) q
theorem tags_int {t se cl : Nat} (ht : t < 256) (hse : se < 256) (hcl : cl < 256) : bits BinOp.and IntKind.u8 (bits BinOp.andNot IntKind.u8 (bits BinOp.or IntKind.u8 (t : Int) (se : Int)) (cl : Int)) 15 = ((((t ||| se) &&& (255 - cl)) &&& 15 : Nat) : Int) := by
  have h1 : t ||| se < 256 := Nat.or_lt_two_pow (n := 8) ht hse
  have h2 : (t ||| se) &&& (255 - cl) < 256 := Nat.lt_of_le_of_lt Nat.and_le_left h1
  rw [u8_or_nat t se ht hse, u8_andNot_nat _ cl h1 hcl, show (15 : Int) = ((15 : Nat) : Int) from rfl, u8_and_nat _ 15 h2 (by decide)]
theorem behind_end {f : Func} {R : Ending → World → Prop} {a : Act} {W : World} {p m T : Int}
    (hr : (results f a.tmps).run Try.prog (W.alloc (.cells #[.bool true, .int .i64 p, .int .i64 m, .int .u8 T] 29)) = .ok (.agg #[.bool true, .int .i64 p, .int .i64 m, .int .u8 T]) (W.alloc (.cells #[.bool true, .int .i64 p, .int .i64 m, .int .u8 T] 29))) (hd : a.defers = [])
    (hR : R (.returned (.agg #[.bool true, .int .i64 p, .int .i64 m, .int .u8 T])) (W.alloc (.cells #[.bool true, .int .i64 p, .int .i64 m, .int .u8 T] 29))) :
    bodyPost Try.prog f R .ret a (W.alloc (.cells #[.bool true, .int .i64 p, .int .i64 m, .int .u8 T] 29)) := bodyPost_ret hr hd hR
set_option maxHeartbeats 8000000 in
set_option maxRecDepth 20000 in
theorem behind_any (c : ClD) (hc : c.ok) (x : At) (hx : x.ok = true) (ht : 0 ≤ x.tags ∧ x.tags < 256) (w : World) :
    Calls Try.prog 22 #[clV c, atV x] w fun e w' => e = .returned (atV (oneP c x)) ∧ Below w.heap.size w w' := by
  obtain ⟨xo, xp, xc, xt⟩ := x
  obtain ⟨t, rfl⟩ : ∃ t : Nat, xt = t := ⟨xt.toNat, by have := ht.1; dsimp only at this; omega⟩
  dsimp only at hx ht
  subst hx
  have ht' : t < 256 := by omega
  have e1 := tags_int ht' hc.se hc.cl
  have HC : Hid c.ok := hc
  obtain ⟨any, ca, cb, wi, ou, dr, se, cl, mo, pr⟩ := c
  dsimp only at e1
  unfold clV atV
  dsimp only
  clear hc
  cases dr
  · have HV : Hid (∀ (p m : Int), p = (if 1 ≤ pr ∧ pr ≤ 255 then pr else xp) → m = wrap64 (xc + (if mo < 0 then 0 else if 15 < mo then 15 else mo)) → (.agg #[.bool true, .int .i64 p, .int .i64 m, .int .u8 (((t ||| se) &&& (255 - cl) &&& 15 : Nat) : Int)] : Value) = atV (oneP ⟨any, ca, cb, wi, ou, false, se, cl, mo, pr⟩ ⟨true, xp, xc, t⟩)) := by
      rintro p m rfl rfl
      unfold atV oneP tagsP sumI moreP
      simp
      simp only [wrap64, IntKind.wrap_i64]
    go_enter Try.func22, Try.ntmps22
    go_wp2_with fail
    all_goals
      refine behind_end ?_ ?_ ?_
      · simp [results, Try.results22, go_sem]
      · rfl
      refine ⟨?_, bel_alloc3 _ _ _ _⟩
      exact congrArg _ (HV.out _ _ (by split <;> omega) (by simp only [wrap64]; split <;> (try split) <;> omega))
  · go_enter Try.func22, Try.ntmps22
    go_wp2_with fail
    refine bodyPost_ret (v := .agg #[.bool false, .int .i64 0, .int .i64 0, .int .u8 0]) (by simp [results, Try.results22, go_sem]) rfl ?_
    exact ⟨rfl, bel_alloc3 _ _ _ _⟩
end Go.Proofs.Ytphhfjfdanlhiaa
