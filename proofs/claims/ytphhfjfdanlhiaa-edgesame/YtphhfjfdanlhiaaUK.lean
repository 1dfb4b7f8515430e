/- Rules, and what they make; the law's own examples. -/
import Derived.Test.YtphhfjfdanlhiaaSC
import Derived.Test.YtphhfjfdanlhiaaHG
import Derived.Test.YtphhfjfdanlhiaaOW
import Derived.Laws.ResultCell
import Derived.Handy
import Derived.Deep.CutRange
import Derived.Deep.DeepCutAuto
namespace Go.Proofs.Ytphhfjfdanlhiaa
open Go.RowKit Go.Lib

/-- A clause by numbers. -/
structure RlD where
  tg : Nat
  wi : Nat
  ou : Nat
  act : Nat
  more : Nat
  pref : Nat
structure RlD.ok (r : RlD) : Prop where
  t : r.tg < 256
  w : r.wi < 256
  o : r.ou < 256
  d : r.act < 256
  m : r.more < 256
  p : r.pref < 256
def ruleC (r : RlD) : ClD :=
  ⟨decide (r.tg % 3 = 0), if r.tg % 3 = 0 then 0 else mkA r.tg, if r.tg % 3 = 0 then 0 else mkB r.tg, if 100 < r.wi then 0 else r.wi % 16, if 60 < r.ou then 0 else r.ou % 16, decide (r.act % 4 = 3), r.act / 16, r.more / 16, ((r.more % 4 : Nat) : Int), if r.pref < 200 then 0 else r.pref⟩
theorem ruleC_ok {r : RlD} (h : r.ok) : (ruleC r).ok := by
  obtain ⟨h1, h2, h3, h4, h5, h6⟩ := h
  have ha := mkA_lt h1
  unfold ruleC
  refine ⟨?_, ?_, ?_, ?_, ?_, ?_, ?_, ?_, ?_⟩ <;> dsimp only
  · split <;> omega
  · split <;> omega
  · split <;> omega
  · omega
  · omega
  · omega
  · omega
  · split <;> omega
  · split <;> omega
theorem ruleC_far (r : RlD) : -9223372036854775807 ≤ (ruleC r).more ∧ -9223372036854775807 ≤ (ruleC r).pref := by
  unfold ruleC
  dsimp only
  refine ⟨by omega, ?_⟩
  split <;> omega
def rlV (r : RlD) : Value := .agg #[.int .u8 r.tg, .int .u8 r.wi, .int .u8 r.ou, .int .u8 r.act, .int .u8 r.more, .int .u8 r.pref]
def clausesS (rs : List RlD) : List ClD := (rs.take 5).map ruleC
def RlAt (W : World) (b o : Nat) (r : RlD) : Prop :=
  W.cell? ⟨b, o, none⟩ = some (.int .u8 r.tg) ∧ W.cell? ⟨b, o + 1, none⟩ = some (.int .u8 r.wi) ∧ W.cell? ⟨b, o + 2, none⟩ = some (.int .u8 r.ou) ∧ W.cell? ⟨b, o + 3, none⟩ = some (.int .u8 r.act) ∧ W.cell? ⟨b, o + 4, none⟩ = some (.int .u8 r.more) ∧ W.cell? ⟨b, o + 5, none⟩ = some (.int .u8 r.pref)
theorem RlAt.keep {W W' : World} {B b o : Nat} {r : RlD} (h : RlAt W b o r) (hb : b < B) (k : Cells B W W') : RlAt W' b o r :=
  ⟨k _ _ _ hb h.1, k _ _ _ hb h.2.1, k _ _ _ hb h.2.2.1, k _ _ _ hb h.2.2.2.1, k _ _ _ hb h.2.2.2.2.1, k _ _ _ hb h.2.2.2.2.2⟩
/-- A rule's clause while it is made. -/
structure RSt (w : World) (b1 b2 b3 tg wi ou act more pref : Nat) (an dr : Bool) (x3 x4 x5 x6 x7 x8 : Int) (W : World) : Prop where
  c : W.heap[b3]? = some (.cells #[.bool an, .int .u32 0, .int .i64 0, .int .u8 x3, .int .u8 x4, .bool dr, .int .u8 x5, .int .u8 x6, .int .i64 x7, .int .i64 x8] 53 (0, 0))
  r : W.heap[b1]? = some (.cells #[.int .u8 tg, .int .u8 wi, .int .u8 ou, .int .u8 act, .int .u8 more, .int .u8 pref] 58 (0, 0))
  z : W.heap[b2]? = some (.cells #[.bool false, .int .u32 0, .int .i64 0, .int .u8 0, .int .u8 0, .bool false, .int .u8 0, .int .u8 0, .int .i64 0, .int .i64 0] 53 (0, 0))
  b : Below w.heap.size w W
theorem put10_bel {B : Nat} {w U : World} {b : Nat} (h : Below B w U) (hb : B ≤ b) (x0 x1 x2 x3 x4 x5 x6 x7 x8 x9 : Value) : Below B w (put10 U b x0 x1 x2 x3 x4 x5 x6 x7 x8 x9) :=
  (((((((((h.setCell hb _).setCell hb _).setCell hb _).setCell hb _).setCell hb _).setCell hb _).setCell hb _).setCell hb _).setCell hb _).setCell hb _
theorem rule_fin {tg wi ou act more pref : Nat} {an dr : Bool} {a : Nat} {b : Int} {x3 x4 x5 x6 x7 y3 y4 y8 : Int} (ha : ((tg : Int) % 3 == 0) = an) (hd : ((act : Int) % 4 == 3) = dr)
    (h3 : x3 = (wi : Int) % 16) (h4 : x4 = (ou : Int) % 16) (h5 : x5 = (act : Int) / 16) (h6 : x6 = (more : Int) / 16) (h7 : x7 = (more : Int) % 4) (k3 : y3 = if 100 < wi then 0 else x3) (k4 : y4 = if 60 < ou then 0 else x4) (k8 : y8 = if pref < 200 then 0 else (pref : Int))
    (hA : a = if tg % 3 = 0 then 0 else mkA tg) (hB : b = if tg % 3 = 0 then 0 else (mkB tg : Int)) :
    (.agg #[.bool an, .int .u32 a, .int .i64 b, .int .u8 y3, .int .u8 y4, .bool dr, .int .u8 x5, .int .u8 x6, .int .i64 x7, .int .i64 y8] : Value) = clV (ruleC ⟨tg, wi, ou, act, more, pref⟩) := by
  unfold clV ruleC
  dsimp only
  have e1 : an = decide (tg % 3 = 0) := by rw [← ha, Bool.eq_iff_iff, beq_iff_eq, decide_eq_true_iff]; omega
  have e2 : dr = decide (act % 4 = 3) := by rw [← hd, Bool.eq_iff_iff, beq_iff_eq, decide_eq_true_iff]; omega
  have e3 : y3 = ((if 100 < wi then 0 else wi % 16 : Nat) : Int) := by rw [k3, h3]; split <;> omega
  have e4 : y4 = ((if 60 < ou then 0 else ou % 16 : Nat) : Int) := by rw [k4, h4]; split <;> omega
  have e5 : x5 = ((act / 16 : Nat) : Int) := by omega
  have e6 : x6 = ((more / 16 : Nat) : Int) := by omega
  have e7 : x7 = ((more % 4 : Nat) : Int) := by omega
  rw [e1, e2, e3, e4, e5, e6, e7, k8, hA, hB]
set_option maxHeartbeats 8000000 in
set_option maxRecDepth 20000 in
theorem rule_any (r : RlD) (hr : r.ok) (w : World) : Calls Try.prog 24 #[rlV r] w fun e w' => e = .returned (clV (ruleC r)) ∧ Below w.heap.size w w' := by
  obtain ⟨tg, wi, ou, act, more, pref⟩ := r
  obtain ⟨h1, h2, h3, h4, h5, h6⟩ := hr
  dsimp only at h1 h2 h3 h4 h5 h6
  have hm := make_any tg h1
  obtain ⟨dr, hdr⟩ : ∃ b : Bool, ((act : Int) % 4 == 3) = b := ⟨_, rfl⟩
  have n1 : (0 : Int) ≤ tg := by omega
  have n2 : (0 : Int) ≤ wi := by omega
  have n3 : (0 : Int) ≤ ou := by omega
  have n4 : (0 : Int) ≤ act := by omega
  have n5 : (0 : Int) ≤ more := by omega
  have n6 : (0 : Int) ≤ pref := by omega
  have m1 : (tg : Int) < 256 := by omega
  have m2 : (wi : Int) < 256 := by omega
  have m3 : (ou : Int) < 256 := by omega
  have m4 : (act : Int) < 256 := by omega
  have m5 : (more : Int) < 256 := by omega
  have m6 : (pref : Int) < 256 := by omega
  obtain ⟨an, han⟩ : ∃ b : Bool, ((tg : Int) % 3 == 0) = b := ⟨_, rfl⟩
  unfold rlV
  dsimp only
  go_enter Try.func24, Try.ntmps24
  go_upto_if 34 with fail
  obtain ⟨b1, hb1⟩ : ∃ b, b = w.heap.size := ⟨_, rfl⟩
  obtain ⟨b2, hb2⟩ : ∃ b, b = w.heap.size + 1 := ⟨_, rfl⟩
  obtain ⟨b3, hb3⟩ : ∃ b, b = w.heap.size + 1 + 1 := ⟨_, rfl⟩
  rw [← hb3, ← hb2, ← hb1]
  obtain ⟨x3, hx3⟩ : ∃ x : Int, x = (wi : Int) % 16 := ⟨_, rfl⟩
  obtain ⟨x4, hx4⟩ : ∃ x : Int, x = (ou : Int) % 16 := ⟨_, rfl⟩
  obtain ⟨x5, hx5⟩ : ∃ x : Int, x = (act : Int) / 16 := ⟨_, rfl⟩
  obtain ⟨x6, hx6⟩ : ∃ x : Int, x = (more : Int) / 16 := ⟨_, rfl⟩
  obtain ⟨x7, hx7⟩ : ∃ x : Int, x = (more : Int) % 4 := ⟨_, rfl⟩
  rw [← hx3, ← hx4, ← hx5, ← hx6, ← hx7]
  obtain ⟨U1, hU1⟩ : ∃ U, U = w.alloc (.cells #[.int .u8 tg, .int .u8 wi, .int .u8 ou, .int .u8 act, .int .u8 more, .int .u8 pref] 58) := ⟨_, rfl⟩
  rw [← hU1]
  obtain ⟨U2, hU2⟩ : ∃ U, U = U1.alloc (.cells #[.bool false, .int .u32 0, .int .i64 0, .int .u8 0, .int .u8 0, .bool false, .int .u8 0, .int .u8 0, .int .i64 0, .int .i64 0] 53) := ⟨_, rfl⟩
  rw [← hU2]
  obtain ⟨U, hU⟩ : ∃ U, U = U2.alloc (.cells #[.bool an, .int .u32 0, .int .i64 0, .int .u8 x3, .int .u8 x4, .bool dr, .int .u8 x5, .int .u8 x6, .int .i64 x7, .int .i64 pref] 53) := ⟨_, rfl⟩
  rw [← hU]
  obtain ⟨q1, r1, _⟩ := box_at w _ hU1 hb1
  obtain ⟨q2, r2, _⟩ := box_at U1 _ hU2 (b := b2) (by rw [hU1, hb2]; simp)
  obtain ⟨q3, r3, _⟩ := box_at U2 _ hU (b := b3) (by rw [hU2, hU1, hb3]; simp)
  have HS : Hid (RSt w b1 b2 b3 tg wi ou act more pref an dr x3 x4 x5 x6 x7 pref U) := by
    refine ⟨r3, pf_block q3 (pf_block q2 r1), pf_block q3 r2, ?_⟩
    have h12 : w.heap.size ≤ U1.heap.size := q1.size
    exact bel_up (bel_up q1 q2 h12) q3 (Nat.le_trans h12 q2.size)
  have HB : Hid (w.heap.size ≤ b2 ∧ w.heap.size ≤ b3 ∧ b1 ≠ b3 ∧ b2 ≠ b3) := ⟨by omega, by omega, by omega, by omega⟩
  have HX : Hid (x3 = (wi : Int) % 16 ∧ x4 = (ou : Int) % 16 ∧ x5 = (act : Int) / 16 ∧ x6 = (more : Int) / 16 ∧ x7 = (more : Int) % 4) := ⟨hx3, hx4, hx5, hx6, hx7⟩
  have HA : Hid (((tg : Int) % 3 == 0) = an ∧ ((act : Int) % 4 == 3) = dr) := ⟨han, hdr⟩
  clear hU hU1 hU2 q1 q2 q3 r1 r2 r3 hb1 hb2 hb3 hx3 hx4 hx5 hx6 hx7 han hdr
  go_cut [] (fun wx => Hid (RSt w b1 b2 b3 tg wi ou act more pref an dr (if 100 < wi then 0 else x3) x4 x5 x6 x7 pref wx))
  case first =>
    by_cases t2 : 100 < wi
    · have q2 : decide ((100 : Int) < wi) = true := decide_eq_true (by omega)
      have f := free_at HS.out.c 3
      obtain ⟨_, _, _, C3, _⟩ := cells_ten HS.out.c
      go_wp2_with fail
      go_meet
      case rel =>
        rw [if_pos t2]
        exact ⟨set_at HS.out.c _, set_off HS.out.r HB.out.2.2.1 _, set_off HS.out.z HB.out.2.2.2 _, HS.out.b.setCell HB.out.2.1 _⟩
    · have q2 : decide ((100 : Int) < wi) = false := decide_eq_false (by omega)
      go_wp2_with fail
      go_meet
      case rel =>
        rw [if_neg t2]
        exact HS
  case rest =>
    clear HS
    obtain ⟨y3, hy3⟩ : ∃ y : Int, y = if 100 < wi then 0 else x3 := ⟨_, rfl⟩
    rw [← hy3] at hcut
    have HY3 : Hid (y3 = if 100 < wi then 0 else x3) := hy3
    clear hy3
    obtain ⟨R0, R1, R2, R3, R4, R5⟩ := cells_six' hcut.out.r
    go_upto_if 38 with fail
    clear R0 R1 R2 R3 R4 R5
    go_cut [] (fun wx => Hid (RSt w b1 b2 b3 tg wi ou act more pref an dr y3 (if 60 < ou then 0 else x4) x5 x6 x7 pref wx))
    case first =>
      by_cases t2 : 60 < ou
      · have q2 : decide ((60 : Int) < ou) = true := decide_eq_true (by omega)
        have f := free_at hcut.out.c 4
        obtain ⟨_, _, _, _, C4, _⟩ := cells_ten hcut.out.c
        go_wp2_with fail
        go_meet
        case rel =>
          rw [if_pos t2]
          exact ⟨set_at hcut.out.c _, set_off hcut.out.r HB.out.2.2.1 _, set_off hcut.out.z HB.out.2.2.2 _, hcut.out.b.setCell HB.out.2.1 _⟩
      · have q2 : decide ((60 : Int) < ou) = false := decide_eq_false (by omega)
        go_wp2_with fail
        go_meet
        case rel =>
          rw [if_neg t2]
          exact hcut
    case rest =>
      have hcut2 : Hid (RSt w b1 b2 b3 tg wi ou act more pref an dr y3 (if 60 < ou then 0 else x4) x5 x6 x7 pref wc) := by assumption
      obtain ⟨y4, hy4⟩ : ∃ y : Int, y = if 60 < ou then 0 else x4 := ⟨_, rfl⟩
      rw [← hy4] at hcut2
      have HY4 : Hid (y4 = if 60 < ou then 0 else x4) := hy4
      clear hy4 hcut
      obtain ⟨R0, R1, R2, R3, R4, R5⟩ := cells_six' hcut2.out.r
      go_upto_if 42 with fail
      clear R0 R1 R2 R3 R4 R5
      go_cut [] (fun wx => Hid (RSt w b1 b2 b3 tg wi ou act more pref an dr y3 y4 x5 x6 x7 (if pref < 200 then 0 else (pref : Int)) wx))
      case first =>
        by_cases t2 : pref < 200
        · have q2 : decide ((pref : Int) < 200) = true := decide_eq_true (by omega)
          have f := free_at hcut2.out.c 8
          have f9 := free_at hcut2.out.c 9
          obtain ⟨_, _, _, _, _, _, _, _, C8, C9⟩ := cells_ten hcut2.out.c
          go_wp2_with fail
          go_meet
          case rel =>
            rw [if_pos t2]
            exact ⟨set_at hcut2.out.c _, set_off hcut2.out.r HB.out.2.2.1 _, set_off hcut2.out.z HB.out.2.2.2 _, hcut2.out.b.setCell HB.out.2.1 _⟩
        · have q2 : decide ((pref : Int) < 200) = false := decide_eq_false (by omega)
          go_wp2_with fail
          go_meet
          case rel =>
            rw [if_neg t2]
            exact hcut2
      case rest =>
        have hcut3 : Hid (RSt w b1 b2 b3 tg wi ou act more pref an dr y3 y4 x5 x6 x7 (if pref < 200 then 0 else (pref : Int)) wc) := by assumption
        obtain ⟨y8, hy8⟩ : ∃ y : Int, y = if pref < 200 then 0 else (pref : Int) := ⟨_, rfl⟩
        rw [← hy8] at hcut3
        have HY8 : Hid (y8 = if pref < 200 then 0 else (pref : Int)) := hy8
        clear hy8 hcut hcut2
        obtain ⟨C0, C1, C2, C3, C4, C5, C6, C7, C8, C9⟩ := cells_ten hcut3.out.c
        obtain ⟨R0, _⟩ := cells_six' hcut3.out.r
        obtain ⟨Z0, Z1, Z2, Z3, Z4, Z5, Z6, Z7, Z8, Z9⟩ := cells_ten hcut3.out.z
        have f := fun i => free_at hcut3.out.z i
        have g := fun i => free_at hcut3.out.c i
        cases an with
        | true =>
          have HV : Hid ((.agg #[.bool true, .int .u32 0, .int .i64 0, .int .u8 y3, .int .u8 y4, .bool dr, .int .u8 x5, .int .u8 x6, .int .i64 x7, .int .i64 y8] : Value) = clV (ruleC ⟨tg, wi, ou, act, more, pref⟩)) := by
            have ht : tg % 3 = 0 := by have := HA.out.1; rw [beq_iff_eq] at this; omega
            exact rule_fin (a := 0) HA.out.1 HA.out.2 HX.out.1 HX.out.2.1 HX.out.2.2.1 HX.out.2.2.2.1 HX.out.2.2.2.2 HY3.out HY4.out HY8.out (by rw [if_pos ht]) (by rw [if_pos ht])
          clear R0
          go_wp2_with fail
          show bodyPost _ _ _ _ _ (put10 wc b2 (.bool true) (.int .u32 0) (.int .i64 0) (.int .u8 y3) (.int .u8 y4) (.bool dr) (.int .u8 x5) (.int .u8 x6) (.int .i64 x7) (.int .i64 y8))
          have rX := put10_at hcut3.out.z (.bool true) (.int .u32 0) (.int .i64 0) (.int .u8 y3) (.int .u8 y4) (.bool dr) (.int .u8 x5) (.int .u8 x6) (.int .i64 x7) (.int .i64 y8)
          have qX := put10_bel hcut3.out.b HB.out.1 (.bool true) (.int .u32 0) (.int .i64 0) (.int .u8 y3) (.int .u8 y4) (.bool dr) (.int .u8 x5) (.int .u8 x6) (.int .i64 x7) (.int .i64 y8)
          generalize put10 wc b2 (.bool true) (.int .u32 0) (.int .i64 0) (.int .u8 y3) (.int .u8 y4) (.bool dr) (.int .u8 x5) (.int .u8 x6) (.int .i64 x7) (.int .i64 y8) = X at *
          obtain ⟨W0, W1, W2, W3, W4, W5, W6, W7, W8, W9⟩ := cells_ten rX
          refine bodyPost_ret (v := .agg #[.bool true, .int .u32 0, .int .i64 0, .int .u8 y3, .int .u8 y4, .bool dr, .int .u8 x5, .int .u8 x6, .int .i64 x7, .int .i64 y8]) (by simp [results, Try.results24, go_sem, W0, W1, W2, W3, W4, W5, W6, W7, W8, W9]) rfl ?_
          exact ⟨by rw [HV.out], qX⟩
        | false =>
          have HV : Hid ((.agg #[.bool false, .int .u32 (mkA tg), .int .i64 (mkB tg), .int .u8 y3, .int .u8 y4, .bool dr, .int .u8 x5, .int .u8 x6, .int .i64 x7, .int .i64 y8] : Value) = clV (ruleC ⟨tg, wi, ou, act, more, pref⟩)) := by
            have ht : ¬ tg % 3 = 0 := by have := HA.out.1; rw [beq_eq_false_iff_ne] at this; omega
            exact rule_fin HA.out.1 HA.out.2 HX.out.1 HX.out.2.1 HX.out.2.2.1 HX.out.2.2.2.1 HX.out.2.2.2.2 HY3.out HY4.out HY8.out (by rw [if_neg ht]) (by rw [if_neg ht])
          unfold pfV at hm
          obtain ⟨A, hA⟩ : ∃ n, n = mkA tg := ⟨_, rfl⟩
          obtain ⟨B, hB⟩ : ∃ n, n = mkB tg := ⟨_, rfl⟩
          rw [← hA, ← hB] at hm HV
          clear hA hB
          go_wp2_with fail
          refine (hm _).mono ?_
          rintro e V ⟨rfl, qV⟩
          have cV := pf_block qV hcut3.out.c
          have zV := pf_block qV hcut3.out.z
          have bV : Hid (Below w.heap.size w V) := bel_up hcut3.out.b qV hcut3.out.b.size
          clear C0 C1 C2 C3 C4 C5 C6 C7 C8 C9 R0 Z0 Z1 Z2 Z3 Z4 Z5 Z6 Z7 Z8 Z9 f g qV hm
          obtain ⟨C0, C1, C2, C3, C4, C5, C6, C7, C8, C9⟩ := cells_ten cV
          obtain ⟨Z0, Z1, Z2, Z3, Z4, Z5, Z6, Z7, Z8, Z9⟩ := cells_ten zV
          have f := fun i => free_at zV i
          have g := fun i => free_at cV i
          have hne := HB.out.2.2.2
          have HZ : Hid (((V.setCell ⟨b3, 1, none⟩ (.int .u32 A)).setCell ⟨b3, 2, none⟩ (.int .i64 B)).heap[b2]? = some (.cells #[.bool false, .int .u32 0, .int .i64 0, .int .u8 0, .int .u8 0, .bool false, .int .u8 0, .int .u8 0, .int .i64 0, .int .i64 0] 53 (0, 0))) := set_off (set_off zV hne _) hne _
          have HQ : Hid (Below w.heap.size w ((V.setCell ⟨b3, 1, none⟩ (.int .u32 A)).setCell ⟨b3, 2, none⟩ (.int .i64 B))) := (bV.out.setCell HB.out.2.1 _).setCell HB.out.2.1 _
          clear cV zV bV
          go_wp2_with fail
          show bodyPost _ _ _ _ _ (put10 ((V.setCell ⟨b3, 1, none⟩ (.int .u32 A)).setCell ⟨b3, 2, none⟩ (.int .i64 B)) b2 (.bool false) (.int .u32 A) (.int .i64 B) (.int .u8 y3) (.int .u8 y4) (.bool dr) (.int .u8 x5) (.int .u8 x6) (.int .i64 x7) (.int .i64 y8))
          have rX := put10_at HZ.out (.bool false) (.int .u32 A) (.int .i64 B) (.int .u8 y3) (.int .u8 y4) (.bool dr) (.int .u8 x5) (.int .u8 x6) (.int .i64 x7) (.int .i64 y8)
          have qX := put10_bel HQ.out HB.out.1 (.bool false) (.int .u32 A) (.int .i64 B) (.int .u8 y3) (.int .u8 y4) (.bool dr) (.int .u8 x5) (.int .u8 x6) (.int .i64 x7) (.int .i64 y8)
          generalize put10 ((V.setCell ⟨b3, 1, none⟩ (.int .u32 A)).setCell ⟨b3, 2, none⟩ (.int .i64 B)) b2 (.bool false) (.int .u32 A) (.int .i64 B) (.int .u8 y3) (.int .u8 y4) (.bool dr) (.int .u8 x5) (.int .u8 x6) (.int .i64 x7) (.int .i64 y8) = X at *
          obtain ⟨W0, W1, W2, W3, W4, W5, W6, W7, W8, W9⟩ := cells_ten rX
          refine bodyPost_ret (v := .agg #[.bool false, .int .u32 A, .int .i64 B, .int .u8 y3, .int .u8 y4, .bool dr, .int .u8 x5, .int .u8 x6, .int .i64 x7, .int .i64 y8]) (by simp [results, Try.results24, go_sem, W0, W1, W2, W3, W4, W5, W6, W7, W8, W9]) rfl ?_
          exact ⟨by rw [HV.out], qX⟩
end Go.Proofs.Ytphhfjfdanlhiaa
