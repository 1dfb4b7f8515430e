/- TruthBuild: the walk. -/
import Derived.Test.YtcbpklpehdojnaaYM
import Derived.Test.YtcbpklpehdojnaaBt
import Derived.Test.YtcbpklpehdojnaaCB
import Derived.BigRegion
namespace Go.Proofs.Ytcbpklpehdojnaa
open Go.RowKit

theorem c5000 : clampN 5000 = 5000 := rfl
theorem len2' : (first2.length : Int) = 2 := rfl
theorem room7 {d n : Nat} (h : n = 2 ^ d) (hn : n ≤ 128) : (first2.length : Int) + 2 ^ d ≤ 5000 + 1 := by
  have e : (2 : Int) ^ d = ((2 ^ d : Nat) : Int) := by simp
  rw [len2', e, ← h]
  omega
/-- The rows that are made of what came in. -/
def rawR (len : Nat) (t : Nat → Bool) (k : Nat) : Bool := decide (0 < len) && (t (k % len) != (k / len % 2 == 1))

set_option maxHeartbeats 4000000 in
set_option maxRecDepth 20000 in
theorem build_law (v : Nat) (hv : v < 256) (a : Option Addr) (len cap : Nat) (t : Nat → Bool) (w : World) (hlen' : len ≤ cap ∧ cap ≤ maxLen) (hc : CameB w a len t) :
    Calls Try.prog 3 #[.int .u8 v, .slice a len cap] w fun e w' => e = .returned (.bool true) ∧ Below w.heap.size w w' := by
  have hlen : len ≤ maxLen := Nat.le_trans hlen'.1 hlen'.2
  clear hlen'
  unfold maxLen at hlen
  obtain ⟨d, hd, hd8⟩ : ∃ d : Nat, (v : Int) % 8 = d ∧ d < 8 := ⟨v % 8, by omega, by omega⟩
  have h0 : (0 : Int) ≤ v := by omega
  have hv' : (v : Int) < 256 := by omega
  go_enter Try.func3, Try.ntmps3
  go_wp2_with fail
  refine (awake4_any w).mono ?_
  rintro e w0 ⟨rfl, b0⟩
  go_wp2_with fail
  refine (of_any 5000 w0).mono ?_
  rintro e w1 ⟨rfl, a1, b1, s1⟩
  have B1 := Below.up b0 b1 (Nat.le_refl _)
  have hs0 := b0.size
  obtain ⟨p, hp, hp'⟩ : ∃ p, w.heap.size ≤ p ∧ p = w0.heap.size + 2 := ⟨_, by omega, rfl⟩
  obtain ⟨gg, hgg, hg'⟩ : ∃ gg, w.heap.size ≤ gg ∧ gg = w0.heap.size := ⟨_, by omega, rfl⟩
  obtain ⟨m, hmm, hm'⟩ : ∃ m, w.heap.size ≤ m ∧ m = w0.heap.size + 1 := ⟨_, by omega, rfl⟩
  rw [← hp', ← hm', ← hg', c5000] at a1
  rw [← hp']
  clear hp' hm' hg' s1 b0 b1 hs0
  have hp2 : 2 ^ d ≤ 2 ^ 7 := Nat.pow_le_pow_right (by decide) (by omega)
  have e7 : (2 : Nat) ^ 7 = 128 := rfl
  rw [e7] at hp2
  have hmk := makeB (2 ^ d) (by omega) w1
  have hwr := wrap_two d (by omega)
  have q1 : (0 : Int) ≤ d := by omega
  have q2 : (d : Int) < 8 := by omega
  obtain ⟨n, hn⟩ : ∃ n, n = 2 ^ d := ⟨_, rfl⟩
  have HN : Hid (n = 2 ^ d) := hn
  rw [← hn] at hmk hwr hp2
  clear hn e7
  go_wp2_with fail
  obtain ⟨W, hW⟩ : ∃ W, W = w1.alloc (.cells (rowsV n fun _ => false) 4) := ⟨_, rfl⟩
  obtain ⟨b, hb⟩ : ∃ b, b = w1.heap.size := ⟨_, rfl⟩
  rw [← hW, ← hb]
  have bW : Below w1.heap.size w1 W := by rw [hW]; exact (Below.refl _ _).alloc (Nat.le_refl _) _
  have rW : W.heap[b]? = some (.cells (rowsV n fun _ => false) 4) := by rw [hW, hb]; exact heap_new_at _ _ _ rfl
  have nb : b ∉ [p, gg, m] := by
    have := a1.ltp
    have := a1.ltg
    have := a1.ltm
    simp
    omega
  have lb : w.heap.size ≤ b := by have := B1.size; omega
  have aW := a1.below bW
  have BW := Below.up B1 bW (Nat.le_refl _)
  clear hmk hW hb bW a1 B1
  go_loopw [25] (fun i wr => ∃ j : Nat, j ≤ n ∧ i = .int .i64 j ∧ wr.heap[b]? = some (.cells (rowsV n fun k => decide (k < j) && rawR len t k) 4) ∧ ArenaAt 51 47 wr p gg m 2 5000 first2 ∧ Below w.heap.size w wr) (fun i _ => n - (intOf i).toNat)
  case atStart => exact ⟨0, by omega, rfl, by rw [rW]; simp, aW, BW⟩
  case round =>
    obtain ⟨j, hj, rfl, rj, aj, bj⟩ := hrel
    clear rW aW BW
    rename World => wr
    by_cases hlt : j < n
    · have h1 : (j : Int) < n := by omega
      have h2 : (0 : Int) ≤ (j : Int) := by omega
      have h3 : (n : Int) ≤ 128 := by omega
      have Cj : wr.cell? ⟨b, j, none⟩ = some (.bool false) := by simp [World.cell?, rj, rowsV_get hlt]
      have Fj : wr.frozen? ⟨b, j, none⟩ = false := by simp [World.frozen?, rj]
      have key : ∀ (x : Bool) (V : World), V = (wr.setCell ⟨b, j, none⟩ (.bool x)).drew → x = rawR len t j → V.heap[b]? = some (.cells (rowsV n fun k => decide (k < j + 1) && rawR len t k) 4) ∧ ArenaAt 51 47 V p gg m 2 5000 first2 ∧ Below w.heap.size w V := by
        intro x V hV hx
        have b9 : Below (wr.setCell ⟨b, j, none⟩ (.bool x)).heap.size (wr.setCell ⟨b, j, none⟩ (.bool x)) V := by rw [hV]; exact (Below.refl _ _).drew
        have hh : (wr.setCell ⟨b, j, none⟩ (.bool x)).heap[b]? = some (.cells (rowsV n fun k => decide (k < j + 1) && rawR len t k) 4) := by
          rw [heap_set_at rj, rowsV_set]
          congr 2
          refine rowsV_congr fun k _ => ?_
          by_cases e : k = j
          · subst e; simp [hx]
          · rw [if_neg e]
            congr 1
            rw [Bool.eq_iff_iff]
            simp
            omega
        refine ⟨below_block b9 hh, ?_, Below.up (bj.setCell lb _) b9 (Nat.le_refl _)⟩
        simp only [List.mem_cons, List.not_mem_nil, or_false, not_or] at nb
        exact (aj.stays (Below.heap_setCell _ _ _ _ (fun e => nb.1 e.symm)) (Below.heap_setCell _ _ _ _ (fun e => nb.2.1 e.symm)) (Below.heap_setCell _ _ _ _ (fun e => nb.2.2 e.symm))).below b9
      by_cases hl0 : 0 < len
      · obtain ⟨ab, ao, rfl, hcell⟩ := hc hl0
        have hml : j % len < len := Nat.mod_lt _ hl0
        have hcj : wr.cell? ⟨ab, ao + j % len, none⟩ = some (.bool (t (j % len))) := by
          rw [bj.cell (p := ⟨ab, ao + j % len, none⟩) (World.block_lt_of_cell? w _ (hcell _ hml))]
          exact hcell _ hml
        have h4 : (0 : Int) < len := by omega
        have h5 : (len : Int) ≤ 9223372036854775807 := by omega
        have t1 : (j : Int).tmod len = ((j % len : Nat) : Int) := rfl
        have t2 : (if (1 : Int) < len then (len : Int) else 1) = len := by split <;> omega
        have t3 : wrap64 ((j : Int) / len) = ((j / len : Nat) : Int) := by
          have e : (j : Int) / len = ((j / len : Nat) : Int) := by simp
          have hq : j / len ≤ j := Nat.div_le_self _ _
          rw [e]
          generalize j / len = q at hq
          unfold wrap64
          omega
        have t4 : ((j / len : Nat) : Int).tmod 2 = ((j / len % 2 : Nat) : Int) := rfl
        have t5 : (((j / len % 2 : Nat) : Int) == 1) = (j / len % 2 == 1) := by rw [Bool.eq_iff_iff, beq_iff_eq, beq_iff_eq]; omega
        have t6 : ((j % len : Nat) : Int) < len := by omega
        have t7 : (t (j % len) != (j / len % 2 == 1)) = rawR len t j := by simp [rawR, hl0]
        have hx : (!(t (j % len) == ((wrap64 ((j : Int) / len)).tmod 2 == 1))) = rawR len t j := by
          rw [t3, t4, t5, ← t7]
          rfl
        clear t3 t4 t5 t7
        generalize rawR len t = R at *
        go_wp2_with fail
        go_region
        go_wp2_with fail
        go_roundw
        case rel => exact ⟨j + 1, by omega, by go_num, key _ _ rfl rfl⟩
        case measure => simp [intOf]; omega
      · have hl1 : len = 0 := by omega
        have hx : Hid (false = rawR len t j) := (by simp [rawR, hl0] : false = rawR len t j)
        subst hl1
        have hz : ((0 : Nat) : Int) = 0 := rfl
        have hz2 : decide ((0 : Int) < ((0 : Nat) : Int)) = false := rfl
        generalize rawR 0 t = R at *
        go_wp2_with fail
        go_region
        go_wp2_with fail
        go_roundw
        case rel => exact ⟨j + 1, by omega, by go_num, key _ _ rfl hx.out⟩
        case measure => simp [intOf]; omega
    · obtain rfl : j = n := by omega
      have rj' : wr.heap[b]? = some (.cells (rowsV j (rawR len t)) 4) := by
        rw [rj]
        congr 2
        exact rowsV_congr (fun k hk => by simp [hk])
      generalize hRR : rawR len t = R at rj'
      clear rj hc hRR
      have hbt : ∀ i, i < j → (numTo R j).testBit i = R i := fun i hi => numTo_test R j i hi
      generalize numTo R j = bt at hbt
      have hrow : RowsAt wr b 0 (2 ^ d) (fun i => bt.testBit i) := by
        intro i hi
        rw [← HN.out] at hi
        simp [World.cell?, rj', rowsV_get hi, hbt i hi]
      have hroom : (first2.length : Int) + 2 ^ d ≤ 5000 + 1 := room7 HN.out hp2
      have v1 := trbuild_ok bt d (by omega) aj (cap := j) nb hroom (by rw [HN.out]; exact Nat.le_refl _) hrow
      obtain ⟨G1, G2, _, G4, G5, _⟩ := bld_all 5000 bt d 0 0 first2 aj.good (by omega) hroom
      rw [← HN.out] at v1
      generalize bld 5000 bt d 0 0 first2 = R1 at v1 G1 G2 G4 G5
      clear hrow hroom
      go_wp2_with fail
      refine v1.mono ?_
      rintro e w2 ⟨g2, c2, rfl, a2, k2, e2⟩
      have r2 := k2.stays rj' nb
      obtain ⟨b2, hg2⟩ := next bj (Nat.le_refl _) hp hgg hmm k2 e2
      clear v1 aj bj k2 e2 rj'
      have ed : clampV d = d := by unfold clampV; omega
      have hT : ∀ i, i < j → tellR R1.2 d 0 R1.1 i = R i := fun i hi => by
        have hi' := hi
        rw [HN.out] at hi'
        rw [tellR_is G1 d 0 R1.1 i (by omega) G4 hi', G5, bitN_test, rowOf_val _ d 0 0 i hi' (fun _ _ _ => rfl), Nat.zero_add, hbt i hi]
      have v2 := trtable_any a2 R1.1 d
      rw [ed, ← HN.out] at v2
      go_wp2_with fail
      refine v2.mono ?_
      rintro e w3 ⟨tb, rfl, ltb, rtb, b3⟩
      have r3 := below_block b3 r2
      have a3 := a2.below b3
      have B3 := Below.up b2 b3 (Nat.le_refl _)
      have v3 := fun W (h : Below w3.heap.size w3 W) => trcount_any (a3.below h) R1.1 d
      rw [ed, ← HN.out, cntB_congr j hT] at v3
      rw [rowsV_congr hT] at rtb
      clear v2 a2 b2 b3 r2 hT hbt G1 G2 G4 G5 a3 hlen hwr hd8 hd q1 q2 h0 hv' hv nb ed
      go_wp2_with fail
      go_loopw [12, 74] (fun c i wr => ∃ k : Nat, k ≤ j ∧ i = .int .i64 k ∧ c = .int .i64 (cntB R k : Nat) ∧ Below w3.heap.size w3 wr) (fun _ i _ => j - (intOf i).toNat)
      case atStart => exact ⟨0, Nat.zero_le _, rfl, rfl, Below.refl _ _⟩
      case round =>
        rename World => wq
        obtain ⟨k, hk, rfl, rfl, hbq⟩ := hrel
        have hcl := cntB_le R k
        by_cases hlt2 : k < j
        · have y1 : (k : Int) < j := by omega
          have y0 : (0 : Int) ≤ (k : Int) := by omega
          have y2 : (j : Int) ≤ 128 := by omega
          have Ck : wq.cell? ⟨b, k, none⟩ = some (.bool (R k)) := by simp only [World.cell?, below_block hbq r3]; simp [rowsV_get hlt2]
          have Ct : wq.cell? ⟨tb, k, none⟩ = some (.bool (R k)) := by simp only [World.cell?, below_block hbq rtb]; simp [rowsV_get hlt2]
          obtain ⟨c, hcc⟩ : ∃ c, c = cntB R k := ⟨_, rfl⟩
          have hcn : cntB R (k + 1) = c + (if R k = true then 1 else 0) := by rw [cntB, hcc]
          rw [← hcc] at hcl ⊢
          clear hcc
          have HC : Hid (cntB R (k + 1) = c + (if R k = true then 1 else 0)) := hcn
          clear hcn
          cases hR : R k with
          | _ =>
            rw [hR] at Ck Ct HC
            go_wp2_with fail
            go_quiet (fail)
            go_wp2_with fail
            go_roundw
            case rel => exact ⟨k + 1, by omega, by go_num, by rw [HC.out]; simp, below_drewN hbq _⟩
            case measure => simp [intOf]; omega
        · obtain rfl : k = j := by omega
          have v4 := v3 wq hbq
          clear v3
          generalize cntB R k = c at v4 ⊢
          go_wp2_with fail
          refine v4.mono ?_
          rintro e w9 ⟨rfl, b9⟩
          go_wp2_with fail
          go_ret
          exact ⟨rfl, Below.up (Below.up B3 hbq (Nat.le_refl _)) b9 (Nat.le_refl _)⟩
end Go.Proofs.Ytcbpklpehdojnaa
