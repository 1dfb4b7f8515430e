/- TruthSize: the walk. -/
import Derived.Test.YtcbpklpehdojnaaYX2
import Derived.Test.YtcbpklpehdojnaaZ4
namespace Go.Proofs.Ytcbpklpehdojnaa
open Go.RowKit Go.Maps

theorem lawU : Keyed Try.prog 33 := int_keyed Try.underlying33
def seenP (q : Nat) : Value × Value := (.int .u16 q, .bool true)
theorem keyU (q : Nat) (h : q < 65536) : ∃ l, keyOf Try.prog 33 (.int .u16 (q : Int)) = some l := ⟨_, keyOf_int_mk Try.underlying33 (WalkArith.wf_u16 ⟨by omega, by omega⟩)⟩
theorem keysU {S : List Nat} (hS : ∀ q ∈ S, q < 65536) : ∀ x ∈ S.map seenP, ∃ l, keyOf Try.prog 33 x.1 = some l := by
  intro x hx
  obtain ⟨q, hq, rfl⟩ := List.mem_map.1 hx
  exact keyU q (hS q hq)
theorem seenU_look {w : World} {m : Nat} {S : List Nat} (hS : ∀ q ∈ S, q < 65536) (hm : mapIs w m (S.map seenP)) (q : Nat) (hq : q < 65536) :
    Sem.run Try.prog (Instr.lookup 41 (.map (some m)) (.int .u16 (q : Int)) false) w = .ok (.bool (decide (q ∈ S))) w := by
  have hk := keysU hS
  obtain ⟨es, c, hb, he⟩ := hm
  obtain ⟨l, hl⟩ := keyU q hq
  rw [← he] at hk
  rcases lawU.find w hl es.toList (fun e he => hk _ (List.mem_map.2 ⟨e, he, rfl⟩)) with ⟨h1, h2⟩ | ⟨j, e0, h1, h3, h4⟩
  · have hn : decide (q ∈ S) = false := by
      rw [decide_eq_false_iff_not]
      intro hq'
      have := List.mem_map_of_mem (f := seenP) hq'
      rw [← he] at this
      obtain ⟨e, h5, h6⟩ := List.mem_map.1 this
      exact h2 e h5 (congrArg Prod.fst h6)
    rw [hn]
    simp [Instr.lookup, run_underlying Try.underlying41, MapKept.run_getObj_map hb, lawU.check w _ hl, h1, Result.andThen]
  · have hin : (e0.key, e0.val) ∈ S.map seenP := by rw [← he]; exact List.mem_map.2 ⟨e0, List.mem_of_getElem? h3, rfl⟩
    obtain ⟨q', h5, h6⟩ := List.mem_map.1 hin
    have e1 : q' = q := by
      have h7 := congrArg Prod.fst h6
      simp only [seenP] at h7
      rw [h4] at h7
      simp only [Value.int.injEq, true_and] at h7
      omega
    have e2 : e0.val = .bool true := (congrArg Prod.snd h6).symm
    have hn : decide (q ∈ S) = true := by rw [decide_eq_true_eq, ← e1]; exact h5
    rw [hn]
    simp [Instr.lookup, run_underlying Try.underlying41, MapKept.run_getObj_map hb, lawU.check w _ hl, h1, e2, Result.andThen]
theorem seenU_store {w : World} {m : Nat} {S : List Nat} (hS : ∀ q ∈ S, q < 65536) (hm : mapIs w m (S.map seenP)) (q : Nat) (hq : q < 65536) (hn : q ∉ S) :
    ∃ w', Sem.run Try.prog (Instr.mapUpdate 41 (.map (some m)) (.int .u16 (q : Int)) (.bool true)) w = .ok () w' ∧ mapIs w' m ((S ++ [q]).map seenP) ∧ w.grownBy w' (some m) := by
  obtain ⟨l, hl⟩ := keyU q hq
  obtain ⟨w', h1, h2, h3⟩ := hm.store lawU Try.underlying41 (keysU hS) hl (val := .bool true) (by
    intro x hx
    obtain ⟨q', hq', rfl⟩ := List.mem_map.1 hx
    simp only [seenP, ne_eq, Value.int.injEq, true_and]
    intro h
    exact hn ((by omega : q' = q) ▸ hq'))
  exact ⟨w', h1, by simpa [seenP] using h2, h3⟩

theorem sees_end {ns : List Nd} {k : Int} (h : ¬ (getN ns k).v < 1024) : (seesP ns k).length = 0 := by rw [seesP, visP, if_neg h]; rfl
theorem seenL_len (bits d : Nat) : ∀ j, (seenL bits d j).length ≤ j
  | 0 => Nat.le_refl _
  | j + 1 => by
    have := seenL_len bits d j
    rw [seenL]
    split
    · simp; omega
    · omega
theorem pairs_len (bits : Nat) : ∀ v, (pairs bits v).length ≤ 2 ^ v
  | 0 => by simp [pairs]
  | v + 1 => by
    have h1 := pairs_len bits v
    have h2 := seenL_len bits (3 - v) (2 ^ v)
    rw [pairs, Nat.pow_succ]
    simp
    omega
theorem wrap_mask : ∀ M : Nat, M = 1 ∨ M = 2 ∨ M = 4 ∨ M = 8 ∨ M = 16 → IntKind.u16.wrap (IntKind.u16.wrap (2 ^ M) - 1) = ((2 ^ M - 1 : Nat) : Int) := by
  rintro M (rfl | rfl | rfl | rfl | rfl) <;> (rw [IntKind.wrap_u16, IntKind.wrap_u16]; rfl)
theorem part_vals (f v j M fr : Nat) (hf : f < 65536) (hv : v < 4) (hM : M = 2 ^ (3 - v + 1)) (hfr : fr = j * M) :
    ∃ pt lo hi : Nat, pt = partN f (3 - v + 1) j ∧ pt < 65536 ∧ lo < 65536 ∧ hi < 65536 ∧ bits .and .u16 ((f : Int) / 2 ^ fr) (IntKind.u16.wrap (IntKind.u16.wrap (2 ^ M) - 1)) = pt ∧
      bits .and .u16 (pt : Int) (IntKind.u16.wrap (IntKind.u16.wrap (2 ^ (M / 2)) - 1)) = lo ∧ (pt : Int) / 2 ^ (M / 2) = hi ∧ unlikeB (3 - v) pt = (lo != hi) := by
  have h2 : M / 2 = 2 ^ (3 - v) := by rw [hM, Nat.pow_succ]; omega
  have hm1 : M = 1 ∨ M = 2 ∨ M = 4 ∨ M = 8 ∨ M = 16 := by
    rw [hM]
    rcases (by omega : v = 0 ∨ v = 1 ∨ v = 2 ∨ v = 3) with rfl | rfl | rfl | rfl <;> decide
  have hm2 : M / 2 = 1 ∨ M / 2 = 2 ∨ M / 2 = 4 ∨ M / 2 = 8 ∨ M / 2 = 16 := by
    rw [hM]
    rcases (by omega : v = 0 ∨ v = 1 ∨ v = 2 ∨ v = 3) with rfl | rfl | rfl | rfl <;> decide
  have hle : ∀ N, (N = 1 ∨ N = 2 ∨ N = 4 ∨ N = 8 ∨ N = 16) → 2 ^ N - 1 < 65536 := by
    rintro N (rfl | rfl | rfl | rfl | rfl) <;> decide
  have e1 : ((f : Int) / 2 ^ fr) = ((f / 2 ^ fr : Nat) : Int) := by simp
  have l1 : f / 2 ^ fr < 65536 := Nat.lt_of_le_of_lt (Nat.div_le_self _ _) hf
  have l2 : partN f (3 - v + 1) j < 65536 := by
    rw [partN]
    exact Nat.lt_of_le_of_lt (Nat.mod_le _ _) (Nat.lt_of_le_of_lt (Nat.div_le_self _ _) hf)
  refine ⟨partN f (3 - v + 1) j, partN f (3 - v + 1) j % 2 ^ (M / 2), partN f (3 - v + 1) j / 2 ^ (M / 2), rfl, l2, Nat.lt_of_le_of_lt (Nat.mod_le _ _) l2, Nat.lt_of_le_of_lt (Nat.div_le_self _ _) l2, ?_, ?_, by simp, ?_⟩
  · rw [wrap_mask M hm1, e1, u16_and_nat _ _ l1 (hle M hm1), Nat.and_two_pow_sub_one_eq_mod, partN, hfr, hM]
  · rw [wrap_mask _ hm2, u16_and_nat _ _ l2 (hle _ hm2), Nat.and_two_pow_sub_one_eq_mod]
  · rw [unlikeB, h2]

set_option maxHeartbeats 1000000 in
set_option maxRecDepth 20000 in
theorem size_law (f more : Nat) (hf : f < 65536) (hmo : more < 65536) (w : World) :
    Calls Try.prog 6 #[.int .u16 f, .int .u16 more] w fun e w' => e = .returned (.bool true) ∧ Below w.heap.size w w' := by
  have h0 : (0 : Int) ≤ f := by omega
  have hf' : (f : Int) < 65536 := by omega
  go_enter Try.func6, Try.ntmps6
  go_wp2_with fail
  refine (awake4_any w).mono ?_
  rintro e w0 ⟨rfl, b0⟩
  go_wp2_with fail
  refine (of_any 100 w0).mono ?_
  rintro e w1 ⟨rfl, a1, b1, s1⟩
  have B1 := Below.up b0 b1 (Nat.le_refl _)
  have hs0 := b0.size
  obtain ⟨p, hp, hp'⟩ : ∃ p, w.heap.size ≤ p ∧ p = w0.heap.size + 2 := ⟨_, by omega, rfl⟩
  obtain ⟨gg, hgg, hg'⟩ : ∃ gg, w.heap.size ≤ gg ∧ gg = w0.heap.size := ⟨_, by omega, rfl⟩
  obtain ⟨m, hmm, hm'⟩ : ∃ m, w.heap.size ≤ m ∧ m = w0.heap.size + 1 := ⟨_, by omega, rfl⟩
  rw [← hp', ← hm', ← hg', c100] at a1
  rw [← hp']
  clear hp' hm' hg' s1 b0 b1 hs0
  have m0 := build_any more hmo a1
  have D0 := built more a1.good (upto_first 4) (by rw [len2]; decide)
  have L0 := D0.len
  rw [len2] at L0
  generalize bld 100 more 4 0 0 first2 = R0 at m0 D0 L0
  go_wp2_with fail
  refine m0.mono ?_
  rintro e w2 ⟨g2, c2, rfl, a2, q2, e2⟩
  obtain ⟨b2, hg2⟩ := next B1 (Nat.le_refl _) hp hgg hmm q2 e2
  clear m0 a1 B1 q2 e2 hgg
  have m1 := build_any f hf a2
  have D1 := built f a2.good D0.upto (by omega)
  generalize bld 100 f 4 0 0 R0.2 = R1 at m1 D1
  go_wp2_with fail
  refine m1.mono ?_
  rintro e w3 ⟨g3, c3, rfl, a3, q3, e3⟩
  obtain ⟨b3, hg3⟩ := next b2 (Nat.le_refl _) hp hg2 hmm q3 e3
  clear m1 a2 b2 q3 e3 hg2 D0 L0
  have hlen := sees_len (bits := f) (k := R1.1) D1.good D1.is
  have hmap := @run_makeMap Try.prog
  go_wp2_with fail
  go_loopw [7, 8] (fun nv vv wr => ∃ v : Nat, v ≤ 4 ∧ vv = .int .i64 v ∧ nv = .int .i64 ((pairs f v).length : Nat) ∧ Below w3.heap.size w3 wr) (fun _ vv _ => 4 - (intOf vv).toNat)
  case atStart => exact ⟨0, by omega, rfl, rfl, Below.refl _ _⟩
  case round =>
    rename World => wr
    obtain ⟨v, hv, rfl, rfl, hbr⟩ := hrel
    by_cases hv4 : v < 4
    · have h1 : (v : Int) < 4 := by omega
      have h2 : (0 : Int) ≤ v := by omega
      obtain ⟨M, hM, hMv⟩ : ∃ M : Nat, (16 : Int) / 2 ^ v = M ∧ M = 2 ^ (3 - v + 1) := by
        refine ⟨2 ^ (3 - v + 1), ?_, rfl⟩
        rcases (by omega : v = 0 ∨ v = 1 ∨ v = 2 ∨ v = 3) with rfl | rfl | rfl | rfl <;> rfl
      have hM16 : M ≤ 16 := by
        rw [hMv]
        exact Nat.pow_le_pow_right (n := 2) (j := 4) (by decide) (by omega)
      have q1 : (M : Int) ≤ 16 := by omega
      have q2 : (0 : Int) ≤ M := by omega
      have HM : Hid (M = 2 ^ (3 - v + 1)) := hMv
      clear hMv
      go_wp2_with fail
      obtain ⟨W, hW⟩ : ∃ W, W = wr.alloc (.map #[] 0) := ⟨_, rfl⟩
      obtain ⟨q, hq⟩ : ∃ q, q = wr.heap.size := ⟨_, rfl⟩
      rw [← hW, ← hq]
      have W1 : Below w3.heap.size w3 W := by rw [hW]; exact Below.up hbr ((Below.refl _ _).alloc (Nat.le_refl _) _) (Nat.le_refl _)
      have W2 : mapIs W q ((seenL f (3 - v) 0).map seenP) := ⟨#[], 0, by rw [hW, hq]; exact heap_new_at _ _ _ rfl, by simp [seenL]⟩
      have W3 : w3.heap.size ≤ q := by have := hbr.size; omega
      clear hW hq hM
      go_loopw [7, 11] (fun nv fv wq => ∃ j : Nat, j ≤ 2 ^ v ∧ fv = .int .i64 ((j * M : Nat) : Int) ∧ nv = .int .i64 (((pairs f v).length + (seenL f (3 - v) j).length : Nat) : Int) ∧ mapIs wq q ((seenL f (3 - v) j).map seenP) ∧ Below w3.heap.size w3 wq) (fun _ fv _ => 16 - (intOf fv).toNat)
      case atStart => exact ⟨0, Nat.zero_le _, by simp, rfl, W2, W1⟩
      case round =>
        rename World => wq
        obtain ⟨j, hj, rfl, rfl, hmq, hbq⟩ := hrel
        clear W1 W2
        have h16 : 2 ^ v * M = 16 := by
          rw [HM.out, ← Nat.pow_add, show v + (3 - v + 1) = 4 by omega]
        by_cases hj2 : j < 2 ^ v
        · have hjM : j * M + M ≤ 16 := by
            have := Nat.mul_le_mul_right M (show j + 1 ≤ 2 ^ v from hj2)
            rw [Nat.add_mul, Nat.one_mul, h16] at this
            exact this
          have hM2 : 2 ≤ M := by
            rw [HM.out]
            exact Nat.pow_le_pow_right (n := 2) (i := 1) (j := 3 - v + 1) (by decide) (by omega)
          obtain ⟨fr, hfr⟩ : ∃ fr, fr = j * M := ⟨_, rfl⟩
          rw [← hfr] at hjM ⊢
          have HF : Hid (fr = j * M) := hfr
          have H16 : Hid (2 ^ v * M = 16) := h16
          clear hfr h16
          have y1 : (fr : Int) < 16 := by omega
          have y2 : (0 : Int) ≤ fr := by omega
          have y3 : (2 : Int) ≤ M := by omega
          obtain ⟨pt, lo, hi, hpt, hpt6, hlo6, hhi6, z1, z2, z3, z4⟩ := part_vals f v j M fr hf hv4 HM.out HF.out
          have p1 : (pt : Int) < 65536 := by omega
          have p2 : (0 : Int) ≤ pt := by omega
          have p3 : (lo : Int) < 65536 := by omega
          have p4 : (hi : Int) < 65536 := by omega
          have hSq : ∀ x ∈ seenL f (3 - v) j, x < 65536 := by
            intro x hx
            obtain ⟨i, _, rfl, _⟩ := (seenL_mem f (3 - v) j x).1 hx
            rw [partN]
            exact Nat.lt_of_le_of_lt (Nat.mod_le _ _) (Nat.lt_of_le_of_lt (Nat.div_le_self _ _) hf)
          have hsn : seenL f (3 - v) (j + 1) = if unlikeB (3 - v) pt = true ∧ pt ∉ seenL f (3 - v) j then seenL f (3 - v) j ++ [pt] else seenL f (3 - v) j := by rw [seenL, hpt]
          have HS : Hid (seenL f (3 - v) (j + 1) = if unlikeB (3 - v) pt = true ∧ pt ∉ seenL f (3 - v) j then seenL f (3 - v) j ++ [pt] else seenL f (3 - v) j) := hsn
          have HZ : Hid (unlikeB (3 - v) pt = (lo != hi)) := z4
          clear hsn hpt z4
          go_wp2_with fail
          go_quiet (fail)
          obtain ⟨U1, hU1⟩ : ∃ U1, U1 = wq.drewN nq := ⟨_, rfl⟩
          rw [← hU1]
          have hm1 : mapIs U1 q ((seenL f (3 - v) j).map seenP) := by rw [hU1]; exact hmq
          have hb1 : Below w3.heap.size w3 U1 := by rw [hU1]; exact below_drewN hbq _
          clear hU1 hmq hbq
          go_wp2_with fail
          go_quiet (fail)
          rename Nat => nq2
          rw [z3]
          obtain ⟨U, hU⟩ : ∃ U, U = U1.drewN nq2 := ⟨_, rfl⟩
          rw [← hU]
          have hm2 : mapIs U q ((seenL f (3 - v) j).map seenP) := by rw [hU]; exact hm1
          have hb2 : Below w3.heap.size w3 U := by rw [hU]; exact below_drewN hb1 _
          have hlook := seenU_look hSq hm2 pt hpt6
          have hC1 := pairs_len f v
          have hC2 := seenL_len f (3 - v) j
          have hC3 : 2 ^ v ≤ 2 ^ 3 := Nat.pow_le_pow_right (by decide) (by omega)
          obtain ⟨C, hC⟩ : ∃ C, C = (pairs f v).length + (seenL f (3 - v) j).length := ⟨_, rfl⟩
          have hC9 : C ≤ 16 := by
            have : (2 : Nat) ^ 3 = 8 := rfl
            omega
          rw [← hC]
          have HC : Hid (C = (pairs f v).length + (seenL f (3 - v) j).length) := hC
          have hsum : ((fr : Int) + M) = (((j + 1) * M : Nat) : Int) := by rw [Nat.add_mul, Nat.one_mul, ← HF.out]; simp
          have HSum : Hid (((fr : Int) + M) = (((j + 1) * M : Nat) : Int)) := hsum
          clear hU hm1 hb1 z1 z2 z3 hC hC1 hC2 hC3 hsum
          cases hne : (lo != hi) with
          | false =>
            have hne' : ((lo : Int) != hi) = false := by rw [bne_eq_false_iff_eq] at hne ⊢; omega
            rw [hne] at HZ
            clear hlook
            go_wp2_with fail
            go_roundw
            case rel => exact ⟨j + 1, hj2, by rw [← HSum.out], by rw [HS.out, HZ.out, if_neg (by simp), HC.out], by rw [HS.out, HZ.out, if_neg (by simp)]; exact hm2, hb2⟩
            case measure => simp [intOf]; omega
          | true =>
            have hne' : ((lo : Int) != hi) = true := by rw [bne_iff_ne] at hne ⊢; omega
            rw [hne] at HZ
            by_cases hin : pt ∈ seenL f (3 - v) j
            · rw [decide_eq_true hin] at hlook
              go_wp2_with fail
              go_roundw
              case rel => exact ⟨j + 1, hj2, by rw [← HSum.out], by rw [HS.out, if_neg (by simp [hin]), HC.out], by rw [HS.out, if_neg (by simp [hin])]; exact hm2, hb2⟩
              case measure => simp [intOf]; omega
            · rw [decide_eq_false hin] at hlook
              obtain ⟨U3, hupd, hm3, hg3⟩ := seenU_store hSq hm2 pt hpt6 hin
              have hb3 : Below w3.heap.size w3 U3 := Below.grown hb2 hg3 hb2.size (fun k hk => by cases hk; exact W3)
              have hs3 : seenL f (3 - v) (j + 1) = seenL f (3 - v) j ++ [pt] := by rw [HS.out, HZ.out, if_pos ⟨rfl, hin⟩]
              have HS3 : Hid (seenL f (3 - v) (j + 1) = seenL f (3 - v) j ++ [pt]) := hs3
              clear hs3 hm2 hg3 hb2
              go_wp2_with fail
              go_roundw
              case rel => exact ⟨j + 1, hj2, by rw [← HSum.out], by rw [HS3.out, List.length_append, ← Nat.add_assoc, ← HC.out]; simp, by rw [HS3.out]; exact hm3, hb3⟩
              case measure => simp [intOf]; omega
        · have hj3 : j = 2 ^ v := by omega
          have hp : (pairs f (v + 1)).length = (pairs f v).length + (seenL f (3 - v) j).length := by rw [pairs, hj3]; simp
          have HP : Hid ((pairs f (v + 1)).length = (pairs f v).length + (seenL f (3 - v) j).length) := hp
          rw [hj3, h16]
          rw [hj3] at HP
          clear hp h16 hmq
          go_wp2_with fail
          go_roundw
          case rel => exact ⟨v + 1, by omega, by go_num, by rw [HP.out], hbq⟩
          case measure => simp [intOf]; omega
    · obtain rfl : v = 4 := by omega
      rw [← hlen]
      have v1 := size_any (a3.below hbr) R1.1
      generalize (seesP R1.2 R1.1).length = n at v1 ⊢
      clear hlen
      go_wp2_with fail
      refine v1.mono ?_
      rintro e w5 ⟨rfl, b5⟩
      have B5 := Below.up hbr b5 (Nat.le_refl _)
      have v2 := size_any (a3.below B5) 0
      rw [sees_end (k := 0) (by rw [show (0 : Int) = ((0 : Nat) : Int) from rfl, getN_in (by have := D1.good.len; omega), (node_at D1.good).1]; decide)] at v2
      clear v1
      go_wp2_with fail
      refine v2.mono ?_
      rintro e w6 ⟨rfl, b6⟩
      have B6 := Below.up B5 b6 (Nat.le_refl _)
      have v3 := size_any (a3.below B6) 1
      rw [sees_end (k := 1) (by rw [show (1 : Int) = ((1 : Nat) : Int) from rfl, getN_in (by have := D1.good.len; omega), (node_at D1.good).2]; decide)] at v3
      clear v2
      go_wp2_with fail
      refine v3.mono ?_
      rintro e w7 ⟨rfl, b7⟩
      clear v3
      go_wp2_with fail
      go_ret
      exact ⟨rfl, Below.up b3 (Below.up B6 b7 (Nat.le_refl _)) (Nat.le_refl _)⟩
end Go.Proofs.Ytcbpklpehdojnaa
