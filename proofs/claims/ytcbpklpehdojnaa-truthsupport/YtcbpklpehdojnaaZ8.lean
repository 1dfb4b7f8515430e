/- TruthSupport: the walk. -/
import Derived.Test.YtcbpklpehdojnaaYW
import Derived.Test.YtcbpklpehdojnaaZ4
namespace Go.Proofs.Ytcbpklpehdojnaa
open Go.RowKit

/-- Whether one of the first n is told. -/
def anyTo (p : Nat → Bool) : Nat → Bool
  | 0 => false
  | n + 1 => anyTo p n || p n
theorem anyTo_iff (p : Nat → Bool) : ∀ n, anyTo p n = true ↔ ∃ k, k < n ∧ p k = true
  | 0 => by simp [anyTo]
  | n + 1 => by
    rw [anyTo, Bool.or_eq_true, anyTo_iff p n]
    constructor
    · rintro (⟨k, h1, h2⟩ | h)
      · exact ⟨k, by omega, h2⟩
      · exact ⟨n, by omega, h⟩
    · rintro ⟨k, h1, h2⟩
      rcases (by omega : k < n ∨ k = n) with h | rfl
      · exact .inl ⟨k, h, h2⟩
      · exact .inr h2
/-- Row k of a table hangs on variable v. -/
def hgB (f v k : Nat) : Bool := f.testBit k != f.testBit (k ^^^ 2 ^ (3 - v))
theorem row_two : ∀ v : Nat, v < 4 → ∀ r : Nat, r < 16 → ((rowI v true r = r ∧ rowI v false r = r ^^^ 2 ^ (3 - v)) ∨ (rowI v true r = r ^^^ 2 ^ (3 - v) ∧ rowI v false r = r)) := by
  have : ∀ v : Fin 4, ∀ r : Fin 16, ((rowI v.val true r.val = r.val ∧ rowI v.val false r.val = r.val ^^^ 2 ^ (3 - v.val)) ∨ (rowI v.val true r.val = r.val ^^^ 2 ^ (3 - v.val) ∧ rowI v.val false r.val = r.val)) := by decide
  exact fun v hv r hr => this ⟨v, hv⟩ ⟨r, hr⟩
theorem row_xor : ∀ v : Nat, v < 4 → ∀ k : Nat, k < 16 → bits BinOp.xor IntKind.i64 (k : Int) (wrap64 (2 ^ (3 - v))) = ((k ^^^ 2 ^ (3 - v) : Nat) : Int) ∧ k ^^^ 2 ^ (3 - v) < 16 := by
  have : ∀ v : Fin 4, ∀ k : Fin 16, bits BinOp.xor IntKind.i64 ((k.val : Nat) : Int) ((2 ^ (3 - v.val) : Nat) : Int) = ((k.val ^^^ 2 ^ (3 - v.val) : Nat) : Int) ∧ k.val ^^^ 2 ^ (3 - v.val) < 16 := by decide
  exact fun v hv k hk => by rw [pow_wrap]; exact this ⟨v, hv⟩ ⟨k, hk⟩
theorem hangs_is {ns : List Nd} {k : Int} {f : Nat} (d : D ns k (tb f)) {v : Nat} (hv : v < 4) : (¬ Free ns v k) ↔ anyTo (hgB f v) 16 = true := by
  rw [anyTo_iff]
  have ev : ∀ φ b, evalP ns (turn φ v b) k = f.testBit (rowI v b (rowOf φ 4 0 0)) := fun φ b => by rw [d.2, tb, rowOf_turn φ v hv b]
  constructor
  · intro hf
    by_cases h : ∃ r, r < 16 ∧ hgB f v r = true
    · exact h
    · refine absurd (fun φ => ?_) hf
      rw [ev, ev]
      have hr := rowOf_16 φ
      have hn : f.testBit (rowOf φ 4 0 0) = f.testBit (rowOf φ 4 0 0 ^^^ 2 ^ (3 - v)) := by
        by_cases e : f.testBit (rowOf φ 4 0 0) = f.testBit (rowOf φ 4 0 0 ^^^ 2 ^ (3 - v))
        · exact e
        · exact absurd ⟨rowOf φ 4 0 0, hr, by unfold hgB; rw [bne_iff_ne]; exact e⟩ h
      rcases row_two v hv _ hr with ⟨h1, h2⟩ | ⟨h1, h2⟩
      · rw [h1, h2]; exact hn
      · rw [h1, h2]; exact hn.symm
  · rintro ⟨r, hr, h⟩ hf
    have e := hf (rowF r)
    rw [ev, ev, rowOf_rowF r hr] at e
    unfold hgB at h
    rw [bne_iff_ne] at h
    rcases row_two v hv r hr with ⟨h1, h2⟩ | ⟨h1, h2⟩
    · rw [h1, h2] at e; exact h e
    · rw [h1, h2] at e; exact h e.symm
theorem far_is {ns : List Nd} {k : Int} {f : Nat} (d : D ns k (tb f)) {v : Nat} (hv : 4 ≤ v) : Free ns v k := fun φ => by rw [d.2, d.2, tb_far f v hv, tb_far f v hv]
theorem upTo_far (r : Nat → Bool) (n : Nat) : ∀ m, (∀ i, n ≤ i → i < n + m → r i = false) → upTo r (n + m) = upTo r n
  | 0, _ => rfl
  | m + 1, h => by
    have e : n + (m + 1) = (n + m) + 1 := by omega
    rw [e, upTo_succ, h (n + m) (by omega) (by omega), if_neg (by simp)]
    exact upTo_far r n m (fun i h1 h2 => h i h1 (by omega))
theorem upTo_at (r : Nat → Bool) {v : Nat} (hr : r v = true) : ∀ n, v < n → (upTo r n)[(upTo r v).length]? = some (v : Int)
  | 0, h => by omega
  | n + 1, h => by
    rw [upTo_succ]
    rcases (by omega : v < n ∨ v = n) with h1 | rfl
    · have := upTo_at r hr n h1
      split
      · rw [List.getElem?_append_left (List.getElem?_eq_some_iff.1 this).1]; exact this
      · exact this
    · rw [if_pos hr]; simp
theorem upTo_mono (r : Nat → Bool) {v : Nat} (hr : r v = true) (n : Nat) (h : v < n) : (upTo r v).length < (upTo r n).length := (List.getElem?_eq_some_iff.1 (upTo_at r hr n h)).1

set_option maxHeartbeats 1000000 in
set_option maxRecDepth 20000 in
theorem support_law (f : Nat) (hf : f < 65536) (w : World) :
    Calls Try.prog 5 #[.int .u16 f] w fun e w' => e = .returned (.bool true) ∧ Below w.heap.size w w' := by
  have h0 : (0 : Int) ≤ f := by omega
  have hf' : (f : Int) < 65536 := by omega
  go_enter Try.func5, Try.ntmps5
  go_wp2_with fail
  refine (awake4_any w).mono ?_
  rintro e w0 ⟨rfl, b0⟩
  go_wp2_with fail
  refine (of_any 100 w0).mono ?_
  rintro e w1 ⟨rfl, a1, b1, s1⟩
  have B1 := Below.up b0 b1 (Nat.le_refl _)
  have hs0 := b0.size
  obtain ⟨p, hp, hp'⟩ : ∃ p, w.heap.size ≤ p ∧ p = w0.heap.size + 2 := ⟨_, by omega, rfl⟩
  obtain ⟨gg, hgg, hg'⟩ : ∃ gg, w.heap.size ≤ gg ∧ gg = w0.heap.size := ⟨_, by omega, rfl⟩
  obtain ⟨m, hmm, hm'⟩ : ∃ m, w.heap.size ≤ m ∧ m = w0.heap.size + 1 := ⟨_, by omega, rfl⟩
  rw [← hp', ← hm', ← hg', c100] at a1
  rw [← hp']
  clear hp' hm' hg' s1 b0 b1 hs0
  have m1 := build_any f hf a1
  have D1 := built f a1.good (upto_first 4) (by rw [len2]; decide)
  generalize bld 100 f 4 0 0 first2 = R1 at m1 D1
  go_wp2_with fail
  refine m1.mono ?_
  rintro e w2 ⟨g2, c2, rfl, a2, q2, e2⟩
  obtain ⟨b2, hg2⟩ := next B1 (Nat.le_refl _) hp hgg hmm q2 e2
  clear m1 a1 B1 q2 e2 hgg
  have v1 := support_any a2 R1.1
  have hR : ∀ v, v < 4 → askedB ((seesP R1.2 R1.1).map (getN R1.2)) v = anyTo (hgB f v) 16 := fun v hv => by
    rw [Bool.eq_iff_iff, asked_is D1.good D1.is.1 (by omega), hangs_is D1.is hv]
  have hF : ∀ v, 4 ≤ v → v < 4 + 1020 → askedB ((seesP R1.2 R1.1).map (getN R1.2)) v = false := fun v hv hv' => by
    rw [Bool.eq_false_iff]
    exact fun h => (asked_is D1.good D1.is.1 (by omega)).1 h (far_is D1.is hv)
  have hU := upTo_far (askedB ((seesP R1.2 R1.1).map (getN R1.2))) 4 1020 hF
  rw [show 4 + 1020 = 1024 from rfl] at hU
  rw [hU] at v1
  generalize askedB ((seesP R1.2 R1.1).map (getN R1.2)) = R at v1 hR
  clear hF hU D1 a2
  go_wp2_with fail
  refine v1.mono ?_
  rintro e w3 ⟨sv, rfl, hrow, _, b3⟩
  obtain ⟨ao, capf, rfl, hcell⟩ := row_at hrow rfl
  have B3 := Below.up b2 b3 (Nat.le_refl _)
  clear v1 b2 b3 hrow
  have hl4 := upTo_len R 4
  obtain ⟨L, hL⟩ : ∃ L, (upTo R 4).length = L := ⟨_, rfl⟩
  have HL : Hid ((upTo R 4).length = L) := hL
  rw [hL] at hl4 hcell ⊢
  clear hL
  go_wp2_with fail
  go_loopw [6, 7] (fun nv vv wr => ∃ v : Nat, v ≤ 4 ∧ vv = .int .i64 v ∧ nv = .int .i64 ((upTo R v).length : Nat) ∧ Below w3.heap.size w3 wr) (fun _ vv _ => 4 - (intOf vv).toNat)
  case atStart => exact ⟨0, by omega, rfl, rfl, Below.refl _ _⟩
  case round =>
    rename World => wr
    obtain ⟨v, hv, rfl, rfl, hbr⟩ := hrel
    by_cases hv4 : v < 4
    · have h1 : (v : Int) < 4 := by omega
      have h2 : (0 : Int) ≤ v := by omega
      have hRv := hR v hv4
      go_wp2_with fail
      go_loopw [8, 9] (fun hv kv wq => ∃ k : Nat, k ≤ 16 ∧ kv = .int .i64 k ∧ hv = .bool (anyTo (hgB f v) k) ∧ Below w3.heap.size w3 wq) (fun _ kv _ => 16 - (intOf kv).toNat)
      case atStart => exact ⟨0, by omega, rfl, rfl, hbr⟩
      case round =>
        rename World => wq
        obtain ⟨k, hk, rfl, rfl, hbq⟩ := hrel
        by_cases hk16 : k < 16
        · have y1 : (k : Int) < 16 := by omega
          have y2 : (0 : Int) ≤ k := by omega
          obtain ⟨x1, x2⟩ := row_xor v hv4 k hk16
          have hn : anyTo (hgB f v) (k + 1) = (anyTo (hgB f v) k || hgB f v k) := rfl
          have HN : Hid (anyTo (hgB f v) (k + 1) = (anyTo (hgB f v) k || hgB f v k)) := hn
          clear hn
          have z1 := bit_and f k hf
          have z2 := bit_and f (k ^^^ 2 ^ (3 - v)) hf
          have z3 : (((f / 2 ^ k % 2 : Nat) : Int) != ((f / 2 ^ (k ^^^ 2 ^ (3 - v)) % 2 : Nat) : Int)) = hgB f v k := by
            unfold hgB
            rw [test_div, test_div]
            generalize hq1 : f / 2 ^ k % 2 = q1
            generalize hq2 : f / 2 ^ (k ^^^ 2 ^ (3 - v)) % 2 = q2
            have : q1 < 2 := by omega
            have : q2 < 2 := by omega
            rcases (by omega : q1 = 0 ∨ q1 = 1) with rfl | rfl <;> rcases (by omega : q2 = 0 ∨ q2 = 1) with rfl | rfl <;> rfl
          have z4 : ((f : Int) / 2 ^ k % 2 != (f : Int) / 2 ^ (k ^^^ 2 ^ (3 - v)) % 2) = hgB f v k := by
            rw [← z3]
            simp
          generalize k ^^^ 2 ^ (3 - v) = r at x1 x2 z2 z3 z4
          have y3 : (r : Int) < 16 := by omega
          have y4 : (0 : Int) ≤ r := by omega
          generalize anyTo (hgB f v) k = hb at HN ⊢
          cases hb with
          | _ =>
            go_wp2_with fail
            go_quiet (fail)
            go_wp2_with fail
            go_roundw
            case rel => exact ⟨k + 1, by omega, by go_num, by rw [HN.out]; first | rfl | (rw [Bool.false_or, ← z4]), below_drewN hbq _⟩
            case measure => simp [intOf]; omega
        · obtain rfl : k = 16 := by omega
          rw [← hRv]
          have hU := upTo_succ R v
          cases hRb : R v with
          | false =>
            rw [hRb, if_neg (by simp)] at hU
            have HU : Hid (upTo R (v + 1) = upTo R v) := hU
            clear hU
            go_wp2_with fail
            go_roundw
            case rel => exact ⟨v + 1, by omega, by go_num, by rw [HU.out], hbq⟩
            case measure => simp [intOf]; omega
          | true =>
            rw [hRb, if_pos rfl] at hU
            have hat := upTo_at R hRb 4 hv4
            have hmo := upTo_mono R hRb 4 hv4
            have hle := upTo_len R v
            have HU : Hid ((upTo R (v + 1)).length = (upTo R v).length + 1) := (by rw [hU]; simp : (upTo R (v + 1)).length = (upTo R v).length + 1)
            clear hU
            obtain ⟨gf, rfl, _, hc⟩ := hcell (by rw [← HL.out]; omega)
            have Cg := hc _ _ hat
            have Cq : wq.cell? ⟨gf, (upTo R v).length, none⟩ = some (.int .i64 v) := by
              rw [hbq.cell (p := ⟨gf, (upTo R v).length, none⟩) (World.block_lt_of_cell? w3 _ Cg)]
              exact Cg
            clear Cg hat hc hcell hR hRv
            obtain ⟨N, hN⟩ : ∃ N, (upTo R v).length = N := ⟨_, rfl⟩
            rw [hN] at Cq hmo hle ⊢
            rw [HL.out] at hmo
            replace HU : Hid ((upTo R (v + 1)).length = N + 1) := HU.out.trans (by rw [hN])
            have j1 : (N : Int) < L := by omega
            have j2 : (L : Int) ≤ 4 := by omega
            have j3 : (0 : Int) ≤ N := by omega
            have j4 : decide (L ≤ N) = false := by simp; omega
            have j5 : decide ((L : Int) ≤ (N : Int)) = false := by simp; omega
            clear hN
            go_wp2_with fail
            go_roundw
            case rel => exact ⟨v + 1, by omega, by go_num, by rw [HU.out]; simp, hbq⟩
            case measure => simp [intOf]; omega
    · obtain rfl : v = 4 := by omega
      rw [HL.out]
      go_wp2_with fail
      go_ret
      exact ⟨rfl, Below.up B3 hbr (Nat.le_refl _)⟩
end Go.Proofs.Ytcbpklpehdojnaa
