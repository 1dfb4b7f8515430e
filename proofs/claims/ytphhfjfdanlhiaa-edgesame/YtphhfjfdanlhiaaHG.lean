/- What Make does: it is a prefix that may be. -/
import Derived.Test.YtphhfjfdanlhiaaHB
import Derived.Test.YtphhfjfdanlhiaaOW
import Derived.Laws.ResultCell
import Derived.Handy
import Derived.BigRegion
namespace Go.Proofs.Ytphhfjfdanlhiaa
open Go.RowKit

/-- The bits of a prefix that a number makes. -/
def mkB (n : Nat) : Nat := [0, 8, 16, 24, 32, 9, 17, 30].getD (n % 8) 0
def mkBase (n : Nat) : Nat := 167772160 + n / 64 * 65536 + n / 16 % 4 * 256 + n / 8 % 2
def mkA (n : Nat) : Nat := fstP (mkBase n) (mkB n)
theorem mkB_fin : ∀ r : Fin 8, [0, 8, 16, 24, 32, 9, 17, 30].getD r.val 0 ≤ 32 := by decide
theorem mkB_le (n : Nat) : mkB n ≤ 32 := mkB_fin ⟨n % 8, by omega⟩
theorem mkBase_lt {n : Nat} (h : n < 256) : mkBase n < 4294967296 := by unfold mkBase; omega
theorem mkA_lt {n : Nat} (h : n < 256) : mkA n < 4294967296 := fst_lt _ _ (mkBase_lt h)
theorem mk_may (n : Nat) : mayP (mkA n) (mkB n) = true := by
  rw [may_first (by omega) (by have := mkB_le n; omega)]
  simp only [Int.toNat_natCast, decide_eq_true_iff]
  unfold mkA
  rw [fst_eq]
  unfold fstP
  exact Nat.mul_mod_left _ _
theorem free_two' {w : World} {b t : Nat} {x y : Value} (h : w.heap[b]? = some (.cells #[x, y] t (0, 0))) : w.frozen? ⟨b, 0, none⟩ = false ∧ w.frozen? ⟨b, 1, none⟩ = false := by
  constructor <;> simp [World.frozen?, h]
/-- What is left while bits are cleared. -/
def Left (base b k addr : Nat) : Prop := addr < 4294967296 ∧ ∀ i, addr.testBit i = (base.testBit i && (decide (i < 32 - k) || decide (32 - b ≤ i)))
theorem left_start {base b : Nat} (hb : base < 4294967296) : Left base b b base := by
  refine ⟨hb, fun i => ?_⟩
  have h : (decide (i < 32 - b) || decide (32 - b ≤ i)) = true := by
    rw [Bool.or_eq_true, decide_eq_true_iff, decide_eq_true_iff]
    omega
  rw [h, Bool.and_true]
theorem left_step {base b k addr : Nat} (hbase : base < 4294967296) (hk : b ≤ k) (hk' : k < 32) (h : Left base b k addr) : Left base b (k + 1) (addr &&& (4294967295 - 2 ^ (31 - k))) := by
  obtain ⟨h1, h2⟩ := h
  refine ⟨Nat.lt_of_le_of_lt Nat.and_le_left h1, fun i => ?_⟩
  have hp : 2 ^ (31 - k) < 2 ^ 32 := Nat.pow_lt_pow_right (by decide) (by omega)
  have e : 4294967295 - 2 ^ (31 - k) = 2 ^ 32 - (2 ^ (31 - k) + 1) := by omega
  rw [Nat.testBit_and, e, Nat.testBit_two_pow_sub_succ hp, h2, Nat.testBit_two_pow]
  by_cases hi : i < 32
  · rw [decide_eq_true hi, Bool.true_and]
    by_cases hj : 31 - k = i
    · have d1 : decide (i < 32 - (k + 1)) = false := decide_eq_false (by omega)
      have d2 : decide (32 - b ≤ i) = false := decide_eq_false (by omega)
      rw [decide_eq_true hj, d1, d2]
      simp
    · have d1 : decide (i < 32 - (k + 1)) = decide (i < 32 - k) := by rw [decide_eq_decide]; omega
      rw [decide_eq_false hj, d1]
      simp
  · have hb : base.testBit i = false := Nat.testBit_lt_two_pow (Nat.lt_of_lt_of_le hbase (show 2 ^ 32 ≤ 2 ^ i from Nat.pow_le_pow_right (by decide) (by omega)))
    rw [hb]
    simp
theorem left_end {base b addr : Nat} (h : Left base b 32 addr) : addr = fstP base b := by
  apply Nat.eq_of_testBit_eq
  intro i
  rw [h.2]
  unfold fstP
  rw [Nat.mul_comm, Nat.testBit_two_pow_mul, Nat.testBit_div_two_pow]
  by_cases hi : 32 - b ≤ i
  · rw [decide_eq_true hi, Nat.sub_add_cancel hi]
    simp
  · have d : decide (32 - b ≤ i) = false := decide_eq_false hi
    rw [d]
    simp
theorem mkB_row : ∀ r : Fin 8, (#[.int .i64 0, .int .i64 8, .int .i64 16, .int .i64 24, .int .i64 32, .int .i64 9, .int .i64 17, .int .i64 30] : Array Value)[r.val]? = some (.int .i64 (([0, 8, 16, 24, 32, 9, 17, 30].getD r.val 0 : Nat) : Int))
  | ⟨0, _⟩ => rfl
  | ⟨1, _⟩ => rfl
  | ⟨2, _⟩ => rfl
  | ⟨3, _⟩ => rfl
  | ⟨4, _⟩ => rfl
  | ⟨5, _⟩ => rfl
  | ⟨6, _⟩ => rfl
  | ⟨7, _⟩ => rfl
set_option maxHeartbeats 4000000 in
set_option maxRecDepth 20000 in
theorem make_any (n : Nat) (hn : n < 256) (w : World) :
    Calls Try.prog 26 #[.int .u8 n] w fun e w' => e = .returned (pfV (mkA n) (mkB n)) ∧ Below w.heap.size w w' := by
  have n0 : (0 : Int) ≤ n := by omega
  have n1 : (n : Int) < 256 := by omega
  have hrow : ((w.alloc (.cells #[.int .u32 0, .int .i64 0] 50)).alloc (.cells #[.int .i64 0, .int .i64 8, .int .i64 16, .int .i64 24, .int .i64 32, .int .i64 9, .int .i64 17, .int .i64 30] 3)).heap[w.heap.size + 1]? = _ := pf_new _ _ (w.heap.size + 1) (by simp)
  have hc : ((w.alloc (.cells #[.int .u32 0, .int .i64 0] 50)).alloc (.cells #[.int .i64 0, .int .i64 8, .int .i64 16, .int .i64 24, .int .i64 32, .int .i64 9, .int .i64 17, .int .i64 30] 3)).cell? ⟨w.heap.size + 1, n % 8, none⟩ = some (.int .i64 (mkB n : Nat)) := by
    unfold World.cell?
    simp only [hrow]
    exact mkB_row ⟨n % 8, by omega⟩
  have hble := mkB_le n
  have hbase := mkBase_lt hn
  have HBS : Hid (mkBase n = 167772160 + n / 64 * 65536 + n / 16 % 4 * 256 + n / 8 % 2) := rfl
  have HMA : Hid (mkA n = fstP (mkBase n) (mkB n)) := rfl
  obtain ⟨b, hb⟩ : ∃ b, b = mkB n := ⟨_, rfl⟩
  rw [← hb] at hc hble HMA ⊢
  clear hrow hb
  go_enter Try.func26, Try.ntmps26
  go_wp2_with fail
  have eB : (167772160 + (n : Int) / 64 * 65536 + (n : Int) / 16 % 4 * 256 + (n : Int) / 8 % 2) = ((mkBase n : Nat) : Int) := by
    have := HBS.out
    omega
  rw [eB]
  obtain ⟨base, hbs⟩ : ∃ x, x = mkBase n := ⟨_, rfl⟩
  rw [← hbs] at hbase HMA ⊢
  obtain ⟨br, hbr⟩ : ∃ b, b = w.heap.size := ⟨_, rfl⟩
  obtain ⟨bp, hbp⟩ : ∃ b, b = w.heap.size + 1 + 1 := ⟨_, rfl⟩
  rw [← hbp]
  obtain ⟨U1, hU1⟩ : ∃ U, U = (w.alloc (.cells #[.int .u32 0, .int .i64 0] 50)).alloc (.cells #[.int .i64 0, .int .i64 8, .int .i64 16, .int .i64 24, .int .i64 32, .int .i64 9, .int .i64 17, .int .i64 30] 3) := ⟨_, rfl⟩
  rw [← hU1]
  obtain ⟨U, hU⟩ : ∃ U, U = U1.alloc (.cells #[.int .u32 base, .int .i64 b] 50) := ⟨_, rfl⟩
  rw [← hU]
  have s1 : U1.heap.size = w.heap.size + 1 + 1 := by rw [hU1]; simp
  have b1 : Below w.heap.size w U1 := by rw [hU1]; exact bel_alloc (bel_alloc (Below.refl _ _) _) _
  have hwU : Below w.heap.size w U := by rw [hU]; exact bel_alloc b1 _
  have hrU : U.heap[br]? = some (.cells #[.int .u32 0, .int .i64 0] 50 (0, 0)) := by
    rw [hU, hU1]
    exact pf_block (bel_alloc (Below.refl _ _) _) (pf_block (bel_alloc (Below.refl _ _) _) (pf_new _ _ _ hbr))
  have hpU : U.heap[bp]? = some (.cells #[.int .u32 base, .int .i64 b] 50 (0, 0)) := by rw [hU]; exact pf_new _ _ _ (by rw [s1]; exact hbp)
  have hnb : bp ≠ br := by omega
  have HBR : Hid (w.heap.size ≤ br ∧ w.heap.size ≤ bp) := by show w.heap.size ≤ br ∧ w.heap.size ≤ bp; omega
  rw [← hbr]
  clear hU hU1 hbr hbp s1 b1 eB HBS hc
  go_loopw [5] (fun i wr => ∃ k addr : Nat, k ≤ 32 ∧ b ≤ k ∧ i = .int .i64 k ∧ Left base b k addr ∧ wr.heap[br]? = some (.cells #[.int .u32 0, .int .i64 0] 50 (0, 0)) ∧ wr.heap[bp]? = some (.cells #[.int .u32 addr, .int .i64 b] 50 (0, 0)) ∧ Below w.heap.size w wr) (fun i _ => 32 - (RowKit.intOf i).toNat)
  case atStart => exact ⟨b, base, hble, Nat.le_refl _, rfl, left_start hbase, hrU, hpU, hwU⟩
  case round =>
    obtain ⟨k, addr, hk, hbk, rfl, HLF, hr, hp, hw⟩ := hrel
    have HL : Hid (Left base b k addr) := HLF
    have hadd := HLF.1
    obtain ⟨P0, P1⟩ := cells_two hp
    obtain ⟨G0, G1⟩ := free_two' hp
    clear HLF hrU hpU hwU
    by_cases hlt : k < 32
    · have d4 : decide ((k : Int) < 32) = true := decide_eq_true (by omega)
      go_wp2_with fail
      go_region
      have han : bits BinOp.andNot IntKind.u32 (addr : Int) (2 ^ (31 - k) % 4294967296) = ((addr &&& (4294967295 - 2 ^ (31 - k)) : Nat) : Int) := by
        have hp2 : 2 ^ (31 - k) < 2 ^ 32 := Nat.pow_lt_pow_right (by decide) (by omega)
        have h := u32_andNot_nat addr (2 ^ (31 - k)) hadd hp2
        have e : ((2 : Int) ^ (31 - k) % 4294967296) = ((2 ^ (31 - k) : Nat) : Int) := by
          have e2 : ((2 : Int) ^ (31 - k)) = ((2 ^ (31 - k) : Nat) : Int) := by simp
          rw [e2]
          obtain ⟨x, hx⟩ : ∃ x : Nat, x = 2 ^ (31 - k) := ⟨_, rfl⟩
          rw [← hx] at hp2 ⊢
          omega
        rw [e]
        exact h
      rw [han]
      have hst := left_step hbase hbk hlt HL.out
      obtain ⟨addr', hadr⟩ : ∃ x, x = addr &&& (4294967295 - 2 ^ (31 - k)) := ⟨_, rfl⟩
      rw [← hadr] at hst ⊢
      have HST : Hid (Left base b (k + 1) addr') := hst
      have hr2 : (wr.setCell ⟨bp, 0, none⟩ (.int .u32 addr')).heap[br]? = some (.cells #[.int .u32 0, .int .i64 0] 50 (0, 0)) := (Below.heap_setCell _ _ _ _ (by simpa using hnb.symm)).trans hr
      have hp2 : (wr.setCell ⟨bp, 0, none⟩ (.int .u32 addr')).heap[bp]? = some (.cells #[.int .u32 addr', .int .i64 b] 50 (0, 0)) := (set_two hp _).trans rfl
      have hw2 : Below w.heap.size w (wr.setCell ⟨bp, 0, none⟩ (.int .u32 addr')) := hw.setCell HBR.out.2 _
      obtain ⟨V, hV⟩ : ∃ V, V = wr.setCell ⟨bp, 0, none⟩ (.int .u32 addr') := ⟨_, rfl⟩
      rw [← hV] at hr2 hp2 hw2 ⊢
      clear hV han hadr hst P0 P1 G0 G1 hr hp hw hadd HL
      go_wp2_with fail
      go_roundw
      case rel => exact ⟨k + 1, addr', by omega, by omega, by go_num, HST.out, hr2, hp2, hw2.drew⟩
      case measure => simp [RowKit.intOf]; omega
    · obtain rfl : k = 32 := by omega
      have hA : addr = mkA n := (left_end HL.out).trans HMA.out.symm
      have d4 : decide (((32 : Nat) : Int) < 32) = false := decide_eq_false (by omega)
      obtain ⟨R0, R1⟩ := cells_two hr
      obtain ⟨F0, F1⟩ := free_two' hr
      have HA : Hid (addr = mkA n) := hA
      clear hA HL
      go_wp2_with fail
      rw [← HA.out]
      obtain ⟨W, hW⟩ : ∃ W, W = (wr.setCell ⟨br, 0, none⟩ (.int .u32 addr)).setCell ⟨br, 1, none⟩ (.int .i64 b) := ⟨_, rfl⟩
      rw [← hW]
      have r2 : W.heap[br]? = some (.cells #[.int .u32 addr, .int .i64 b] 50 (0, 0)) := by rw [hW, set_two (set_two hr _) _]; rfl
      obtain ⟨W0, W1⟩ := cells_two r2
      have qW : Below w.heap.size w W := by rw [hW]; exact (hw.setCell HBR.out.1 _).setCell HBR.out.1 _
      clear hW
      refine bodyPost_ret (v := pfV addr b) (by unfold pfV; simp [results, Try.results26, go_sem, W0, W1]) rfl ?_
      exact ⟨rfl, qW⟩
end Go.Proofs.Ytphhfjfdanlhiaa
