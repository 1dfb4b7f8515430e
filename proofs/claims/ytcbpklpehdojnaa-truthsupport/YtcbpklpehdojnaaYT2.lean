/- truth.Table and truth.Count, whole. -/
import Derived.Test.YtcbpklpehdojnaaYT
import Derived.LoopTactic
namespace Go.Proofs.Ytcbpklpehdojnaa
open Go.RowKit

/-- The values of row i, of d variables from v on. -/
def valF (d v i : Nat) : Int → Bool := fun x => decide ((v : Int) ≤ x) && decide (x < (v : Int) + d) && i.testBit ((v : Int) + d - 1 - x).toNat
theorem valF_first (d v i : Nat) : valF (d + 1) v i v = i.testBit d := by
  unfold valF
  have h1 : decide ((v : Int) ≤ v) = true := by simp
  have h2 : decide ((v : Int) < (v : Int) + (d + 1 : Nat)) = true := by simp; omega
  have h3 : ((v : Int) + (d + 1 : Nat) - 1 - v).toNat = d := by omega
  rw [h1, h2, h3]
  rfl
theorem valF_rest (d v i j : Nat) (h : ∀ b, b < d → i.testBit b = j.testBit b) : AgreeFrom ((v + 1 : Nat) : Int) (valF (d + 1) v i) (valF d (v + 1) j) := by
  intro x hx
  unfold valF
  by_cases hlt : x < (v : Int) + (d + 1 : Nat)
  · have h1 : decide ((v : Int) ≤ x) = true := by simp; omega
    have h2 : decide (x < (v : Int) + (d + 1 : Nat)) = true := by simpa using hlt
    have h3 : decide (((v + 1 : Nat) : Int) ≤ x) = true := by simpa using hx
    have h4 : decide (x < ((v + 1 : Nat) : Int) + d) = true := by simp; omega
    have h5 : ((v : Int) + (d + 1 : Nat) - 1 - x).toNat = (((v + 1 : Nat) : Int) + d - 1 - x).toNat := by omega
    rw [h1, h2, h3, h4, h5, h _ (by omega)]
  · have h2 : decide (x < (v : Int) + (d + 1 : Nat)) = false := by simpa using hlt
    have h4 : decide (x < ((v + 1 : Nat) : Int) + d) = false := by simp; omega
    rw [h2, h4]
    simp
theorem bit_low {i d : Nat} (h : i < 2 ^ d) : i.testBit d = false := Nat.testBit_lt_two_pow h
theorem bit_high {i d : Nat} (h1 : 2 ^ d ≤ i) (h2 : i < 2 ^ (d + 1)) : i.testBit d = true ∧ ∀ b, b < d → i.testBit b = (i - 2 ^ d).testBit b := by
  have hp : 2 ^ (d + 1) = 2 ^ d + 2 ^ d := by rw [Nat.pow_succ]; omega
  obtain ⟨j, rfl⟩ : ∃ j, i = 2 ^ d + j := ⟨i - 2 ^ d, by omega⟩
  have hj : j < 2 ^ d := by omega
  refine ⟨?_, fun b hb => ?_⟩
  · rw [Nat.testBit_two_pow_add_eq, bit_low hj]; rfl
  · rw [Nat.add_sub_cancel_left, Nat.testBit_two_pow_add_gt hb]

theorem tellR_is {most : Int} {ns : List Nd} (h : Good most ns) : ∀ (d v : Nat) (k : Int) (i : Nat), v + d ≤ 20 → From ns k v → i < 2 ^ d → tellR ns d v k i = evalP ns (valF d v i) k
  | 0, v, k, i, _, _, _ => by
    rw [tellR]
    congr 1
    funext x
    unfold valF
    by_cases h1 : (v : Int) ≤ x
    · have : decide (x < (v : Int) + (0 : Nat)) = false := by simp; omega
      rw [this]; simp
    · have : decide ((v : Int) ≤ x) = false := by simpa using h1
      rw [this]; simp
  | d + 1, v, k, i, hv, hk, hi => by
    have hu : (v : Int) ≤ (getN ns k).v := by
      obtain ⟨j, ej, hj, hv⟩ := hk
      rw [ej, getN_in hj]
      exact hv
    obtain ⟨l1, l2⟩ := low_at h hk.in hu (by omega)
    obtain ⟨h1, h2⟩ := high_at h hk.in hu (by omega)
    rw [tellR]
    by_cases hlt : i < 2 ^ d
    · rw [if_pos hlt, tellR_is h d (v + 1) _ i (by omega) l1 hlt, ← from_agree h l1 (valF_rest d v i i (fun _ _ => rfl)), l2 _ (by rw [valF_first, bit_low hlt])]
    · obtain ⟨t1, t2⟩ := bit_high (by omega) hi
      have hp : 2 ^ (d + 1) = 2 ^ d + 2 ^ d := by rw [Nat.pow_succ]; omega
      rw [if_neg hlt, tellR_is h d (v + 1) _ (i - 2 ^ d) (by omega) h1 (by omega), ← from_agree h h1 (valF_rest d v i (i - 2 ^ d) t2), h2 _ (by rw [valF_first, t1])]
/-- The row that a row's values pick. -/
theorem rowOf_val (f : Int → Bool) : ∀ (d v fr i : Nat), i < 2 ^ d → (∀ x : Nat, v ≤ x → x < v + d → f x = valF d v i x) → rowOf f d v fr = fr + i
  | 0, v, fr, i, hi, _ => by simp at hi; simp [rowOf, hi]
  | d + 1, v, fr, i, hi, hf => by
    have hp : 2 ^ (d + 1) = 2 ^ d + 2 ^ d := by rw [Nat.pow_succ]; omega
    rw [rowOf, hf v (Nat.le_refl _) (by omega), valF_first]
    by_cases hlt : i < 2 ^ d
    · rw [bit_low hlt, if_neg (by simp)]
      exact rowOf_val f d (v + 1) fr i hlt (fun x h1 h2 => by rw [hf x (by omega) (by omega), valF_rest d v i i (fun _ _ => rfl) x (by omega)])
    · obtain ⟨t1, t2⟩ := bit_high (by omega) hi
      rw [t1, if_pos rfl, rowOf_val f d (v + 1) (fr + 2 ^ d) (i - 2 ^ d) (by omega) (fun x h1 h2 => by rw [hf x (by omega) (by omega), valF_rest d v i (i - 2 ^ d) t2 x (by omega)])]
      omega

/-- How many variables a table has. -/
def clampV (vars : Int) : Nat := (min (max vars 0) 10).toNat
theorem clampV_le (vars : Int) : clampV vars ≤ 10 := by unfold clampV; omega

theorem storeF {W : World} {b : Nat} {t : TypeId} {v : Value} (hb : b = W.heap.size) (hv : ∃ f a c, v = .func f a c) : Sem.run Try.prog (store ⟨b, 0, none⟩ v) (W.alloc (.cells #[.nilFunc] t)) = .ok () (W.alloc (.cells #[v] t)) := by
  obtain ⟨f, a, c, rfl⟩ := hv
  subst hb
  rw [run_store Try.prog _ _ _ _ (by rfl)]
  simp [go_sem]

set_option maxHeartbeats 400000 in
set_option maxRecDepth 20000 in
theorem trtable_any {w : World} {p g m cap : Nat} {most : Int} {ns : List Nd} (h : ArenaAt 51 47 w p g m cap most ns) (k vars : Int) :
    Calls Try.prog 11 #[.pointer (some ⟨p, 0, none⟩), .int .i64 k, .int .i64 vars] w fun e w' => ∃ b : Nat, e = .returned (.slice (some ⟨b, 0, none⟩) (2 ^ clampV vars) (2 ^ clampV vars)) ∧ w.heap.size ≤ b ∧ w'.heap[b]? = some (.cells (rowsV (2 ^ clampV vars) (tellR ns (clampV vars) 0 k)) 4) ∧ Below w.heap.size w w' := by
  have hmf : ∀ (fn : Fn) (first cap : Array Value) (w : World), (Instr.makeFunc fn first cap).run Try.prog w = .ok (.func fn first cap) w := fun _ _ _ _ => rfl
  have hent := enterTell
  have hcl := clampV_le vars
  have hwr := wrap_two (clampV vars) hcl
  have hp1 : 0 < 2 ^ clampV vars := Nat.pow_pos (by decide)
  have hp2 : 2 ^ clampV vars ≤ 2 ^ 10 := Nat.pow_le_pow_right (by decide) hcl
  have e10 : (2 : Nat) ^ 10 = 1024 := rfl
  have hmk := makeB (2 ^ clampV vars) (by omega) (w.alloc (.cells #[.pointer (some ⟨p, 0, none⟩)] 24))
  rw [← hwr] at hmk
  have st1 := storeF (W := (w.alloc (.cells #[.pointer (some ⟨p, 0, none⟩)] 24)).alloc (.cells (rowsV (2 ^ clampV vars) fun _ => false) 4)) (b := w.heap.size + 1 + 1) (t := 56) (v := .func (.func 21) #[] #[]) (by simp) ⟨_, _, _, rfl⟩
  have st2 := storeF (W := ((w.alloc (.cells #[.pointer (some ⟨p, 0, none⟩)] 24)).alloc (.cells (rowsV (2 ^ clampV vars) fun _ => false) 4)).alloc (.cells #[.func (.func 21) #[] #[]] 56)) (b := w.heap.size + 1 + 1 + 1) (t := 57) (v := tellV w.heap.size (w.heap.size + 1 + 1) (w.heap.size + 1 + 1 + 1)) (by simp) ⟨_, _, _, rfl⟩
  obtain ⟨W, hW⟩ : ∃ W, W = (((w.alloc (.cells #[.pointer (some ⟨p, 0, none⟩)] 24)).alloc (.cells (rowsV (2 ^ clampV vars) fun _ => false) 4)).alloc (.cells #[.func (.func 21) #[] #[]] 56)).alloc (.cells #[tellV w.heap.size (w.heap.size + 1 + 1) (w.heap.size + 1 + 1 + 1)] 57) := ⟨_, rfl⟩
  have bW : Below w.heap.size w W := by rw [hW]; exact ((((Below.refl _ _).alloc (Nat.le_refl _) _).alloc (by simp) _).alloc (by simp; omega) _).alloc (by simp; omega) _
  have s : TSit W p g m cap w.heap.size (w.heap.size + 1 + 1) (w.heap.size + 1 + 1 + 1) most ns (w.heap.size + 1) (2 ^ clampV vars) (fun _ => false) := by
    have hp := h.ltp
    have hg := h.ltg
    have hm := h.ltm
    refine ⟨h.below bW, ?_, ?_, ?_, ?_, by simp; omega⟩
    · rw [hW, (MapKept.heap_alloc _ _).2 _ (by simp; omega), (MapKept.heap_alloc _ _).2 _ (by simp; omega), (MapKept.heap_alloc _ _).2 _ (by simp)]
      exact heap_new_at _ _ _ rfl
    · rw [hW, (MapKept.heap_alloc _ _).2 _ (by simp)]
      exact heap_new_at _ _ _ (by simp)
    · rw [hW]
      exact heap_new_at _ _ _ (by simp)
    · rw [hW, (MapKept.heap_alloc _ _).2 _ (by simp), (MapKept.heap_alloc _ _).2 _ (by simp)]
      exact heap_new_at _ _ _ (by simp)
  have hT := tell_any (by omega) (clampV vars) 0 0 (2 ^ clampV vars) k W (fun _ => false) (by omega) (Nat.le_refl _) (by omega) s
  have hP : rowsV (2 ^ clampV vars) (patch (fun _ => false) 0 (2 ^ clampV vars) (tellR ns (clampV vars) 0 k)) = rowsV (2 ^ clampV vars) (tellR ns (clampV vars) 0 k) := rowsV_congr (fun i hi => by unfold patch; rw [if_pos (by omega)]; rfl)
  have hT' : Calls Try.prog 22 #[.int .i64 k, .int .i64 (0 : Nat), .slice (some ⟨w.heap.size + 1, 0, none⟩) (2 ^ clampV vars) (2 ^ clampV vars), .pointer (some ⟨w.heap.size, 0, none⟩), .pointer (some ⟨w.heap.size + 1 + 1, 0, none⟩), .pointer (some ⟨w.heap.size + 1 + 1 + 1, 0, none⟩)] W (fun e w' => e = .returned (.tuple #[]) ∧ w'.heap[w.heap.size + 1]? = some (.cells (rowsV (2 ^ clampV vars) (tellR ns (clampV vars) 0 k)) 4) ∧ Kept [w.heap.size + 1] W w') := hT.mono (fun e w' ⟨h1, h2, h3⟩ => ⟨h1, hP ▸ h2, h3⟩)
  have CW : W.cell? ⟨w.heap.size + 1 + 1 + 1, 0, none⟩ = some (tellV w.heap.size (w.heap.size + 1 + 1) (w.heap.size + 1 + 1 + 1)) := by simp [World.cell?, s.c5]
  clear hT hP s
  rw [← hW] at st2
  clear hW
  unfold tellV at st2 CW
  have hc : (vars < 0 ∧ (2 : Int) ^ clampV vars = 1) ∨ (0 ≤ vars ∧ vars ≤ 10 ∧ (2 : Int) ^ clampV vars = 2 ^ vars.toNat) ∨ (10 < vars ∧ (2 : Int) ^ clampV vars = 1024) := by
    rcases (by omega : vars < 0 ∨ (0 ≤ vars ∧ vars ≤ 10) ∨ 10 < vars) with h0 | ⟨h0, h1⟩ | h0
    · exact .inl ⟨h0, by rw [show clampV vars = 0 by unfold clampV; omega]; rfl⟩
    · exact .inr (.inl ⟨h0, h1, by rw [show clampV vars = vars.toNat by unfold clampV; omega]⟩)
    · exact .inr (.inr ⟨h0, by rw [show clampV vars = 10 by unfold clampV; omega]; rfl⟩)
  generalize tellR ns (clampV vars) 0 k = R at hT' ⊢
  generalize 2 ^ clampV vars = n at *
  rcases hc with ⟨h0, e⟩ | ⟨h0, h1, e⟩ | ⟨h0, e⟩
  · rw [e, show wrap64 1 = 1 by unfold wrap64; omega] at hmk
    clear e
    go_enter Try.func11, Try.ntmps11
    go_wp2_with fail
    refine hT'.mono ?_
    rintro e w2 ⟨rfl, r2, k2⟩
    clear hT' hmk st1 st2
    go_wp2_with fail
    go_returns
    exact ⟨w.heap.size + 1, rfl, by omega, r2, Below.kept bW k2 (Nat.le_refl _) (by simp)⟩
  · rw [e] at hmk
    clear e
    go_enter Try.func11, Try.ntmps11
    go_wp2_with fail
    refine hT'.mono ?_
    rintro e w2 ⟨rfl, r2, k2⟩
    clear hT' hmk st1 st2
    go_wp2_with fail
    go_returns
    exact ⟨w.heap.size + 1, rfl, by omega, r2, Below.kept bW k2 (Nat.le_refl _) (by simp)⟩
  · rw [e, show wrap64 1024 = 1024 by unfold wrap64; omega] at hmk
    clear e
    go_enter Try.func11, Try.ntmps11
    go_wp2_with fail
    refine hT'.mono ?_
    rintro e w2 ⟨rfl, r2, k2⟩
    clear hT' hmk st1 st2
    go_wp2_with fail
    go_returns
    exact ⟨w.heap.size + 1, rfl, by omega, r2, Below.kept bW k2 (Nat.le_refl _) (by simp)⟩

/-- How many of the first n say yes. -/
def cntB (r : Nat → Bool) : Nat → Nat
  | 0 => 0
  | n + 1 => cntB r n + (if r n = true then 1 else 0)
theorem cntB_le (r : Nat → Bool) : ∀ n, cntB r n ≤ n
  | 0 => Nat.le_refl _
  | n + 1 => by
    have := cntB_le r n
    rw [cntB]
    split <;> omega
theorem cntB_congr {r s : Nat → Bool} : ∀ n, (∀ i, i < n → r i = s i) → cntB r n = cntB s n
  | 0, _ => rfl
  | n + 1, h => by rw [cntB, cntB, cntB_congr n (fun i hi => h i (by omega)), h n (by omega)]

set_option maxHeartbeats 400000 in
set_option maxRecDepth 20000 in
theorem trcount_any {w : World} {p g m cap : Nat} {most : Int} {ns : List Nd} (h : ArenaAt 51 47 w p g m cap most ns) (k vars : Int) :
    Calls Try.prog 12 #[.pointer (some ⟨p, 0, none⟩), .int .i64 k, .int .i64 vars] w fun e w' => e = .returned (.int .i64 (cntB (tellR ns (clampV vars) 0 k) (2 ^ clampV vars) : Nat)) ∧ Below w.heap.size w w' := by
  have hT := trtable_any h k vars
  have hp2 : 2 ^ clampV vars ≤ 2 ^ 10 := Nat.pow_le_pow_right (by decide) (clampV_le vars)
  have e10 : (2 : Nat) ^ 10 = 1024 := rfl
  rw [e10] at hp2
  clear e10
  generalize tellR ns (clampV vars) 0 k = R at hT ⊢
  generalize 2 ^ clampV vars = n at *
  clear h
  go_enter Try.func12, Try.ntmps12
  go_wp2_with fail
  refine hT.mono ?_
  rintro e w1 ⟨b, rfl, lb, rb, b1⟩
  clear hT
  go_wp2_with fail
  go_loopw [7, 15] (fun c i wr => ∃ j : Nat, j ≤ n ∧ i = .int .i64 j ∧ c = .int .i64 (cntB R j : Nat) ∧ wr = w1) (fun _ i _ => n - (intOf i).toNat)
  case atStart => exact ⟨0, by omega, rfl, rfl, rfl⟩
  case round =>
    obtain ⟨j, hj, rfl, rfl, hwr⟩ := hrel
    subst hwr
    rename World => wr
    have hcl := cntB_le R j
    by_cases hlt : j < n
    · have h1 : (j : Int) < n := by omega
      have h0 : (0 : Int) ≤ (j : Int) := by omega
      have hc : wr.cell? ⟨b, j, none⟩ = some (.bool (R j)) := by simp only [World.cell?, rb]; simp [rowsV_get hlt]
      obtain ⟨c, hcc⟩ : ∃ c, c = cntB R j := ⟨_, rfl⟩
      have hcn : cntB R (j + 1) = c + (if R j = true then 1 else 0) := by rw [cntB, hcc]
      rw [← hcc] at hcl ⊢
      clear hcc
      have HC : Hid (cntB R (j + 1) = c + (if R j = true then 1 else 0)) := hcn
      clear hcn
      cases hR : R j with
      | _ =>
        rw [hR] at hc HC
        go_wp2_with fail
        go_roundw
        case rel => exact ⟨j + 1, by omega, by go_num, by rw [HC.out]; simp, by trivial⟩
        case measure => simp [intOf]; omega
    · obtain rfl : j = n := by omega
      go_wp2_with fail
      go_returns
      exact ⟨rfl, b1⟩
end Go.Proofs.Ytcbpklpehdojnaa
