/- ArenaVariable: the walk. -/
import Derived.Test.YthlbelpooplgeaaDoorLim
namespace Go.Proofs.YthlbelpooplgeaaDoor
open Go.RowKit

theorem enterV1 (args : Array Value) (W : World) : Sem.run Tryd.prog (callFunc 14 args) W = .ok (.enter 14 args) W := by kernel_rfl
theorem enterV2 (args : Array Value) (W : World) : Sem.run Tryd.prog (callFunc 15 args) W = .ok (.enter 15 args) W := by kernel_rfl
set_option maxHeartbeats 400000 in
theorem varF1_any (x v : Int) (c : Nat) (w : World) (hc : w.cell? ⟨c, 0, none⟩ = some (.int .i64 v)) : Calls Tryd.prog 14 #[.int .i64 x, .pointer (some ⟨c, 0, none⟩)] w fun e w' => e = .returned (.bool (x == v)) ∧ w' = w := by
  go_enter Tryd.func14, Tryd.ntmps14
  go_wp2
  go_ret
  exact ⟨rfl, rfl⟩
set_option maxHeartbeats 400000 in
theorem varF2_any (x v : Int) (c : Nat) (w : World) (hc : w.cell? ⟨c, 0, none⟩ = some (.int .i64 v)) : Calls Tryd.prog 15 #[.int .i64 x, .pointer (some ⟨c, 0, none⟩)] w fun e w' => e = .returned (.bool (x != v)) ∧ w' = w := by
  go_enter Tryd.func15, Tryd.ntmps15
  go_wp2
  go_ret
  exact ⟨rfl, rfl⟩

theorem mk_var_bad (most : Int) {v : Int} (h : v < 0 ∨ 1024 ≤ v) : mkR most first2 v 0 1 = (0, 10, first2) := by
  have : ¬ okB first2 v 0 1 = true := fun e => ok2.1 e (by unfold badL; omega)
  simp [mkR, this]
theorem find_var (v : Int) : findN first2 ⟨v, 0, 1⟩ = none := by
  simp [findN, first2, sameN]
theorem mk_var_full {most v : Int} (h : 0 ≤ v) (h' : v < 1024) (hm : most < 3) : mkR (clampN most) first2 v 0 1 = (0, 8, first2) := by
  have hl : clampN most ≤ (first2.length : Int) := by show clampN most ≤ 2; unfold clampN; omega
  rw [mkR, if_pos (ok2.2 (by unfold badL; omega)), if_neg (by decide), find_var]
  simp only [if_pos hl]
theorem mk_var_new {most v : Int} (h : 0 ≤ v) (h' : v < 1024) (hm : 3 ≤ most) : mkR (clampN most) first2 v 0 1 = (2, 0, first2 ++ [⟨v, 0, 1⟩]) := by
  have hl : ¬ clampN most ≤ (first2.length : Int) := by show ¬ clampN most ≤ 2; unfold clampN; omega
  rw [mkR, if_pos (ok2.2 (by unfold badL; omega)), if_neg (by decide), find_var]
  simp only [if_neg hl]
  rfl
theorem get_var (v : Int) : getN (first2 ++ [⟨v, 0, 1⟩]) 2 = ⟨v, 0, 1⟩ := rfl
theorem get_var0 (v : Int) : getN (first2 ++ [⟨v, 0, 1⟩]) 0 = ⟨1024, 0, 0⟩ := rfl
theorem get_var1 (v : Int) : getN (first2 ++ [⟨v, 0, 1⟩]) 1 = ⟨1024, 1, 1⟩ := rfl
theorem ev_var1 {v : Int} (h' : v < 1024) : evalP (first2 ++ [⟨v, 0, 1⟩]) (fun x => x == v) 2 = true := by
  show evalF _ _ 3 2 = true
  simp [evalF, get_var, h', get_var1]
theorem ev_var2 {v : Int} (h' : v < 1024) : evalP (first2 ++ [⟨v, 0, 1⟩]) (fun x => x != v) 2 = false := by
  show evalF _ _ 3 2 = false
  simp [evalF, get_var, h', get_var0]

set_option maxHeartbeats 1000000 in
theorem var_any (v room : Int) (w : World) (hL : Laid w) (hr : 0 ≤ room) (hr' : room ≤ 255) :
    Calls Tryd.prog 5 #[.int .i64 v, .int .u8 room] w fun e w' => e = .returned (.bool true) ∧ Below w.heap.size w w' := by
  have hmf : ∀ (fn : Fn) (first cap : Array Value) (w : World), (Instr.makeFunc fn first cap).run Tryd.prog w = .ok (.func fn first cap) w := fun _ _ _ _ => rfl
  go_enter Tryd.func5, Tryd.ntmps5
  go_wp2_with fail
  obtain ⟨W, hW⟩ : ∃ W, W = w.alloc (.cells #[.int .i64 v] 3) := ⟨_, rfl⟩
  rw [← hW]
  have bW : Below w.heap.size w W := by rw [hW]; exact (Below.refl _ _).alloc (Nat.le_refl _) _
  have hcW : W.heap[w.heap.size]? = some (.cells #[.int .i64 v] 3) := by rw [hW]; exact heap_new_at _ _ _ rfl
  clear hW
  refine (awake_any W).mono ?_
  rintro e w0 ⟨rfl, b0⟩
  go_wp2_with fail
  refine (of_any room w0).mono ?_
  rintro e w1 ⟨rfl, a1, b1, s1⟩
  have B1 := Below.up b0 b1 (Nat.le_refl _)
  have hs0 := b0.size
  obtain ⟨p, hp, hp'⟩ : ∃ p, W.heap.size ≤ p ∧ p = w0.heap.size + 2 := ⟨_, by omega, rfl⟩
  obtain ⟨g, hg, hg'⟩ : ∃ g, W.heap.size ≤ g ∧ g = w0.heap.size := ⟨_, by omega, rfl⟩
  obtain ⟨m, hm, hm'⟩ : ∃ m, W.heap.size ≤ m ∧ m = w0.heap.size + 1 := ⟨_, by omega, rfl⟩
  rw [← hp', ← hm', ← hg'] at a1
  rw [← hp']
  clear hp' hm' hg' s1 b0 b1 hs0
  have C1 : w1.cell? ⟨w.heap.size, 0, none⟩ = some (.int .i64 v) := by simp [World.cell?, below_block B1 hcW]
  have m1 := variable_any a1 v
  have hnil := errV_zero
  go_wp2_with fail
  refine m1.mono ?_
  clear m1
  rintro e w2 ⟨g2, c2, rfl, a2, k2, e2⟩
  obtain ⟨b2, hg2⟩ := next B1 (Nat.le_refl _) hp hg hm k2 e2
  have C2 : w2.cell? ⟨w.heap.size, 0, none⟩ = some (.int .i64 v) := by simp [World.cell?, below_block b2 hcW]
  have hL2 := (hL.below bW).below b2
  have bE := Below.up bW b2 (Nat.le_refl _)
  have hlt : w.heap.size < w2.heap.size := World.block_lt_of_cell? w2 _ C2
  clear a1 B1 k2 e2 C1 hcW
  rcases (show (v < 0 ∨ (0 ≤ v ∧ 1024 ≤ v)) ∨ (0 ≤ v ∧ v < 1024 ∧ room < 3) ∨ (0 ≤ v ∧ v < 1024 ∧ 3 ≤ room) by omega) with hv | ⟨h1, h2, h3⟩ | ⟨h1, h2, h3⟩
  · rw [mk_var_bad _ (by omega)] at a2 ⊢
    have hn := number_hit 10 w2 hL2
    clear a2
    rcases hv with hv | ⟨hv, hv'⟩
    all_goals
      go_wp2_with fail
      refine hn.mono ?_
      rintro e w3 ⟨rfl, b3⟩
      go_wp2_with fail
      go_ret
      exact ⟨rfl, Below.up bE b3 (Nat.le_refl _)⟩
  · rw [mk_var_full h1 h2 h3] at a2 ⊢
    have hn := number_hit 8 w2 hL2
    clear a2
    go_wp2_with fail
    refine hn.mono ?_
    rintro e w3 ⟨rfl, b3⟩
    go_wp2_with fail
    go_ret
    exact ⟨rfl, Below.up bE b3 (Nat.le_refl _)⟩
  · rw [mk_var_new h1 h2 h3] at a2 ⊢
    have he1 := eval_any a2 2 14 #[.pointer (some ⟨w.heap.size, 0, none⟩)] (fun x => x == v) enterV1 (fun x U hU => (varF1_any x v _ U (by rw [hU.cell hlt]; exact C2)).mono fun e U' h => ⟨h.1, h.2 ▸ Below.refl _ _⟩)
    have he2 := fun (w3 : World) (b3 : Below w2.heap.size w2 w3) => eval_any (a2.below b3) 2 15 #[.pointer (some ⟨w.heap.size, 0, none⟩)] (fun x => x != v) enterV2 (fun x U hU => (varF2_any x v _ U (by rw [(Below.up b3 hU (Nat.le_refl _)).cell hlt]; exact C2)).mono fun e U' h => ⟨h.1, h.2 ▸ Below.refl _ _⟩)
    rw [ev_var1 h2] at he1
    rw [ev_var2 h2] at he2
    clear a2
    go_wp2_with fail
    refine he1.mono ?_
    rintro e w3 ⟨rfl, b3⟩
    have he3 := he2 w3 b3
    clear he1 he2
    go_wp2_with fail
    refine he3.mono ?_
    rintro e w4 ⟨rfl, b4⟩
    go_wp2_with fail
    go_ret
    exact ⟨rfl, Below.up (Below.up bE b3 (Nat.le_refl _)) b4 (Nat.le_refl _)⟩
end Go.Proofs.YthlbelpooplgeaaDoor
