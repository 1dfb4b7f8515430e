/- Table: the walk. -/
import Derived.Test.YtcbpklpehdojnaaTb
namespace Go.Proofs.Ytcbpklpehdojnaa
open Go.RowKit

theorem row16_cell {w : World} {o : Nat} {b : Nat → Bool} {t : TypeId} (h : w.heap[o]? = some (.cells (row16 b) t (0, 0))) : ∀ k : Nat, k < 16 → w.cell? ⟨o, k, none⟩ = some (.bool (b k))
  | 0, _ | 1, _ | 2, _ | 3, _ | 4, _ | 5, _ | 6, _ | 7, _ | 8, _ | 9, _ | 10, _ | 11, _ | 12, _ | 13, _ | 14, _ | 15, _ => by simp [World.cell?, h, row16]
  | n + 16, hk => by omega
theorem row16_all {w : World} {o : Nat} {b : Nat → Bool} {t : TypeId} (h : w.heap[o]? = some (.cells (row16 b) t (0, 0))) :
    w.cell? ⟨o, 0, none⟩ = some (.bool (b 0)) ∧ w.cell? ⟨o, 1, none⟩ = some (.bool (b 1)) ∧ w.cell? ⟨o, 2, none⟩ = some (.bool (b 2)) ∧ w.cell? ⟨o, 3, none⟩ = some (.bool (b 3)) ∧ w.cell? ⟨o, 4, none⟩ = some (.bool (b 4)) ∧ w.cell? ⟨o, 5, none⟩ = some (.bool (b 5)) ∧ w.cell? ⟨o, 6, none⟩ = some (.bool (b 6)) ∧ w.cell? ⟨o, 7, none⟩ = some (.bool (b 7)) ∧ w.cell? ⟨o, 8, none⟩ = some (.bool (b 8)) ∧ w.cell? ⟨o, 9, none⟩ = some (.bool (b 9)) ∧ w.cell? ⟨o, 10, none⟩ = some (.bool (b 10)) ∧ w.cell? ⟨o, 11, none⟩ = some (.bool (b 11)) ∧ w.cell? ⟨o, 12, none⟩ = some (.bool (b 12)) ∧ w.cell? ⟨o, 13, none⟩ = some (.bool (b 13)) ∧ w.cell? ⟨o, 14, none⟩ = some (.bool (b 14)) ∧ w.cell? ⟨o, 15, none⟩ = some (.bool (b 15)) :=
  ⟨row16_cell h 0 (by decide), row16_cell h 1 (by decide), row16_cell h 2 (by decide), row16_cell h 3 (by decide), row16_cell h 4 (by decide), row16_cell h 5 (by decide), row16_cell h 6 (by decide), row16_cell h 7 (by decide), row16_cell h 8 (by decide), row16_cell h 9 (by decide), row16_cell h 10 (by decide), row16_cell h 11 (by decide), row16_cell h 12 (by decide), row16_cell h 13 (by decide), row16_cell h 14 (by decide), row16_cell h 15 (by decide)⟩
theorem row16_frozen {w : World} {o : Nat} {b : Nat → Bool} {t : TypeId} (h : w.heap[o]? = some (.cells (row16 b) t (0, 0))) (k : Nat) : w.frozen? ⟨o, k, none⟩ = false := by simp [World.frozen?, h]
theorem row16_congr {b c : Nat → Bool} (h : ∀ k, k < 16 → b k = c k) : row16 b = row16 c := by
  unfold row16
  rw [h 0 (by decide), h 1 (by decide), h 2 (by decide), h 3 (by decide), h 4 (by decide), h 5 (by decide), h 6 (by decide), h 7 (by decide), h 8 (by decide), h 9 (by decide), h 10 (by decide), h 11 (by decide), h 12 (by decide), h 13 (by decide), h 14 (by decide), h 15 (by decide)]
theorem row16_set (b : Nat → Bool) (x : Bool) : ∀ j : Nat, j < 16 → (row16 b).setIfInBounds j (.bool x) = row16 (fun k => if k = j then x else b k)
  | 0, _ | 1, _ | 2, _ | 3, _ | 4, _ | 5, _ | 6, _ | 7, _ | 8, _ | 9, _ | 10, _ | 11, _ | 12, _ | 13, _ | 14, _ | 15, _ => by simp [row16]
  | n + 16, hk => by omega

theorem set16 {w0 w : World} {o : Nat} {b c : Nat → Bool} {t : TypeId} (h : w.heap[o]? = some (.cells (row16 c) t (0, 0))) (hb : Below o w0 w) :
    ((((((((((((((((w.setCell ⟨o, 0, none⟩ (.bool (b 0))).setCell ⟨o, 1, none⟩ (.bool (b 1))).setCell ⟨o, 2, none⟩ (.bool (b 2))).setCell ⟨o, 3, none⟩ (.bool (b 3))).setCell ⟨o, 4, none⟩ (.bool (b 4))).setCell ⟨o, 5, none⟩ (.bool (b 5))).setCell ⟨o, 6, none⟩ (.bool (b 6))).setCell ⟨o, 7, none⟩ (.bool (b 7))).setCell ⟨o, 8, none⟩ (.bool (b 8))).setCell ⟨o, 9, none⟩ (.bool (b 9))).setCell ⟨o, 10, none⟩ (.bool (b 10))).setCell ⟨o, 11, none⟩ (.bool (b 11))).setCell ⟨o, 12, none⟩ (.bool (b 12))).setCell ⟨o, 13, none⟩ (.bool (b 13))).setCell ⟨o, 14, none⟩ (.bool (b 14))).setCell ⟨o, 15, none⟩ (.bool (b 15))).heap[o]? = some (.cells (row16 b) t (0, 0)) ∧ Below o w0 ((((((((((((((((w.setCell ⟨o, 0, none⟩ (.bool (b 0))).setCell ⟨o, 1, none⟩ (.bool (b 1))).setCell ⟨o, 2, none⟩ (.bool (b 2))).setCell ⟨o, 3, none⟩ (.bool (b 3))).setCell ⟨o, 4, none⟩ (.bool (b 4))).setCell ⟨o, 5, none⟩ (.bool (b 5))).setCell ⟨o, 6, none⟩ (.bool (b 6))).setCell ⟨o, 7, none⟩ (.bool (b 7))).setCell ⟨o, 8, none⟩ (.bool (b 8))).setCell ⟨o, 9, none⟩ (.bool (b 9))).setCell ⟨o, 10, none⟩ (.bool (b 10))).setCell ⟨o, 11, none⟩ (.bool (b 11))).setCell ⟨o, 12, none⟩ (.bool (b 12))).setCell ⟨o, 13, none⟩ (.bool (b 13))).setCell ⟨o, 14, none⟩ (.bool (b 14))).setCell ⟨o, 15, none⟩ (.bool (b 15))) := by
  refine ⟨?_, ?_⟩
  · have e := (heap_set_at (i := 15) (heap_set_at (i := 14) (heap_set_at (i := 13) (heap_set_at (i := 12) (heap_set_at (i := 11) (heap_set_at (i := 10) (heap_set_at (i := 9) (heap_set_at (i := 8) (heap_set_at (i := 7) (heap_set_at (i := 6) (heap_set_at (i := 5) (heap_set_at (i := 4) (heap_set_at (i := 3) (heap_set_at (i := 2) (heap_set_at (i := 1) (heap_set_at (i := 0) h (.bool (b 0))) (.bool (b 1))) (.bool (b 2))) (.bool (b 3))) (.bool (b 4))) (.bool (b 5))) (.bool (b 6))) (.bool (b 7))) (.bool (b 8))) (.bool (b 9))) (.bool (b 10))) (.bool (b 11))) (.bool (b 12))) (.bool (b 13))) (.bool (b 14))) (.bool (b 15)))
    rw [e]
    simp [row16]
  · exact (Below.setCell (p := ⟨o, 15, none⟩) (Below.setCell (p := ⟨o, 14, none⟩) (Below.setCell (p := ⟨o, 13, none⟩) (Below.setCell (p := ⟨o, 12, none⟩) (Below.setCell (p := ⟨o, 11, none⟩) (Below.setCell (p := ⟨o, 10, none⟩) (Below.setCell (p := ⟨o, 9, none⟩) (Below.setCell (p := ⟨o, 8, none⟩) (Below.setCell (p := ⟨o, 7, none⟩) (Below.setCell (p := ⟨o, 6, none⟩) (Below.setCell (p := ⟨o, 5, none⟩) (Below.setCell (p := ⟨o, 4, none⟩) (Below.setCell (p := ⟨o, 3, none⟩) (Below.setCell (p := ⟨o, 2, none⟩) (Below.setCell (p := ⟨o, 1, none⟩) (Below.setCell (p := ⟨o, 0, none⟩) hb (Nat.le_refl _) (.bool (b 0))) (Nat.le_refl _) (.bool (b 1))) (Nat.le_refl _) (.bool (b 2))) (Nat.le_refl _) (.bool (b 3))) (Nat.le_refl _) (.bool (b 4))) (Nat.le_refl _) (.bool (b 5))) (Nat.le_refl _) (.bool (b 6))) (Nat.le_refl _) (.bool (b 7))) (Nat.le_refl _) (.bool (b 8))) (Nat.le_refl _) (.bool (b 9))) (Nat.le_refl _) (.bool (b 10))) (Nat.le_refl _) (.bool (b 11))) (Nat.le_refl _) (.bool (b 12))) (Nat.le_refl _) (.bool (b 13))) (Nat.le_refl _) (.bool (b 14))) (Nat.le_refl _) (.bool (b 15)))

set_option maxHeartbeats 400000 in
set_option maxRecDepth 20000 in
theorem table_any {w : World} {p g m cap : Nat} {most : Int} {ns : List Nd} (h : ArenaAt 51 47 w p g m cap most ns) (f : Int) :
    Calls Try.prog 15 #[.pointer (some ⟨p, 0, none⟩), .int .i64 f] w fun e w' => e = .returned (.agg (row16 fun k => evalP ns (rowF k) f)) ∧ Below w.heap.size w w' := by
  have hmf : ∀ (fn : Fn) (first cap : Array Value) (w : World), (Instr.makeFunc fn first cap).run Try.prog w = .ok (.func fn first cap) w := fun _ _ _ _ => rfl
  obtain ⟨b, hbd⟩ : ∃ b : Nat → Bool, b = fun k => evalP ns (rowF k) f := ⟨_, rfl⟩
  rw [← hbd]
  have hbk : ∀ k, evalP ns (rowF k) f = b k := fun k => by rw [hbd]
  clear hbd
  have HB : Hid (∀ k, evalP ns (rowF k) f = b k) := hbk
  clear hbk
  go_enter Try.func15, Try.ntmps15
  go_wp2_with fail
  obtain ⟨W, hW⟩ : ∃ W, W = (w.alloc (.cells (row16 fun _ => false) 36)).alloc (.cells (row16 fun _ => false) 36) := ⟨_, rfl⟩
  have W1 : W.heap[w.heap.size + 1]? = some (.cells (row16 fun _ => false) 36 (0, 0)) := by rw [hW]; exact heap_new_at _ _ _ (by simp)
  have W0 : W.heap[w.heap.size]? = some (.cells (row16 fun _ => false) 36 (0, 0)) := by rw [hW, (MapKept.heap_alloc _ _).2 _ (by simp)]; exact heap_new_at _ _ _ rfl
  have W2 : Below w.heap.size w W := by rw [hW]; exact ((Below.refl _ _).alloc (Nat.le_refl _) _).alloc (by simp) _
  unfold row16 at hW
  rw [← hW]
  clear hW
  obtain ⟨o, ho, ho'⟩ : ∃ o, o = w.heap.size + 1 ∧ w.heap.size < o := ⟨_, rfl, by omega⟩
  rw [← ho] at W1 ⊢
  have HO : Hid (o = w.heap.size + 1) := ho
  clear ho
  go_loopw [7] (fun i wr => ∃ j : Nat, j ≤ 16 ∧ i = .int .i64 j ∧ wr.heap[o]? = some (.cells (row16 fun k => decide (k < j) && b k) 36 (0, 0)) ∧ wr.heap[w.heap.size]? = some (.cells (row16 fun _ => false) 36 (0, 0)) ∧ Below w.heap.size w wr) (fun i _ => 16 - (intOf i).toNat)
  case atStart => exact ⟨0, by omega, rfl, by rw [W1]; simp, W0, W2⟩
  case round =>
    obtain ⟨j, hj, rfl, ho1, ho0, hbel⟩ := hrel
    clear W0 W1 W2
    rename World => wr
    by_cases hlt : j < 16
    · have h1 : (j : Int) < 16 := by omega
      have h0 : (0 : Int) ≤ (j : Int) := by omega
      go_wp2_with fail
      obtain ⟨U, hU⟩ : ∃ U, U = wr.alloc (.cells #[.int .i64 (j : Int)] 3) := ⟨_, rfl⟩
      rw [← hU]
      obtain ⟨bk, hbk⟩ : ∃ bk, bk = wr.heap.size := ⟨_, rfl⟩
      rw [← hbk]
      have U1 : Below wr.heap.size wr U := by rw [hU]; exact (Below.refl _ _).alloc (Nat.le_refl _) _
      have U2 : U.heap[bk]? = some (.cells #[.int .i64 (j : Int)] 3 (0, 0)) := by rw [hU, hbk]; exact heap_new_at _ _ _ rfl
      have U3 : Below w.heap.size w U := Below.up hbel U1 (Nat.le_refl _)
      have U4 := below_block U1 ho1
      have U5 := below_block U1 ho0
      have U6 : o ≠ bk := by
        have := (Array.getElem?_eq_some_iff.1 ho1).1
        omega
      have U7 : U.cell? ⟨bk, 0, none⟩ = some (.int .i64 (j : Int)) := by simp [World.cell?, U2]
      have lbk : bk < U.heap.size := (Array.getElem?_eq_some_iff.1 U2).1
      have lo : o < U.heap.size := (Array.getElem?_eq_some_iff.1 U4).1
      have he := eval_in ((h.below U3).below ((Below.refl U.heap.size U).drew)) f 26 #[.pointer (some ⟨bk, 0, none⟩)] (rowF j) enterTab (fun x V hx0 _ hV => (tabF_any x j bk hlt hx0 V (by rw [hV.cell (p := ⟨bk, 0, none⟩) lbk]; exact U7)).mono fun e V' hh => ⟨hh.1, hh.2 ▸ Below.refl _ _⟩)
      rw [HB.out j] at he
      clear hU hbk U1 ho1 ho0 hbel
      go_region_held3 (fun V => V.cell? ⟨bk, 0, none⟩ = some (.int .i64 (j : Int)))
        (first
          | exact U7
          | (rw [hbu.cell (p := ⟨bk, 0, none⟩) lbk]; exact U7)
          | (rw [World.cell?_setCell_far _ _ _ _ U6]; assumption))
        (first
          | (go_at_call 23; refine he.mono ?_; rintro e V ⟨rfl, hbu⟩; have Q1 : V.cell? ⟨o, j, none⟩ = some (.bool false) := (row16_cell (below_block hbu U4) j hlt).trans (by simp); have Q2 : V.frozen? ⟨o, j, none⟩ = false := row16_frozen (below_block hbu U4) j))
      go_wp2_with fail
      clear he
      go_roundw
      case rel =>
        refine ⟨j + 1, by omega, by go_num, ?_, ?_, ?_⟩
        · rw [heap_set_at (below_block hbu U4), row16_set _ _ j hlt]
          congr 2
          refine row16_congr fun k _ => ?_
          by_cases e : k = j
          · subst e; simp
          · rw [if_neg e]
            congr 1
            rw [Bool.eq_iff_iff]
            simp
            omega
        · rw [Below.heap_setCell _ _ _ _ (by simp; omega)]
          exact below_block hbu U5
        · exact (Below.up U3.drew hbu (Nat.le_refl _)).setCell (by simp; omega) _
      case measure => simp [intOf]; omega
    · obtain rfl : j = 16 := by omega
      have e16 : (row16 fun k => decide (k < 16) && b k) = row16 b := row16_congr fun k hk => by simp [hk]
      rw [e16] at ho1
      obtain ⟨x0, x1, x2, x3, x4, x5, x6, x7, x8, x9, x10, x11, x12, x13, x14, x15⟩ := row16_all ho1
      obtain ⟨y0, y1, y2, y3, y4, y5, y6, y7, y8, y9, y10, y11, y12, y13, y14, y15⟩ := row16_all ho0
      have fz := row16_frozen ho0
      go_wp2_with fail
      obtain ⟨V1, V2⟩ := set16 (b := b) ho0 hbel
      obtain ⟨V, hV⟩ : ∃ V, V = ((((((((((((((((wr.setCell ⟨w.heap.size, 0, none⟩ (.bool (b 0))).setCell ⟨w.heap.size, 1, none⟩ (.bool (b 1))).setCell ⟨w.heap.size, 2, none⟩ (.bool (b 2))).setCell ⟨w.heap.size, 3, none⟩ (.bool (b 3))).setCell ⟨w.heap.size, 4, none⟩ (.bool (b 4))).setCell ⟨w.heap.size, 5, none⟩ (.bool (b 5))).setCell ⟨w.heap.size, 6, none⟩ (.bool (b 6))).setCell ⟨w.heap.size, 7, none⟩ (.bool (b 7))).setCell ⟨w.heap.size, 8, none⟩ (.bool (b 8))).setCell ⟨w.heap.size, 9, none⟩ (.bool (b 9))).setCell ⟨w.heap.size, 10, none⟩ (.bool (b 10))).setCell ⟨w.heap.size, 11, none⟩ (.bool (b 11))).setCell ⟨w.heap.size, 12, none⟩ (.bool (b 12))).setCell ⟨w.heap.size, 13, none⟩ (.bool (b 13))).setCell ⟨w.heap.size, 14, none⟩ (.bool (b 14))).setCell ⟨w.heap.size, 15, none⟩ (.bool (b 15))) := ⟨_, rfl⟩
      rw [← hV] at V1 V2 ⊢
      obtain ⟨z0, z1, z2, z3, z4, z5, z6, z7, z8, z9, z10, z11, z12, z13, z14, z15⟩ := row16_all V1
      exact bodyPost_ret (v := .agg (row16 b)) (by simp [results, Try.results15, go_sem, row16, z0, z1, z2, z3, z4, z5, z6, z7, z8, z9, z10, z11, z12, z13, z14, z15]) rfl ⟨rfl, V2⟩
end Go.Proofs.Ytcbpklpehdojnaa
