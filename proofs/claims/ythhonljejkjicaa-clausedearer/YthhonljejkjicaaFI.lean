/- ClauseDearer: the walk. -/
import Derived.Test.YthhonljejkjicaaFG
namespace Go.Proofs.Ythhonljejkjicaa
open Go.RowKit Go.Lib

set_option maxHeartbeats 4000000 in
set_option maxRecDepth 20000 in
theorem ldearer_walk {v : Value} {l : List ClD} (hl : ∀ c ∈ l, c.ok) (a : Nat) (b : Int) (ha : a < 4294967296) (cost : Nat) (hc : cost < 65536) (tags : Nat) (ht : tags < 256) (w : World) (h : SliceAt w.heap.size 10 (ClAt w) v l) :
    Calls Try.prog 7 #[v, pfV a b, .int .u16 cost, .int .u8 tags] w fun e w' => e = .returned (.bool true) ∧ Below w.heap.size w w' := by
  have hz := do_dearer (x := ⟨true, 100, cost, (tags : Int) % 16⟩) rfl ⟨by show (0 : Int) < 100; decide, by show (100 : Int) ≤ 255; decide⟩ ⟨by show (0 : Int) ≤ cost; omega, by show (cost : Int) < 65536; omega⟩ ⟨by show (0 : Int) ≤ (tags : Int) % 16; omega, by show (tags : Int) % 16 < 16; omega⟩ a b l
  have hd := fun (X : World) (q : Below w.heap.size w X) => do_any hl a b ha ⟨true, 100, cost, (tags : Int) % 16⟩ ⟨by show (0 : Int) ≤ (tags : Int) % 16; omega, by show (tags : Int) % 16 < 256; omega⟩ X (cls_keep h q)
  have hdp : doP l a b ⟨true, 100, cost, (tags : Int) % 16⟩ = doR a b ⟨true, 100, cost, (tags : Int) % 16⟩ l := rfl
  rw [hdp] at hd
  obtain ⟨z, hzz⟩ : ∃ z, z = doR a b ⟨true, 100, cost, (tags : Int) % 16⟩ l := ⟨_, rfl⟩
  rw [← hzz] at hz hd
  clear hzz hdp
  obtain ⟨ad, cap, rfl, hn, hel⟩ := h
  clear hel
  unfold atV pfV at hd
  unfold pfV
  dsimp only at hd hz
  have hwk := awake11_any
  go_enter Try.func7, Try.ntmps7
  go_wp2_with fail
  obtain ⟨U, hU⟩ : ∃ U, U = w.alloc (.cells #[.int .u32 a, .int .i64 b] 28) := ⟨_, rfl⟩
  have hwU : Below w.heap.size w U := by rw [hU]; exact bel_alloc (Below.refl _ _) _
  have hpU : U.heap[w.heap.size]? = some (.cells #[.int .u32 a, .int .i64 b] 28 (0, 0)) := by rw [hU]; exact pf_new _ _ _ rfl
  rw [← hU]
  clear hU
  refine (hwk _).mono ?_
  rintro e W ⟨rfl, q⟩
  obtain ⟨p0, p1⟩ := cells_two (pf_block q hpU)
  have hwW := bel_up hwU q hwU.size
  have lp := (Array.getElem?_eq_some_iff.1 (pf_block q hpU)).1
  obtain ⟨bp, hbp⟩ : ∃ bp, bp = w.heap.size := ⟨_, rfl⟩
  rw [← hbp] at p0 p1 lp ⊢
  have HWX : Hid (∀ o, Below w.heap.size w (W.alloc o)) := fun o => bel_up hwW (bel_alloc (Below.refl _ _) o) hwW.size
  clear hbp q hpU hwk
  go_wp2_with fail
  refine (hd _ (HWX.out _)).mono ?_
  rintro e X ⟨rfl, q⟩
  have lx := q.size
  simp at lx
  have y9 := pf_block q (pf_new W (.cells #[.bool true, .int .i64 100, .int .i64 cost, .int .u8 ((tags : Int) % 16)] 24) _ rfl)
  have ly := (Array.getElem?_eq_some_iff.1 y9).1
  obtain ⟨y0, y1, y2, y3⟩ := cells_four y9
  have hX := bel_up (HWX.out (.cells #[.bool true, .int .i64 100, .int .i64 cost, .int .u8 ((tags : Int) % 16)] 24)) q (HWX.out _).size
  have HX : Hid (Below w.heap.size w (X.alloc (.cells #[.bool z.ok, .int .i64 z.pref, .int .i64 z.cost, .int .u8 z.tags] 24))) := bel_up hX (bel_alloc (Below.refl _ _) _) hX.size
  obtain ⟨by1, hby1⟩ : ∃ n, n = W.heap.size := ⟨_, rfl⟩
  rw [← hby1] at y0 y1 y2 y3 ly ⊢
  clear hby1 q hd y9 lx hX lp p0 p1
  rcases hz with hz | ⟨z0, z1, z2, z3, z4, z5⟩
  · subst hz
    unfold At.zero at HX ⊢
    dsimp only at HX ⊢
    go_wp2_with fail
    go_ret
    exact ⟨rfl, HX.out⟩
  · obtain ⟨zo, zp, zc, zt⟩ := z
    dsimp only at z0 z1 z2 z3 z4 z5 HX ⊢
    subst z0
    have d1 : decide ((cost : Int) ≤ zc) = true := decide_eq_true z1
    have d2 : decide (zc ≤ (cost : Int) + 15) = true := decide_eq_true z2
    have d3 : decide (zt < 16) = true := decide_eq_true z3
    have d4 : decide (0 < zp) = true := decide_eq_true z4
    have d5 : decide (zp ≤ 255) = true := decide_eq_true z5
    go_wp2_with fail
    go_ret
    exact ⟨rfl, HX.out⟩
end Go.Proofs.Ythhonljejkjicaa
