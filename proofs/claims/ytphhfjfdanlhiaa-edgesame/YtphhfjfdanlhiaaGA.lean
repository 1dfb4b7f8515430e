/- Edges as values: what is learned over one. -/
import Derived.Test.YtphhfjfdanlhiaaFD
import Derived.Test.YtphhfjfdanlhiaaEA
namespace Go.Proofs.Ytphhfjfdanlhiaa
open Go.RowKit Go.Lib

def edV (fr cost : Int) (ve vi : Value) : Value := .agg #[.int .i64 fr, .int .i64 cost, ve, vi]
/-- An edge in a block of its own. -/
def edB (fr cost : Int) (ve vi : Value) : Obj := .cells #[.int .i64 fr, .int .i64 cost, ve, vi] 27 (0, 0)
/-- An edge's two maps lie there. -/
structure EdS (W : World) (ve vi : Value) (ex im : List ClD) : Prop where
  e : SliceAt W.heap.size 10 (ClAt W) ve ex
  i : SliceAt W.heap.size 10 (ClAt W) vi im
  eo : ∀ c ∈ ex, c.ok
  io : ∀ c ∈ im, c.ok
theorem EdS.keep {W W' : World} {ve vi : Value} {ex im : List ClD} (h : EdS W ve vi ex im) (k : Below W.heap.size W W') : EdS W' ve vi ex im := ⟨cls_keep h.e k, cls_keep h.i k, h.eo, h.io⟩
theorem EdS.none (W : World) : EdS W (.slice none 0 0) (.slice none 0 0) [] [] := ⟨slice_nil _ _ _, slice_nil _ _ _, by simp, by simp⟩
/-- What it is as a value. -/
theorem EdS.form {W : World} {ve vi : Value} {ex im : List ClD} (h : EdS W ve vi ex im) : ∃ ae ce ai ci, ve = .slice ae ex.length ce ∧ vi = .slice ai im.length ci := by
  obtain ⟨ae, ce, h1, _⟩ := h.e
  obtain ⟨ai, ci, h2, _⟩ := h.i
  exact ⟨ae, ce, ai, ci, h1, h2⟩
theorem doR_tags (a : Nat) (b : Int) {x : At} (ht : 0 ≤ x.tags ∧ x.tags < 256) : ∀ l : List ClD, 0 ≤ (doR a b x l).tags ∧ (doR a b x l).tags < 256
  | [] => ht
  | c :: l => by
    rw [doR]
    split
    · unfold oneP
      split
      · exact ⟨Int.le_refl _, by decide⟩
      · have := tags_le c x.tags.toNat
        refine ⟨Int.natCast_nonneg _, ?_⟩
        show ((tagsP c x.tags.toNat : Nat) : Int) < 256
        omega
    · exact doR_tags a b ht l
theorem doP_tags (l : List ClD) (a : Nat) (b : Int) {x : At} (ht : 0 ≤ x.tags ∧ x.tags < 256) : 0 ≤ (doP l a b x).tags ∧ (doP l a b x).tags < 256 := by
  unfold doP
  split
  · exact doR_tags a b ht l
  · exact ⟨Int.le_refl _, by decide⟩
theorem ed_cells {w : World} {b : Nat} {fr cost : Int} {ve vi : Value} (h : w.heap[b]? = some (edB fr cost ve vi)) : w.cell? ⟨b, 0, none⟩ = some (.int .i64 fr) ∧ w.cell? ⟨b, 1, none⟩ = some (.int .i64 cost) ∧ w.cell? ⟨b, 2, none⟩ = some ve ∧ w.cell? ⟨b, 3, none⟩ = some vi := cells_four h
set_option maxHeartbeats 4000000 in
set_option maxRecDepth 20000 in
theorem ebehind_any {v : Value} {l : List ClD} (hl : ∀ c ∈ l, c.ok) (x : At) (ht : 0 ≤ x.tags ∧ x.tags < 256) (w : World) (h : SliceAt w.heap.size 10 (ClAt w) v l) :
    Calls Try.prog 17 #[v, atV x] w fun e w' => e = .returned (atV (doP l 0 0 x)) ∧ Below w.heap.size w w' := by
  obtain ⟨U, hU⟩ : ∃ U, U = (w.alloc (atB x)).alloc (atB At.zero) := ⟨_, rfl⟩
  have hwU : Below w.heap.size w U := by rw [hU]; exact bel_alloc2 _ _ _
  have hd := do_any hl 0 0 (by decide) x ht U (cls_keep h hwU)
  obtain ⟨br, hbr⟩ : ∃ b, b = w.heap.size + 1 := ⟨_, rfl⟩
  have hr : U.heap[br]? = some (atB At.zero) := by rw [hU]; exact pf_new _ _ _ (by rw [hbr]; simp)
  have hup : w.heap.size ≤ br := by omega
  obtain ⟨z, hz⟩ : ∃ z, z = doP l 0 0 x := ⟨_, rfl⟩
  rw [← hz] at hd ⊢
  obtain ⟨ad, cap, rfl, _, _⟩ := h
  obtain ⟨xo, xp, xc, xt⟩ := x
  unfold atV pfV at hd
  unfold atV
  unfold atB At.zero at hU
  dsimp only at hd hU ⊢
  clear hz ht hl
  go_enter Try.func17, Try.ntmps17
  go_wp2_with fail
  rw [← hU, ← hbr]
  clear hU hbr
  refine hd.mono ?_
  rintro e W ⟨rfl, q⟩
  have hrW := pf_block q hr
  have hwW := bel_up hwU q hwU.size
  obtain ⟨f0, f1, f2, f3⟩ := at_free hrW
  obtain ⟨m0, m1, m2, m3⟩ := at_cell hrW
  clear hd hr q hwU
  go_wp2_with fail
  have hr2 := put4_at hrW z
  have hw2 := put4_below hwW hup z
  unfold put4 at hr2 hw2
  obtain ⟨W0, W1, W3, W4⟩ := at_cell hr2
  refine bodyPost_ret (v := atV z) (by unfold atV; simp [results, Try.results17, go_sem, W0, W1, W3, W4]) rfl ?_
  exact ⟨rfl, hw2⟩
end Go.Proofs.Ytphhfjfdanlhiaa
