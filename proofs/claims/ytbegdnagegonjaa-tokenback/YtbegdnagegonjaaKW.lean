/- The law's own example, what its name does, a row of tokens cell by cell. -/
import Derived.Test.YtbegdnagegonjaaKE
namespace Go.Proofs.Ytbegdnagegonjaa
open Go.RowKit Go.Lib

theorem own_cell {w : World} {B t z n cap g : Nat} {xs : List Value} (h : w.ownsRow B t z (.slice (some ⟨g, 0, none⟩) n cap) n xs) {j : Nat} {u : Value} (hj : xs[j]? = some u) : w.cell? ⟨g, j, none⟩ = some u := by
  rcases h.2 with ⟨h0, _⟩ | ⟨g', cap', cur, h1, _, h3, _, _, _, h7⟩
  · cases h0
  · obtain rfl : g = g' := by injection h1 with h1; injection h1 with h1; injection h1
    rw [← h7] at hj
    have hj2 : cur.toList[j]? = some u := by
      rw [List.getElem?_take] at hj
      split at hj
      · exact hj
      · cases hj
    unfold World.cell?
    simp only [h3]
    simpa using hj2
theorem flat_at : ∀ (ts : List Tk) (i f : Nat) (t : Tk), ts[i]? = some t → f < 6 → (ts.flatMap tkL)[6 * i + f]? = (tkL t)[f]?
  | [], i, f, t, h, _ => by simp at h
  | a :: r, 0, f, t, h, hf => by
    obtain rfl : a = t := by simpa using h
    rw [List.flatMap_cons, List.getElem?_append_left (by simp [tkL]; omega)]
    simp
  | a :: r, i + 1, f, t, h, hf => by
    rw [List.flatMap_cons, List.getElem?_append_right (by simp [tkL]; omega), show 6 * (i + 1) + f - (tkL a).length = 6 * i + f by simp [tkL]; omega]
    exact flat_at r i f t (by simpa using h) hf
section
variable {w : World} {B n cap g i : Nat} {ts : List Tk} {t : Tk}
/-- The cells of a token that lies in a row. -/
theorem tok_cells (h : w.ownsRow B 34 6 (.slice (some ⟨g, 0, none⟩) n cap) n (ts.flatMap tkL)) (hi : ts[i]? = some t) :
    w.cell? ⟨g, 6 * i, none⟩ = some (.int .i64 t.kind) ∧ w.cell? ⟨g, 6 * i + 1, none⟩ = some (.string ⟨t.text.toArray⟩) ∧ w.cell? ⟨g, 6 * i + 2, none⟩ = some (.int .i64 t.val) ∧
    w.cell? ⟨g, 6 * i + 3, none⟩ = some (.int .u32 t.a) ∧ w.cell? ⟨g, 6 * i + 4, none⟩ = some (.int .i64 t.b) ∧ w.cell? ⟨g, 6 * i + 5, none⟩ = some (.int .i64 t.pl) :=
  ⟨own_cell h (flat_at ts i 0 t hi (by decide)), own_cell h (flat_at ts i 1 t hi (by decide)), own_cell h (flat_at ts i 2 t hi (by decide)),
   own_cell h (flat_at ts i 3 t hi (by decide)), own_cell h (flat_at ts i 4 t hi (by decide)), own_cell h (flat_at ts i 5 t hi (by decide))⟩
end
theorem awake_toks : toks [110, 101, 116, 32, 49, 48, 46, 48, 46, 48, 46, 48, 47, 56, 59, 32, 35, 32, 120] 0 0 = .inr [⟨1, [110, 101, 116], 0, 0, 0, 0⟩, ⟨3, [49, 48, 46, 48, 46, 48, 46, 48, 47, 56], 0, 167772160, 8, 4⟩, ⟨4, [59], 0, 0, 0, 14⟩, ⟨0, [], 0, 0, 0, 19⟩] := by kernel_rfl
set_option maxHeartbeats 4000000 in
set_option maxRecDepth 20000 in
theorem awake6_any (w : World) : Calls Try.prog 5 #[] w fun e w' => e = .returned (.bool true) ∧ Below w.heap.size w w' := by
  have hc := fun w => cut_any ⟨#[110, 101, 116, 32, 49, 48, 46, 48, 46, 48, 46, 48, 47, 56, 59, 32, 35, 32, 120]⟩ (by decide) w
  have e : (⟨#[110, 101, 116, 32, 49, 48, 46, 48, 46, 48, 46, 48, 47, 56, 59, 32, 35, 32, 120]⟩ : ByteArray).data.toList = [110, 101, 116, 32, 49, 48, 46, 48, 46, 48, 46, 48, 47, 56, 59, 32, 35, 32, 120] := rfl
  rw [e, awake_toks] at hc
  clear e
  go_enter Try.func5, Try.ntmps5
  go_wp2_with fail
  refine (hc _).mono ?_
  rintro e W ⟨g, cap, rfl, ho, q⟩
  obtain ⟨A0, _, _, _, _, _⟩ := tok_cells (i := 0) ho rfl
  obtain ⟨B0, _, _, _, B4, _⟩ := tok_cells (i := 1) ho rfl
  obtain ⟨_, C1, _, _, _, _⟩ := tok_cells (i := 2) ho rfl
  obtain ⟨_, _, _, _, _, D5⟩ := tok_cells (i := 3) ho rfl
  simp only [List.length_cons, List.length_nil, Nat.reduceMul, Nat.reduceAdd] at A0 B0 B4 C1 D5 ⊢
  clear ho hc
  go_wp2_with fail
  go_ret
  exact ⟨rfl, q⟩
end Go.Proofs.Ytbegdnagegonjaa
