/- What an edge does to routes of some tags: Row. -/
import Derived.Test.YtphhfjfdanlhiaaGB
import Derived.BigRegion
namespace Go.Proofs.Ytphhfjfdanlhiaa
open Go.RowKit Go.Lib

def rowA (t : Int) : At := ⟨true, 100, 0, t⟩
theorem take_tags (ex im : List ClD) (cost : Int) {x : At} (ht : 0 ≤ x.tags ∧ x.tags < 256) : 0 ≤ (takeP ex im cost x).tags ∧ (takeP ex im cost x).tags < 256 := by
  unfold takeP
  split
  · exact doP_tags im 0 0 (x := ⟨true, 100, _, _⟩) (doP_tags ex 0 0 ht)
  · exact ⟨Int.le_refl _, by decide⟩
set_option maxHeartbeats 4000000 in
set_option maxRecDepth 20000 in
theorem row_any {ve vi : Value} {ex im : List ClD} (fr cost : Int) (t : Nat) (ht : t < 256) (w : World) (h : EdS w ve vi ex im) :
    Calls Try.prog 13 #[edV fr cost ve vi, .int .u8 t] w fun e w' => e = .returned (.tuple #[atV (rowP ex im cost t), .bool (rowP ex im cost t).ok]) ∧ Below w.heap.size w w' := by
  obtain ⟨U, hU⟩ : ∃ U, U = (w.alloc (edB fr cost ve vi)).alloc (atB At.zero) := ⟨_, rfl⟩
  have hwU : Below w.heap.size w U := by rw [hU]; exact bel_alloc2 _ _ _
  obtain ⟨be, hbe⟩ : ∃ b, b = w.heap.size := ⟨_, rfl⟩
  obtain ⟨br, hbr⟩ : ∃ b, b = w.heap.size + 1 := ⟨_, rfl⟩
  have he : U.heap[be]? = some (edB fr cost ve vi) := by rw [hU]; exact pf_block (bel_alloc (Below.refl _ _) _) (pf_new _ _ _ hbe)
  have hr : U.heap[br]? = some (atB At.zero) := by rw [hU]; exact pf_new _ _ _ (by rw [hbr]; simp)
  have HUP : Hid (w.heap.size ≤ br) := by show _ ≤ _; omega
  have htb : 0 ≤ (t : Int) % 16 ∧ (t : Int) % 16 < 256 := by omega
  have hd := take_any fr cost ⟨true, 100, 0, (t : Int) % 16⟩ htb U (h.keep hwU)
  have hrow : rowP ex im cost t = takeP ex im cost ⟨true, 100, 0, (t : Int) % 16⟩ := by
    unfold rowP
    rw [show ((t % 16 : Nat) : Int) = (t : Int) % 16 by omega]
  rw [← hrow] at hd
  obtain ⟨z, hz⟩ : ∃ z, z = rowP ex im cost t := ⟨_, rfl⟩
  rw [← hz] at hd ⊢
  obtain ⟨ae, ce, ai, ci, rfl, rfl⟩ := h.form
  have t0 : (0 : Int) ≤ t := by omega
  have t1 : (t : Int) < 256 := by omega
  clear hz hrow h htb ht
  unfold atV edV at hd
  unfold atV edV
  unfold atB At.zero edB at hU
  dsimp only at hd hU ⊢
  obtain ⟨e0, e1, e2, e3⟩ := ed_cells he
  go_enter Try.func13, Try.ntmps13
  go_wp2_with fail
  rw [← hU, ← hbr, ← hbe]
  clear hU hbr hbe
  refine hd.mono ?_
  rintro e W ⟨rfl, q⟩
  have hrW := pf_block q hr
  have hwW := bel_up hwU q hwU.size
  clear hd e0 e1 e2 e3 he hr hwU q
  go_upto_region 2 with fail
  have hlt := (Array.getElem?_eq_some_iff.1 hrW).1
  obtain ⟨ba, hba⟩ : ∃ b, b = W.heap.size := ⟨_, rfl⟩
  have hne : ba ≠ br := by omega
  have hnr : br ≠ ba := by omega
  obtain ⟨V, hV⟩ : ∃ V, V = W.alloc (atB z) := ⟨_, rfl⟩
  have haV : V.heap[ba]? = some (atB z) := by rw [hV]; exact pf_new _ _ _ hba
  have hqV : Below W.heap.size W V := by rw [hV]; exact bel_alloc (Below.refl _ _) _
  have hrV := pf_block hqV hrW
  have hwV := bel_up hwW hqV hwW.size
  unfold atB at hV
  rw [← hV, ← hba]
  clear hV hba hrW hwW hqV hlt
  obtain ⟨x0, x1, x2, x3⟩ := at_cell haV
  obtain ⟨g0, g1, g2, g3⟩ := at_free hrV
  obtain ⟨m0, m1, m2, m3⟩ := at_cell hrV
  go_region
  have hr2 := put4_at hrV z
  have hw2 := (put4_below hwV HUP.out z).drew
  unfold put4 at hr2 hw2
  obtain ⟨W0, W1, W3, W4⟩ := at_cell hr2
  obtain ⟨Y, hY⟩ : ∃ Y, Y = ((((V.setCell ⟨br, 0, none⟩ (.bool z.ok)).setCell ⟨br, 1, none⟩ (.int .i64 z.pref)).setCell ⟨br, 2, none⟩ (.int .i64 z.cost)).setCell ⟨br, 3, none⟩ (.int .u8 z.tags)).drew := ⟨_, rfl⟩
  have k0 : Y.cell? ⟨br, 0, none⟩ = some (.bool z.ok) := by rw [hY]; exact W0
  have k1 : Y.cell? ⟨br, 1, none⟩ = some (.int .i64 z.pref) := by rw [hY]; exact W1
  have k2 : Y.cell? ⟨br, 2, none⟩ = some (.int .i64 z.cost) := by rw [hY]; exact W3
  have k3 : Y.cell? ⟨br, 3, none⟩ = some (.int .u8 z.tags) := by rw [hY]; exact W4
  rw [← hY] at hw2 ⊢
  clear hY W0 W1 W3 W4 hr2 x0 x1 x2 x3 g0 g1 g2 g3 m0 m1 m2 m3 haV hrV
  go_wp2_with fail
  refine bodyPost_ret (v := .tuple #[atV z, .bool z.ok]) (by unfold atV; simp [results, Try.results13, go_sem, k0, k1, k2, k3]) rfl ?_
  exact ⟨rfl, hw2⟩
end Go.Proofs.Ytphhfjfdanlhiaa
