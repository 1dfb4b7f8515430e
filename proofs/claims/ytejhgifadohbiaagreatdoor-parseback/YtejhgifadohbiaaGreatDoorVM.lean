/- The law's own examples. -/
import Derived.Test.YtejhgifadohbiaaGreatDoorVY
import Derived.Test.YtejhgifadohbiaaGreatDoorKP
import Derived.Test.YtejhgifadohbiaaGreatDoorKR
namespace Go.Proofs.YtejhgifadohbiaaGreatDoor
open Go.RowKit Go.Lib

theorem laid_pos {w : World} (h : Laid w) : 0 < w.heap.size := by
  rcases Nat.eq_zero_or_pos w.heap.size with h0 | h1
  · simp [Laid, World.cell?, h0] at h
  · exact h1
theorem laid_below {w w' : World} (h : Laid w) (q : Below w.heap.size w w') : Laid w' := by
  show w'.cell? ⟨0, 0, none⟩ = _
  rw [q.cell (p := ⟨0, 0, none⟩) (laid_pos h)]
  exact h
def exA : Bs := [114, 111, 117, 116, 101, 114, 32, 97, 32, 123, 32, 110, 101, 116, 32, 49, 48, 46, 48, 46, 48, 46, 48, 47, 56, 59, 32, 125]
def exB : Bs := [114, 111, 117, 116, 101, 114, 32, 97, 32, 123, 32, 108, 105, 110, 107, 32, 98, 32, 99, 111, 115, 116, 32, 48, 59, 32, 125]
theorem exA_read : readP exA = .inr ⟨[], [⟨[97], [(167772160, 8)], [], [], 0⟩]⟩ := by kernel_rfl
theorem exB_read : readP exB = .inl (6, 23) := by kernel_rfl
theorem map_one {α β : Type} {l : List (α × β)} {x : α} (h : l.map (·.1) = [x]) : ∃ y, l = [(x, y)] := by
  cases l with
  | nil => cases h
  | cons p r =>
    obtain ⟨a, y⟩ := p
    injection h with h1 h2
    cases r with
    | nil => exact ⟨y, by rw [show a = x from h1]⟩
    | cons q r => cases h2
set_option maxHeartbeats 8000000 in
set_option maxRecDepth 20000 in
theorem awake8_any (w : World) (hw : Laid w) : Calls Tryz.prog 7 #[] w fun e w' => e = .returned (.bool true) ∧ Below w.heap.size w w' := by
  have h1 := paconfig_any exA (by decide) w
  have h2 := fun w => paconfig_any exB (by decide) w
  rw [exA_read] at h1
  rw [exB_read] at h2
  have HW : Hid (Laid w) := hw
  clear hw
  go_enter Tryz.func7, Tryz.ntmps7
  go_wp2_with fail
  refine h1.mono ?_
  rintro e W ⟨mv, rv, lm, lr, rfl, ho, _, hm, q⟩
  obtain ⟨⟨nv, lv, sv⟩, rfl⟩ := map_one hm.2
  obtain ⟨g, cap, hrv, _, _⟩ := ho.r.form (by simp)
  replace hrv : rv = .slice (some ⟨g, 0, none⟩) 1 cap := hrv
  subst hrv
  obtain ⟨ma, mn, mc, rfl⟩ := own_slc ho.m
  have hn := (ho.rc _ (List.mem_singleton.2 rfl)).1
  obtain ⟨g2, cap2, hnv, _, _⟩ := hn.form (by simp)
  replace hnv : nv = .slice (some ⟨g2, 0, none⟩) 1 cap2 := hnv
  subst hnv
  have c1 : W.cell? ⟨g, 1, none⟩ = some (.slice (some ⟨g2, 0, none⟩) 1 cap2) := own_cell ho.r rfl
  have hg : g < W.heap.size := own_lt ho.r g rfl
  clear ho hm hn
  go_upto_region 2 with fail
  obtain ⟨b1, hb1⟩ : ∃ b, b = W.heap.size := ⟨_, rfl⟩
  rw [← hb1]
  obtain ⟨V, hV⟩ : ∃ V, V = W.alloc (.cells #[.slice ma mn mc, .slice (some ⟨g, 0, none⟩) 1 cap] 31) := ⟨_, rfl⟩
  rw [← hV]
  obtain ⟨q2, r2, _⟩ := box_at W _ hV hb1
  have c2 : V.cell? ⟨g, 1, none⟩ = some (.slice (some ⟨g2, 0, none⟩) 1 cap2) := by rw [q2.cell (p := ⟨g, 1, none⟩) hg]; exact c1
  have HV : Hid (Below w.heap.size w V ∧ g < V.heap.size) := ⟨bel_up q q2 q.size, Nat.lt_of_lt_of_le hg q2.size⟩
  have h3 := h2 V
  clear hV hb1 q2 c1 q h2
  go_wp2_with fail
  refine h3.mono ?_
  rintro e Y ⟨rfl, qY⟩
  have c3 : Y.cell? ⟨g, 1, none⟩ = some (.slice (some ⟨g2, 0, none⟩) 1 cap2) := by rw [qY.cell (p := ⟨g, 1, none⟩) HV.out.2]; exact c2
  have r3 := pf_block qY r2
  have HY : Hid (Below w.heap.size w Y) := bel_up HV.out.1 qY HV.out.1.size
  have hgY : g < Y.heap.size := Nat.lt_of_lt_of_le HV.out.2 qY.size
  clear h3 c2 r2 qY
  unfold faV
  go_upto_region 3 with fail
  obtain ⟨Z, hZ⟩ : ∃ Z, Z = Y.alloc (.cells #[.slice none 0 0, .slice none 0 0] 31) := ⟨_, rfl⟩
  rw [← hZ]
  obtain ⟨q4, _, _⟩ := box_at Y _ hZ rfl
  have c4 : Z.cell? ⟨g, 1, none⟩ = some (.slice (some ⟨g2, 0, none⟩) 1 cap2) := by rw [q4.cell (p := ⟨g, 1, none⟩) hgY]; exact c3
  obtain ⟨B0, B1⟩ := cells_two (pf_block q4 r3)
  have HZ : Hid (Below w.heap.size w Z) := bel_up HY.out q4 HY.out.size
  have hl := laid_below HW.out HZ.out
  have h5 := number_fault 6 23 Z hl
  clear hZ c3 r3 q4 hgY hl
  go_wp2_with fail
  refine h5.mono ?_
  rintro e U ⟨rfl, qU⟩
  have HU : Hid (Below w.heap.size w U) := bel_up HZ.out qU HZ.out.size
  have h6 := place_fault 6 23 U (laid_below HW.out HU.out)
  clear h5 qU B0 B1 c4
  go_wp2_with fail
  refine h6.mono ?_
  rintro e X ⟨rfl, qX⟩
  clear h6
  go_wp2_with fail
  go_ret
  exact ⟨rfl, bel_up HU.out qX HU.out.size⟩
end Go.Proofs.YtejhgifadohbiaaGreatDoor
