/- CheckAny: what it walks. -/
import Derived.Test.YtcjdjifooaeomaaDoorDI
import Derived.Test.YtcjdjifooaeomaaDoorDN
namespace Go.Proofs.YtcjdjifooaeomaaDoor
open Go.RowKit Go.Lib

set_option maxHeartbeats 8000000 in
set_option maxRecDepth 20000 in
theorem checkAny_walk (c : CfD) (hf : c.fit) (v : Value) (w : World) (hv : CfC w w.heap.size v c) (hl : Laid w) :
    Calls Tryd.prog 5 #[v] w fun e w' => e = .returned (.bool true) ∧ Below w.heap.size w w' := by
  have HV : Hid (CfC w w.heap.size v c) := hv
  obtain ⟨mv, rv, rfl, ⟨am, cm, rfl, _⟩, ⟨ar, cr, rfl, _⟩, _⟩ := hv
  have HL : Hid (Laid w) := hl
  have HF : Hid c.fit := hf
  obtain ⟨n, hn⟩ : ∃ n, n = c.maps.length := ⟨_, rfl⟩
  obtain ⟨n2, hn2⟩ : ∃ n, n = c.ros.length := ⟨_, rfl⟩
  rw [← hn, ← hn2] at HV ⊢
  clear hn hn2 hl hf
  go_enter Tryd.func5, Tryd.ntmps5
  go_upto_region 1 with fail
  obtain ⟨b1, hb1⟩ : ∃ b, b = w.heap.size := ⟨_, rfl⟩
  rw [← hb1]
  obtain ⟨U, hU⟩ : ∃ U, U = w.alloc (.cells #[.slice am n cm, .slice ar n2 cr] 33) := ⟨_, rfl⟩
  rw [← hU]
  obtain ⟨q1, r1, _⟩ := box_at w _ hU hb1
  have QU : Hid (Below w.heap.size w U ∧ U.heap[b1]? = some (.cells #[.slice am n cm, .slice ar n2 cr] 33 (0, 0))) := ⟨q1, r1⟩
  have h1 := awake9_any U (laid_below HL.out q1)
  clear hU hb1 q1 r1
  go_wp2_with fail
  refine h1.mono ?_
  rintro e V ⟨rfl, qV⟩
  have QV : Hid (Below w.heap.size w V ∧ V.heap[b1]? = some (.cells #[.slice am n cm, .slice ar n2 cr] 33 (0, 0))) := ⟨bel_up QU.out.1 qV QU.out.1.size, pf_block qV QU.out.2⟩
  obtain ⟨C0, C1⟩ := cells_two QV.out.2
  have h2 := config_any HF.out (HV.out.at.keep QV.out.1.size (cells_below QV.out.1 (Nat.le_refl _)))
  clear h1 qV
  go_wp2_with fail
  refine h2.mono ?_
  rintro e Y ⟨rfl, qY⟩
  have QY : Hid (Below w.heap.size w Y ∧ Y.heap[b1]? = some (.cells #[.slice am n cm, .slice ar n2 cr] 33 (0, 0))) := ⟨bel_up QV.out.1 qY QV.out.1.size, pf_block qY QV.out.2⟩
  clear C0 C1 h2 qY
  obtain ⟨C0, C1⟩ := cells_two QY.out.2
  have h3 := wrong9_any (HV.out.keep QY.out.1.size (cells_below QY.out.1 (Nat.le_refl _)))
  cases hw : wrongR c with
  | none =>
    rw [hw] at h3
    unfold wrV at h3
    unfold errV
    dsimp only at h3 ⊢
    clear hw
    go_wp2_with fail
    refine h3.mono ?_
    rintro e Z ⟨rfl, qZ⟩
    have QZ : Hid (Below w.heap.size w Z) := bel_up QY.out.1 qZ QY.out.1.size
    have h4 := number_nil Z
    clear C0 C1 h3 qZ
    go_wp2_with fail
    refine h4.mono ?_
    rintro e X ⟨rfl, qX⟩
    have QX : Hid (Below w.heap.size w X) := bel_up QZ.out qX QZ.out.size
    clear h4 qX
    go_wp2_with fail
    go_ret
    exact ⟨rfl, QX.out⟩
  | some e =>
    have hk := wrong_kind hw
    obtain ⟨no, pl⟩ := e
    rw [hw] at h3
    unfold wrV at h3
    unfold errV
    dsimp only at h3 hk ⊢
    have hn0 : ¬ (no : Int) = 0 := by omega
    have hn1 : ((no : Int) == 0) = false := by rw [beq_eq_false_iff_ne]; exact hn0
    clear hw hk
    go_wp2_with fail
    refine h3.mono ?_
    rintro e Z ⟨rfl, qZ⟩
    have QZ : Hid (Below w.heap.size w Z) := bel_up QY.out.1 qZ QY.out.1.size
    have h4 := number_fault no pl Z (laid_below HL.out QZ.out)
    clear C0 C1 h3 qZ
    go_wp2_with fail
    refine h4.mono ?_
    rintro e X ⟨rfl, qX⟩
    have QX : Hid (Below w.heap.size w X) := bel_up QZ.out qX QZ.out.size
    have h5 := place_fault no pl X (laid_below HL.out QX.out)
    clear h4 qX
    go_wp2_with fail
    refine h5.mono ?_
    rintro e X2 ⟨rfl, qX⟩
    have QX2 : Hid (Below w.heap.size w X2) := bel_up QX.out qX QX.out.size
    clear h5 qX
    go_wp2_with fail
    go_ret
    exact ⟨rfl, QX2.out⟩
end Go.Proofs.YtcjdjifooaeomaaDoor
