/- What text.Same does. -/
import Derived.Test.YtejhgifadohbiaaGreatDoorUI
namespace Go.Proofs.YtejhgifadohbiaaGreatDoor
open Go.RowKit Go.Lib

set_option maxHeartbeats 4000000 in
set_option maxRecDepth 20000 in
theorem same_any (c1 c2 : CfD) (ok1 : c1.ok) (ok2 : c2.ok) (bk1 : c1.bulk ≤ 68719476736) (bk2 : c2.bulk ≤ 68719476736) (v1 v2 : Value) (w : World) (h1 : CfAt w w.heap.size v1 c1) (h2 : CfAt w w.heap.size v2 c2) (ht : TabP w) (T1 T2 : ByteArray)
    (hT1 : T1 = ⟨(confT c1).toArray⟩) (hT2 : T2 = ⟨(confT c2).toArray⟩) : Calls Tryz.prog 11 #[v1, v2] w fun e w' => e = .returned (.bool (T1.toList == T2.toList)) ∧ Below w.heap.size w w' := by
  have k1 := fun (p : BelOf w) => tconf_any c1 ok1 bk1 v1 p.w (h1.keep p.h.size (cells_below p.h (Nat.le_refl _))) (ht.below p.h)
  have k2 := fun (p : BelOf w) => tconf_any c2 ok2 bk2 v2 p.w (h2.keep p.h.size (cells_below p.h (Nat.le_refl _))) (ht.below p.h)
  rw [← hT1] at k1
  rw [← hT2] at k2
  obtain ⟨m1, r1, rfl, ⟨a1, p1, rfl, _⟩, ⟨a2, p2, rfl, _⟩⟩ := h1
  obtain ⟨m2, r2, rfl, ⟨a3, p3, rfl, _⟩, ⟨a4, p4, rfl, _⟩⟩ := h2
  generalize c1.maps.length = n1, c1.ros.length = n2, c2.maps.length = n3, c2.ros.length = n4 at k1 k2 ⊢
  clear hT1 hT2 ht bk1 bk2 ok1 ok2
  go_enter Tryz.func11, Tryz.ntmps11
  go_wp2_with fail
  obtain ⟨b1, hb1⟩ : ∃ b, b = w.heap.size := ⟨_, rfl⟩
  obtain ⟨b2, hb2⟩ : ∃ b, b = w.heap.size + 1 := ⟨_, rfl⟩
  rw [← hb2, ← hb1]
  obtain ⟨U1, hU1⟩ : ∃ U, U = w.alloc (.cells #[.slice a1 n1 p1, .slice a2 n2 p2] 31) := ⟨_, rfl⟩
  rw [← hU1]
  obtain ⟨U, hU⟩ : ∃ U, U = U1.alloc (.cells #[.slice a3 n3 p3, .slice a4 n4 p4] 31) := ⟨_, rfl⟩
  rw [← hU]
  obtain ⟨q1, r1, _⟩ := box_at w _ hU1 hb1
  obtain ⟨q2, r2, _⟩ := box_at U1 _ hU (b := b2) (by rw [hU1, hb2]; simp)
  have QU : Hid (Below w.heap.size w U) := bel_up q1 q2 q1.size
  have r1U := pf_block q2 r1
  have l1 := (Array.getElem?_eq_some_iff.1 r1U).1
  have l2 := (Array.getElem?_eq_some_iff.1 r2).1
  have E0 := fun p => bel_cell l1 (cells_two r1U).1 p
  have E1 := fun p => bel_cell l1 (cells_two r1U).2 p
  have E2 := fun p => bel_cell l2 (cells_two r2).1 p
  have E3 := fun p => bel_cell l2 (cells_two r2).2 p
  have j1 := fun (p : BelOf U) => k1 ⟨p.w, bel_up QU.out p.h QU.out.size⟩
  have j2 := fun (p : BelOf U) => k2 ⟨p.w, bel_up QU.out p.h QU.out.size⟩
  have hne := bel_ne U
  clear hU hU1 hb1 hb2 q1 q2 r1 r2 r1U l1 l2 k1 k2
  refine wp_region_bel (by kernel_rfl) (by kernel_rfl) ?_
  repeat (go_big_quiet_step (first
    | (go_at_call 8; with_reducible exact bel_of (j1 _))
    | (go_at_call 8; with_reducible exact bel_of (j2 _))))
  refine wpQuiet_nil ?_
  rintro X ⟨⟨X', hX⟩, rfl⟩
  clear j1 j2 E0 E1 E2 E3 hne
  go_wp2_with fail
  go_ret
  exact ⟨rfl, bel_up QU.out hX QU.out.size⟩
end Go.Proofs.YtejhgifadohbiaaGreatDoor
