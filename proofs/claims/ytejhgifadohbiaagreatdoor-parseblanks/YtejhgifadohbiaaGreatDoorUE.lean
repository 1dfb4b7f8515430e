/- What text's link does. -/
import Derived.Test.YtejhgifadohbiaaGreatDoorUD
import Derived.Test.YtejhgifadohbiaaGreatDoorOW
namespace Go.Proofs.YtejhgifadohbiaaGreatDoor
open Go.RowKit Go.Lib

/-- A link as a value. -/
def lkV (l : LkD) : Value := .agg #[.string ⟨l.peer.toArray⟩, .int .i64 l.cost, .string ⟨l.imp.toArray⟩, .string ⟨l.exp.toArray⟩, .int .i64 l.pl]
theorem link_str (l : LkD) (P s1 s2 s3 : ByteArray) (e0 : P = ⟨l.peer.toArray⟩) (e1 : s1 = ⟨(itoa l.cost).toArray⟩) (e2 : s2 = ⟨(nmT [105, 109, 112, 111, 114, 116] l.imp).toArray⟩) (e3 : s3 = ⟨(nmT [101, 120, 112, 111, 114, 116] l.exp).toArray⟩) :
    (⟨#[108, 105, 110, 107, 32]⟩ ++ P ++ ⟨#[32, 99, 111, 115, 116, 32]⟩ ++ s1 ++ s2 ++ s3 : ByteArray) = ⟨(linkW l).toArray⟩ := by
  subst e0 e1 e2 e3
  have d1 : (⟨#[108, 105, 110, 107, 32]⟩ : ByteArray) = ⟨([108, 105, 110, 107, 32] : List UInt8).toArray⟩ := rfl
  have d2 : (⟨#[32, 99, 111, 115, 116, 32]⟩ : ByteArray) = ⟨([32, 99, 111, 115, 116, 32] : List UInt8).toArray⟩ := rfl
  rw [d1, d2]
  simp only [str_add]
  rfl
set_option maxHeartbeats 4000000 in
set_option maxRecDepth 20000 in
theorem link_any (l : LkD) (hl : l.ok) (hb : l.bulk ≤ 68719476736) (w : World) (ht : TabP w) :
    Calls Tryz.prog 19 #[lkV l] w fun e w' => e = .returned (.string ⟨(linkT l).toArray⟩) ∧ Below w.heap.size w w' := by
  obtain ⟨peer, cost, imp, exp, pl⟩ := l
  unfold LkD.bulk at hb
  dsimp only at hb
  have c1 := itoa_all cost hl.c0 hl.c1
  have l1 := itoa_len hl.c0 hl.c1
  have l2 := nm_len [105, 109, 112, 111, 114, 116] imp
  have l3 := nm_len [101, 120, 112, 111, 114, 116] exp
  have c2 := fun w => name_s ⟨#[105, 109, 112, 111, 114, 116]⟩ ⟨imp.toArray⟩ (by decide) (by rw [str_size]; omega) w
  have c3 := fun w => name_s ⟨#[101, 120, 112, 111, 114, 116]⟩ ⟨exp.toArray⟩ (by decide) (by rw [str_size]; omega) w
  obtain ⟨s1, e1⟩ : ∃ x : ByteArray, x = ⟨(itoa cost).toArray⟩ := ⟨_, rfl⟩
  obtain ⟨s2, e2⟩ : ∃ x : ByteArray, x = ⟨(nmT [105, 109, 112, 111, 114, 116] imp).toArray⟩ := ⟨_, rfl⟩
  obtain ⟨s3, e3⟩ : ∃ x : ByteArray, x = ⟨(nmT [101, 120, 112, 111, 114, 116] exp).toArray⟩ := ⟨_, rfl⟩
  obtain ⟨P, e0⟩ : ∃ x : ByteArray, x = ⟨peer.toArray⟩ := ⟨_, rfl⟩
  obtain ⟨I, e4⟩ : ∃ x : ByteArray, x = ⟨imp.toArray⟩ := ⟨_, rfl⟩
  obtain ⟨X, e5⟩ : ∃ x : ByteArray, x = ⟨exp.toArray⟩ := ⟨_, rfl⟩
  change ∀ w, Calls _ _ _ w fun e w' => e = .returned (.string ⟨(nmT [105, 109, 112, 111, 114, 116] imp).toArray⟩) ∧ w' = w at c2
  change ∀ w, Calls _ _ _ w fun e w' => e = .returned (.string ⟨(nmT [101, 120, 112, 111, 114, 116] exp).toArray⟩) ∧ w' = w at c3
  rw [← e1] at c1
  rw [← e2, ← e4] at c2
  rw [← e3, ← e5] at c3
  have z0 : P.size ≤ 68719476736 := by rw [e0, str_size]; omega
  have z1 : s1.size ≤ 20 := by rw [e1, str_size]; omega
  have z2 : s2.size ≤ 68719476750 := by rw [e2, str_size]; simp at l2; omega
  have z3 : s3.size ≤ 68719476750 := by rw [e3, str_size]; simp at l3; omega
  have c4 : ∀ w, Calls Tryz.prog 17 #[.string (⟨#[108, 105, 110, 107, 32]⟩ ++ P ++ ⟨#[32, 99, 111, 115, 116, 32]⟩ ++ s1 ++ s2 ++ s3)] w fun e w' => e = .returned (.string ⟨(linkT ⟨peer, cost, imp, exp, pl⟩).toArray⟩) ∧ w' = w := by
    intro w
    rw [link_str ⟨peer, cost, imp, exp, pl⟩ P s1 s2 s3 e0 e1 e2 e3]
    refine inner_any _ ?_ w
    unfold linkW
    simp only [List.length_append, List.length_cons, List.length_nil] at *
    omega
  unfold lkV
  dsimp only
  rw [← e0, ← e4, ← e5]
  have k1 : (⟨#[108, 105, 110, 107, 32]⟩ : ByteArray).size = 5 := rfl
  have k2 : (⟨#[32, 99, 111, 115, 116, 32]⟩ : ByteArray).size = 6 := rfl
  clear e0 e1 e2 e3 e4 e5 l1 l2 l3 hl hb
  go_enter Tryz.func19, Tryz.ntmps19
  go_wp2_with fail
  obtain ⟨b1, hb1⟩ : ∃ b1, b1 = w.heap.size := ⟨_, rfl⟩
  rw [← hb1]
  obtain ⟨V, hV⟩ : ∃ U, U = w.alloc (.cells #[.string P, .int .i64 cost, .string I, .string X, .int .i64 pl] 70) := ⟨_, rfl⟩
  rw [← hV]
  obtain ⟨hwV, hcV, lV⟩ := box_at w _ hV hb1
  have hT2 := ht.below hwV
  clear hV hb1
  obtain ⟨C0, C1, C2, C3, C4⟩ := cells_five hcV
  have E0 := fun p => bel_cell lV C0 p
  have E1 := fun p => bel_cell lV C1 p
  have E2 := fun p => bel_cell lV C2 p
  have E3 := fun p => bel_cell lV C3 p
  have HT : ∀ p : BelOf V, TabP p.w := fun p => hT2.below p.h
  clear hcV hT2 C0 C1 C2 C3 C4
  have hne := bel_ne V
  refine wp_region_bel (by kernel_rfl) (by kernel_rfl) ?_
  repeat (go_big_quiet_step (first
    | (go_at_call 17; exact bel_same (c4 _))
    | (go_at_call 34; exact bel_of (c1 _ (HT _)))
    | (go_at_call 35; first | (with_reducible exact bel_same (c2 _)) | (with_reducible exact bel_same (c3 _)))))
  refine wpQuiet_nil ?_
  rintro W ⟨⟨W', hW⟩, rfl⟩
  clear c1 c2 c3 c4 HT E0 E1 E2 E3 hne
  go_wp2_with fail
  go_ret
  exact ⟨rfl, bel_up hwV hW hwV.size⟩
end Go.Proofs.YtejhgifadohbiaaGreatDoor
