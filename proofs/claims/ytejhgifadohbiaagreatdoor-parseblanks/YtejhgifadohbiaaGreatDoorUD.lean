/- What text's Clause and link do. -/
import Derived.Test.YtejhgifadohbiaaGreatDoorUC
import Derived.Test.YtejhgifadohbiaaGreatDoorOW
namespace Go.Proofs.YtejhgifadohbiaaGreatDoor
open Go.RowKit Go.Lib

/-- A clause, a link as values. -/
def clV (c : ClD) : Value := .agg #[.bool c.any, .int .u32 c.a, .int .i64 c.b, .int .u8 c.wi, .int .u8 c.ou, .bool c.drop, .int .u8 c.se, .int .u8 c.cl, .int .i64 c.more, .int .i64 c.pref]
theorem words_str (c : ClD) (on dr s1 s2 s3 s4 s5 s6 : ByteArray) (e0 : on = ⟨(onT c).toArray⟩) (e1 : dr = ⟨(dropT c).toArray⟩) (h1 : s1 = ⟨(tagsT [119, 105, 116, 104] c.wi).toArray⟩) (h2 : s2 = ⟨(tagsT [111, 117, 116] c.ou).toArray⟩)
    (h3 : s3 = ⟨(tagsT [115, 101, 116] c.se).toArray⟩) (h4 : s4 = ⟨(tagsT [99, 108, 101, 97, 114] c.cl).toArray⟩) (h5 : s5 = ⟨(numT [109, 111, 114, 101] c.more).toArray⟩) (h6 : s6 = ⟨(numT [112, 114, 101, 102] c.pref).toArray⟩) :
    (⟨#[105, 102, 32]⟩ ++ on ++ s1 ++ s2 ++ ⟨#[32, 116, 104, 101, 110]⟩ ++ dr ++ s3 ++ s4 ++ s5 ++ s6 : ByteArray) = ⟨(wordsT c).toArray⟩ := by
  subst e0 e1 h1 h2 h3 h4 h5 h6
  have d1 : (⟨#[105, 102, 32]⟩ : ByteArray) = ⟨([105, 102, 32] : List UInt8).toArray⟩ := rfl
  have d2 : (⟨#[32, 116, 104, 101, 110]⟩ : ByteArray) = ⟨([32, 116, 104, 101, 110] : List UInt8).toArray⟩ := rfl
  rw [d1, d2]
  simp only [str_add]
  rfl
set_option maxHeartbeats 8000000 in
set_option maxRecDepth 20000 in
theorem clause_ways (c : ClD) (hc : c.ok) (w : World) (ht : TabP w) :
    Calls Tryz.prog 16 #[clV c] w fun e w' => e = .returned (.string ⟨(lineT c).toArray⟩) ∧ Below w.heap.size w w' := by
  obtain ⟨any, a, b, wi, ou, drop, se, cl, more, pref⟩ := c
  have hw := words_len hc
  have ho := on_len hc
  have hd := drop_len ⟨any, a, b, wi, ou, drop, se, cl, more, pref⟩
  have l1 := tags_len [119, 105, 116, 104] wi
  have l2 := tags_len [111, 117, 116] ou
  have l3 := tags_len [115, 101, 116] se
  have l4 := tags_len [99, 108, 101, 97, 114] cl
  have l5 := num_len [109, 111, 114, 101] hc.m0 hc.m1
  have l6 := num_len [112, 114, 101, 102] hc.p0 hc.p1
  have c0 := pft_any a b hc.a
  have c1 := tags_s ⟨#[119, 105, 116, 104]⟩ (by decide) wi hc.wi
  have c2 := tags_s ⟨#[111, 117, 116]⟩ (by decide) ou hc.ou
  have c3 := tags_s ⟨#[115, 101, 116]⟩ (by decide) se hc.se
  have c4 := tags_s ⟨#[99, 108, 101, 97, 114]⟩ (by decide) cl hc.cl
  have c5 := txnum_any ⟨#[109, 111, 114, 101]⟩ (by decide) more hc.m0 hc.m1
  have c6 := txnum_any ⟨#[112, 114, 101, 102]⟩ (by decide) pref hc.p0 hc.p1
  have c7 := inner_any (wordsT ⟨any, a, b, wi, ou, drop, se, cl, more, pref⟩) (by omega)
  clear c7
  obtain ⟨s1, e1⟩ : ∃ x : ByteArray, x = ⟨(tagsT [119, 105, 116, 104] wi).toArray⟩ := ⟨_, rfl⟩
  obtain ⟨s2, e2⟩ : ∃ x : ByteArray, x = ⟨(tagsT [111, 117, 116] ou).toArray⟩ := ⟨_, rfl⟩
  obtain ⟨s3, e3⟩ : ∃ x : ByteArray, x = ⟨(tagsT [115, 101, 116] se).toArray⟩ := ⟨_, rfl⟩
  obtain ⟨s4, e4⟩ : ∃ x : ByteArray, x = ⟨(tagsT [99, 108, 101, 97, 114] cl).toArray⟩ := ⟨_, rfl⟩
  obtain ⟨s5, e5⟩ : ∃ x : ByteArray, x = ⟨(numT [109, 111, 114, 101] more).toArray⟩ := ⟨_, rfl⟩
  obtain ⟨s6, e6⟩ : ∃ x : ByteArray, x = ⟨(numT [112, 114, 101, 102] pref).toArray⟩ := ⟨_, rfl⟩
  change ∀ w, TabP w → Calls _ _ _ w fun e w' => e = .returned (.string ⟨(tagsT [119, 105, 116, 104] wi).toArray⟩) ∧ Below w.heap.size w w' at c1
  change ∀ w, TabP w → Calls _ _ _ w fun e w' => e = .returned (.string ⟨(tagsT [111, 117, 116] ou).toArray⟩) ∧ Below w.heap.size w w' at c2
  change ∀ w, TabP w → Calls _ _ _ w fun e w' => e = .returned (.string ⟨(tagsT [115, 101, 116] se).toArray⟩) ∧ Below w.heap.size w w' at c3
  change ∀ w, TabP w → Calls _ _ _ w fun e w' => e = .returned (.string ⟨(tagsT [99, 108, 101, 97, 114] cl).toArray⟩) ∧ Below w.heap.size w w' at c4
  change ∀ w, TabP w → Calls _ _ _ w fun e w' => e = .returned (.string ⟨(numT [109, 111, 114, 101] more).toArray⟩) ∧ Below w.heap.size w w' at c5
  change ∀ w, TabP w → Calls _ _ _ w fun e w' => e = .returned (.string ⟨(numT [112, 114, 101, 102] pref).toArray⟩) ∧ Below w.heap.size w w' at c6
  rw [← e1] at c1
  rw [← e2] at c2
  rw [← e3] at c3
  rw [← e4] at c4
  rw [← e5] at c5
  rw [← e6] at c6
  have z1 : s1.size ≤ 20 := by rw [e1, str_size]; simp at l1; omega
  have z2 : s2.size ≤ 20 := by rw [e2, str_size]; simp at l2; omega
  have z3 : s3.size ≤ 20 := by rw [e3, str_size]; simp at l3; omega
  have z4 : s4.size ≤ 20 := by rw [e4, str_size]; simp at l4; omega
  have z5 : s5.size ≤ 40 := by rw [e5, str_size]; simp at l5; omega
  have z6 : s6.size ≤ 40 := by rw [e6, str_size]; simp at l6; omega
  clear l1 l2 l3 l4 l5 l6
  have HW : Hid (∀ on dr : ByteArray, on = ⟨(onT ⟨any, a, b, wi, ou, drop, se, cl, more, pref⟩).toArray⟩ → dr = ⟨(dropT ⟨any, a, b, wi, ou, drop, se, cl, more, pref⟩).toArray⟩ →
      ∀ w, Calls Tryz.prog 17 #[.string (⟨#[105, 102, 32]⟩ ++ on ++ s1 ++ s2 ++ ⟨#[32, 116, 104, 101, 110]⟩ ++ dr ++ s3 ++ s4 ++ s5 ++ s6)] w fun e w' => e = .returned (.string ⟨(lineT ⟨any, a, b, wi, ou, drop, se, cl, more, pref⟩).toArray⟩) ∧ w' = w) := by
    intro on dr e0 e7 w
    rw [words_str _ on dr s1 s2 s3 s4 s5 s6 e0 e7 e1 e2 e3 e4 e5 e6]
    exact inner_any _ (by omega) w
  clear e1 e2 e3 e4 e5 e6 hw
  have k1 : (⟨#[105, 102, 32]⟩ : ByteArray).size = 3 := rfl
  have k2 : (⟨#[32, 116, 104, 101, 110]⟩ : ByteArray).size = 5 := rfl
  unfold clV
  dsimp only
  cases any with
  | false =>
    obtain ⟨on, hon⟩ : ∃ x : ByteArray, x = ⟨(pfT a b).toArray⟩ := ⟨_, rfl⟩
    rw [← hon] at c0
    have zo : on.size ≤ 20 := by rw [hon, str_size]; have := pf_len a b hc.a; omega
    unfold pfV at c0
    cases drop with
    | false =>
      have c7 := HW.out on ⟨#[]⟩ hon rfl
      clear HW hon hd ho hc
      have k4 : (⟨#[]⟩ : ByteArray).size = 0 := rfl
      go_enter Tryz.func16, Tryz.ntmps16
      go_wp2_with fail
      obtain ⟨b1, hb1⟩ : ∃ b1, b1 = w.heap.size := ⟨_, rfl⟩
      rw [← hb1]
      obtain ⟨U, hU⟩ : ∃ U, U = w.alloc (.cells #[.bool false, .int .u32 a, .int .i64 b, .int .u8 wi, .int .u8 ou, .bool false, .int .u8 se, .int .u8 cl, .int .i64 more, .int .i64 pref] 65) := ⟨_, rfl⟩
      rw [← hU]
      obtain ⟨hwU, hcU, _⟩ := box_at w _ hU hb1
      have hT := ht.below hwU
      clear hU hb1
      refine (c0 _ hT).mono ?_
      rintro e V ⟨rfl, q⟩
      have hwV := bel_up hwU q hwU.size
      have hcV := pf_block q hcU
      have hT2 := hT.below q
      clear c0 hwU hcU hT q
      obtain ⟨C0, C1, C2, C3, C4, C5, C6, C7, C8, C9⟩ := cells_ten hcV
      have lV := (Array.getElem?_eq_some_iff.1 hcV).1
      have E3 := fun p => bel_cell lV C3 p
      have E4 := fun p => bel_cell lV C4 p
      have E6 := fun p => bel_cell lV C6 p
      have E7 := fun p => bel_cell lV C7 p
      have E8 := fun p => bel_cell lV C8 p
      have E9 := fun p => bel_cell lV C9 p
      have HT : ∀ p : BelOf V, TabP p.w := fun p => hT2.below p.h
      clear hcV hT2 C0 C1 C2 C3 C4 C6 C7 C8 C9
      go_wp2_with fail
      have hne := bel_ne V
      refine wp_region_bel (by kernel_rfl) (by kernel_rfl) ?_
      repeat (go_big_quiet_step (first
        | (go_at_call 17; exact bel_same (c7 _))
        | (go_at_call 30; first | (with_reducible exact bel_of (c1 _ (HT _))) | (with_reducible exact bel_of (c2 _ (HT _))) | (with_reducible exact bel_of (c3 _ (HT _))) | (with_reducible exact bel_of (c4 _ (HT _))))
        | (go_at_call 31; first | (with_reducible exact bel_of (c5 _ (HT _))) | (with_reducible exact bel_of (c6 _ (HT _))))))
      refine wpQuiet_nil ?_
      rintro W ⟨⟨W', hW⟩, rfl⟩
      clear c1 c2 c3 c4 c5 c6 c7 HT E3 E4 E6 E7 E8 E9 hne
      go_wp2_with fail
      go_ret
      exact ⟨rfl, bel_up hwV hW hwV.size⟩
    | true =>
      have c7 := HW.out on ⟨#[32, 100, 114, 111, 112]⟩ hon rfl
      clear HW hon hd ho hc
      have k4 : (⟨#[32, 100, 114, 111, 112]⟩ : ByteArray).size = 5 := rfl
      go_enter Tryz.func16, Tryz.ntmps16
      go_wp2_with fail
      obtain ⟨b1, hb1⟩ : ∃ b1, b1 = w.heap.size := ⟨_, rfl⟩
      rw [← hb1]
      obtain ⟨U, hU⟩ : ∃ U, U = w.alloc (.cells #[.bool false, .int .u32 a, .int .i64 b, .int .u8 wi, .int .u8 ou, .bool true, .int .u8 se, .int .u8 cl, .int .i64 more, .int .i64 pref] 65) := ⟨_, rfl⟩
      rw [← hU]
      obtain ⟨hwU, hcU, _⟩ := box_at w _ hU hb1
      have hT := ht.below hwU
      clear hU hb1
      refine (c0 _ hT).mono ?_
      rintro e V ⟨rfl, q⟩
      have hwV := bel_up hwU q hwU.size
      have hcV := pf_block q hcU
      have hT2 := hT.below q
      clear c0 hwU hcU hT q
      obtain ⟨C0, C1, C2, C3, C4, C5, C6, C7, C8, C9⟩ := cells_ten hcV
      have lV := (Array.getElem?_eq_some_iff.1 hcV).1
      have E3 := fun p => bel_cell lV C3 p
      have E4 := fun p => bel_cell lV C4 p
      have E6 := fun p => bel_cell lV C6 p
      have E7 := fun p => bel_cell lV C7 p
      have E8 := fun p => bel_cell lV C8 p
      have E9 := fun p => bel_cell lV C9 p
      have HT : ∀ p : BelOf V, TabP p.w := fun p => hT2.below p.h
      clear hcV hT2 C0 C1 C2 C3 C4 C6 C7 C8 C9
      go_wp2_with fail
      have hne := bel_ne V
      refine wp_region_bel (by kernel_rfl) (by kernel_rfl) ?_
      repeat (go_big_quiet_step (first
        | (go_at_call 17; exact bel_same (c7 _))
        | (go_at_call 30; first | (with_reducible exact bel_of (c1 _ (HT _))) | (with_reducible exact bel_of (c2 _ (HT _))) | (with_reducible exact bel_of (c3 _ (HT _))) | (with_reducible exact bel_of (c4 _ (HT _))))
        | (go_at_call 31; first | (with_reducible exact bel_of (c5 _ (HT _))) | (with_reducible exact bel_of (c6 _ (HT _))))))
      refine wpQuiet_nil ?_
      rintro W ⟨⟨W', hW⟩, rfl⟩
      clear c1 c2 c3 c4 c5 c6 c7 HT E3 E4 E6 E7 E8 E9 hne
      go_wp2_with fail
      go_ret
      exact ⟨rfl, bel_up hwV hW hwV.size⟩
  | true =>
    cases drop with
    | false =>
      have c7 := HW.out ⟨#[97, 110, 121]⟩ ⟨#[]⟩ rfl rfl
      clear HW c0 hd ho hc
      have k3 : (⟨#[97, 110, 121]⟩ : ByteArray).size = 3 := rfl
      have k4 : (⟨#[]⟩ : ByteArray).size = 0 := rfl
      go_enter Tryz.func16, Tryz.ntmps16
      go_wp2_with fail
      obtain ⟨b1, hb1⟩ : ∃ b1, b1 = w.heap.size := ⟨_, rfl⟩
      rw [← hb1]
      obtain ⟨U, hU⟩ : ∃ U, U = w.alloc (.cells #[.bool true, .int .u32 a, .int .i64 b, .int .u8 wi, .int .u8 ou, .bool false, .int .u8 se, .int .u8 cl, .int .i64 more, .int .i64 pref] 65) := ⟨_, rfl⟩
      rw [← hU]
      obtain ⟨hwU, hcU, _⟩ := box_at w _ hU hb1
      have hT := ht.below hwU
      clear hU hb1
      obtain ⟨V, hV⟩ : ∃ V, V = U := ⟨_, rfl⟩
      have hwV : Below w.heap.size w V := by rw [hV]; exact hwU
      have hcV : V.heap[b1]? = some (.cells #[.bool true, .int .u32 a, .int .i64 b, .int .u8 wi, .int .u8 ou, .bool false, .int .u8 se, .int .u8 cl, .int .i64 more, .int .i64 pref] 65 (0, 0)) := by rw [hV]; exact hcU
      have hT2 : TabP V := by rw [hV]; exact hT
      rw [← hV]
      clear hwU hcU hT hV
      obtain ⟨C0, C1, C2, C3, C4, C5, C6, C7, C8, C9⟩ := cells_ten hcV
      have lV := (Array.getElem?_eq_some_iff.1 hcV).1
      have E3 := fun p => bel_cell lV C3 p
      have E4 := fun p => bel_cell lV C4 p
      have E6 := fun p => bel_cell lV C6 p
      have E7 := fun p => bel_cell lV C7 p
      have E8 := fun p => bel_cell lV C8 p
      have E9 := fun p => bel_cell lV C9 p
      have HT : ∀ p : BelOf V, TabP p.w := fun p => hT2.below p.h
      clear hcV hT2 C0 C1 C2 C3 C4 C6 C7 C8 C9
      go_wp2_with fail
      have hne := bel_ne V
      refine wp_region_bel (by kernel_rfl) (by kernel_rfl) ?_
      repeat (go_big_quiet_step (first
        | (go_at_call 17; exact bel_same (c7 _))
        | (go_at_call 30; first | (with_reducible exact bel_of (c1 _ (HT _))) | (with_reducible exact bel_of (c2 _ (HT _))) | (with_reducible exact bel_of (c3 _ (HT _))) | (with_reducible exact bel_of (c4 _ (HT _))))
        | (go_at_call 31; first | (with_reducible exact bel_of (c5 _ (HT _))) | (with_reducible exact bel_of (c6 _ (HT _))))))
      refine wpQuiet_nil ?_
      rintro W ⟨⟨W', hW⟩, rfl⟩
      clear c1 c2 c3 c4 c5 c6 c7 HT E3 E4 E6 E7 E8 E9 hne
      go_wp2_with fail
      go_ret
      exact ⟨rfl, bel_up hwV hW hwV.size⟩
    | true =>
      have c7 := HW.out ⟨#[97, 110, 121]⟩ ⟨#[32, 100, 114, 111, 112]⟩ rfl rfl
      clear HW c0 hd ho hc
      have k3 : (⟨#[97, 110, 121]⟩ : ByteArray).size = 3 := rfl
      have k4 : (⟨#[32, 100, 114, 111, 112]⟩ : ByteArray).size = 5 := rfl
      go_enter Tryz.func16, Tryz.ntmps16
      go_wp2_with fail
      obtain ⟨b1, hb1⟩ : ∃ b1, b1 = w.heap.size := ⟨_, rfl⟩
      rw [← hb1]
      obtain ⟨U, hU⟩ : ∃ U, U = w.alloc (.cells #[.bool true, .int .u32 a, .int .i64 b, .int .u8 wi, .int .u8 ou, .bool true, .int .u8 se, .int .u8 cl, .int .i64 more, .int .i64 pref] 65) := ⟨_, rfl⟩
      rw [← hU]
      obtain ⟨hwU, hcU, _⟩ := box_at w _ hU hb1
      have hT := ht.below hwU
      clear hU hb1
      obtain ⟨V, hV⟩ : ∃ V, V = U := ⟨_, rfl⟩
      have hwV : Below w.heap.size w V := by rw [hV]; exact hwU
      have hcV : V.heap[b1]? = some (.cells #[.bool true, .int .u32 a, .int .i64 b, .int .u8 wi, .int .u8 ou, .bool true, .int .u8 se, .int .u8 cl, .int .i64 more, .int .i64 pref] 65 (0, 0)) := by rw [hV]; exact hcU
      have hT2 : TabP V := by rw [hV]; exact hT
      rw [← hV]
      clear hwU hcU hT hV
      obtain ⟨C0, C1, C2, C3, C4, C5, C6, C7, C8, C9⟩ := cells_ten hcV
      have lV := (Array.getElem?_eq_some_iff.1 hcV).1
      have E3 := fun p => bel_cell lV C3 p
      have E4 := fun p => bel_cell lV C4 p
      have E6 := fun p => bel_cell lV C6 p
      have E7 := fun p => bel_cell lV C7 p
      have E8 := fun p => bel_cell lV C8 p
      have E9 := fun p => bel_cell lV C9 p
      have HT : ∀ p : BelOf V, TabP p.w := fun p => hT2.below p.h
      clear hcV hT2 C0 C1 C2 C3 C4 C6 C7 C8 C9
      go_wp2_with fail
      have hne := bel_ne V
      refine wp_region_bel (by kernel_rfl) (by kernel_rfl) ?_
      repeat (go_big_quiet_step (first
        | (go_at_call 17; exact bel_same (c7 _))
        | (go_at_call 30; first | (with_reducible exact bel_of (c1 _ (HT _))) | (with_reducible exact bel_of (c2 _ (HT _))) | (with_reducible exact bel_of (c3 _ (HT _))) | (with_reducible exact bel_of (c4 _ (HT _))))
        | (go_at_call 31; first | (with_reducible exact bel_of (c5 _ (HT _))) | (with_reducible exact bel_of (c6 _ (HT _))))))
      refine wpQuiet_nil ?_
      rintro W ⟨⟨W', hW⟩, rfl⟩
      clear c1 c2 c3 c4 c5 c6 c7 HT E3 E4 E6 E7 E8 E9 hne
      go_wp2_with fail
      go_ret
      exact ⟨rfl, bel_up hwV hW hwV.size⟩
end Go.Proofs.YtejhgifadohbiaaGreatDoor
