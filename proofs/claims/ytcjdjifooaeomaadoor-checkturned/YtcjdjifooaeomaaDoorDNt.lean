/- The law's own example. -/
import Derived.Test.YtcjdjifooaeomaaDoorDG
import Derived.Test.YtcjdjifooaeomaaDoorKQt
namespace Go.Proofs.YtcjdjifooaeomaaDoor
open Go.RowKit Go.Lib

def exC9 : CfD := ⟨[], [⟨[97], [], [⟨[98], 1, [], [], 7⟩], [], 0⟩, ⟨[98], [], [], [], 0⟩]⟩
theorem exC9_wrong : wrongR exC9 = some (5, 7) := by kernel_rfl
theorem exC9_fit : exC9.fit := by
  refine ⟨(fun m hm => by cases hm), fun r hr => ?_⟩
  simp [exC9] at hr
  rcases hr with rfl | rfl
  · exact ⟨by unfold NmOk; simp, (fun p hp => by cases hp), (fun l hl => by simp at hl; subst hl; exact ⟨by unfold NmOk; simp, by unfold NmOk; simp, by unfold NmOk; simp⟩), (fun s hs => by cases hs)⟩
  · exact ⟨by unfold NmOk; simp, (fun p hp => by cases hp), (fun p hp => by cases hp), (fun s hs => by cases hs)⟩
theorem sl_nil {α : Type} (B z : Nat) (el : Nat → Nat → α → Prop) : SliceAt B z el (.slice none 0 0) [] := ⟨none, 0, rfl, Nat.zero_le _, fun i x h => by simp at h⟩
theorem ex_lies {w U V : World} {b1 b2 : Nat} (h1 : U = w.alloc (.cells #[.string ⟨#[98]⟩, .int .i64 1, .string ⟨#[]⟩, .string ⟨#[]⟩, .int .i64 7] 50)) (hb1 : b1 = w.heap.size)
    (h2 : V = U.alloc (.cells #[.string ⟨#[97]⟩, .slice none 0 0, .slice (some ⟨b1, 0, none⟩) 1 1, .slice none 0 0, .int .i64 0, .string ⟨#[98]⟩, .slice none 0 0, .slice none 0 0, .slice none 0 0, .int .i64 0] 48)) (hb2 : b2 = U.heap.size) :
    CfAt V V.heap.size (.agg #[.slice none 0 0, .slice (some ⟨b2, 0, none⟩) 2 2]) exC9 ∧ Below w.heap.size w V := by
  obtain ⟨q1, r1, l1⟩ := box_at w _ h1 hb1
  obtain ⟨q2, r2, l2⟩ := box_at U _ h2 hb2
  have r1V := pf_block q2 r1
  have l1V := (Array.getElem?_eq_some_iff.1 r1V).1
  obtain ⟨c0, c1, c2, c3, c4⟩ := cells_five r1V
  obtain ⟨d0, d1, d2, d3, d4, d5, d6, d7, d8, d9⟩ := cells_ten r2
  refine ⟨⟨_, _, rfl, sl_nil _ _ _, some ⟨b2, 0, none⟩, 2, rfl, by simp [exC9], fun i x hx => ?_⟩, bel_up q1 q2 q1.size⟩
  match i, hx with
  | 0, hx =>
    obtain rfl := Option.some.inj hx
    refine ⟨b2, 0, rfl, l2, .slice none 0 0, .slice (some ⟨b1, 0, none⟩) 1 1, .slice none 0 0, d0, d1, d2, d3, d4, sl_nil _ _ _, ⟨some ⟨b1, 0, none⟩, 1, rfl, by simp, fun i x hx => ?_⟩, sl_nil _ _ _⟩
    match i, hx with
    | 0, hx =>
      obtain rfl := Option.some.inj hx
      exact ⟨b1, 0, rfl, l1V, c0, c1, c2, c3, c4⟩
    | i + 1, hx => simp at hx
  | 1, hx =>
    obtain rfl := Option.some.inj hx
    exact ⟨b2, 0, rfl, l2, .slice none 0 0, .slice none 0 0, .slice none 0 0, d5, d6, d7, d8, d9, sl_nil _ _ _, sl_nil _ _ _, sl_nil _ _ _⟩
  | i + 2, hx => simp [exC9] at hx
set_option maxHeartbeats 8000000 in
set_option maxRecDepth 20000 in
theorem awake9_any (w : World) (hw : Laid w) : Calls Tryd.prog 8 #[] w fun e w' => e = .returned (.bool true) ∧ Below w.heap.size w w' := by
  have HW : Hid (Laid w) := hw
  clear hw
  go_enter Tryd.func8, Tryd.ntmps8
  go_wp2_with fail
  obtain ⟨b1, hb1⟩ : ∃ b, b = w.heap.size := ⟨_, rfl⟩
  obtain ⟨b2, hb2⟩ : ∃ b, b = w.heap.size + 1 := ⟨_, rfl⟩
  rw [← hb2, ← hb1]
  obtain ⟨U, hU⟩ : ∃ U, U = w.alloc (.cells #[.string ⟨#[98]⟩, .int .i64 1, .string ⟨#[]⟩, .string ⟨#[]⟩, .int .i64 7] 50) := ⟨_, rfl⟩
  rw [← hU]
  obtain ⟨V, hV⟩ : ∃ V, V = U.alloc (.cells #[.string ⟨#[97]⟩, .slice none 0 0, .slice (some ⟨b1, 0, none⟩) 1 1, .slice none 0 0, .int .i64 0, .string ⟨#[98]⟩, .slice none 0 0, .slice none 0 0, .slice none 0 0, .int .i64 0] 48) := ⟨_, rfl⟩
  rw [← hV]
  obtain ⟨hcf, qV⟩ := ex_lies hU hb1 hV (b2 := b2) (by rw [hU, hb2]; simp)
  have QV : Hid (Below w.heap.size w V) := qV
  have h1 := config_any exC9_fit hcf
  rw [exC9_wrong] at h1
  clear hU hV hcf qV hb1 hb2
  refine h1.mono ?_
  rintro e X ⟨rfl, qX⟩
  have QX : Hid (Below w.heap.size w X) := bel_up QV.out qX QV.out.size
  have h2 := number_fault 5 7 X (laid_below HW.out QX.out)
  clear h1 qX
  unfold errV
  dsimp only
  go_wp2_with fail
  refine h2.mono ?_
  rintro e Y ⟨rfl, qY⟩
  have QY : Hid (Below w.heap.size w Y) := bel_up QX.out qY QX.out.size
  have h3 := place_fault 5 7 Y (laid_below HW.out QY.out)
  clear h2 qY
  go_wp2_with fail
  refine h3.mono ?_
  rintro e Z ⟨rfl, qZ⟩
  have QZ : Hid (Below w.heap.size w Z) := bel_up QY.out qZ QY.out.size
  clear h3 qZ
  go_wp2_with fail
  go_ret
  exact ⟨rfl, QZ.out⟩
end Go.Proofs.YtcjdjifooaeomaaDoor
