/- The law's own examples, and what TextClause walks. -/
import Derived.Test.YthelllciciohiaaDoorUK
import Derived.Test.YthelllciciohiaaDoorUJ
namespace Go.Proofs.YthelllciciohiaaDoor
open Go.RowKit Go.Lib

def exC : ClD := ⟨true, 0, 0, 5, 0, true, 0, 0, 0, 0⟩
def exF : CfD := ⟨[⟨[109], [], 0⟩], []⟩
theorem exC_ok : exC.ok := by constructor <;> decide
theorem exF_ok : exF.ok := by
  constructor
  · intro m hm
    simp only [exF, List.mem_singleton] at hm
    subst hm
    exact ⟨fun c hc => by cases hc⟩
  · intro r hr
    cases hr
theorem exC_text : lineT exC = [9, 105, 102, 32, 97, 110, 121, 32, 119, 105, 116, 104, 32, 48, 32, 50, 32, 116, 104, 101, 110, 32, 100, 114, 111, 112, 59, 10] := by decide
theorem exF_text : confT exF = [109, 97, 112, 32, 109, 32, 123, 10, 125, 10] := by decide
theorem slice_nil {α : Type} (B z : Nat) (el : Nat → Nat → α → Prop) : SliceAt B z el (.slice none 0 0) [] := ⟨none, 0, rfl, Nat.zero_le _, fun i x h => by simp at h⟩
theorem exF_at {U : World} {b : Nat} (hU : U.heap[b]? = some (.cells #[.string ⟨#[109]⟩, .slice none 0 0, .int .i64 0] 46 (0, 0))) : CfAt U U.heap.size (.agg #[.slice (some ⟨b, 0, none⟩) 1 1, .slice none 0 0]) exF := by
  obtain ⟨c0, c1, c2⟩ := cells_three hU
  refine ⟨_, _, rfl, ⟨_, _, rfl, by decide, fun i x hx => ?_⟩, slice_nil _ _ _⟩
  match i, hx with
  | 0, hx =>
    simp only [exF, List.getElem?_cons_zero, Option.some.injEq] at hx
    subst hx
    exact ⟨b, 0, rfl, (Array.getElem?_eq_some_iff.1 hU).1, .slice none 0 0, c0, c1, c2, slice_nil _ _ _⟩
  | i + 1, hx => simp [exF] at hx
set_option maxHeartbeats 4000000 in
set_option maxRecDepth 20000 in
theorem awake7_any (w : World) (ht : TabP w) : Calls Tryd.prog 9 #[] w fun e w' => e = .returned (.bool true) ∧ Below w.heap.size w w' := by
  have h1 := clause_ways exC exC_ok
  rw [exC_text] at h1
  unfold clV exC at h1
  dsimp only at h1
  have h2 := tconf_any exF exF_ok (by decide)
  rw [exF_text] at h2
  go_enter Tryd.func9, Tryd.ntmps9
  go_wp2_with fail
  refine (h1 _ ht).mono ?_
  rintro e w1 ⟨rfl, q1⟩
  have ht1 := ht.below q1
  go_wp2_with fail
  obtain ⟨b1, hb1⟩ : ∃ b, b = w1.heap.size := ⟨_, rfl⟩
  rw [← hb1]
  obtain ⟨U, hU⟩ : ∃ U, U = w1.alloc (.cells #[.string ⟨#[109]⟩, .slice none 0 0, .int .i64 0] 46) := ⟨_, rfl⟩
  rw [← hU]
  obtain ⟨qU, hcU, _⟩ := box_at w1 _ hU hb1
  have hc2 := h2 _ U (exF_at hcU) (ht1.below qU)
  have qwU := bel_up q1 qU q1.size
  clear hU hb1 h1 h2 hcU qU
  refine hc2.mono ?_
  rintro e V ⟨rfl, qV⟩
  have qf := bel_up qwU qV qwU.size
  clear hc2
  go_wp2_with fail
  go_ret
  exact ⟨rfl, qf⟩
end Go.Proofs.YthelllciciohiaaDoor
