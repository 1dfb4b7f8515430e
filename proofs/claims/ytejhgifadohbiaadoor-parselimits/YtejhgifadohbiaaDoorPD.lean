/- What numbers make is sound; a sound configuration's text has no remark. No program. -/
import Derived.Test.YtejhgifadohbiaaDoorPC
namespace Go.Proofs.YtejhgifadohbiaaDoor
open Go.Lib

/-- A letter of a token, a blank or a sign. -/
def okB (c : UInt8) : Bool := prtP c || blkP c || sgnP c
def AllB (l : Bs) : Prop := ∀ c ∈ l, okB c = true
theorem AllB.app {a b : Bs} (h1 : AllB a) (h2 : AllB b) : AllB (a ++ b) := fun c hc => (List.mem_append.1 hc).elim (h1 c) (h2 c)
theorem AllB.cons {c : UInt8} {b : Bs} (h1 : okB c = true) (h2 : AllB b) : AllB (c :: b) := fun x hx => (List.mem_cons.1 hx).elim (fun h => h ▸ h1) (h2 x)
theorem AllB.nil : AllB [] := fun c hc => by cases hc
theorem AllB.prt {x : Bs} (h : ∀ c ∈ x, prtP c = true) : AllB x := fun c hc => by unfold okB; rw [h c hc]; rfl
theorem AllB.dec {x : Bs} (h : x.all okB = true) : AllB x := fun c hc => List.all_eq_true.1 h c hc
theorem AllB.flat {α : Type} {f : α → Bs} {l : List α} (h : ∀ x ∈ l, AllB (f x)) : AllB (l.flatMap f) := fun c hc => by
  obtain ⟨x, hx, hc⟩ := List.mem_flatMap.1 hc
  exact h x hx c hc
theorem allB_name {x : Bs} (h : nameP x = true) : AllB x := AllB.prt (name_prt h)
theorem allB_itoa {n : Int} (h : 0 ≤ n) : AllB (itoa n) := by
  rw [itoa_at h]
  exact AllB.prt fun c hc => dig_prt (dec_dig _ c hc)
theorem allB_pf (a : Nat) (b : Int) : AllB (pfT a b) := by
  unfold pfT
  split
  · exact AllB.prt text_prt
  · exact AllB.nil
theorem tag_digs : ∀ k : Fin 4, okB (UInt8.ofNat (48 + k.val)) = true := by decide
theorem allB_tag (bits : Nat) : ∀ f k, f + k ≤ 4 → AllB (tagN bits f k)
  | 0, _, _ => AllB.nil
  | f + 1, k, h => by
    unfold tagN
    refine AllB.app ?_ (allB_tag bits f (k + 1) (by omega))
    split
    · exact AllB.cons (by decide) (AllB.cons (tag_digs ⟨k, by omega⟩) AllB.nil)
    · exact AllB.nil
theorem allB_tags {word : Bs} (h : AllB word) (bits : Nat) : AllB (tagsT word bits) := by
  unfold tagsT
  split
  · exact AllB.nil
  · exact (AllB.cons (by decide) h).app (allB_tag bits 4 0 (by omega))
theorem allB_num {word : Bs} (h : AllB word) {n : Int} (h0 : 0 ≤ n) : AllB (numT word n) := by
  unfold numT
  split
  · exact AllB.nil
  · exact (AllB.cons (by decide) h).app (AllB.cons (by decide) (allB_itoa h0))
theorem allB_nm {word s : Bs} (h : AllB word) (hs : s ≠ [] → nameP s = true) : AllB (nmT word s) := by
  unfold nmT
  split
  · exact AllB.nil
  · rename_i h2
    exact (AllB.cons (by decide) h).app (AllB.cons (by decide) (allB_name (hs h2)))
theorem allB_inn {l : Bs} (h : AllB l) : AllB (innT l) := (AllB.cons (by decide) h).app (AllB.dec (by decide))
theorem allB_line {c : ClD} (h : c.sound) : AllB (lineT c) := by
  have h1 : AllB (onT c) := by
    unfold onT
    split
    · exact AllB.dec (by decide)
    · exact allB_pf _ _
  have h2 : AllB (dropT c) := by unfold dropT; split <;> exact AllB.dec (by decide)
  exact allB_inn (((((((((AllB.dec (by decide) : AllB [105, 102, 32]).app h1).app (allB_tags (AllB.dec (by decide)) _)).app (allB_tags (AllB.dec (by decide)) _)).app (AllB.dec (by decide))).app h2).app (allB_tags (AllB.dec (by decide)) _)).app
    (allB_tags (AllB.dec (by decide)) _)).app (allB_num (AllB.dec (by decide)) h.m0) |>.app (allB_num (AllB.dec (by decide)) h.p0))
theorem allB_head {kind name : Bs} (h : AllB kind) (hn : nameP name = true) : AllB (headT kind name) := (h.app (AllB.cons (by decide) (allB_name hn))).app (AllB.dec (by decide))
theorem allB_conf {c : CfD} (h : c.sound) : AllB (confT c) := by
  refine AllB.app (AllB.flat fun m hm => ?_) (AllB.flat fun r hr => ?_)
  · have hs := h.m m hm
    exact ((allB_head (AllB.dec (by decide)) hs.n).app (AllB.flat fun c hc => allB_line (hs.c c hc))).app (AllB.dec (by decide))
  · have hs := h.r r hr
    refine ((((allB_head (AllB.dec (by decide)) hs.n).app (AllB.flat fun p hp => ?_)).app (AllB.flat fun l hl => ?_)).app (AllB.flat fun x hx => ?_)).app (AllB.dec (by decide))
    · exact allB_inn ((AllB.dec (by decide) : AllB [110, 101, 116, 32]).app (allB_pf _ _))
    · have hk := hs.l l hl
      exact allB_inn ((((((AllB.dec (by decide) : AllB [108, 105, 110, 107, 32]).app (allB_name hk.n)).app (AllB.dec (by decide))).app (allB_itoa (by have := hk.c0; omega))).app (allB_nm (AllB.dec (by decide)) hk.i)).app (allB_nm (AllB.dec (by decide)) hk.e))
    · have hk := hs.s x hx
      exact allB_inn ((((AllB.dec (by decide) : AllB [115, 116, 97, 116, 105, 99, 32]).app (allB_pf _ _)).app (AllB.dec (by decide))).app (allB_name hk.n))
theorem conf_no35 {c : CfD} (h : c.sound) : (35 : UInt8) ∉ confT c := fun h' => by
  have := allB_conf h 35 h'
  revert this
  decide
end Go.Proofs.YtejhgifadohbiaaDoor
