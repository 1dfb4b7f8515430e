/- truth.visit, Size and Support, whole. -/
import Derived.Test.YtcbpklpehdojnaaDoorYV
import Derived.Test.YtcbpklpehdojnaaDoorRW
import Derived.Deep.AppendLies
namespace Go.Proofs.YtcbpklpehdojnaaDoor
open Go.RowKit Go.Maps

/-- The nodes that are seen from a number on. -/
def seesP (ns : List Nd) (k : Int) : List Int := visP ns (k.toNat + 1) k []

set_option maxHeartbeats 400000 in
set_option maxRecDepth 20000 in
theorem visit_any {F : FuncId} {caps : Array Value} {own : List Nat} {J : List Nd → World → Prop} (ok : SeeOk F caps own J) {w : World} {p g m cap : Nat} {most : Int} {ns : List Nd} (h : ArenaAt 41 37 w p g m cap most ns) (hJ : J [] w) (hown : ∀ x ∈ own, x ∉ [p, g, m] ∧ x < w.heap.size) (k : Int) :
    Calls Tryd.prog 16 #[.pointer (some ⟨p, 0, none⟩), .int .i64 k, .func (.func F) #[] caps] w fun e w' => e = .returned (.tuple #[]) ∧ J ((seesP ns k).map (getN ns)) w' ∧ Kept own w w' := by
  have hmf : ∀ (fn : Fn) (first cap : Array Value) (w : World), (Instr.makeFunc fn first cap).run Tryd.prog w = .ok (.func fn first cap) w := fun _ _ _ _ => rfl
  have hmm := @run_makeMap Tryd.prog
  have hent := enterStep
  obtain ⟨W4, hW4⟩ : ∃ W4, W4 = (((w.alloc (.cells #[.pointer (some ⟨p, 0, none⟩)] 24)).alloc (.cells #[.func (.func F) #[] caps] 49)).alloc (.map #[] 0)).alloc (.cells #[.map (some (w.heap.size + 1 + 1))] 68) := ⟨_, rfl⟩
  have z4 : W4.heap.size = w.heap.size + 1 + 1 + 1 + 1 := by rw [hW4]; simp
  have st := storeF (W := W4) (b := w.heap.size + 1 + 1 + 1 + 1) (t := 69) (v := stepV w.heap.size (w.heap.size + 1 + 1 + 1) (w.heap.size + 1) (w.heap.size + 1 + 1 + 1 + 1)) z4.symm ⟨_, _, _, rfl⟩
  obtain ⟨W, hW⟩ : ∃ W, W = W4.alloc (.cells #[stepV w.heap.size (w.heap.size + 1 + 1 + 1) (w.heap.size + 1) (w.heap.size + 1 + 1 + 1 + 1)] 69) := ⟨_, rfl⟩
  have b4 : Below w.heap.size w W4 := by rw [hW4]; exact ((((Below.refl _ _).alloc (Nat.le_refl _) _).alloc (by simp) _).alloc (by simp; omega) _).alloc (by simp; omega) _
  have bW : Below w.heap.size w W := by rw [hW]; exact Below.up b4 ((Below.refl _ _).alloc (Nat.le_refl _) _) (Nat.le_refl _)
  have zW : W.heap.size = w.heap.size + 1 + 1 + 1 + 1 + 1 := by rw [hW]; simp [z4]
  have o4 : ∀ x, x < w.heap.size + 1 + 1 + 1 + 1 → W.heap[x]? = W4.heap[x]? := fun x hx => by rw [hW, (MapKept.heap_alloc _ _).2 _ (by omega)]
  have s : VSit W p g m cap w.heap.size (w.heap.size + 1 + 1 + 1) (w.heap.size + 1) (w.heap.size + 1 + 1 + 1 + 1) (w.heap.size + 1 + 1) most ns F caps own [] := by
    have hp := h.ltp
    have hg := h.ltg
    have hm := h.ltm
    refine ⟨h.below bW, ?_, ?_, ?_, ?_, ⟨#[], 0, ?_, by simp⟩, ?_, ?_, by simp, by simp⟩
    · rw [o4 _ (by omega), hW4, (MapKept.heap_alloc _ _).2 _ (by simp; omega), (MapKept.heap_alloc _ _).2 _ (by simp; omega), (MapKept.heap_alloc _ _).2 _ (by simp)]
      exact heap_new_at _ _ _ rfl
    · rw [o4 _ (by omega), hW4]
      exact heap_new_at _ _ _ (by simp)
    · rw [o4 _ (by omega), hW4, (MapKept.heap_alloc _ _).2 _ (by simp), (MapKept.heap_alloc _ _).2 _ (by simp)]
      exact heap_new_at _ _ _ (by simp)
    · rw [hW]
      exact heap_new_at _ _ _ z4.symm
    · rw [o4 _ (by omega), hW4, (MapKept.heap_alloc _ _).2 _ (by simp)]
      exact heap_new_at _ _ _ (by simp)
    · intro hq
      have : w.heap.size + 1 + 1 ∉ own := fun hh => by have := (hown _ hh).2; omega
      simp only [List.mem_cons, this, or_false] at hq
      omega
    · intro x hx
      obtain ⟨h1, h2⟩ := hown x hx
      simp only [List.mem_cons, List.not_mem_nil, or_false] at h1
      refine ⟨?_, by omega⟩
      simp only [List.mem_cons, List.not_mem_nil, or_false]
      omega
  have JW : J [] W := ok.stay _ w W hJ (fun x hx => bW.block x (hown x hx).2)
  have hS := step_any ok (k.toNat + 1) k [] W (by omega) s JW
  have CW : W.cell? ⟨w.heap.size + 1 + 1 + 1 + 1, 0, none⟩ = some (stepV w.heap.size (w.heap.size + 1 + 1 + 1) (w.heap.size + 1) (w.heap.size + 1 + 1 + 1 + 1)) := by simp [World.cell?, s.ct]
  clear s JW o4
  rw [← hW] at st
  unfold stepV at st CW
  rw [hW4] at st
  clear hW z4 b4 hW4
  go_enter Tryd.func16, Tryd.ntmps16
  go_wp2_with fail
  refine hS.mono ?_
  rintro e w2 ⟨rfl, s2, J2, k2⟩
  clear hS CW st
  go_wp2_with fail
  go_returns
  refine ⟨rfl, J2, ?_⟩
  have := bW.size
  exact ⟨k2.os.trans bW.os, k2.tape.trans bW.tape, k2.output.trans bW.output, Nat.le_trans bW.size k2.size, fun x hx hn => (k2.block x (by omega) (by simp only [List.mem_cons, hn, or_false]; omega)).trans (bW.block x hx)⟩

/-! ### Size -/
theorem enterSizeF (args : Array Value) (W : World) : Sem.run Tryd.prog (callFunc 17 args) W = .ok (.enter 17 args) W := by kernel_rfl
def SizeJ (b : Nat) (S : List Nd) (w : World) : Prop := w.heap[b]? = some (.cells #[.int .i64 (S.length : Nat)] 3)
set_option maxHeartbeats 400000 in
set_option maxRecDepth 20000 in
theorem sizeF_any (b : Nat) (S : List Nd) (n : Nd) (w : World) (h : SizeJ b S w) (hl : S.length ≤ 131072) : Calls Tryd.prog 17 #[ndV n, .pointer (some ⟨b, 0, none⟩)] w fun e w' => e = .returned (.tuple #[]) ∧ SizeJ b (S ++ [n]) w' ∧ Kept [b] w w' := by
  unfold SizeJ at h ⊢
  have lb := (Array.getElem?_eq_some_iff.1 h).1
  have C : w.cell? ⟨b, 0, none⟩ = some (.int .i64 (S.length : Nat)) := by simp [World.cell?, h]
  have Fz : w.frozen? ⟨b, 0, none⟩ = false := by simp [World.frozen?, h]
  have h2 := heap_set_at (i := 0) h (.int .i64 ((S.length : Int) + 1))
  have k2 := Kept.setIn (own := [b]) (Kept.refl _ w) ⟨b, 0, none⟩ (.int .i64 ((S.length : Int) + 1)) (by simp)
  have hl' : (S.length : Int) ≤ 131072 := by omega
  unfold ndV
  go_enter Tryd.func17, Tryd.ntmps17
  go_wp2_with fail
  go_returns
  exact ⟨rfl, by rw [(MapKept.heap_alloc _ _).2 _ (by simpa [World.setCell] using lb), h2]; simp, Kept.up k2 ((Below.refl _ _).alloc (Nat.le_refl _) _)⟩

set_option maxHeartbeats 400000 in
set_option maxRecDepth 20000 in
theorem size_any {w : World} {p g m cap : Nat} {most : Int} {ns : List Nd} (h : ArenaAt 41 37 w p g m cap most ns) (k : Int) :
    Calls Tryd.prog 10 #[.pointer (some ⟨p, 0, none⟩), .int .i64 k] w fun e w' => e = .returned (.int .i64 ((seesP ns k).length : Nat)) ∧ Below w.heap.size w w' := by
  have hmf : ∀ (fn : Fn) (first cap : Array Value) (w : World), (Instr.makeFunc fn first cap).run Tryd.prog w = .ok (.func fn first cap) w := fun _ _ _ _ => rfl
  have ok : SeeOk 17 #[.pointer (some ⟨w.heap.size, 0, none⟩)] [w.heap.size] (SizeJ w.heap.size) := ⟨enterSizeF, fun S W W' hJ hx => by unfold SizeJ at hJ ⊢; rw [hx _ (by simp)]; exact hJ, fun S n W hJ hl _ _ => sizeF_any _ S n W hJ hl⟩
  obtain ⟨W, hW⟩ : ∃ W, W = w.alloc (.cells #[.int .i64 0] 3) := ⟨_, rfl⟩
  have bW : Below w.heap.size w W := by rw [hW]; exact (Below.refl _ _).alloc (Nat.le_refl _) _
  have hv := visit_any ok (h.below bW) (by rw [hW]; exact heap_new_at _ _ _ rfl) (by
    have hp := h.ltp
    have hg := h.ltg
    have hm := h.ltm
    intro x hx
    obtain rfl := List.mem_singleton.1 hx
    refine ⟨by simp; omega, by rw [hW]; simp⟩) k
  rw [hW] at hv bW
  go_enter Tryd.func10, Tryd.ntmps10
  go_wp2_with fail
  refine hv.mono ?_
  rintro e w2 ⟨rfl, J2, k2⟩
  unfold SizeJ at J2
  have C : w2.cell? ⟨w.heap.size, 0, none⟩ = some (.int .i64 ((seesP ns k).length : Nat)) := by simp [World.cell?, J2]
  clear hv
  go_wp2_with fail
  go_returns
  exact ⟨rfl, Below.kept bW k2 (Nat.le_refl _) (by simp)⟩

end Go.Proofs.YtcbpklpehdojnaaDoor
