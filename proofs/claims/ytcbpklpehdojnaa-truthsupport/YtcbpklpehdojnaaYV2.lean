/- truth.visit, Size and Support, whole. -/
import Derived.Test.YtcbpklpehdojnaaYV
import Derived.Test.YtcbpklpehdojnaaRW
import Derived.Deep.AppendLies
namespace Go.Proofs.Ytcbpklpehdojnaa
open Go.RowKit Go.Maps

/-- The nodes that are seen from a number on. -/
def seesP (ns : List Nd) (k : Int) : List Int := visP ns (k.toNat + 1) k []

set_option maxHeartbeats 400000 in
set_option maxRecDepth 20000 in
theorem visit_any {F : FuncId} {caps : Array Value} {own : List Nat} {J : List Nd → World → Prop} (ok : SeeOk F caps own J) {w : World} {p g m cap : Nat} {most : Int} {ns : List Nd} (h : ArenaAt 51 47 w p g m cap most ns) (hJ : J [] w) (hown : ∀ x ∈ own, x ∉ [p, g, m] ∧ x < w.heap.size) (k : Int) :
    Calls Try.prog 27 #[.pointer (some ⟨p, 0, none⟩), .int .i64 k, .func (.func F) #[] caps] w fun e w' => e = .returned (.tuple #[]) ∧ J ((seesP ns k).map (getN ns)) w' ∧ Kept own w w' := by
  have hmf : ∀ (fn : Fn) (first cap : Array Value) (w : World), (Instr.makeFunc fn first cap).run Try.prog w = .ok (.func fn first cap) w := fun _ _ _ _ => rfl
  have hmm := @run_makeMap Try.prog
  have hent := enterStep
  obtain ⟨W4, hW4⟩ : ∃ W4, W4 = (((w.alloc (.cells #[.pointer (some ⟨p, 0, none⟩)] 24)).alloc (.cells #[.func (.func F) #[] caps] 62)).alloc (.map #[] 0)).alloc (.cells #[.map (some (w.heap.size + 1 + 1))] 65) := ⟨_, rfl⟩
  have z4 : W4.heap.size = w.heap.size + 1 + 1 + 1 + 1 := by rw [hW4]; simp
  have st := storeF (W := W4) (b := w.heap.size + 1 + 1 + 1 + 1) (t := 66) (v := stepV w.heap.size (w.heap.size + 1 + 1 + 1) (w.heap.size + 1) (w.heap.size + 1 + 1 + 1 + 1)) z4.symm ⟨_, _, _, rfl⟩
  obtain ⟨W, hW⟩ : ∃ W, W = W4.alloc (.cells #[stepV w.heap.size (w.heap.size + 1 + 1 + 1) (w.heap.size + 1) (w.heap.size + 1 + 1 + 1 + 1)] 66) := ⟨_, rfl⟩
  have b4 : Below w.heap.size w W4 := by rw [hW4]; exact ((((Below.refl _ _).alloc (Nat.le_refl _) _).alloc (by simp) _).alloc (by simp; omega) _).alloc (by simp; omega) _
  have bW : Below w.heap.size w W := by rw [hW]; exact Below.up b4 ((Below.refl _ _).alloc (Nat.le_refl _) _) (Nat.le_refl _)
  have zW : W.heap.size = w.heap.size + 1 + 1 + 1 + 1 + 1 := by rw [hW]; simp [z4]
  have o4 : ∀ x, x < w.heap.size + 1 + 1 + 1 + 1 → W.heap[x]? = W4.heap[x]? := fun x hx => by rw [hW, (MapKept.heap_alloc _ _).2 _ (by omega)]
  have s : VSit W p g m cap w.heap.size (w.heap.size + 1 + 1 + 1) (w.heap.size + 1) (w.heap.size + 1 + 1 + 1 + 1) (w.heap.size + 1 + 1) most ns F caps own [] := by
    have hp := h.ltp
    have hg := h.ltg
    have hm := h.ltm
    refine ⟨h.below bW, ?_, ?_, ?_, ?_, ⟨#[], 0, ?_, by simp⟩, ?_, ?_, by simp, by simp⟩
    · rw [o4 _ (by omega), hW4, (MapKept.heap_alloc _ _).2 _ (by simp; omega), (MapKept.heap_alloc _ _).2 _ (by simp; omega), (MapKept.heap_alloc _ _).2 _ (by simp)]
      exact heap_new_at _ _ _ rfl
    · rw [o4 _ (by omega), hW4]
      exact heap_new_at _ _ _ (by simp)
    · rw [o4 _ (by omega), hW4, (MapKept.heap_alloc _ _).2 _ (by simp), (MapKept.heap_alloc _ _).2 _ (by simp)]
      exact heap_new_at _ _ _ (by simp)
    · rw [hW]
      exact heap_new_at _ _ _ z4.symm
    · rw [o4 _ (by omega), hW4, (MapKept.heap_alloc _ _).2 _ (by simp)]
      exact heap_new_at _ _ _ (by simp)
    · intro hq
      have : w.heap.size + 1 + 1 ∉ own := fun hh => by have := (hown _ hh).2; omega
      simp only [List.mem_cons, this, or_false] at hq
      omega
    · intro x hx
      obtain ⟨h1, h2⟩ := hown x hx
      simp only [List.mem_cons, List.not_mem_nil, or_false] at h1
      refine ⟨?_, by omega⟩
      simp only [List.mem_cons, List.not_mem_nil, or_false]
      omega
  have JW : J [] W := ok.stay _ w W hJ (fun x hx => bW.block x (hown x hx).2)
  have hS := step_any ok (k.toNat + 1) k [] W (by omega) s JW
  have CW : W.cell? ⟨w.heap.size + 1 + 1 + 1 + 1, 0, none⟩ = some (stepV w.heap.size (w.heap.size + 1 + 1 + 1) (w.heap.size + 1) (w.heap.size + 1 + 1 + 1 + 1)) := by simp [World.cell?, s.ct]
  clear s JW o4
  rw [← hW] at st
  unfold stepV at st CW
  rw [hW4] at st
  clear hW z4 b4 hW4
  go_enter Try.func27, Try.ntmps27
  go_wp2_with fail
  refine hS.mono ?_
  rintro e w2 ⟨rfl, s2, J2, k2⟩
  clear hS CW st
  go_wp2_with fail
  go_returns
  refine ⟨rfl, J2, ?_⟩
  have := bW.size
  exact ⟨k2.os.trans bW.os, k2.tape.trans bW.tape, k2.output.trans bW.output, Nat.le_trans bW.size k2.size, fun x hx hn => (k2.block x (by omega) (by simp only [List.mem_cons, hn, or_false]; omega)).trans (bW.block x hx)⟩

/-! ### Size -/
theorem enterSizeF (args : Array Value) (W : World) : Sem.run Try.prog (callFunc 29 args) W = .ok (.enter 29 args) W := by kernel_rfl
def SizeJ (b : Nat) (S : List Nd) (w : World) : Prop := w.heap[b]? = some (.cells #[.int .i64 (S.length : Nat)] 3)
set_option maxHeartbeats 400000 in
set_option maxRecDepth 20000 in
theorem sizeF_any (b : Nat) (S : List Nd) (n : Nd) (w : World) (h : SizeJ b S w) (hl : S.length ≤ 131072) : Calls Try.prog 29 #[ndV n, .pointer (some ⟨b, 0, none⟩)] w fun e w' => e = .returned (.tuple #[]) ∧ SizeJ b (S ++ [n]) w' ∧ Kept [b] w w' := by
  unfold SizeJ at h ⊢
  have lb := (Array.getElem?_eq_some_iff.1 h).1
  have C : w.cell? ⟨b, 0, none⟩ = some (.int .i64 (S.length : Nat)) := by simp [World.cell?, h]
  have Fz : w.frozen? ⟨b, 0, none⟩ = false := by simp [World.frozen?, h]
  have h2 := heap_set_at (i := 0) h (.int .i64 ((S.length : Int) + 1))
  have k2 := Kept.setIn (own := [b]) (Kept.refl _ w) ⟨b, 0, none⟩ (.int .i64 ((S.length : Int) + 1)) (by simp)
  have hl' : (S.length : Int) ≤ 131072 := by omega
  unfold ndV
  go_enter Try.func29, Try.ntmps29
  go_wp2_with fail
  go_returns
  exact ⟨rfl, by rw [(MapKept.heap_alloc _ _).2 _ (by simpa [World.setCell] using lb), h2]; simp, Kept.up k2 ((Below.refl _ _).alloc (Nat.le_refl _) _)⟩

set_option maxHeartbeats 400000 in
set_option maxRecDepth 20000 in
theorem size_any {w : World} {p g m cap : Nat} {most : Int} {ns : List Nd} (h : ArenaAt 51 47 w p g m cap most ns) (k : Int) :
    Calls Try.prog 17 #[.pointer (some ⟨p, 0, none⟩), .int .i64 k] w fun e w' => e = .returned (.int .i64 ((seesP ns k).length : Nat)) ∧ Below w.heap.size w w' := by
  have hmf : ∀ (fn : Fn) (first cap : Array Value) (w : World), (Instr.makeFunc fn first cap).run Try.prog w = .ok (.func fn first cap) w := fun _ _ _ _ => rfl
  have ok : SeeOk 29 #[.pointer (some ⟨w.heap.size, 0, none⟩)] [w.heap.size] (SizeJ w.heap.size) := ⟨enterSizeF, fun S W W' hJ hx => by unfold SizeJ at hJ ⊢; rw [hx _ (by simp)]; exact hJ, fun S n W hJ hl _ _ => sizeF_any _ S n W hJ hl⟩
  obtain ⟨W, hW⟩ : ∃ W, W = w.alloc (.cells #[.int .i64 0] 3) := ⟨_, rfl⟩
  have bW : Below w.heap.size w W := by rw [hW]; exact (Below.refl _ _).alloc (Nat.le_refl _) _
  have hv := visit_any ok (h.below bW) (by rw [hW]; exact heap_new_at _ _ _ rfl) (by
    have hp := h.ltp
    have hg := h.ltg
    have hm := h.ltm
    intro x hx
    obtain rfl := List.mem_singleton.1 hx
    refine ⟨by simp; omega, by rw [hW]; simp⟩) k
  rw [hW] at hv bW
  go_enter Try.func17, Try.ntmps17
  go_wp2_with fail
  refine hv.mono ?_
  rintro e w2 ⟨rfl, J2, k2⟩
  unfold SizeJ at J2
  have C : w2.cell? ⟨w.heap.size, 0, none⟩ = some (.int .i64 ((seesP ns k).length : Nat)) := by simp [World.cell?, J2]
  clear hv
  go_wp2_with fail
  go_returns
  exact ⟨rfl, Below.kept bW k2 (Nat.le_refl _) (by simp)⟩

/-! ### Support -/
theorem enterSuppF (args : Array Value) (W : World) : Sem.run Try.prog (callFunc 28 args) W = .ok (.enter 28 args) W := by kernel_rfl
/-- Whether a variable is asked. -/
def askedB (S : List Nd) (v : Nat) : Bool := S.any fun n => n.v == (v : Int)
def SuppJ (b5 bk : Nat) (S : List Nd) (w : World) : Prop := w.heap[b5]? = some (.cells #[.slice (some ⟨bk, 0, none⟩) 1024 1024] 22) ∧ w.heap[bk]? = some (.cells (rowsV 1024 (askedB S)) 4)
set_option maxHeartbeats 400000 in
set_option maxRecDepth 20000 in
theorem suppF_any (b5 bk : Nat) (S : List Nd) (n : Nd) (w : World) (h : SuppJ b5 bk S w) (hn : 0 ≤ n.v) (hn' : n.v < 1024) : Calls Try.prog 28 #[ndV n, .pointer (some ⟨b5, 0, none⟩)] w fun e w' => e = .returned (.tuple #[]) ∧ SuppJ b5 bk (S ++ [n]) w' ∧ Kept [b5, bk] w w' := by
  obtain ⟨h5, hk⟩ := h
  have l5 := (Array.getElem?_eq_some_iff.1 h5).1
  have lk := (Array.getElem?_eq_some_iff.1 hk).1
  have hne : b5 ≠ bk := by
    rintro rfl
    rw [h5] at hk
    have := congrArg (fun o => match o with | some (Obj.cells c _ _) => c.size | _ => 0) hk
    simp [rowsV_size] at this
  obtain ⟨v, hv⟩ : ∃ v : Nat, n.v = v := ⟨n.v.toNat, by omega⟩
  have hv' : v < 1024 := by omega
  have C5 : w.cell? ⟨b5, 0, none⟩ = some (.slice (some ⟨bk, 0, none⟩) 1024 1024) := by simp [World.cell?, h5]
  have Ck : w.cell? ⟨bk, v, none⟩ = some (.bool (askedB S v)) := by simp [World.cell?, hk, rowsV_get hv']
  have Fz : w.frozen? ⟨bk, v, none⟩ = false := by simp [World.frozen?, hk]
  have h2 := heap_set_at (i := v) hk (.bool true)
  rw [rowsV_set] at h2
  have h3 : (w.setCell ⟨bk, v, none⟩ (.bool true)).heap[b5]? = some (.cells #[.slice (some ⟨bk, 0, none⟩) 1024 1024] 22) := by rw [Below.heap_setCell _ _ _ _ hne]; exact h5
  have k2 := Kept.setIn (own := [b5, bk]) (Kept.refl _ w) ⟨bk, v, none⟩ (.bool true) (by simp)
  have hr : rowsV 1024 (fun i => if i = v then true else askedB S i) = rowsV 1024 (askedB (S ++ [n])) := rowsV_congr (fun i _ => by
    unfold askedB
    rw [List.any_append]
    by_cases e : i = v
    · subst e; simp [hv]
    · rw [if_neg e]
      simp [hv]
      omega)
  rw [hr] at h2
  obtain ⟨x, y, z⟩ := n
  simp only at hv
  subst hv
  have q1 : (0 : Int) ≤ v := by omega
  have q2 : (v : Int) < 1024 := by omega
  unfold ndV
  clear hr
  go_enter Try.func28, Try.ntmps28
  go_wp2_with fail
  go_returns
  exact ⟨rfl, ⟨by rw [(MapKept.heap_alloc _ _).2 _ (by simpa [World.setCell] using l5)]; exact h3, by rw [(MapKept.heap_alloc _ _).2 _ (by simpa [World.setCell] using lk)]; exact h2⟩, Kept.up k2 ((Below.refl _ _).alloc (Nat.le_refl _) _)⟩

/-- The numbers below n that are told. -/
def upTo (r : Nat → Bool) (n : Nat) : List Int := List.map (fun i : Nat => (i : Int)) ((List.range n).filter r)
theorem upTo_succ (r : Nat → Bool) (n : Nat) : upTo r (n + 1) = if r n = true then upTo r n ++ [(n : Int)] else upTo r n := by
  unfold upTo
  rw [List.range_succ, List.filter_append, List.map_append]
  by_cases h : r n = true
  · rw [if_pos h]; simp [h]
  · rw [if_neg h]; simp [h]
theorem upTo_len (r : Nat → Bool) (n : Nat) : (upTo r n).length ≤ n := by
  unfold upTo
  have := List.length_filter_le r (List.range n)
  simpa using this

set_option maxHeartbeats 1000000 in
set_option maxRecDepth 20000 in
theorem support_any {w : World} {p g m cap : Nat} {most : Int} {ns : List Nd} (h : ArenaAt 51 47 w p g m cap most ns) (k : Int) :
    Calls Try.prog 16 #[.pointer (some ⟨p, 0, none⟩), .int .i64 k] w fun e w' => ∃ v, e = .returned v ∧ w'.ownsRow 0 3 1 v (upTo (askedB ((seesP ns k).map (getN ns))) 1024).length (ints (upTo (askedB ((seesP ns k).map (getN ns))) 1024)) ∧ (∀ b, v.ownBlock = some b → w.heap.size ≤ b) ∧ Below w.heap.size w w' := by
  obtain ⟨i0, hi0, hz0, hz1, hz2⟩ := info_parts info3
  have hmf : ∀ (fn : Fn) (first cap : Array Value) (w : World), (Instr.makeFunc fn first cap).run Try.prog w = .ok (.func fn first cap) w := fun _ _ _ _ => rfl
  have hmk := makeB 1024 (by decide) w
  rw [show ((1024 : Nat) : Int) = 1024 from rfl] at hmk
  have ok : SeeOk 28 #[.pointer (some ⟨w.heap.size + 1, 0, none⟩)] [w.heap.size + 1, w.heap.size] (SuppJ (w.heap.size + 1) w.heap.size) := ⟨enterSuppF, fun S W W' hJ hx => ⟨by rw [hx _ (by simp)]; exact hJ.1, by rw [hx _ (by simp)]; exact hJ.2⟩, fun S n W hJ _ h0 h1 => suppF_any _ _ S n W hJ h0 h1⟩
  obtain ⟨W, hW⟩ : ∃ W, W = (w.alloc (.cells (rowsV 1024 fun _ => false) 4)).alloc (.cells #[.slice (some ⟨w.heap.size, 0, none⟩) 1024 1024] 22) := ⟨_, rfl⟩
  have bW : Below w.heap.size w W := by rw [hW]; exact ((Below.refl _ _).alloc (Nat.le_refl _) _).alloc (by simp) _
  have hv := visit_any ok (h.below bW) ⟨by rw [hW]; exact heap_new_at _ _ _ (by simp), by rw [hW, (MapKept.heap_alloc _ _).2 _ (by simp)]; exact heap_new_at _ _ _ rfl⟩ (by
    have hp := h.ltp
    have hg := h.ltg
    have hm := h.ltm
    intro x hx
    simp only [List.mem_cons, List.not_mem_nil, or_false] at hx
    refine ⟨by simp; omega, by rw [hW]; simp; omega⟩) k
  rw [hW] at hv bW
  clear hW
  go_enter Try.func16, Try.ntmps16
  go_wp2_with fail
  refine hv.mono ?_
  rintro e w2 ⟨rfl, ⟨J5, Jk⟩, k2⟩
  have b2 := Below.kept bW k2 (Nat.le_refl _) (by simp)
  clear hv ok hmk bW k2
  obtain ⟨R, hRR⟩ : ∃ R, askedB ((seesP ns k).map (getN ns)) = R := ⟨_, rfl⟩
  rw [hRR] at Jk
  have HRR : Hid (askedB ((seesP ns k).map (getN ns)) = R) := hRR
  clear hRR
  have C5 : w2.cell? ⟨w.heap.size + 1, 0, none⟩ = some (.slice (some ⟨w.heap.size, 0, none⟩) 1024 1024) := by simp [World.cell?, J5]
  go_wp2_with fail
  clear C5 J5
  obtain ⟨bk, hbk⟩ : ∃ bk, bk = w.heap.size := ⟨_, rfl⟩
  rw [← hbk] at Jk ⊢
  have lk := (Array.getElem?_eq_some_iff.1 Jk).1
  have HB : Hid (bk = w.heap.size) := hbk
  clear hbk
  go_loopw [6, 16] (fun fv i wr => ∃ j : Nat, j ≤ 1024 ∧ i = .int .i64 j ∧ wr.ownsRow 0 3 1 fv (upTo R j).length (ints (upTo R j)) ∧ (∀ b, fv.ownBlock = some b → w2.heap.size ≤ b) ∧ Below w2.heap.size w2 wr) (fun _ i _ => 1024 - (intOf i).toNat)
  case atStart => exact ⟨0, by omega, rfl, World.ownsRow_nil _ _ _ _, (by intro b hb; cases hb), Below.refl _ _⟩
  case round =>
    rename World => wr
    obtain ⟨j, hj, rfl, hrow, hown, hbel⟩ := hrel
    by_cases hlt : j < 1024
    · have h1 : (j : Int) < 1024 := by omega
      have h0 : (0 : Int) ≤ (j : Int) := by omega
      have hcj : wr.cell? ⟨bk, j, none⟩ = some (.bool (R j)) := by
        have e := (hbel.block bk lk).trans Jk
        simp [World.cell?, e, rowsV_get hlt]
      have hl := upTo_len R j
      have hs := upTo_succ R j
      cases hR : R j with
      | false =>
        rw [hR] at hcj hs
        rw [if_neg (by simp)] at hs
        go_wp2_with fail
        go_roundw
        case rel => exact ⟨j + 1, by omega, by go_num, by rw [hs]; exact hrow, hown, hbel⟩
        case measure => simp [intOf]; omega
      | true =>
        rw [hR] at hcj hs
        rw [if_pos rfl] at hs
        have HS : Hid (upTo R (j + 1) = upTo R j ++ [(j : Int)]) := hs
        clear hs
        go_wp2_with (at_builtin; refine wpList_append_lies _ rfl _ _ _ rfl 0 3 i0 (.int .i64 0) 1 8 Try.underlying39 hi0 hz0 hz1 hz2 rfl (by omega) _ (upTo R j).length (ints (upTo R j)) rfl (hrow.alloc _) ⟨wr.heap.size, 0, none⟩ 1 1 [.int .i64 j] rfl rfl (World.news_of_block (cs := #[.int .i64 j]) (t := 3) (fr := (0, 0)) (heap_new_at _ _ _ rfl)) (by simp [Value.oneCell']) (by omega) (by unfold maxLen; omega) (by omega) (Nat.zero_le _) (wr.heap.size + 1) (by simp) ?_; intro gf capf w3 hown3 hgrow3 hat3 hlt3)
        go_roundw
        case rel =>
          refine ⟨j + 1, by omega, by go_num, ?_, ?_, ?_⟩
          · rw [HS.out]
            simpa [ints] using hown3
          · intro b hb
            have eb : b = gf := by simpa [Value.ownBlock] using hb.symm
            subst eb
            rcases hat3 with h | h
            · exact hown _ h
            · have := hbel.size
              omega
          · exact Below.grown (hbel.alloc hbel.size _) hgrow3 (by simp; have := hbel.size; omega) hown
        case measure => simp [intOf]; omega
    · obtain rfl : j = 1024 := by omega
      obtain ⟨ao, capf, rfl, _⟩ := row_at hrow rfl
      go_wp2_with fail
      go_returns
      refine ⟨.slice ao (upTo R 1024).length capf, rfl, by rw [HRR.out]; exact hrow, fun b hb => ?_, Below.up b2 hbel (Nat.le_refl _)⟩
      have := hown b hb
      have := b2.size
      omega
end Go.Proofs.Ytcbpklpehdojnaa
