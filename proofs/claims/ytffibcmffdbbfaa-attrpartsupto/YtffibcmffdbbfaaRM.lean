/- AttrParts: the walk, for slices that are not too long. -/
import Derived.Test.YtffibcmffdbbfaaRH
import Derived.Test.YtffibcmffdbbfaaRF
import Derived.Test.YtffibcmffdbbfaaDJ
import Derived.Test.YtffibcmffdbbfaaRows
import Derived.OwnWalk
namespace Go.Proofs.Ytffibcmffdbbfaa
open Go.ChangeShapes Go.WideShapes Go.RowKit

theorem bulk_one {H : Type} (d : DataW H) : 1 ≤ Rows.uptoBulk d := by
  cases d with
  | lit l => cases l <;> simp [Rows.uptoBulk]
  | nil => simp [Rows.uptoBulk]
  | ptr d => simp [Rows.uptoBulk]
  | slice elems spare => simp [Rows.uptoBulk]
  | agg parts => simp [Rows.uptoBulk]
  | iface t d => simp [Rows.uptoBulk]
  | map entries => simp [Rows.uptoBulk]
  | held h => simp [Rows.uptoBulk]
theorem bulk_len {H : Type} : ∀ l : List (DataW H), l.length ≤ Rows.uptoBulkAll l
  | [] => Nat.zero_le _
  | d :: l => by
    have h1 := bulk_one d
    have h2 := bulk_len l
    simp only [List.length_cons, Rows.uptoBulkAll]
    omega
section
variable {H : Type} {enc : TypeId × Value → H} {w : World}
/-- A slice of routes that came in, and how long it may be. -/
theorem open_atsB {b0 : Nat} {r : Reach} {v : Value} {d : DataW H} {p : List MemPlace} (hv : Value.okWide Try.prog w r b0 27 v) (h : DataW.Trod enc Try.prog w 0 (fun _ => true) true 27 v d p) : ∃ l : List At, SliceAt w.heap.size 4 (AtAt w) v l ∧ l.length ≤ Rows.uptoBulk d := by
  obtain ⟨l, hl⟩ := open_ats hv h
  refine ⟨l, hl, ?_⟩
  obtain ⟨ad, len, cap, rfl⟩ := okWide_slice Try.underlying27 hv
  have hln := slice_len hl
  obtain ⟨m, hm⟩ := h
  rcases DataW.trod_slice Try.underlying27 hm with ⟨e, _⟩ | ⟨a, len', cap', elems, rest, m', _, e, e2, _, _, _, hlen, _⟩
  · simp [Value.cells] at e
    omega
  · simp [Value.cells] at e
    obtain ⟨rfl, _⟩ := Prod.mk.inj e2
    have := bulk_len (elems.map (·.1))
    simp only [Rows.uptoBulk]
    rw [List.length_map] at this
    omega
end
theorem infoAt : (Try.prog.info? 23).map (fun i => (i.zero, i.size, i.bytes)) = some (some (.agg #[.bool false, .int .i64 0, .int .i64 0, .int .u8 0]), 4, 32) := by kernel_rfl
theorem atL_one (a : At) : ∀ u ∈ atL a, u.oneCell' = true := by
  intro u hu
  simp [atL] at hu
  rcases hu with rfl | rfl | rfl | rfl <;> rfl
theorem atL_len (a : At) : (atL a).length = 4 := rfl
theorem flat_len : ∀ l : List At, (l.flatMap atL).length = l.length * 4
  | [] => rfl
  | a :: l => by rw [List.flatMap_cons, List.length_append, flat_len l, atL_len, List.length_cons]; omega
theorem flat_one (l : List At) : ∀ u ∈ l.flatMap atL, u.oneCell' = true := fun u hu => by
  obtain ⟨a, _, h⟩ := List.mem_flatMap.1 hu
  exact atL_one a u h
/-- What a slice holds, cell by cell. -/
theorem slice_news {W : World} {B : Nat} {ad : Option Addr} {n cap : Nat} {l : List At} (h : SliceAt B 4 (AtAt W) (.slice ad n cap) l) :
    ∀ j u, (l.flatMap atL)[j]? = some u → ∃ b off, ad = some ⟨b, off, none⟩ ∧ W.cell? ⟨b, off + j, none⟩ = some u := by
  intro j u hj
  obtain ⟨ad', cap', e, _, hel⟩ := h
  injection e with e1 e2 e3
  subst e1
  have hjl := (List.getElem?_eq_some_iff.1 hj).1
  rw [flat_len] at hjl
  have hi : j / 4 < l.length := by omega
  obtain ⟨a, ha⟩ : ∃ a, l[j / 4]? = some a := ⟨_, List.getElem?_eq_getElem hi⟩
  have hr : j % 4 < 4 := Nat.mod_lt _ (by decide)
  have hf := flat_at atL 4 atL_len l (j / 4) (j % 4) _ ha hr
  rw [show j / 4 * 4 + j % 4 = j by omega, hj] at hf
  obtain ⟨b, off, he, _, h0, h1, h2, h3⟩ := hel _ _ ha
  refine ⟨b, off, he, ?_⟩
  obtain ⟨i, hi2⟩ : ∃ i, i = j / 4 := ⟨_, rfl⟩
  rw [← hi2] at h0 h1 h2 h3
  have hc : j % 4 = 0 ∨ j % 4 = 1 ∨ j % 4 = 2 ∨ j % 4 = 3 := by omega
  rcases hc with hc | hc | hc | hc <;> rw [hc] at hf <;> simp [atL] at hf <;> subst hf
  · rw [show off + j = off + i * 4 by omega]; exact h0
  · rw [show off + j = off + i * 4 + 1 by omega]; exact h1
  · rw [show off + j = off + i * 4 + 2 by omega]; exact h2
  · rw [show off + j = off + i * 4 + 3 by omega]; exact h3
set_option maxHeartbeats 8000000 in
set_option maxRecDepth 20000 in
theorem lparts_walk {va vb : Value} {la lb : List At} (w : World) (ha : SliceAt w.heap.size 4 (AtAt w) va la) (hb : SliceAt w.heap.size 4 (AtAt w) vb lb) (hn : la.length + lb.length ≤ 1048576) :
    Calls Try.prog 7 #[va, vb] w fun e w' => e = .returned (.bool true) ∧ Below w.heap.size w w' := by
  obtain ⟨i0, hi, hz, hsz, hby⟩ := info_parts infoAt
  go_enter Try.func7, Try.ntmps7
  go_wp2_with fail
  refine (awake10_any _).mono ?_
  rintro e W ⟨rfl, q⟩
  replace ha := ats_keep ha q
  replace hb := ats_keep hb q
  have HA : Hid (∀ p : BelOf W, SliceAt p.w.heap.size 4 (AtAt p.w) va la) := fun p => ats_keep ha p.h
  have HB : Hid (∀ p : BelOf W, SliceAt p.w.heap.size 4 (AtAt p.w) vb lb) := fun p => ats_keep hb p.h
  have HWW : Hid (Below w.heap.size w W) := q
  obtain ⟨aa, ca, rfl, _, _⟩ := ha
  obtain ⟨ab, cb, rfl, _, _⟩ := hb
  clear q
  go_wp2_with (first
    | (at_builtin
       refine wpList_append_sl rfl _ _ _ rfl W.heap.size 23 i0 _ 4 32 Try.underlying27 hi hz hsz hby rfl (by omega) (.slice none 0 0) 0 [] rfl (World.ownsRow_nil _ _ _ _) aa la.length ca (la.flatMap atL) rfl (flat_len la) (slice_news (HA.out ⟨W, Below.refl _ _⟩)) (flat_one la) (by unfold maxLen; omega) (by omega) (Nat.le_refl _) ?_
       intro v1 W1 hown1 hgrow1 _
       rw [Nat.zero_add, List.nil_append] at hown1
       have q1 := own_up (World.ownsRow_nil W W.heap.size 23 4) hgrow1 (Below.refl _ _))
    | (at_builtin
       refine wpList_append_sl rfl _ _ _ rfl W.heap.size 23 i0 _ 4 32 Try.underlying27 hi hz hsz hby rfl (by omega) v1 la.length (la.flatMap atL) rfl hown1 ab lb.length cb (lb.flatMap atL) rfl (flat_len lb) (slice_news (HB.out ⟨W1, q1⟩)) (flat_one lb) (by unfold maxLen; omega) (by omega) q1.size ?_
       intro v2 W2 hown2 hgrow2 _
       have q2 := own_up hown1 hgrow2 q1))
  have hs2 : SliceAt W2.heap.size 4 (AtAt W2) v2 (la ++ lb) := slice_of_own atL atL_len (fun _ _ _ _ h => atL_at h) (by rw [List.length_append]; omega) (by rw [List.length_append, List.flatMap_append]; exact hown2)
  have hp := parts_same la lb
  have h3 := best_any W2 hs2
  refine h3.mono ?_
  rintro e W3 ⟨rfl, q3⟩
  replace q3 := bel_up q2 q3 q2.size
  have h4 := best_any W3 (HA.out ⟨W3, q3⟩)
  clear h3 hs2 hown2 hgrow2 hown1 hgrow1 q1 q2
  go_wp2_with fail
  refine h4.mono ?_
  rintro e W4 ⟨rfl, q4⟩
  replace q4 := bel_up q3 q4 q3.size
  have h5 := best_any W4 (HB.out ⟨W4, q4⟩)
  clear h4 q3
  go_wp2_with fail
  refine h5.mono ?_
  rintro e W5 ⟨rfl, q5⟩
  replace q5 := bel_up q4 q5 q4.size
  clear h5 q4
  unfold atV
  go_wp2_with fail
  obtain ⟨X, hX⟩ : ∃ X, X = W5.alloc (.cells #[.bool (bestP la).ok, .int .i64 (bestP la).pref, .int .i64 (bestP la).cost, .int .u8 (bestP la).tags, .bool (bestP lb).ok, .int .i64 (bestP lb).pref, .int .i64 (bestP lb).cost, .int .u8 (bestP lb).tags] 23) := ⟨_, rfl⟩
  obtain ⟨bx, hbx⟩ : ∃ b, b = W5.heap.size := ⟨_, rfl⟩
  have hbX : X.heap[bx]? = some (.cells #[.bool (bestP la).ok, .int .i64 (bestP la).pref, .int .i64 (bestP la).cost, .int .u8 (bestP la).tags, .bool (bestP lb).ok, .int .i64 (bestP lb).pref, .int .i64 (bestP lb).cost, .int .u8 (bestP lb).tags] 23 (0, 0)) := by rw [hX]; exact pf_new _ _ _ hbx
  have hWX : Below W.heap.size W X := by rw [hX]; exact bel_up q5 (bel_alloc (Below.refl _ _) _) q5.size
  have hsX : SliceAt X.heap.size 4 (AtAt X) (.slice (some ⟨bx, 0, none⟩) 2 2) [bestP la, bestP lb] := by
    have hlt := (Array.getElem?_eq_some_iff.1 hbX).1
    refine ⟨some ⟨bx, 0, none⟩, 2, rfl, by simp, fun i x hx => ⟨bx, 0, rfl, hlt, ?_⟩⟩
    match i, hx with
    | 0, hx =>
      obtain rfl : bestP la = x := by simpa using hx
      refine ⟨?_, ?_, ?_, ?_⟩ <;> simp [World.cell?, hbX]
    | 1, hx =>
      obtain rfl : bestP lb = x := by simpa using hx
      refine ⟨?_, ?_, ?_, ?_⟩ <;> simp [World.cell?, hbX]
    | i + 2, hx => simp at hx
  rw [← hX, ← hbx]
  have h6 := best_any X hsX
  clear hX hbx hbX hsX q5
  unfold atV at h6
  refine h6.mono ?_
  rintro e W6 ⟨rfl, q6⟩
  have q6' := bel_up hWX q6 hWX.size
  have h7 := same_any (bestP (la ++ lb)) (bestP [bestP la, bestP lb]) W6
  rw [hp] at h7
  unfold atV at h7
  clear h6 q6 hWX
  go_wp2_with fail
  refine h7.mono ?_
  rintro e W7 ⟨rfl, q7⟩
  have q7' := bel_up HWW.out (bel_up q6' q7 q6'.size) HWW.out.size
  clear h7 q7 q6'
  go_wp2_with fail
  go_ret
  exact ⟨rfl, q7'⟩
end Go.Proofs.Ytffibcmffdbbfaa
