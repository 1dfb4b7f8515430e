/- Routes as they lie in memory; the best of a slice of them. -/
import Derived.Test.YtffibcmffdbbfaaRC
import Derived.Test.YtffibcmffdbbfaaSL
namespace Go.Proofs.Ytffibcmffdbbfaa
open Go.RowKit

/-- A route's cells. -/
def atL (a : At) : List Value := [.bool a.ok, .int .i64 a.pref, .int .i64 a.cost, .int .u8 a.tags]
def AtAt (W : World) (b o : Nat) (a : At) : Prop :=
  W.cell? ⟨b, o, none⟩ = some (.bool a.ok) ∧ W.cell? ⟨b, o + 1, none⟩ = some (.int .i64 a.pref) ∧ W.cell? ⟨b, o + 2, none⟩ = some (.int .i64 a.cost) ∧ W.cell? ⟨b, o + 3, none⟩ = some (.int .u8 a.tags)
theorem atL_at {W : World} {b o : Nat} {a : At} (h : ∀ j u, (atL a)[j]? = some u → W.cell? ⟨b, o + j, none⟩ = some u) : AtAt W b o a := ⟨h 0 _ rfl, h 1 _ rfl, h 2 _ rfl, h 3 _ rfl⟩
theorem AtAt.keep {W W' : World} {b o B : Nat} {a : At} (h : AtAt W b o a) (hb : b < B) (k : Cells B W W') : AtAt W' b o a :=
  ⟨k _ _ _ hb h.1, k _ _ _ hb h.2.1, k _ _ _ hb h.2.2.1, k _ _ _ hb h.2.2.2⟩
theorem ats_keep {W W' : World} {v : Value} {l : List At} (h : SliceAt W.heap.size 4 (AtAt W) v l) (k : Below W.heap.size W W') : SliceAt W'.heap.size 4 (AtAt W') v l :=
  h.mono k.size fun _ _ _ hb h => h.keep hb (cells_below k (Nat.le_refl _))
/-- A route in a block of its own. -/
def atB (a : At) : Obj := .cells #[.bool a.ok, .int .i64 a.pref, .int .i64 a.cost, .int .u8 a.tags] 23 (0, 0)
/-- A route's four cells written. -/
def put4 (w : World) (b : Nat) (a : At) : World := (((w.setCell ⟨b, 0, none⟩ (.bool a.ok)).setCell ⟨b, 1, none⟩ (.int .i64 a.pref)).setCell ⟨b, 2, none⟩ (.int .i64 a.cost)).setCell ⟨b, 3, none⟩ (.int .u8 a.tags)
theorem put4_at {w : World} {b : Nat} {o : At} (h : w.heap[b]? = some (atB o)) (a : At) : (put4 w b a).heap[b]? = some (atB a) := by
  have e0 : (w.setCell ⟨b, 0, none⟩ (.bool a.ok)).heap[b]? = some (.cells #[.bool a.ok, .int .i64 o.pref, .int .i64 o.cost, .int .u8 o.tags] 23 (0, 0)) := set_at (i := 0) h _
  have e1 := set_at (i := 1) e0 (.int .i64 a.pref)
  have e2 := set_at (i := 2) e1 (.int .i64 a.cost)
  exact set_at (i := 3) e2 (.int .u8 a.tags)
theorem put4_off {w : World} {b q : Nat} {o : Obj} (h : w.heap[q]? = some o) (hne : q ≠ b) (a : At) : (put4 w b a).heap[q]? = some o := set_off (set_off (set_off (set_off h hne _) hne _) hne _) hne _
theorem put4_below {w W : World} {B b : Nat} (h : Below B w W) (hb : B ≤ b) (a : At) : Below B w (put4 W b a) := (((h.setCell hb _).setCell hb _).setCell hb _).setCell hb _
theorem at_cell {w : World} {b : Nat} {a : At} (h : w.heap[b]? = some (atB a)) : w.cell? ⟨b, 0, none⟩ = some (.bool a.ok) ∧ w.cell? ⟨b, 1, none⟩ = some (.int .i64 a.pref) ∧ w.cell? ⟨b, 2, none⟩ = some (.int .i64 a.cost) ∧ w.cell? ⟨b, 3, none⟩ = some (.int .u8 a.tags) := cells_four h
theorem at_free {w : World} {b : Nat} {a : At} (h : w.heap[b]? = some (atB a)) : w.frozen? ⟨b, 0, none⟩ = false ∧ w.frozen? ⟨b, 1, none⟩ = false ∧ w.frozen? ⟨b, 2, none⟩ = false ∧ w.frozen? ⟨b, 3, none⟩ = false := ⟨free_at h 0, free_at h 1, free_at h 2, free_at h 3⟩
theorem take_next {l : List At} {k : Nat} {a : At} (h : l[k]? = some a) : l.take (k + 1) = l.take k ++ [a] := by
  rw [List.take_add_one, h]
  rfl
theorem bestF_snoc (x a : At) : ∀ l : List At, bestF x (l ++ [a]) = (if betP a (bestF x l) then a else bestF x l)
  | [] => rfl
  | _ :: l => bestF_snoc _ a l
set_option maxHeartbeats 4000000 in
set_option maxRecDepth 20000 in
theorem best_any {v : Value} {l : List At} (w : World) (h : SliceAt w.heap.size 4 (AtAt w) v l) :
    Calls Try.prog 11 #[v] w fun e w' => e = .returned (atV (bestP l)) ∧ Below w.heap.size w w' := by
  obtain ⟨ad, cap, rfl, hl, hel⟩ := h
  go_enter Try.func11, Try.ntmps11
  go_wp2_with fail
  obtain ⟨U, hU⟩ : ∃ U, U = (w.alloc (.cells #[.bool false, .int .i64 0, .int .i64 0, .int .u8 0] 23)).alloc (.cells #[.bool false, .int .i64 0, .int .i64 0, .int .u8 0] 23) := ⟨_, rfl⟩
  obtain ⟨br, hbr⟩ : ∃ b, b = w.heap.size := ⟨_, rfl⟩
  obtain ⟨bb, hbb⟩ : ∃ b, b = w.heap.size + 1 := ⟨_, rfl⟩
  have hwU : Below w.heap.size w U := by rw [hU]; exact bel_alloc2 _ _ _
  have hrU : U.heap[br]? = some (atB At.zero) := by rw [hU]; exact pf_block (bel_alloc (Below.refl _ _) _) (pf_new _ _ _ hbr)
  have hbU : U.heap[bb]? = some (atB At.zero) := by rw [hU]; exact pf_new _ _ _ (by simpa using hbb)
  have HB : Hid (w.heap.size ≤ br ∧ w.heap.size ≤ bb ∧ bb ≠ br) := by show w.heap.size ≤ br ∧ w.heap.size ≤ bb ∧ bb ≠ br; omega
  rw [← hbb, ← hbr, ← hU]
  clear hU hbr hbb
  go_loopw [8] (fun i wr => ∃ k : Nat, k ≤ l.length ∧ i = .int .i64 k ∧ wr.heap[br]? = some (atB At.zero) ∧ wr.heap[bb]? = some (atB (bestF At.zero (l.take k))) ∧ Below w.heap.size w wr) (fun i _ => l.length - (RowKit.intOf i).toNat)
  case atStart => exact ⟨0, Nat.zero_le _, rfl, hrU, by simpa [bestF] using hbU, hwU⟩
  case round =>
    obtain ⟨k, hk, rfl, hr, hb, hw⟩ := hrel
    clear hrU hbU hwU U
    by_cases hlt : k < l.length
    · have d4 : decide ((k : Int) < l.length) = true := decide_eq_true (by omega)
      obtain ⟨a, ha⟩ : ∃ a, l[k]? = some a := ⟨l[k], List.getElem?_eq_getElem hlt⟩
      obtain ⟨b, off, rfl, hbw, hat⟩ := hel k a ha
      obtain ⟨c0, c1, c2, c3⟩ := hat.keep hbw (cells_below hw (Nat.le_refl _))
      have htk := take_next ha
      have hfn : bestF At.zero (l.take (k + 1)) = if betP a (bestF At.zero (l.take k)) then a else bestF At.zero (l.take k) := by rw [htk, bestF_snoc]
      obtain ⟨x, hx⟩ : ∃ x, x = bestF At.zero (l.take k) := ⟨_, rfl⟩
      rw [← hx] at hb hfn
      have HFN : Hid (bestF At.zero (l.take (k + 1)) = if betP a x then a else x) := hfn
      obtain ⟨y, hy⟩ : ∃ y, betP a x = y := ⟨_, rfl⟩
      have HBA := better_any a x
      rw [hy] at HBA
      rw [hy] at HFN
      unfold atV at HBA
      obtain ⟨V, hV⟩ : ∃ V, V = wr.alloc (atB a) := ⟨_, rfl⟩
      have hwV : Below wr.heap.size wr V := by rw [hV]; exact bel_alloc (Below.refl _ _) _
      have htV : V.heap[wr.heap.size]? = some (atB a) := by rw [hV]; exact pf_new _ _ _ rfl
      have hbV := pf_block hwV hb
      have hrV := pf_block hwV hr
      obtain ⟨e0, e1, e2, e3⟩ := at_cell hbV
      have hVw : Below w.heap.size w V := bel_up hw hwV hw.size
      have HN : Hid (wr.heap.size ≠ bb ∧ w.heap.size ≤ wr.heap.size) := ⟨fun h => by have := (Array.getElem?_eq_some_iff.1 hb).1; omega, hw.size⟩
      rw [hV] at e0 e1 e2 e3
      unfold atB at hV e0 e1 e2 e3
      clear hr hb hw hat hwV hy hel hfn htk hx ha
      go_wp2_with fail
      rw [← hV]
      refine (HBA _).mono ?_
      rintro e W1 ⟨rfl, q1⟩
      have htW := pf_block q1 htV
      have hbW := pf_block q1 hbV
      have hrW := pf_block q1 hrV
      have hwW := bel_up hVw q1 hVw.size
      obtain ⟨bt, hbt⟩ : ∃ bt, bt = wr.heap.size := ⟨_, rfl⟩
      rw [← hbt] at htW HN ⊢
      obtain ⟨g0, g1, g2, g3⟩ := at_cell htW
      obtain ⟨f0, f1, f2, f3⟩ := at_free hbW
      obtain ⟨m0, m1, m2, m3⟩ := at_cell hbW
      clear hV e0 e1 e2 e3 c0 c1 c2 c3 HBA htV hbV hrV hVw q1 hbt
      cases y
      · go_wp2_with fail
        go_roundw
        case rel => exact ⟨k + 1, by omega, by go_num, hrW, by rw [HFN.out]; exact hbW, hwW⟩
        case measure => simp [RowKit.intOf]; omega
      · go_wp2_with fail
        have hb2 := put4_at hbW a
        have hr2 := put4_off hrW HB.out.2.2.symm a
        have hw2 := put4_below hwW HB.out.2.1 a
        unfold put4 at hb2 hr2 hw2
        go_roundw
        case rel => exact ⟨k + 1, by omega, by go_num, hr2, by rw [HFN.out]; exact hb2, hw2⟩
        case measure => simp [RowKit.intOf]; omega
    · obtain rfl : k = l.length := by omega
      have d4 : decide (((l.length : Nat) : Int) < l.length) = false := decide_eq_false (by omega)
      rw [List.take_length] at hb
      have HP : Hid (bestP l = bestF At.zero l) := rfl
      obtain ⟨x, hx⟩ : ∃ x, x = bestF At.zero l := ⟨_, rfl⟩
      rw [← hx] at hb HP
      obtain ⟨b0, b1, b2, b3⟩ := at_cell hb
      obtain ⟨r0, r1, r2, r3⟩ := at_cell hr
      obtain ⟨f0, f1, f2, f3⟩ := at_free hr
      clear hx hel
      go_wp2_with fail
      have hr2 := put4_at hr x
      have hw2 := put4_below hw HB.out.1 x
      unfold put4 at hr2 hw2
      obtain ⟨W0, W1, W2, W3⟩ := at_cell hr2
      rw [HP.out]
      refine bodyPost_ret (v := atV x) (by unfold atV; simp [results, Try.results11, go_sem, W0, W1, W2, W3]) rfl ?_
      exact ⟨rfl, hw2⟩
end Go.Proofs.Ytffibcmffdbbfaa
