/- TextConfig: what it walks, where Config is as said. -/
import Derived.Test.YthelllciciohiaaDoorUW
import Derived.Test.YthelllciciohiaaDoorUL
import Derived.Test.YthelllciciohiaaDoorUT
namespace Go.Proofs.YthelllciciohiaaDoor
open Go.RowKit Go.Lib

def ConfSaid : Prop := ∀ (s : ShD), s.ok → ∀ (v : Value) (w : World), ShAt w w.heap.size v s → Calls Tryd.prog 13 #[v] w fun e w' => ∃ cv, e = .returned cv ∧ CfAt w' w'.heap.size cv (confS s) ∧ Below w.heap.size w w'
set_option maxHeartbeats 8000000 in
set_option maxRecDepth 20000 in
theorem tcfg_any (hsc : ConfSaid) (s : ShD) (hok : s.ok) (v : Value) (w : World) (hv : ShAt w w.heap.size v s) (ht : TabP w) :
    Calls Tryd.prog 4 #[v] w fun e w' => e = .returned (.bool true) ∧ Below w.heap.size w w' := by
  have HV : Hid (ShAt w w.heap.size v s) := hv
  obtain ⟨lv, mv, nv, tv, wv, rfl, _, _, _, _, _⟩ := hv
  have ha := fun w h => awake7_any w h
  obtain ⟨n, hn⟩ : ∃ n, n = s.n := ⟨_, rfl⟩
  rw [← hn] at HV ⊢
  obtain ⟨T, hT⟩ : ∃ T : ByteArray, T = ⟨(confT (confS s)).toArray⟩ := ⟨_, rfl⟩
  have e1 : (T.toList == T.toList) = true := by simp
  have HT : Hid (T = ⟨(confT (confS s)).toArray⟩) := hT
  clear hn hT
  go_enter Tryd.func4, Tryd.ntmps4
  go_wp2_with fail
  obtain ⟨b1, hb1⟩ : ∃ b, b = w.heap.size := ⟨_, rfl⟩
  rw [← hb1]
  obtain ⟨U, hU⟩ : ∃ U, U = w.alloc (.cells #[.int .u8 n, lv, mv, nv, tv, wv] 36) := ⟨_, rfl⟩
  rw [← hU]
  obtain ⟨q1, r1, _⟩ := box_at w _ hU hb1
  have htU := ht.below q1
  clear hU hb1
  refine (ha _ htU).mono ?_
  rintro e V ⟨rfl, qV⟩
  have r1V := pf_block qV r1
  have QV : Hid (Below w.heap.size w V) := bel_up q1 qV q1.size
  have htV := htU.below qV
  have hcc := hsc s hok _ V (HV.out.keep QV.out.size (cells_below QV.out (Nat.le_refl _)))
  obtain ⟨C0, C1, C2, C3, C4, C5⟩ := cells_six' r1V
  clear ha htU qV r1 q1 r1V
  go_wp2_with fail
  refine hcc.mono ?_
  rintro e Y ⟨cv, rfl, hcf, qY⟩
  have QY : Hid (Below w.heap.size w Y) := bel_up QV.out qY QV.out.size
  have htY := htV.below qY
  have hcf0 := hcf
  obtain ⟨m2, r2, rfl, ⟨am, cm, rfl, _⟩, ⟨ar, cr, rfl, _⟩⟩ := hcf
  obtain ⟨n1, hn1⟩ : ∃ n, n = (confS s).maps.length := ⟨_, rfl⟩
  obtain ⟨n2, hn2⟩ : ∃ n, n = (confS s).ros.length := ⟨_, rfl⟩
  rw [← hn1, ← hn2] at hcf0 ⊢
  have HCF : Hid (CfAt Y Y.heap.size (.agg #[.slice am n1 cm, .slice ar n2 cr]) (confS s)) := hcf0
  clear hcc htV hcf0 hn1 hn2 C0 C1 C2 C3 C4 C5 qY
  go_upto_region 4 with fail
  obtain ⟨b3, hb3⟩ : ∃ b, b = Y.heap.size := ⟨_, rfl⟩
  rw [← hb3]
  obtain ⟨X, hX⟩ : ∃ X, X = Y.alloc (.cells #[.slice am n1 cm, .slice ar n2 cr] 40) := ⟨_, rfl⟩
  rw [← hX]
  obtain ⟨qX, rX, _⟩ := box_at Y _ hX hb3
  have QX : Hid (Below w.heap.size w X) := bel_up QY.out qX QY.out.size
  have htX := htY.below qX
  have lX := (Array.getElem?_eq_some_iff.1 rX).1
  have E0 := fun p => bel_cell lX (cells_two rX).1 p
  have E1 := fun p => bel_cell lX (cells_two rX).2 p
  have hcx := HCF.out.keep qX.size (cells_below qX (Nat.le_refl _))
  have h1 := fun (p : BelOf X) => tconf_any (confS s) (confS_ok hok).1 (Nat.le_trans (confS_bulk s) (by decide)) _ p.w (hcx.keep p.h.size (cells_below p.h (Nat.le_refl _))) (htX.below p.h)
  have h2 := fun (p : BelOf X) => ltextc_any (confS s) (confS_ok hok).1 (confS_ok hok).2 (Nat.le_trans (confS_bulk s) (by decide)) _ p.w (hcx.keep p.h.size (cells_below p.h (Nat.le_refl _))) (htX.below p.h)
  rw [← HT.out] at h1 h2
  have hne := bel_ne X
  clear hX hb3 qX rX htX htY hcx lX ht
  refine wp_region_bel (by kernel_rfl) (by kernel_rfl) ?_
  repeat (go_big_quiet_step (first
    | (go_at_call 14; with_reducible exact bel_of (h1 _))
    | (go_at_call 15; with_reducible exact bel_of (h2 _))))
  refine wpQuiet_nil ?_
  rintro W ⟨⟨W', hW⟩, rfl⟩
  clear h1 h2 E0 E1 hne
  go_wp2_with fail
  go_ret
  exact ⟨rfl, bel_up QX.out hW QX.out.size⟩
end Go.Proofs.YthelllciciohiaaDoor
