/- PrefixParse: the walk. -/
import Derived.Test.YtgofhgbffgmjhaaDoorHW
import Derived.Test.YtgofhgbffgmjhaaDoorHG
import Derived.Laws.IdiomStrings
namespace Go.Proofs.YtgofhgbffgmjhaaDoor
open Go.RowKit Go.Lib

theorem text_len2 {a b : Nat} (hm : mayP a b = true) (ha : a < 4294967296) : (textP a b).length ≤ 100 := by
  obtain ⟨_, hb, _⟩ := may_bounds hm
  have l1 := (dec_len (n := a / 16777216) (by omega)).1
  have l2 := (dec_len (n := a / 65536 % 256) (by omega)).1
  have l3 := (dec_len (n := a / 256 % 256) (by omega)).1
  have l4 := (dec_len (n := a % 256) (by omega)).1
  have l5 := (dec_len (n := b) (by omega)).1
  unfold textP
  simp only [List.length_append, List.length_cons, List.length_nil]
  omega
theorem text_pos (a b : Nat) : 1 ≤ (textP a b).length := by
  unfold textP
  simp only [List.length_append, List.length_cons, List.length_nil]
  omega
set_option maxHeartbeats 16000000 in
set_option maxRecDepth 20000 in
theorem parse_walk (s : ByteArray) (n at_ wi : Nat) (hs : s.size ≤ maxLen) (hn : n < 256) (hat : at_ < 256) (hwi : wi < 256) (w : World) (ht : TabP w) :
    Calls Tryd.prog 4 #[.string s, .int .u8 n, .int .u8 at_, .int .u8 wi] w fun e w' => e = .returned (.bool true) ∧ Below w.heap.size w w' := by
  obtain ⟨l0, rfl⟩ : ∃ l0 : List UInt8, s = ⟨l0.toArray⟩ := ⟨s.data.toList, (str_mk s).symm⟩
  rw [str_size] at hs
  have mk := make_any n hn
  have lx := mkA_lt hn
  have mx := mk_may n
  obtain ⟨x, hx⟩ : ∃ x, x = mkA n := ⟨_, rfl⟩
  obtain ⟨xn, hxn⟩ : ∃ x, x = mkB n := ⟨_, rfl⟩
  rw [← hx, ← hxn] at mk mx
  rw [← hx] at lx
  clear hx hxn
  have lt := ltext_any x xn lx (by have := may_bounds mx; omega)
  have tl := text_len2 mx lx
  have tp := text_pos x xn
  unfold pfV at mk lt
  unfold strV at lt
  obtain ⟨T, hT⟩ : ∃ T : ByteArray, T = ⟨(textP x xn).toArray⟩ := ⟨_, rfl⟩
  have hTs : T.size ≤ 100 := by rw [hT, str_size]; exact tl
  have hTp : 1 ≤ T.size := by rw [hT, str_size]; exact tp
  rw [← hT] at lt
  clear hT tl tp mx lx
  have HT : Hid (TabP w) := ht
  clear ht
  have hcv := fun W => run_bytes_of_string W 9 33 5 T Tryd.underlying9 Tryd.underlying33 Tryd.underlying5
  go_enter Tryd.func4, Tryd.ntmps4
  go_wp2_with fail
  refine (awake5_any w HT.out).mono ?_
  rintro e V0 ⟨rfl, q0⟩
  go_wp2_with fail
  refine (mk _).mono ?_
  rintro e V1 ⟨rfl, q1⟩
  go_wp2_with fail
  refine (lt _).mono ?_
  rintro e V2 ⟨rfl, q2⟩
  have r1 := bel_up q0 q1 q0.size
  have r2 := bel_up r1 q2 r1.size
  clear mk lt q0 q1 q2 r1
  have hcw := hcv V2
  obtain ⟨cap, hcap⟩ : ∃ c, c = grownCap V2 T.size 0 5 := ⟨_, rfl⟩
  rw [← hcap] at hcw
  clear hcv hcap
  go_wp2_with fail
  obtain ⟨bt, hbt⟩ : ∃ b, b = V2.heap.size := ⟨_, rfl⟩
  obtain ⟨D, hD⟩ : ∃ D, D = V2.alloc (.cells (bytesRow T cap) 5 ((bytesRow T cap).size, (bytesRow T cap).size + 1)) := ⟨_, rfl⟩
  have hDb : D.heap[bt]? = some (.cells (bytesRow T cap) 5 ((bytesRow T cap).size, (bytesRow T cap).size + 1)) := by rw [hD]; exact pf_new _ _ _ hbt
  rw [← hD, ← hbt]
  have hVD : Below V2.heap.size V2 D := by rw [hD]; exact bel_alloc (Below.refl _ _) _
  have hwD := bel_up r2 hVD r2.size
  have HBT : Hid (w.heap.size ≤ bt) := by show w.heap.size ≤ bt; rw [hbt]; exact r2.size
  obtain ⟨j, hj⟩ : ∃ j, j = at_ % T.size := ⟨_, rfl⟩
  have hjl : j < T.size := by rw [hj]; exact Nat.mod_lt _ hTp
  have ej : (at_ : Int) % (T.size : Int) = j := by rw [hj]; simp
  obtain ⟨v, hv⟩ : ∃ v, v = wi % 14 := ⟨_, rfl⟩
  have hvl : v < 14 := by omega
  have ev : (wi : Int) % 14 = v := by omega
  have hcell : D.cell? ⟨bt, j, none⟩ = some (.int .u8 (T.data[j].toNat : Int)) := by
    unfold World.cell?
    simp only [hDb]
    exact bytesRow_at T cap j hjl
  have hrow : T.size ≤ (bytesRow T cap).size := by
    show T.data.size ≤ _
    unfold bytesRow
    rw [Array.size_append, Array.size_map]
    exact Nat.le_add_right _ _
  have hfr : D.frozen? ⟨bt, j, none⟩ = false := by
    unfold World.frozen?
    simp only [hDb]
    simp
    omega
  have j0 : (0 : Int) ≤ j := by omega
  have j1 : (j : Int) < T.size := by omega
  have tz : ¬ ((T.size : Int) = 0) := by omega
  have v0 : (0 : Int) ≤ v := by omega
  have v1 : (v : Int) < 14 := by omega
  clear hD hbt hcw hj hv r2 hVD
  go_region
  obtain ⟨c, hc⟩ : ∃ c : UInt8, c = (⟨#[48, 49, 50, 51, 52, 53, 54, 55, 56, 57, 46, 47, 97, 45]⟩ : ByteArray)[v] := ⟨_, rfl⟩
  rw [← hc]
  obtain ⟨E, hE⟩ : ∃ E, E = D.setCell ⟨bt, j, none⟩ (.int .u8 (c.toNat : Int)) := ⟨_, rfl⟩
  rw [← hE]
  have hEb : E.heap[bt]? = some (.cells ((bytesRow T cap).setIfInBounds j (.int .u8 (c.toNat : Int))) 5 ((bytesRow T cap).size, (bytesRow T cap).size + 1)) := by rw [hE]; exact set_two hDb _
  have hwE : Below w.heap.size w E := by rw [hE]; exact hwD.setCell HBT.out _
  obtain ⟨l1, hl1⟩ : ∃ l1, l1 = T.data.toList.set j c := ⟨_, rfl⟩
  have hlen : l1.length = T.size := by
    rw [hl1, List.length_set]
    exact (size_eq T).symm
  have hcells : ∀ i (hi : i < l1.length), E.drew.drew.cell? ((⟨bt, 0, none⟩ : Addr).add i) = some (.int .u8 (l1[i].toNat : Int)) := by
    intro i hi
    have hi' : i < T.data.size := by rw [hlen] at hi; exact hi
    have ea : ((⟨bt, 0, none⟩ : Addr).add i) = ⟨bt, i, none⟩ := by
      simp [Addr.add]
      exact fun h => h.symm
    rw [ea]
    show E.cell? ⟨bt, i, none⟩ = _
    unfold World.cell?
    simp only [hEb]
    subst hl1
    rw [Array.getElem?_setIfInBounds]
    by_cases hij : j = i
    · subst hij
      have hjr : j < (bytesRow T cap).size := Nat.lt_of_lt_of_le hjl hrow
      simp [hjr]
    · rw [if_neg hij, bytesRow_at T cap i hi']
      simp [hij]
  have hbk := run_convert_bytes_back (P := Tryd.prog) E.drew.drew 33 9 5 ⟨bt, 0, none⟩ cap l1 Tryd.underlying33 Tryd.underlying5 Tryd.underlying9 hcells
  rw [hlen] at hbk
  have hl1m : l1.length ≤ maxLen := by rw [hlen]; exact Nat.le_trans hTs (by unfold maxLen; decide)
  have hwE2 : Below w.heap.size w E.drew.drew := hwE.drew.drew
  obtain ⟨F, hF⟩ : ∃ F, F = E.drew.drew := ⟨_, rfl⟩
  rw [← hF] at hbk hwE2 ⊢
  clear hF hcells hEb hE hc hwE hwD hDb hcell hfr hl1 hlen ej ev j0 j1 tz v0 v1 hrow hvl hjl
  go_wp2_with fail
  obtain ⟨bq, hbq⟩ : ∃ b, b = F.heap.size := ⟨_, rfl⟩
  rw [← hbq]
  obtain ⟨L0, hL0⟩ : ∃ L, L = F.alloc (.cells #[.string ⟨l0.toArray⟩, .string ⟨l1.toArray⟩] 9) := ⟨_, rfl⟩
  rw [← hL0]
  have hwL : Below w.heap.size w L0 := by rw [hL0]; exact bel_alloc hwE2 _
  have hrL : L0.heap[bq]? = some (.cells #[.string ⟨l0.toArray⟩, .string ⟨l1.toArray⟩] 9 (0, 0)) := by rw [hL0]; exact pf_new _ _ _ hbq
  clear hL0 hbq hwE2 hbk HT HBT
  go_loopw [35] (fun i wr => ∃ k : Nat, k ≤ 2 ∧ i = .int .i64 k ∧ wr.heap[bq]? = some (.cells #[.string ⟨l0.toArray⟩, .string ⟨l1.toArray⟩] 9 (0, 0)) ∧ Below w.heap.size w wr) (fun i _ => 2 - (RowKit.intOf i).toNat)
  case atStart => exact ⟨0, by decide, rfl, hrL, hwL⟩
  case round =>
    obtain ⟨k, hk, rfl, hr, hw⟩ := hrel
    clear hrL hwL
    have hk' : k = 0 ∨ k = 1 ∨ k = 2 := by omega
    obtain ⟨r0, r1⟩ := cells_two hr
    rcases hk' with rfl | rfl | rfl
    · rw [show ((0 : Nat) : Int) = 0 from rfl]
      have pp := parse_l l0 hs
      cases hp : parseP l0 with
      | none =>
        rw [hp] at pp
        unfold parV pfV at pp
        simp only [Int.natCast_zero] at pp
        clear hp
        go_wp2_with fail
        refine (pp _).mono ?_
        rintro e W1 ⟨rfl, s1⟩
        clear pp r0 r1
        go_wp2_with fail
        have s2 : Below wr.heap.size wr (W1.alloc (.cells #[.int .u32 0, .int .i64 0] 24)) := bel_alloc s1 _
        go_roundw
        case rel => exact ⟨1, by decide, by go_num, pf_block s2 hr, bel_up hw s2 hw.size⟩
        case measure => simp [RowKit.intOf]
      | some r =>
        obtain ⟨c, d⟩ := r
        obtain ⟨hm, hc, hl⟩ := parse_is hp
        rw [hp] at pp
        unfold parV pfV at pp
        dsimp only at pp
        have m2 := lmay_any c d hc
        rw [hm] at m2
        have lt := ltext_any c d hc (by have := may_bounds hm; omega)
        rw [← hl] at lt
        unfold pfV at m2 lt
        unfold strV at lt
        clear hp hl hm
        obtain ⟨S, hS⟩ : ∃ S : ByteArray, S = ⟨l0.toArray⟩ := ⟨_, rfl⟩
        rw [← hS] at lt pp r0
        clear hS
        go_wp2_with fail
        refine (pp _).mono ?_
        rintro e W1 ⟨rfl, s1⟩
        clear pp
        obtain ⟨b6, hb6⟩ : ∃ b, b = W1.heap.size := ⟨_, rfl⟩
        go_wp2_with fail
        rw [← hb6]
        obtain ⟨X, hX⟩ : ∃ X, X = W1.alloc (.cells #[.int .u32 c, .int .i64 d] 24) := ⟨_, rfl⟩
        rw [← hX]
        have s2 : Below wr.heap.size wr X := by rw [hX]; exact bel_alloc s1 _
        have hcX : X.heap[b6]? = some (.cells #[.int .u32 c, .int .i64 d] 24 (0, 0)) := by rw [hX]; exact pf_new _ _ _ hb6
        clear hX hb6 s1 r0 r1
        refine (m2 _).mono ?_
        rintro e W2 ⟨rfl, s3⟩
        have hc2 := pf_block s3 hcX
        obtain ⟨y0, y1⟩ := cells_two hc2
        have s4 := bel_up s2 s3 s2.size
        clear m2 hcX s2 s3
        go_wp2_with fail
        refine (lt _).mono ?_
        rintro e W3 ⟨rfl, s5⟩
        have s6 := bel_up s4 s5 s4.size
        clear lt y0 y1 s4 s5
        go_wp2_with fail
        go_roundw
        case rel => exact ⟨1, by decide, by go_num, pf_block s6 hr, bel_up hw s6 hw.size⟩
        case measure => simp [RowKit.intOf]
    · rw [show ((1 : Nat) : Int) = 1 from rfl]
      have pp := parse_l l1 hl1m
      cases hp : parseP l1 with
      | none =>
        rw [hp] at pp
        unfold parV pfV at pp
        simp only [Int.natCast_zero] at pp
        clear hp
        go_wp2_with fail
        refine (pp _).mono ?_
        rintro e W1 ⟨rfl, s1⟩
        clear pp r0 r1
        go_wp2_with fail
        have s2 : Below wr.heap.size wr (W1.alloc (.cells #[.int .u32 0, .int .i64 0] 24)) := bel_alloc s1 _
        go_roundw
        case rel => exact ⟨2, by decide, by go_num, pf_block s2 hr, bel_up hw s2 hw.size⟩
        case measure => simp [RowKit.intOf]
      | some r =>
        obtain ⟨c, d⟩ := r
        obtain ⟨hm, hc, hl⟩ := parse_is hp
        rw [hp] at pp
        unfold parV pfV at pp
        dsimp only at pp
        have m2 := lmay_any c d hc
        rw [hm] at m2
        have lt := ltext_any c d hc (by have := may_bounds hm; omega)
        rw [← hl] at lt
        unfold pfV at m2 lt
        unfold strV at lt
        clear hp hl hm
        obtain ⟨S, hS⟩ : ∃ S : ByteArray, S = ⟨l1.toArray⟩ := ⟨_, rfl⟩
        rw [← hS] at lt pp r1
        clear hS
        go_wp2_with fail
        refine (pp _).mono ?_
        rintro e W1 ⟨rfl, s1⟩
        clear pp
        obtain ⟨b6, hb6⟩ : ∃ b, b = W1.heap.size := ⟨_, rfl⟩
        go_wp2_with fail
        rw [← hb6]
        obtain ⟨X, hX⟩ : ∃ X, X = W1.alloc (.cells #[.int .u32 c, .int .i64 d] 24) := ⟨_, rfl⟩
        rw [← hX]
        have s2 : Below wr.heap.size wr X := by rw [hX]; exact bel_alloc s1 _
        have hcX : X.heap[b6]? = some (.cells #[.int .u32 c, .int .i64 d] 24 (0, 0)) := by rw [hX]; exact pf_new _ _ _ hb6
        clear hX hb6 s1 r0 r1
        refine (m2 _).mono ?_
        rintro e W2 ⟨rfl, s3⟩
        have hc2 := pf_block s3 hcX
        obtain ⟨y0, y1⟩ := cells_two hc2
        have s4 := bel_up s2 s3 s2.size
        clear m2 hcX s2 s3
        go_wp2_with fail
        refine (lt _).mono ?_
        rintro e W3 ⟨rfl, s5⟩
        have s6 := bel_up s4 s5 s4.size
        clear lt y0 y1 s4 s5
        go_wp2_with fail
        go_roundw
        case rel => exact ⟨2, by decide, by go_num, pf_block s6 hr, bel_up hw s6 hw.size⟩
        case measure => simp [RowKit.intOf]
    · rw [show ((2 : Nat) : Int) = 2 from rfl]
      go_wp2_with fail
      go_ret
      exact ⟨rfl, hw⟩
end Go.Proofs.YtgofhgbffgmjhaaDoor
