/- What the law's own part and piece do. -/
import Derived.Test.YtbegdnagegonjaaDoorKV
import Derived.Test.YtbegdnagegonjaaDoorKD
import Derived.Test.YtbegdnagegonjaaDoorKN
namespace Go.Proofs.YtbegdnagegonjaaDoor
open Go.RowKit Go.Lib

set_option maxHeartbeats 4000000 in
set_option maxRecDepth 20000 in
theorem lpart_any (c : UInt8) (w : World) : Calls Tryd.prog 17 #[.int .u8 (c.toNat : Int)] w fun e w' => e = .returned (.bool (prtP c)) ∧ w' = w := by
  unfold prtP letP digP
  obtain ⟨x, hx⟩ : ∃ x : Nat, x = c.toNat := ⟨_, rfl⟩
  rw [← hx]
  clear hx
  go_enter Tryd.func17, Tryd.ntmps17
  go_wp2
  all_goals go_ret
  all_goals simp_all
  all_goals (first | omega | (rw [Bool.eq_iff_iff]; simp; omega))
theorem tn_none {l : List UInt8} (h : accP 0 l = none) : tnP l = none := by
  unfold tnP
  split
  · rfl
  · exact h
theorem tn_long {l : List UInt8} (h : 6 < l.length) : tnP l = none := by
  unfold tnP
  rw [if_pos (by omega)]
theorem tn_empty {l : List UInt8} (h : l.length < 1) : tnP l = none := by
  unfold tnP
  rw [if_pos (by omega)]
theorem tn_ahead {l : List UInt8} (h : 1 < l.length) (h2 : l.getD 0 0 = 48) : tnP l = none := by
  unfold tnP
  rw [if_pos (.inr (.inr ⟨h, by cases l with | nil => simp at h | cons y r => exact congrArg some h2⟩))]
theorem tn_acc {l : List UInt8} (h0 : 1 ≤ l.length) (h : l.length ≤ 6) (h2 : ¬ (1 < l.length ∧ l.getD 0 0 = 48)) : tnP l = accP 0 l := by
  unfold tnP
  rw [if_neg]
  rintro (h3 | h3 | ⟨h3, h4⟩)
  · omega
  · omega
  · refine h2 ⟨h3, ?_⟩
    cases l with
    | nil => simp at h3
    | cons y r => exact Option.some.inj h4
set_option maxHeartbeats 8000000 in
set_option maxRecDepth 20000 in
theorem lpiece_any (l : List UInt8) (hl : l.length ≤ 65536) (w : World) :
    Calls Tryd.prog 18 #[.string ⟨l.toArray⟩] w fun e w' => e = .returned (ofV (pieceP l)) ∧ Below w.heap.size w w' := by
  have hml : l.length ≤ maxLen := Nat.le_trans hl (by unfold maxLen; decide)
  have h1 := lname_any ⟨l.toArray⟩ (by rw [str_size]; exact hml)
  have h3 := parse_l l hml
  rw [show (⟨l.toArray⟩ : ByteArray).data.toList = l from rfl] at h1
  clear hml
  obtain ⟨br, hbr⟩ : ∃ b, b = w.heap.size := ⟨_, rfl⟩
  have HBR : Hid (w.heap.size ≤ br) := by show w.heap.size ≤ br; omega
  cases hn : nameP l with
  | true =>
    have HV : Hid (pieceP l = some ⟨1, l, 0, 0, 0, 0⟩) := by show pieceP l = _; unfold pieceP; rw [hn]; rfl
    rw [hn] at h1
    clear hn h3
    go_enter Tryd.func18, Tryd.ntmps18
    go_wp2_with fail
    rw [← hbr]
    obtain ⟨W, hW⟩ : ∃ W, W = w.alloc (.cells #[.int .i64 0, .string ⟨#[]⟩, .int .i64 0, .int .u32 0, .int .i64 0, .int .i64 0] 42) := ⟨_, rfl⟩
    rw [← hW]
    have hr : W.heap[br]? = some (.cells #[.int .i64 0, .string ⟨#[]⟩, .int .i64 0, .int .u32 0, .int .i64 0, .int .i64 0] 42 (0, 0)) := by rw [hW]; exact pf_new _ _ _ hbr
    have hw : Below w.heap.size w W := by rw [hW]; exact bel_alloc (Below.refl _ _) _
    clear hW hbr
    refine (h1 _).mono ?_
    rintro e w2 ⟨rfl, rfl⟩
    obtain ⟨R0, R1, R2, R3, R4, R5⟩ := cells_six hr
    obtain ⟨F0, F1, F2, F3, F4, F5⟩ := free_six hr
    clear h1
    go_wp2_with fail
    show bodyPost _ _ _ _ _ (put6 w2 br ⟨1, l, 0, 0, 0, 0⟩)
    have rX : (put6 w2 br ⟨1, l, 0, 0, 0, 0⟩).heap[br]? = some (.cells (tkL ⟨1, l, 0, 0, 0, 0⟩).toArray 42 (0, 0)) := put_six hr _
    have qX := put_bel hw HBR.out ⟨1, l, 0, 0, 0, 0⟩
    generalize put6 w2 br ⟨1, l, 0, 0, 0, 0⟩ = X at *
    obtain ⟨W0, W1, W2, W3, W4, W5⟩ := cells_six rX
    refine bodyPost_ret (v := ofV (some ⟨1, l, 0, 0, 0, 0⟩)) (by unfold ofV tkV; simp [results, Tryd.results18, go_sem, W0, W1, W2, W3, W4, W5]) rfl ?_
    exact ⟨by rw [HV.out], qX⟩
  | false =>
    rw [hn] at h1
    go_enter Tryd.func18, Tryd.ntmps18
    go_wp2_with fail
    rw [← hbr]
    obtain ⟨W, hW⟩ : ∃ W, W = w.alloc (.cells #[.int .i64 0, .string ⟨#[]⟩, .int .i64 0, .int .u32 0, .int .i64 0, .int .i64 0] 42) := ⟨_, rfl⟩
    rw [← hW]
    have hr : W.heap[br]? = some (.cells #[.int .i64 0, .string ⟨#[]⟩, .int .i64 0, .int .u32 0, .int .i64 0, .int .i64 0] 42 (0, 0)) := by rw [hW]; exact pf_new _ _ _ hbr
    have hw : Below w.heap.size w W := by rw [hW]; exact bel_alloc (Below.refl _ _) _
    clear hW hbr
    refine (h1 _).mono ?_
    rintro e w1 ⟨rfl, rfl⟩
    clear h1
    cases hp : parseP l with
    | some r =>
      obtain ⟨a, b⟩ := r
      have HV : Hid (pieceP l = some ⟨3, l, 0, a, b, 0⟩) := by show pieceP l = _; unfold pieceP; rw [hn, hp]; rfl
      rw [hp] at h3
      unfold parV pfV at h3
      simp only at h3
      go_wp2_with fail
      refine (h3 _).mono ?_
      rintro e w2 ⟨rfl, q2⟩
      have r1 := pf_block q2 hr
      have q3 := bel_up hw q2 hw.size
      clear h3 hp hn hr q2 hw
      have qz := bel_alloc (Below.refl w2.heap.size w2) (.cells #[.int .u32 a, .int .i64 b] 40)
      have r2 := pf_block qz r1
      have q4 := bel_up q3 qz q3.size
      obtain ⟨R0, R1, R2, R3, R4, R5⟩ := cells_six r2
      obtain ⟨F0, F1, F2, F3, F4, F5⟩ := free_six r2
      have hne : br ≠ w2.heap.size := Nat.ne_of_lt (Array.getElem?_eq_some_iff.1 r1).1
      go_wp2_with fail
      show bodyPost _ _ _ _ _ (put6 (w2.alloc (.cells #[.int .u32 a, .int .i64 b] 40)) br ⟨3, l, 0, a, b, 0⟩)
      have rX : (put6 (w2.alloc (.cells #[.int .u32 a, .int .i64 b] 40)) br ⟨3, l, 0, a, b, 0⟩).heap[br]? = some (.cells (tkL ⟨3, l, 0, a, b, 0⟩).toArray 42 (0, 0)) := put_six r2 _
      have qX := put_bel q4 HBR.out ⟨3, l, 0, a, b, 0⟩
      generalize put6 (w2.alloc (.cells #[.int .u32 a, .int .i64 b] 40)) br ⟨3, l, 0, a, b, 0⟩ = X at *
      obtain ⟨W0, W1, W2, W3, W4, W5⟩ := cells_six rX
      refine bodyPost_ret (v := ofV (some ⟨3, l, 0, a, b, 0⟩)) (by unfold ofV tkV; simp [results, Tryd.results18, go_sem, W0, W1, W2, W3, W4, W5]) rfl ?_
      exact ⟨by rw [HV.out], qX⟩
    | none =>
      have HV0 : Hid (pieceP l = match tnP l with | some n => some ⟨2, l, n, 0, 0, 0⟩ | none => none) := by show pieceP l = _; unfold pieceP; rw [hn, hp]; rfl
      rw [hp] at h3
      unfold parV pfV at h3
      simp only at h3
      go_wp2_with fail
      refine (h3 _).mono ?_
      rintro e w2 ⟨rfl, q2⟩
      have r1 := pf_block q2 hr
      have q3 := bel_up hw q2 hw.size
      clear h3 hp hn hr q2 hw
      go_wp2_with fail
      obtain ⟨Z, hZ⟩ : ∃ Z, Z = w2.alloc (.cells #[.int .u32 0, .int .i64 0] 40) := ⟨_, rfl⟩
      rw [← hZ]
      have qz : Below w2.heap.size w2 Z := by rw [hZ]; exact bel_alloc (Below.refl _ _) _
      have r2 := pf_block qz r1
      have q4 := bel_up q3 qz q3.size
      obtain ⟨R0, R1, R2, R3, R4, R5⟩ := cells_six r2
      obtain ⟨F0, F1, F2, F3, F4, F5⟩ := free_six r2
      obtain ⟨b4, hb4⟩ : ∃ b, b = w2.heap.size := ⟨_, rfl⟩
      rw [← hb4]
      clear hZ qz r1 q3 hb4
      obtain ⟨s, hs⟩ : ∃ s : ByteArray, s = ⟨l.toArray⟩ := ⟨_, rfl⟩
      have hsl : l = s.data.toList := by rw [hs]
      have hsz : l.length = s.size := by rw [hs, str_size]
      have HIDX : Hid (∀ k (h : k < s.size), s[k] = l.getD k 0) := idx_at hsl
      have HSS : Hid (s = ⟨l.toArray⟩) := hs
      have HS : Hid (l.length = s.size) := hsz
      rw [← hs]
      have hs65 : s.size ≤ 65536 := by omega
      clear hs hsl hsz hl
      go_loop [6, 7] (fun nv i => ∃ k acc : Nat, k ≤ s.size ∧ k ≤ 6 ∧ i = .int .i64 k ∧ nv = .int .i64 acc ∧ acc < 10 ^ k ∧ accP acc (l.drop k) = accP 0 l) (fun _ i => s.size - (RowKit.intOf i).toNat)
      case atStart => exact ⟨0, 0, Nat.zero_le _, Nat.zero_le _, rfl, rfl, by decide, rfl⟩
      case round =>
        obtain ⟨k, acc, hk, hk6, rfl, rfl, ha, HJ⟩ := hrel
        have HA : Hid (acc < 10 ^ k) := ha
        have ha2 : acc < 1000000 := Nat.lt_of_lt_of_le ha (Nat.le_trans (Nat.pow_le_pow_right (by decide) hk6) (by decide))
        by_cases hlt : k < s.size
        · have hi := HIDX.out k hlt
          have d4 : decide ((k : Int) < s.size) = true := decide_eq_true (by omega)
          rw [drop_at (by rw [HS.out]; exact hlt)] at HJ
          obtain ⟨c, hc⟩ : ∃ c, c = l.getD k 0 := ⟨_, rfl⟩
          rw [← hc] at hi HJ
          clear hc ha
          obtain ⟨x, hx⟩ : ∃ x : Nat, x = c.toNat := ⟨_, rfl⟩
          have hi2 : s[k].toNat = x := by rw [hi, hx]
          cases hq : digP c
          · have HN : Hid (pieceP l = none) := by
              show pieceP l = none
              rw [HV0.out, tn_none (by rw [← HJ, acc_no hq])]
            have hx2 : x < 48 ∨ (48 ≤ x ∧ 57 < x) := by
              unfold digP at hq
              rw [← hx] at hq
              simp at hq
              omega
            clear hx hi HJ hq
            rcases hx2 with h | ⟨h, h'⟩
            · have d5 : decide ((x : Int) < 48) = true := decide_eq_true (by omega)
              go_wp2_with fail
              show bodyPost _ _ _ _ _ (put6 Z br noT)
              have rX : (put6 Z br noT).heap[br]? = some (.cells (tkL noT).toArray 42 (0, 0)) := put_six r2 _
              have qX := put_bel q4 HBR.out noT
              generalize put6 Z br noT = X at *
              obtain ⟨W0, W1, W2, W3, W4, W5⟩ := cells_six rX
              refine bodyPost_ret (v := ofV (none)) (by unfold ofV tkV; simp [results, Tryd.results18, go_sem, W0, W1, W2, W3, W4, W5, noT]) rfl ?_
              exact ⟨by rw [HN.out], qX⟩
            · have d5 : decide ((x : Int) < 48) = false := decide_eq_false (by omega)
              have d6 : decide ((57 : Int) < x) = true := decide_eq_true (by omega)
              go_wp2_with fail
              show bodyPost _ _ _ _ _ (put6 Z br noT)
              have rX : (put6 Z br noT).heap[br]? = some (.cells (tkL noT).toArray 42 (0, 0)) := put_six r2 _
              have qX := put_bel q4 HBR.out noT
              generalize put6 Z br noT = X at *
              obtain ⟨W0, W1, W2, W3, W4, W5⟩ := cells_six rX
              refine bodyPost_ret (v := ofV (none)) (by unfold ofV tkV; simp [results, Tryd.results18, go_sem, W0, W1, W2, W3, W4, W5, noT]) rfl ?_
              exact ⟨by rw [HN.out], qX⟩
          · obtain ⟨ey, e1, e2⟩ := acc_yes (n := acc) (l := l.drop (k + 1)) hq
            rw [ey] at HJ
            rw [← hx] at HJ e1 e2
            have d5 : decide ((x : Int) < 48) = false := decide_eq_false (by omega)
            have d6 : decide ((57 : Int) < x) = false := decide_eq_false (by omega)
            have HJ' : Hid (accP (acc * 10 + (x - 48)) (l.drop (k + 1)) = accP 0 l) := HJ
            clear hx hi HJ hq ey
            by_cases h6 : k = 6
            · have HN : Hid (pieceP l = none) := by
                show pieceP l = none
                rw [HV0.out, tn_long (by rw [HS.out]; omega)]
              subst h6
              have d8 : decide ((6 : Int) < s.size) = true := decide_eq_true (by omega)
              go_wp2_with fail
              show bodyPost _ _ _ _ _ (put6 Z br noT)
              have rX : (put6 Z br noT).heap[br]? = some (.cells (tkL noT).toArray 42 (0, 0)) := put_six r2 _
              have qX := put_bel q4 HBR.out noT
              generalize put6 Z br noT = X at *
              obtain ⟨W0, W1, W2, W3, W4, W5⟩ := cells_six rX
              refine bodyPost_ret (v := ofV (none)) (by unfold ofV tkV; simp [results, Tryd.results18, go_sem, W0, W1, W2, W3, W4, W5, noT]) rfl ?_
              exact ⟨by rw [HN.out], qX⟩
            · have d7 : ((k : Int) == 6) = false := by rw [beq_eq_false_iff_ne]; omega
              go_wp2_with fail
              have hacc := HA.out
              go_round
              case rel => exact ⟨k + 1, acc * 10 + (x - 48), by omega, by omega, by go_num, by congr 1; omega, by rw [Nat.pow_succ]; omega, HJ'.out⟩
              case measure => simp [RowKit.intOf]; omega
        · obtain rfl : k = s.size := by omega
          have d4 : decide ((s.size : Int) < s.size) = false := decide_eq_false (by omega)
          rw [List.drop_of_length_le (by rw [HS.out]; exact Nat.le_refl _), accP] at HJ
          have HJ' : Hid (accP 0 l = some acc) := HJ.symm
          clear HJ ha
          by_cases h0 : s.size = 0
          · have HN : Hid (pieceP l = none) := by
              show pieceP l = none
              rw [HV0.out, tn_empty (by rw [HS.out]; omega)]
            have d5 : ((s.size : Int) == 0) = true := beq_iff_eq.2 (by omega)
            go_wp2_with fail
            show bodyPost _ _ _ _ _ (put6 Z br noT)
            have rX : (put6 Z br noT).heap[br]? = some (.cells (tkL noT).toArray 42 (0, 0)) := put_six r2 _
            have qX := put_bel q4 HBR.out noT
            generalize put6 Z br noT = X at *
            obtain ⟨W0, W1, W2, W3, W4, W5⟩ := cells_six rX
            refine bodyPost_ret (v := ofV (none)) (by unfold ofV tkV; simp [results, Tryd.results18, go_sem, W0, W1, W2, W3, W4, W5, noT]) rfl ?_
            exact ⟨by rw [HN.out], qX⟩
          · have d5 : ((s.size : Int) == 0) = false := by rw [beq_eq_false_iff_ne]; omega
            have hi0 := HIDX.out 0 (by omega)
            obtain ⟨y, hy⟩ : ∃ y : Nat, y = (l.getD 0 0).toNat := ⟨_, rfl⟩
            have hi2 : s[0].toNat = y := by rw [hi0, hy]
            have k1 : (1 : Int) ≤ s.size := by omega
            clear hi0
            by_cases h1 : 1 < s.size
            · have d6 : decide ((1 : Int) < s.size) = true := decide_eq_true (by omega)
              by_cases h48 : y = 48
              · have HN : Hid (pieceP l = none) := by
                  show pieceP l = none
                  rw [HV0.out, tn_ahead (by rw [HS.out]; omega) (UInt8.toNat_inj.1 (by rw [← hy, h48]; rfl))]
                subst h48
                clear hy
                go_wp2_with fail
                show bodyPost _ _ _ _ _ (put6 Z br noT)
                have rX : (put6 Z br noT).heap[br]? = some (.cells (tkL noT).toArray 42 (0, 0)) := put_six r2 _
                have qX := put_bel q4 HBR.out noT
                generalize put6 Z br noT = X at *
                obtain ⟨W0, W1, W2, W3, W4, W5⟩ := cells_six rX
                refine bodyPost_ret (v := ofV (none)) (by unfold ofV tkV; simp [results, Tryd.results18, go_sem, W0, W1, W2, W3, W4, W5, noT]) rfl ?_
                exact ⟨by rw [HN.out], qX⟩
              · have HN : Hid (pieceP l = some ⟨2, l, acc, 0, 0, 0⟩) := by
                  show pieceP l = _
                  rw [HV0.out, tn_acc (by rw [HS.out]; omega) (by rw [HS.out]; omega) (fun h => h48 (by rw [hy, h.2]; rfl)), HJ'.out]
                have d7 : ((y : Int) == 48) = false := by rw [beq_eq_false_iff_ne]; omega
                clear hy
                go_wp2_with fail
                rw [HSS.out]
                show bodyPost _ _ _ _ _ (put6 Z br ⟨2, l, acc, 0, 0, 0⟩)
                have rX : (put6 Z br ⟨2, l, acc, 0, 0, 0⟩).heap[br]? = some (.cells (tkL ⟨2, l, acc, 0, 0, 0⟩).toArray 42 (0, 0)) := put_six r2 _
                have qX := put_bel q4 HBR.out ⟨2, l, acc, 0, 0, 0⟩
                generalize put6 Z br ⟨2, l, acc, 0, 0, 0⟩ = X at *
                obtain ⟨W0, W1, W2, W3, W4, W5⟩ := cells_six rX
                refine bodyPost_ret (v := ofV (some ⟨2, l, acc, 0, 0, 0⟩)) (by unfold ofV tkV; simp [results, Tryd.results18, go_sem, W0, W1, W2, W3, W4, W5]) rfl ?_
                exact ⟨by rw [HN.out], qX⟩
            · have d6 : decide ((1 : Int) < s.size) = false := decide_eq_false (by omega)
              have HN : Hid (pieceP l = some ⟨2, l, acc, 0, 0, 0⟩) := by
                show pieceP l = _
                rw [HV0.out, tn_acc (by rw [HS.out]; omega) (by rw [HS.out]; omega) (fun h => by have := HS.out; omega), HJ'.out]
              clear hy
              go_wp2_with fail
              rw [HSS.out]
              show bodyPost _ _ _ _ _ (put6 Z br ⟨2, l, acc, 0, 0, 0⟩)
              have rX : (put6 Z br ⟨2, l, acc, 0, 0, 0⟩).heap[br]? = some (.cells (tkL ⟨2, l, acc, 0, 0, 0⟩).toArray 42 (0, 0)) := put_six r2 _
              have qX := put_bel q4 HBR.out ⟨2, l, acc, 0, 0, 0⟩
              generalize put6 Z br ⟨2, l, acc, 0, 0, 0⟩ = X at *
              obtain ⟨W0, W1, W2, W3, W4, W5⟩ := cells_six rX
              refine bodyPost_ret (v := ofV (some ⟨2, l, acc, 0, 0, 0⟩)) (by unfold ofV tkV; simp [results, Tryd.results18, go_sem, W0, W1, W2, W3, W4, W5]) rfl ?_
              exact ⟨by rw [HN.out], qX⟩
end Go.Proofs.YtbegdnagegonjaaDoor
