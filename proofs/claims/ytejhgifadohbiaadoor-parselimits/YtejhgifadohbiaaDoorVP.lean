/- ParseLimits. -/
import Derived.Test.YtejhgifadohbiaaDoorVN
import Derived.Test.YtejhgifadohbiaaDoorPZ
namespace Go.Proofs.YtejhgifadohbiaaDoor
open Go.RowKit Go.Lib

theorem many_len {hd x : Bs} {k n : Nat} (h1 : hd.length ≤ 11) (h2 : x.length ≤ 16) (h3 : k ≤ 20) (h4 : n ≤ 70) : (liMany hd x k n).length ≤ 2000 := by
  cases n with
  | zero => simp [liMany]
  | succ n =>
    have e1 : (rep k x).length ≤ 320 := by rw [rep_len]; exact Nat.mul_le_mul h3 h2
    have e2 : (rep n (hd ++ liEnd)).length ≤ 910 := by rw [rep_len, List.length_append]; exact Nat.mul_le_mul (show n ≤ 70 by omega) (show hd.length + 2 ≤ 13 by omega)
    have e3 : liEnd.length = 2 := rfl
    simp only [liMany, List.length_append]
    omega
theorem rep_small {x : Bs} {j : Nat} (h2 : x.length ≤ 16) (h3 : j ≤ 20) : (rep j x).length ≤ 320 := by rw [rep_len]; exact Nat.mul_le_mul h3 h2
/-- A text and a piece behind it. -/
theorem put_piece {S : ByteArray} {l : Bs} (hS : S = ⟨l.toArray⟩) (x : Bs) (hl : l.length + x.length ≤ 10000) : ∃ S', S ++ ⟨x.toArray⟩ = S' ∧ S' = ⟨(l ++ x).toArray⟩ ∧ S.size ≤ 10000 := by
  refine ⟨_, rfl, ?_, ?_⟩
  · rw [hS, str_add]
  · rw [hS, str_size]
    omega
set_option maxHeartbeats 16000000 in
set_option maxRecDepth 20000 in
theorem parseLimits_walk (maps clauses routers nets : Nat) (hmaps : maps < 256) (hcl : clauses < 256) (hro : routers < 256) (hne : nets < 256) (w : World) (hw : Laid w) :
    Calls Tryd.prog 4 #[.int .u8 maps, .int .u8 clauses, .int .u8 routers, .int .u8 nets] w fun e w' => e = .returned (.bool true) ∧ Below w.heap.size w w' := by
  obtain ⟨m, hm⟩ : ∃ c, c = 60 + maps % 8 := ⟨_, rfl⟩
  obtain ⟨k, hk⟩ : ∃ c, c = clauses % 20 := ⟨_, rfl⟩
  obtain ⟨r, hr⟩ : ∃ c, c = 60 + routers % 8 := ⟨_, rfl⟩
  obtain ⟨n, hn⟩ : ∃ c, c = nets % 12 := ⟨_, rfl⟩
  have rm : (60 + (maps : Int) % 8) = (m : Int) := by omega
  have rk : ((clauses : Int) % 20) = (k : Int) := by omega
  have rr : (60 + (routers : Int) % 8) = (r : Int) := by omega
  have rn : ((nets : Int) % 12) = (n : Int) := by omega
  have lm : 60 ≤ m ∧ m < 68 := by omega
  have lk : k < 20 := by omega
  have lr : 60 ≤ r ∧ r < 68 := by omega
  have ln : n < 12 := by omega
  clear hm hk hr hn
  have hr0 := li_read (m := m) (k := k) (r := r) (n := n) (by omega) (by omega) (by omega) (by omega) (by omega) (by omega)
  have HR1 : Hid (64 < m ∨ 16 < k ∨ 64 < r ∨ 8 < n → ∃ p, readP (liText m k r n) = .inl (7, p)) := fun hb => by rw [if_pos hb] at hr0; exact hr0
  have HR2 : Hid (¬ (64 < m ∨ 16 < k ∨ 64 < r ∨ 8 < n) → ∃ d, readP (liText m k r n) = .inr d) := fun hb => by rw [if_neg hb] at hr0; exact hr0
  clear hr0
  have HL : Hid ((liText m k r n).length ≤ 5000) := li_len (by omega) (by omega) (by omega) (by omega)
  have HW : Hid (Laid w) := hw
  have HB : Hid ((60 ≤ m ∧ m < 68) ∧ k < 20 ∧ (60 ≤ r ∧ r < 68) ∧ n < 12) := ⟨lm, lk, lr, ln⟩
  have h0 := awake8_any w hw
  clear hw lm lk lr ln
  go_enter Tryd.func4, Tryd.ntmps4
  go_wp2_with fail
  refine h0.mono ?_
  rintro e U ⟨rfl, qU⟩
  clear h0
  have HU : Hid (Below w.heap.size w U) := qU
  clear qU
  go_wp2_with fail
  go_loopg [13, 14] m (fun gm vs vi wr => ∃ (i : Nat) (S : ByteArray), i + gm = m ∧ vs = .string S ∧ vi = .int .i64 i ∧ Hid (S = ⟨(liMany liMap liCla k i).toArray⟩) ∧ Hid (Below w.heap.size w wr))
  case atStart => exact ⟨0, _, Nat.zero_add _, rfl, rfl, (by show _ = _; rfl), HU⟩
  case round =>
    obtain ⟨i, S, hi, rfl, rfl, HS, HU⟩ := hrel
    by_cases hlt : i < m
    · have d1 : decide ((i : Int) < m) = true := decide_eq_true (by omega)
      have hlm : (liMany liMap liCla k i).length ≤ 2000 := many_len (by decide) (by decide) (by have := HB.out; omega) (by have := HB.out; omega)
      obtain ⟨S1, e1, h1, z1⟩ := put_piece HS.out liMap (by have h9 : liMap.length ≤ 11 := (by decide); (try simp only [List.length_append]); omega)
      replace e1 : S ++ (⟨#[109, 97, 112, 32, 109, 32, 123, 32]⟩ : ByteArray) = S1 := e1
      have H1 : Hid (S1 = ⟨(liMany liMap liCla k i ++ liMap).toArray⟩) := h1
      have zi : (i : Int) ≤ 70 := by have := HB.out; omega
      clear h1
      by_cases h0 : i = 0
      · subst h0
        go_wp2_with fail
        clear e1 z1
        go_loopg [13, 15] k (fun g2 vs vj wr => ∃ (j : Nat) (S : ByteArray), j + g2 = k ∧ vs = .string S ∧ vj = .int .i64 j ∧ Hid (S = ⟨(liMany liMap liCla k 0 ++ liMap ++ rep j liCla).toArray⟩) ∧ Hid (Below w.heap.size w wr))
        case atStart =>
          refine ⟨0, _, Nat.zero_add _, rfl, rfl, ?_, HU⟩
          show S1 = _
          rw [H1.out]
          simp [rep]
        case round =>
          obtain ⟨j, S2, hj, rfl, rfl, H2, HU⟩ := hrel
          have hrl : (rep j liCla).length ≤ 320 := rep_small (by decide) (by have := HB.out; omega)
          by_cases hlt2 : j < k
          · have d2 : decide ((j : Int) < k) = true := decide_eq_true (by omega)
            obtain ⟨S3, e3, h3, z3⟩ := put_piece H2.out liCla (by have h9 : liMap.length ≤ 11 := (by decide); have h8 : liCla.length ≤ 16 := (by decide); (try simp only [List.length_append]); have h7 : (liMany liMap liCla k 0).length = 0 := rfl; omega)
            replace e3 : S2 ++ (⟨#[105, 102, 32, 97, 110, 121, 32, 116, 104, 101, 110, 59, 32]⟩ : ByteArray) = S3 := e3
            have zj : (j : Int) ≤ 70 := by have := HB.out; omega
            have H3 : Hid (S3 = ⟨(liMany liMap liCla k 0 ++ liMap ++ rep (j + 1) liCla).toArray⟩) := by show S3 = _; rw [h3, rep_next]; simp only [List.append_assoc]
            clear h3
            go_wp2_with fail
            go_roundg (k - (j + 1))
            case measure => omega
            case rel => exact ⟨j + 1, S3, by omega, rfl, by go_num, H3, HU⟩
          · obtain rfl : k = j := by omega
            have d2 : decide ((k : Int) < k) = false := decide_eq_false (by omega)
            obtain ⟨S3, e3, h3, z3⟩ := put_piece H2.out liEnd (by have h9 : liMap.length ≤ 11 := (by decide); have h8 : liEnd.length = 2 := rfl; (try simp only [List.length_append]); have h7 : (liMany liMap liCla k 0).length = 0 := rfl; omega)
            replace e3 : S2 ++ (⟨#[125, 32]⟩ : ByteArray) = S3 := e3
            have H3 : Hid (S3 = ⟨(liMany liMap liCla k 1).toArray⟩) := by show S3 = _; rw [h3]; simp [liMany, rep]
            clear h3
            go_wp2_with fail
            go_roundg (m - 1)
            case measure => omega
            case rel => exact ⟨1, S3, by omega, rfl, by go_num, H3, HU⟩
      · have d0 : ((i : Int) == 0) = false := by rw [beq_eq_false_iff_ne]; omega
        obtain ⟨S3, e3, h3, z3⟩ := put_piece H1.out liEnd (by have h9 : liMap.length ≤ 11 := (by decide); have h8 : liEnd.length = 2 := rfl; (try simp only [List.length_append]); have h7 : (liMany liMap liCla k 0).length = 0 := rfl; omega)
        replace e3 : S1 ++ (⟨#[125, 32]⟩ : ByteArray) = S3 := e3
        have H3 : Hid (S3 = ⟨(liMany liMap liCla k (i + 1)).toArray⟩) := by show S3 = _; rw [h3, li_next, if_neg h0]; simp only [List.append_assoc, List.nil_append]
        clear h3
        go_wp2_with fail
        go_roundg (m - (i + 1))
        case measure => omega
        case rel => exact ⟨i + 1, S3, by omega, rfl, by go_num, H3, HU⟩
    · obtain rfl : m = i := by omega
      have d1 : decide ((m : Int) < m) = false := decide_eq_false (by omega)
      go_wp2_with fail
      go_loopg [13, 16] r (fun gm vs vi wr => ∃ (i : Nat) (S : ByteArray), i + gm = r ∧ vs = .string S ∧ vi = .int .i64 i ∧ Hid (S = ⟨(liMany liMap liCla k m ++ liMany liRou liNet n i).toArray⟩) ∧ Hid (Below w.heap.size w wr))
      case atStart => exact ⟨0, _, Nat.zero_add _, rfl, rfl, (by show S = _; rw [HS.out]; simp [liMany]), HU⟩
      case round =>
        obtain ⟨i, S, hi, rfl, rfl, HS, HU⟩ := hrel
        by_cases hlt : i < r
        · have d1 : decide ((i : Int) < r) = true := decide_eq_true (by omega)
          have hlm : (liMany liRou liNet n i).length ≤ 2000 := many_len (by decide) (by decide) (by have := HB.out; omega) (by have := HB.out; omega)
          have hlm1 : (liMany liMap liCla k m).length ≤ 2000 := many_len (by decide) (by decide) (by have := HB.out; omega) (by have := HB.out; omega)
          obtain ⟨S1, e1, h1, z1⟩ := put_piece HS.out liRou (by have h9 : liRou.length ≤ 11 := (by decide); (try simp only [List.length_append]); omega)
          replace e1 : S ++ (⟨#[114, 111, 117, 116, 101, 114, 32, 114, 32, 123, 32]⟩ : ByteArray) = S1 := e1
          have H1 : Hid (S1 = ⟨(liMany liMap liCla k m ++ liMany liRou liNet n i ++ liRou).toArray⟩) := h1
          have zi : (i : Int) ≤ 70 := by have := HB.out; omega
          clear h1
          by_cases h0 : i = 0
          · subst h0
            go_wp2_with fail
            clear e1 z1
            go_loopg [13, 17] n (fun g2 vs vj wr => ∃ (j : Nat) (S : ByteArray), j + g2 = n ∧ vs = .string S ∧ vj = .int .i64 j ∧ Hid (S = ⟨(liMany liMap liCla k m ++ liMany liRou liNet n 0 ++ liRou ++ rep j liNet).toArray⟩) ∧ Hid (Below w.heap.size w wr))
            case atStart =>
              refine ⟨0, _, Nat.zero_add _, rfl, rfl, ?_, HU⟩
              show S1 = _
              rw [H1.out]
              simp [rep]
            case round =>
              obtain ⟨j, S2, hj, rfl, rfl, H2, HU⟩ := hrel
              have hrl : (rep j liNet).length ≤ 320 := rep_small (by decide) (by have := HB.out; omega)
              by_cases hlt2 : j < n
              · have d2 : decide ((j : Int) < n) = true := decide_eq_true (by omega)
                obtain ⟨S3, e3, h3, z3⟩ := put_piece H2.out liNet (by have h9 : liRou.length ≤ 11 := (by decide); have h8 : liNet.length ≤ 16 := (by decide); (try simp only [List.length_append]); have h7 : (liMany liRou liNet n 0).length = 0 := rfl; omega)
                replace e3 : S2 ++ (⟨#[110, 101, 116, 32, 49, 48, 46, 48, 46, 48, 46, 48, 47, 56, 59, 32]⟩ : ByteArray) = S3 := e3
                have zj : (j : Int) ≤ 70 := by have := HB.out; omega
                have H3 : Hid (S3 = ⟨(liMany liMap liCla k m ++ liMany liRou liNet n 0 ++ liRou ++ rep (j + 1) liNet).toArray⟩) := by show S3 = _; rw [h3, rep_next]; simp only [List.append_assoc]
                clear h3
                go_wp2_with fail
                go_roundg (n - (j + 1))
                case measure => omega
                case rel => exact ⟨j + 1, S3, by omega, rfl, by go_num, H3, HU⟩
              · obtain rfl : n = j := by omega
                have d2 : decide ((n : Int) < n) = false := decide_eq_false (by omega)
                obtain ⟨S3, e3, h3, z3⟩ := put_piece H2.out liEnd (by have h9 : liRou.length ≤ 11 := (by decide); have h8 : liEnd.length = 2 := rfl; (try simp only [List.length_append]); have h7 : (liMany liRou liNet n 0).length = 0 := rfl; omega)
                replace e3 : S2 ++ (⟨#[125, 32]⟩ : ByteArray) = S3 := e3
                have H3 : Hid (S3 = ⟨(liMany liMap liCla k m ++ liMany liRou liNet n 1).toArray⟩) := by show S3 = _; rw [h3]; simp [liMany, rep]
                clear h3
                go_wp2_with fail
                go_roundg (r - 1)
                case measure => omega
                case rel => exact ⟨1, S3, by omega, rfl, by go_num, H3, HU⟩
          · have d0 : ((i : Int) == 0) = false := by rw [beq_eq_false_iff_ne]; omega
            obtain ⟨S3, e3, h3, z3⟩ := put_piece H1.out liEnd (by have h9 : liRou.length ≤ 11 := (by decide); have h8 : liEnd.length = 2 := rfl; (try simp only [List.length_append]); have h7 : (liMany liRou liNet n 0).length = 0 := rfl; omega)
            replace e3 : S1 ++ (⟨#[125, 32]⟩ : ByteArray) = S3 := e3
            have H3 : Hid (S3 = ⟨(liMany liMap liCla k m ++ liMany liRou liNet n (i + 1)).toArray⟩) := by show S3 = _; rw [h3, li_next, if_neg h0]; simp only [List.append_assoc, List.nil_append]
            clear h3
            go_wp2_with fail
            go_roundg (r - (i + 1))
            case measure => omega
            case rel => exact ⟨i + 1, S3, by omega, rfl, by go_num, H3, HU⟩
        · obtain rfl : r = i := by omega
          have d1 : decide ((r : Int) < r) = false := decide_eq_false (by omega)
          go_wp2_with fail
          have hk := paconfig_any (liText m k r n) (by have := HL.out; omega) wr
          have eS : S = ⟨(liText m k r n).toArray⟩ := HS.out
          rw [← eS] at hk
          clear eS
          by_cases hb : 64 < m ∨ 16 < k ∨ 64 < r ∨ 8 < n
          · obtain ⟨p, hr⟩ := HR1.out hb
            rw [hr] at hk
            unfold PaOut faV at hk
            dsimp only at hk
            clear hr
            by_cases c0 : 64 < m
            · have dm : decide ((64 : Int) < m) = true := decide_eq_true (by omega)
              go_wp2_with fail
              refine hk.mono ?_
              rintro e V ⟨rfl, qV⟩
              have HV : Hid (Below w.heap.size w V) := bel_up HU.out qV HU.out.size
              clear hk qV
              go_upto_region 27 with fail
              obtain ⟨V2, hV2⟩ : ∃ Z, Z = V.alloc (.cells #[.slice none 0 0, .slice none 0 0] 28) := ⟨_, rfl⟩
              rw [← hV2]
              have HV2 : Hid (Below w.heap.size w V2) := bel_up HV.out (by rw [hV2]; exact bel_alloc (Below.refl _ _) _) HV.out.size
              clear hV2
              go_wp2_with fail
              refine (number_fault 7 p _ (laid_below HW.out HV2.out)).mono ?_
              rintro e Z1 ⟨rfl, q1⟩
              go_wp2_with fail
              go_ret
              exact ⟨rfl, bel_up HV2.out q1 HV2.out.size⟩
            have dm : decide ((64 : Int) < m) = false := decide_eq_false (by omega)
            by_cases c1 : 16 < k
            · have dk : decide ((16 : Int) < k) = true := decide_eq_true (by omega)
              go_wp2_with fail
              refine hk.mono ?_
              rintro e V ⟨rfl, qV⟩
              have HV : Hid (Below w.heap.size w V) := bel_up HU.out qV HU.out.size
              clear hk qV
              go_upto_region 27 with fail
              obtain ⟨V2, hV2⟩ : ∃ Z, Z = V.alloc (.cells #[.slice none 0 0, .slice none 0 0] 28) := ⟨_, rfl⟩
              rw [← hV2]
              have HV2 : Hid (Below w.heap.size w V2) := bel_up HV.out (by rw [hV2]; exact bel_alloc (Below.refl _ _) _) HV.out.size
              clear hV2
              go_wp2_with fail
              refine (number_fault 7 p _ (laid_below HW.out HV2.out)).mono ?_
              rintro e Z1 ⟨rfl, q1⟩
              go_wp2_with fail
              go_ret
              exact ⟨rfl, bel_up HV2.out q1 HV2.out.size⟩
            have dk : decide ((16 : Int) < k) = false := decide_eq_false (by omega)
            by_cases c2 : 64 < r
            · have dr : decide ((64 : Int) < r) = true := decide_eq_true (by omega)
              go_wp2_with fail
              refine hk.mono ?_
              rintro e V ⟨rfl, qV⟩
              have HV : Hid (Below w.heap.size w V) := bel_up HU.out qV HU.out.size
              clear hk qV
              go_upto_region 27 with fail
              obtain ⟨V2, hV2⟩ : ∃ Z, Z = V.alloc (.cells #[.slice none 0 0, .slice none 0 0] 28) := ⟨_, rfl⟩
              rw [← hV2]
              have HV2 : Hid (Below w.heap.size w V2) := bel_up HV.out (by rw [hV2]; exact bel_alloc (Below.refl _ _) _) HV.out.size
              clear hV2
              go_wp2_with fail
              refine (number_fault 7 p _ (laid_below HW.out HV2.out)).mono ?_
              rintro e Z1 ⟨rfl, q1⟩
              go_wp2_with fail
              go_ret
              exact ⟨rfl, bel_up HV2.out q1 HV2.out.size⟩
            have dr : decide ((64 : Int) < r) = false := decide_eq_false (by omega)
            have dn : decide ((8 : Int) < n) = true := decide_eq_true (by omega)
            go_wp2_with fail
            refine hk.mono ?_
            rintro e V ⟨rfl, qV⟩
            have HV : Hid (Below w.heap.size w V) := bel_up HU.out qV HU.out.size
            clear hk qV
            go_upto_region 27 with fail
            obtain ⟨V2, hV2⟩ : ∃ Z, Z = V.alloc (.cells #[.slice none 0 0, .slice none 0 0] 28) := ⟨_, rfl⟩
            rw [← hV2]
            have HV2 : Hid (Below w.heap.size w V2) := bel_up HV.out (by rw [hV2]; exact bel_alloc (Below.refl _ _) _) HV.out.size
            clear hV2
            go_wp2_with fail
            refine (number_fault 7 p _ (laid_below HW.out HV2.out)).mono ?_
            rintro e Z1 ⟨rfl, q1⟩
            go_wp2_with fail
            go_ret
            exact ⟨rfl, bel_up HV2.out q1 HV2.out.size⟩
          · obtain ⟨dd, hr⟩ := HR2.out hb
            rw [hr] at hk
            unfold PaOut at hk
            clear hr
            have dm : decide ((64 : Int) < m) = false := decide_eq_false (by omega)
            have dk : decide ((16 : Int) < k) = false := decide_eq_false (by omega)
            have dr : decide ((64 : Int) < r) = false := decide_eq_false (by omega)
            have dn : decide ((8 : Int) < n) = false := decide_eq_false (by omega)
            go_wp2_with fail
            refine hk.mono ?_
            rintro e V ⟨mv, rv, _, _, rfl, ho, _, _, qV⟩
            obtain ⟨ma, mn, mc, rfl⟩ := own_slc ho.m
            obtain ⟨ra, rn, rc, rfl⟩ := own_slc ho.r
            have HV : Hid (Below w.heap.size w V) := bel_up HU.out qV HU.out.size
            clear hk qV ho
            go_upto_region 28 with fail
            obtain ⟨V2, hV2⟩ : ∃ Z, Z = V.alloc (.cells #[.slice ma mn mc, .slice ra rn rc] 28) := ⟨_, rfl⟩
            rw [← hV2]
            have HV2 : Hid (Below w.heap.size w V2) := bel_up HV.out (by rw [hV2]; exact bel_alloc (Below.refl _ _) _) HV.out.size
            clear hV2
            go_wp2_with fail
            go_ret
            exact ⟨rfl, HV2.out⟩
end Go.Proofs.YtejhgifadohbiaaDoor
