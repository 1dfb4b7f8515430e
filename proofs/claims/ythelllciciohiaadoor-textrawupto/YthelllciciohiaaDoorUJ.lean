/- What the law's own Text is. -/
import Derived.Test.YthelllciciohiaaDoorUI
import Derived.Test.YthelllciciohiaaDoorUG
namespace Go.Proofs.YthelllciciohiaaDoor
open Go.RowKit Go.Lib

/-- Numbers are not the least one. -/
structure CfD.far (c : CfD) : Prop where
  m : ∀ m ∈ c.maps, ∀ x ∈ m.cls, -9223372036854775807 ≤ x.more ∧ -9223372036854775807 ≤ x.pref
  r : ∀ r ∈ c.ros, ∀ l ∈ r.lks, -9223372036854775807 ≤ l.cost
theorem cat_str {S t : ByteArray} {l m : Bs} (hS : S = ⟨l.toArray⟩) (ht : t = ⟨m.toArray⟩) : (S ++ t : ByteArray) = ⟨(l ++ m).toArray⟩ := by
  rw [hS, ht, str_add]
theorem cat_head {S N : ByteArray} {l name : Bs} (hS : S = ⟨l.toArray⟩) (hN : N = ⟨name.toArray⟩) : (S ++ ⟨#[109, 97, 112, 32]⟩ ++ N ++ ⟨#[32, 123, 10]⟩ : ByteArray) = ⟨(l ++ headT [109, 97, 112] name).toArray⟩ := by
  have d1 : (⟨#[109, 97, 112, 32]⟩ : ByteArray) = ⟨([109, 97, 112, 32] : List UInt8).toArray⟩ := rfl
  have d2 : (⟨#[32, 123, 10]⟩ : ByteArray) = ⟨([32, 123, 10] : List UInt8).toArray⟩ := rfl
  rw [hS, hN, d1, d2, str_add, str_add, str_add]
  unfold headT
  simp
theorem cat_hdR {S N : ByteArray} {l : Bs} {r : RoD} (hS : S = ⟨l.toArray⟩) (hN : N = ⟨r.name.toArray⟩) : (S ++ ⟨#[114, 111, 117, 116, 101, 114, 32]⟩ ++ N ++ ⟨#[32, 123, 10]⟩ : ByteArray) = ⟨(l ++ hdR r).toArray⟩ := by
  have d1 : (⟨#[114, 111, 117, 116, 101, 114, 32]⟩ : ByteArray) = ⟨([114, 111, 117, 116, 101, 114, 32] : List UInt8).toArray⟩ := rfl
  have d2 : (⟨#[32, 123, 10]⟩ : ByteArray) = ⟨([32, 123, 10] : List UInt8).toArray⟩ := rfl
  rw [hS, hN, d1, d2, str_add, str_add, str_add]
  unfold hdR headT
  simp
theorem cat_foot {S : ByteArray} {l : Bs} (hS : S = ⟨l.toArray⟩) : (S ++ ⟨#[125, 10]⟩ : ByteArray) = ⟨(l ++ footT).toArray⟩ := cat_str hS rfl
theorem cat_net {S t : ByteArray} {l : Bs} {a : Nat} {b : Int} (hS : S = ⟨l.toArray⟩) (ht : t = ⟨(pfT a b).toArray⟩) : (S ++ ⟨#[9, 110, 101, 116, 32]⟩ ++ t ++ ⟨#[59, 10]⟩ : ByteArray) = ⟨(l ++ netT (a, b)).toArray⟩ := by
  have d1 : (⟨#[9, 110, 101, 116, 32]⟩ : ByteArray) = ⟨([9, 110, 101, 116, 32] : List UInt8).toArray⟩ := rfl
  have d2 : (⟨#[59, 10]⟩ : ByteArray) = ⟨([59, 10] : List UInt8).toArray⟩ := rfl
  rw [hS, ht, d1, d2, str_add, str_add, str_add]
  unfold netT innT
  simp
theorem cat_stat {S t V : ByteArray} {l : Bs} {x : StD} (hS : S = ⟨l.toArray⟩) (ht : t = ⟨(pfT x.a x.b).toArray⟩) (hV : V = ⟨x.via.toArray⟩) : (S ++ ⟨#[9, 115, 116, 97, 116, 105, 99, 32]⟩ ++ t ++ ⟨#[32, 118, 105, 97, 32]⟩ ++ V ++ ⟨#[59, 10]⟩ : ByteArray) = ⟨(l ++ statT x).toArray⟩ := by
  have d1 : (⟨#[9, 115, 116, 97, 116, 105, 99, 32]⟩ : ByteArray) = ⟨([9, 115, 116, 97, 116, 105, 99, 32] : List UInt8).toArray⟩ := rfl
  have d2 : (⟨#[59, 10]⟩ : ByteArray) = ⟨([59, 10] : List UInt8).toArray⟩ := rfl
  have d3 : (⟨#[32, 118, 105, 97, 32]⟩ : ByteArray) = ⟨([32, 118, 105, 97, 32] : List UInt8).toArray⟩ := rfl
  rw [hS, ht, hV, d1, d2, d3, str_add, str_add, str_add, str_add, str_add]
  unfold statT innT
  simp
/-- A name behind a word, put on where there is one. -/
def putN (w : Bs) (N : ByteArray) (S : ByteArray) : ByteArray := if N.toList.isEmpty = true then S else S ++ ⟨w.toArray⟩ ++ N
theorem putN_t {w : Bs} {N S : ByteArray} (h : N.toList.isEmpty = true) : putN w N S = S := if_pos h
theorem putN_f {w : Bs} {N S : ByteArray} (h : N.toList.isEmpty = false) : putN w N S = S ++ ⟨w.toArray⟩ ++ N := if_neg (by rw [h]; simp)
theorem putN_str {w : Bs} {N S : ByteArray} {l n : Bs} (hS : S = ⟨l.toArray⟩) (hN : N = ⟨n.toArray⟩) : putN (32 :: w ++ [32]) N S = ⟨(l ++ nmT w n).toArray⟩ := by
  unfold putN nmT
  have e : N.toList.isEmpty = n.isEmpty := by rw [hN, ByteArray.toList_eq]
  rw [e]
  by_cases hn : n = []
  · rw [if_pos (by rw [hn]; rfl), if_pos hn, List.append_nil, hS]
  · rw [if_neg (by simpa using hn), if_neg hn, hS, hN, str_add, str_add]
    simp
theorem cat_link {S P D I E : ByteArray} {l : Bs} {x : LkD} (hS : S = ⟨l.toArray⟩) (hP : P = ⟨x.peer.toArray⟩) (hD : D = ⟨(itoa x.cost).toArray⟩) (hI : I = ⟨x.imp.toArray⟩) (hE : E = ⟨x.exp.toArray⟩) :
    (putN [32, 101, 120, 112, 111, 114, 116, 32] E (putN [32, 105, 109, 112, 111, 114, 116, 32] I (S ++ ⟨#[9, 108, 105, 110, 107, 32]⟩ ++ P ++ ⟨#[32, 99, 111, 115, 116, 32]⟩ ++ D)) ++ ⟨#[59, 10]⟩ : ByteArray) = ⟨(l ++ linkT x).toArray⟩ := by
  have d1 : (⟨#[9, 108, 105, 110, 107, 32]⟩ : ByteArray) = ⟨([9, 108, 105, 110, 107, 32] : List UInt8).toArray⟩ := rfl
  have d2 : (⟨#[59, 10]⟩ : ByteArray) = ⟨([59, 10] : List UInt8).toArray⟩ := rfl
  have d3 : (⟨#[32, 99, 111, 115, 116, 32]⟩ : ByteArray) = ⟨([32, 99, 111, 115, 116, 32] : List UInt8).toArray⟩ := rfl
  have h1 : (S ++ ⟨#[9, 108, 105, 110, 107, 32]⟩ ++ P ++ ⟨#[32, 99, 111, 115, 116, 32]⟩ ++ D : ByteArray) = ⟨(l ++ [9, 108, 105, 110, 107, 32] ++ x.peer ++ [32, 99, 111, 115, 116, 32] ++ itoa x.cost).toArray⟩ := by
    rw [hS, hP, hD, d1, d3, str_add, str_add, str_add, str_add]
  have h2 := putN_str (w := [105, 109, 112, 111, 114, 116]) h1 hI
  have h3 := putN_str (w := [101, 120, 112, 111, 114, 116]) h2 hE
  have h4 : (32 :: [105, 109, 112, 111, 114, 116] ++ [32] : Bs) = [32, 105, 109, 112, 111, 114, 116, 32] := rfl
  have h5 : (32 :: [101, 120, 112, 111, 114, 116] ++ [32] : Bs) = [32, 101, 120, 112, 111, 114, 116, 32] := rfl
  rw [h4] at h2 h3
  rw [h5] at h3
  rw [h3, d2, str_add]
  unfold linkT linkW innT
  simp
set_option maxHeartbeats 16000000 in
set_option maxRecDepth 20000 in
theorem ltextc_any (c : CfD) (hok : c.ok) (hfar : c.far) (hbk : c.bulk ≤ 68719476736) (v : Value) (w : World) (hv : CfAt w w.heap.size v c) (ht : TabP w) :
    Calls Tryd.prog 15 #[v] w fun e w' => e = .returned (.string ⟨(confT c).toArray⟩) ∧ Below w.heap.size w w' := by
  obtain ⟨ms, rs⟩ := c
  obtain ⟨mv, rv, rfl, ⟨ad, cap, rfl, hn0, hms⟩, ⟨ad2, cap2, rfl, hn2, hrs⟩⟩ := hv
  dsimp only at hms hrs hn0 hn2 ⊢
  obtain ⟨n, hn⟩ : ∃ n, n = ms.length := ⟨_, rfl⟩
  obtain ⟨n2, hn2e⟩ : ∃ n, n = rs.length := ⟨_, rfl⟩
  rw [← hn] at hn0 ⊢
  rw [← hn2e] at hn2 ⊢
  have HMS : Hid (∀ i x, ms[i]? = some x → ∃ b off, ad = some ⟨b, off, none⟩ ∧ b < w.heap.size ∧ MpAt w w.heap.size b (off + i * 3) x) := hms
  have HRS : Hid (∀ i x, rs[i]? = some x → ∃ b off, ad2 = some ⟨b, off, none⟩ ∧ b < w.heap.size ∧ RoAt w w.heap.size b (off + i * 5) x) := hrs
  have HOK : Hid (CfD.ok ⟨ms, rs⟩ ∧ CfD.bulk ⟨ms, rs⟩ ≤ 68719476736 ∧ CfD.far ⟨ms, rs⟩) := ⟨hok, hbk, hfar⟩
  have HT : Hid ((ms.flatMap mapT).length ≤ 13743895347200 ∧ (confT ⟨ms, rs⟩).length ≤ 13743895347200) := maps_total hok hbk
  have HN : Hid (n = ms.length ∧ n2 = rs.length) := ⟨hn, hn2e⟩
  clear hms hrs hok hbk hn hn2e hfar
  go_enter Tryd.func15, Tryd.ntmps15
  go_wp2_with fail
  obtain ⟨b1, hb1⟩ : ∃ b, b = w.heap.size := ⟨_, rfl⟩
  rw [← hb1]
  obtain ⟨U, hU⟩ : ∃ U, U = w.alloc (.cells #[.slice ad n cap, .slice ad2 n2 cap2] 40) := ⟨_, rfl⟩
  rw [← hU]
  obtain ⟨qU, hcU, lU⟩ := box_at w _ hU hb1
  have HQ : Hid (Below w.heap.size w U ∧ U.heap[b1]? = some (.cells #[.slice ad n cap, .slice ad2 n2 cap2] 40 (0, 0)) ∧ b1 < U.heap.size) := ⟨qU, hcU, lU⟩
  clear hU hcU qU lU hb1
  go_loopg [3, 19] n (fun g v i wr => ∃ (k : Nat) (S : ByteArray), k + g = n ∧ i = .int .i64 k ∧ v = .string S ∧ Hid (S = ⟨(preM ms k).toArray⟩ ∧ Below U.heap.size U wr))
  case atStart => exact ⟨0, ⟨#[]⟩, Nat.zero_add _, rfl, rfl, (⟨rfl, Below.refl _ _⟩ : _ ∧ _)⟩
  case round =>
    obtain ⟨k, S, hk, rfl, rfl, HW⟩ := hrel
    have HBW : Hid (Below w.heap.size w wr) := bel_up HQ.out.1 HW.out.2 HQ.out.1.size
    by_cases hlt : k < n
    · obtain ⟨m, hm⟩ : ∃ m, ms[k]? = some m := ⟨ms[k]'(by have := HN.out.1; omega), List.getElem?_eq_getElem _⟩
      obtain ⟨b, off, rfl, hb, hmp⟩ := HMS.out k m hm
      obtain ⟨cv, N0, N1, N2, ⟨adc, capc, rfl, hnc, hcs⟩⟩ := hmp
      have M0 := cells_below HBW.out (Nat.le_refl _) b _ _ hb N0
      have M1 := cells_below HBW.out (Nat.le_refl _) b _ _ hb N1
      have M2 := cells_below HBW.out (Nat.le_refl _) b _ _ hb N2
      have d4 : decide ((k : Int) < n) = true := decide_eq_true (by omega)
      have HM : Hid (ms[k]? = some m ∧ m ∈ ms ∧ m.ok) := ⟨hm, List.mem_of_getElem? hm, HOK.out.1.m m (List.mem_of_getElem? hm)⟩
      have HCS : Hid (∀ i x, m.cls[i]? = some x → ∃ b off, adc = some ⟨b, off, none⟩ ∧ b < w.heap.size ∧ ClAt w b (off + i * 10) x) := hcs
      have hname : m.name.length ≤ 68719476736 := by
        have h1 := sum_ge MpD.bulk HM.out.2.1
        have h2 := HOK.out.2.1
        unfold CfD.bulk at h2
        unfold MpD.bulk at h1 h2
        dsimp only at h2
        omega
      obtain ⟨nc, hnc2⟩ : ∃ x, x = m.cls.length := ⟨_, rfl⟩
      rw [← hnc2] at hnc M1
      have HNC : Hid (nc = m.cls.length) := hnc2
      have hw1 := pre_len0 hm
      obtain ⟨N, hN⟩ : ∃ N : ByteArray, N = ⟨m.name.toArray⟩ := ⟨_, rfl⟩
      have HS : Hid ((S ++ ⟨#[109, 97, 112, 32]⟩ ++ N ++ ⟨#[32, 123, 10]⟩ : ByteArray) = ⟨(preM ms k ++ preC m 0).toArray⟩) := by
        have e : preC m 0 = headT [109, 97, 112] m.name := by unfold preC; simp
        rw [e]
        exact cat_head HW.out.1 hN
      have zS : S.size ≤ 13743895347200 := by rw [HW.out.1, str_size]; have := HT.out.1; omega
      have zN : N.size ≤ 68719476736 := by rw [hN, str_size]; exact hname
      have k4 : (⟨#[109, 97, 112, 32]⟩ : ByteArray).size = 4 := rfl
      have k3 : (⟨#[32, 123, 10]⟩ : ByteArray).size = 3 := rfl
      rw [← hN] at M0
      have c0 : (0 : Int) ≤ k := by omega
      clear hm hcs hnc2 hN N0 N1 N2 hname hw1
      go_wp2_with fail
      obtain ⟨b3, hb3⟩ : ∃ b, b = wr.heap.size := ⟨_, rfl⟩
      rw [← hb3]
      obtain ⟨X, hX⟩ : ∃ X, X = wr.alloc (.cells #[.string N, .slice adc nc capc, .int .i64 m.pl] 46) := ⟨_, rfl⟩
      rw [← hX]
      obtain ⟨qX, hcX, _⟩ := box_at wr _ hX hb3
      have HX2 : Hid (Below U.heap.size U X) := bel_up HW.out.2 qX HW.out.2.size
      obtain ⟨S1, hS1⟩ : ∃ x, x = S ++ ⟨#[109, 97, 112, 32]⟩ ++ N ++ ⟨#[32, 123, 10]⟩ := ⟨_, rfl⟩
      rw [← hS1]
      have HS1 : Hid (S1 = ⟨(preM ms k ++ preC m 0).toArray⟩ ∧ Below U.heap.size U X) := ⟨by rw [hS1]; exact HS.out, HX2.out⟩
      clear hX hb3 hcX qX M0 M1 M2 hS1 HS zS zN HX2
      go_loopg [3, 32] nc (fun g v i wy => ∃ (j : Nat) (S : ByteArray), j + g = nc ∧ i = .int .i64 j ∧ v = .string S ∧ Hid (S = ⟨(preM ms k ++ preC m j).toArray⟩ ∧ Below U.heap.size U wy))
      case atStart => exact ⟨0, S1, Nat.zero_add _, rfl, rfl, HS1⟩
      case round =>
        obtain ⟨j, S2, hj, rfl, rfl, HV⟩ := hrel
        have HBV : Hid (Below w.heap.size w wr) := bel_up HQ.out.1 HV.out.2 HQ.out.1.size
        by_cases hjl : j < nc
        · obtain ⟨x, hx⟩ : ∃ x, m.cls[j]? = some x := ⟨m.cls[j]'(by have := HNC.out; omega), List.getElem?_eq_getElem _⟩
          obtain ⟨bc, offc, rfl, hbc, hcl⟩ := HCS.out j x hx
          have hxo : x.ok := HM.out.2.2.h x (List.mem_of_getElem? hx)
          have hxf := HOK.out.2.2.m m HM.out.2.1 x (List.mem_of_getElem? hx)
          obtain ⟨C0, C1, C2, C3, C4, C5, C6, C7, C8, C9⟩ := hcl.keep hbc (cells_below HBV.out (Nat.le_refl _))
          have d5 : decide ((j : Int) < nc) = true := decide_eq_true (by omega)
          have c1 : (0 : Int) ≤ j := by omega
          have hcc := fun w h => lline_any x hxo hxf.1 hxf.2 w h
          have hw2 := pre_len2 HM.out.1 hx
          have hll := line_len hxo
          obtain ⟨L, hL⟩ : ∃ L : ByteArray, L = ⟨(lineT x).toArray⟩ := ⟨_, rfl⟩
          rw [← hL] at hcc
          have HX : Hid ((S2 ++ L : ByteArray) = ⟨(preM ms k ++ preC m (j + 1)).toArray⟩) := by
            show _ = _
            rw [cat_str HV.out.1 hL, List.append_assoc, preC_next hx]
          have zS : S2.size ≤ 13743895347200 := by rw [HV.out.1, str_size]; have := HT.out.1; omega
          have zL : L.size ≤ 150 := by rw [hL, str_size]; exact hll
          obtain ⟨xany, xa, xb, xwi, xou, xdrop, xse, xcl, xmore, xpref⟩ := x
          unfold clV at hcc
          dsimp only at C0 C1 C2 C3 C4 C5 C6 C7 C8 C9 hcc
          clear hx hcl hxo hL hxf hw2 hll
          go_wp2_with fail
          obtain ⟨b4, hb4⟩ : ∃ b, b = wr.heap.size := ⟨_, rfl⟩
          rw [← hb4]
          obtain ⟨X, hX⟩ : ∃ X, X = wr.alloc (.cells #[.bool xany, .int .u32 xa, .int .i64 xb, .int .u8 xwi, .int .u8 xou, .bool xdrop, .int .u8 xse, .int .u8 xcl, .int .i64 xmore, .int .i64 xpref] 26) := ⟨_, rfl⟩
          rw [← hX]
          obtain ⟨qX, hcX, _⟩ := box_at wr _ hX hb4
          have hT4 := (ht.below HBV.out).below qX
          have hXU := bel_up HV.out.2 qX HV.out.2.size
          clear hX hb4 C0 C1 C2 C3 C4 C5 C6 C7 C8 C9
          refine (hcc _ hT4).mono ?_
          rintro e Y ⟨rfl, qY⟩
          have HYU : Hid (Below U.heap.size U Y) := bel_up hXU qY hXU.size
          clear hcc hT4 qY qX hcX hXU
          go_wp2_with fail
          go_roundg (nc - (j + 1))
          case measure => omega
          case rel => exact ⟨j + 1, _, by omega, by go_num, rfl, (⟨HX.out, HYU.out⟩ : _ ∧ _)⟩
        · obtain rfl : j = nc := by omega
          have d5 : decide ((j : Int) < j) = false := decide_eq_false (by omega)
          have hw2 := pre_len HM.out.1 j
          have HX : Hid ((S2 ++ ⟨#[125, 10]⟩ : ByteArray) = ⟨(preM ms (k + 1)).toArray⟩) := by
            show _ = _
            rw [cat_foot HV.out.1, HNC.out, preM_next HM.out.1]
          have zS : S2.size ≤ 13743895347200 := by rw [HV.out.1, str_size]; have := HT.out.1; omega
          have z2 := size_two 125 10
          clear hw2
          go_wp2_with fail
          go_roundg (n - (k + 1))
          case measure => omega
          case rel => exact ⟨k + 1, _, by omega, by go_num, rfl, (⟨HX.out, HV.out.2⟩ : _ ∧ _)⟩
    · obtain rfl : k = n := by omega
      have d4 : decide ((k : Int) < k) = false := decide_eq_false (by omega)
      have hcB : wr.cell? ⟨b1, 1, none⟩ = some (.slice ad2 n2 cap2) := by
        rw [HW.out.2.cell (p := ⟨b1, 1, none⟩) HQ.out.2.2]
        exact (cells_two HQ.out.2.1).2
      have HM0 : Hid (preM ms k = ms.flatMap mapT) := by show _ = _; unfold preM; rw [HN.out.1, List.take_length]
      obtain ⟨M, hMe⟩ : ∃ M, M = ms.flatMap mapT := ⟨_, rfl⟩
      have HT2 : Hid ((M ++ rs.flatMap routT).length ≤ 13743895347200 ∧ confT ⟨ms, rs⟩ = M ++ rs.flatMap routT) := by
        refine ⟨?_, ?_⟩
        · have := HT.out.2
          rw [hMe]
          exact this
        · rw [hMe]; rfl
      have HWM : Hid (S = ⟨(M ++ preR rs 0).toArray⟩ ∧ Below U.heap.size U wr) := by
        refine ⟨?_, HW.out.2⟩
        have := HW.out.1
        rw [HM0.out, ← hMe] at this
        rw [this]
        unfold preR
        simp
      clear hMe HM0 HW
      go_wp2_with fail
      clear hcB
      go_loopg [3, 47] n2 (fun g v i wz => ∃ (k : Nat) (S : ByteArray), k + g = n2 ∧ i = .int .i64 k ∧ v = .string S ∧ Hid (S = ⟨(M ++ preR rs k).toArray⟩ ∧ Below U.heap.size U wz))
      case atStart => exact ⟨0, S, Nat.zero_add _, rfl, rfl, HWM⟩
      case round =>
        obtain ⟨k2, S2, hk2, rfl, rfl, HW⟩ := hrel
        have HBW : Hid (Below w.heap.size w wr) := bel_up HQ.out.1 HW.out.2 HQ.out.1.size
        by_cases hlt2 : k2 < n2
        · obtain ⟨r, hr⟩ : ∃ r, rs[k2]? = some r := ⟨rs[k2]'(by have := HN.out.2; omega), List.getElem?_eq_getElem _⟩
          obtain ⟨b, off, rfl, hb, nv, lv, sv, N0, N1, N2, N3, N4, ⟨adn, capn, rfl, hnn, hns⟩, ⟨adl, capl, rfl, hnl, hls⟩, ⟨ads, caps, rfl, hnst, hss⟩⟩ := HRS.out k2 r hr
          have M0 := cells_below HBW.out (Nat.le_refl _) b _ _ hb N0
          have M1 := cells_below HBW.out (Nat.le_refl _) b _ _ hb N1
          have M2 := cells_below HBW.out (Nat.le_refl _) b _ _ hb N2
          have M3 := cells_below HBW.out (Nat.le_refl _) b _ _ hb N3
          have M4 := cells_below HBW.out (Nat.le_refl _) b _ _ hb N4
          have d4 : decide ((k2 : Int) < n2) = true := decide_eq_true (by omega)
          have HR : Hid (rs[k2]? = some r ∧ r ∈ rs ∧ r.ok) := ⟨hr, List.mem_of_getElem? hr, HOK.out.1.r r (List.mem_of_getElem? hr)⟩
          have HNS : Hid (∀ i x, r.nets[i]? = some x → ∃ b off, adn = some ⟨b, off, none⟩ ∧ b < w.heap.size ∧ PfAt w b (off + i * 2) x) := hns
          have HLS : Hid (∀ i x, r.lks[i]? = some x → ∃ b off, adl = some ⟨b, off, none⟩ ∧ b < w.heap.size ∧ LkAt w b (off + i * 5) x) := hls
          have HSS : Hid (∀ i x, r.sts[i]? = some x → ∃ b off, ads = some ⟨b, off, none⟩ ∧ b < w.heap.size ∧ StAt w b (off + i * 4) x) := hss
          have hbulk : r.bulk ≤ 68719476736 := by
            have h1 := sum_ge RoD.bulk HR.out.2.1
            have h2 := HOK.out.2.1
            unfold CfD.bulk at h2
            dsimp only at h2
            omega
          have hname : r.name.length ≤ 68719476736 := by
            have h1 := hbulk
            unfold RoD.bulk at h1
            omega
          have HRB : Hid (r.bulk ≤ 68719476736) := hbulk
          obtain ⟨nn, hnn2⟩ : ∃ x, x = r.nets.length := ⟨_, rfl⟩
          obtain ⟨nl, hnl2⟩ : ∃ x, x = r.lks.length := ⟨_, rfl⟩
          obtain ⟨ns, hns2⟩ : ∃ x, x = r.sts.length := ⟨_, rfl⟩
          rw [← hnn2] at hnn M1
          rw [← hnl2] at hnl M2
          rw [← hns2] at hnst M3
          have HNN : Hid (nn = r.nets.length ∧ nl = r.lks.length ∧ ns = r.sts.length) := ⟨hnn2, hnl2, hns2⟩
          have hw1 := in_rout HR.out.1 HT2.out.1 (A := []) (B := hdR r) (by have := preN_len r 0; unfold preN at this; simp at this ⊢; omega)
          rw [List.append_nil] at hw1
          obtain ⟨N, hN⟩ : ∃ N : ByteArray, N = ⟨r.name.toArray⟩ := ⟨_, rfl⟩
          have HS : Hid ((S2 ++ ⟨#[114, 111, 117, 116, 101, 114, 32]⟩ ++ N ++ ⟨#[32, 123, 10]⟩ : ByteArray) = ⟨(M ++ preR rs k2 ++ preN r 0).toArray⟩) := by
            have e : preN r 0 = hdR r := by unfold preN; simp
            rw [e]
            exact cat_hdR HW.out.1 hN
          have zS : S2.size ≤ 13743895347200 := by rw [HW.out.1, str_size]; omega
          have zN : N.size ≤ 68719476736 := by rw [hN, str_size]; exact hname
          have k4 : (⟨#[114, 111, 117, 116, 101, 114, 32]⟩ : ByteArray).size = 7 := rfl
          have k3 : (⟨#[32, 123, 10]⟩ : ByteArray).size = 3 := rfl
          rw [← hN] at M0
          have c0 : (0 : Int) ≤ k2 := by omega
          clear hr hns hls hss hnn2 hnl2 hns2 hN N0 N1 N2 N3 N4 hbulk hname hw1
          go_wp2_with fail
          obtain ⟨b3, hb3⟩ : ∃ b, b = wr.heap.size := ⟨_, rfl⟩
          rw [← hb3]
          obtain ⟨X, hX⟩ : ∃ X, X = wr.alloc (.cells #[.string N, .slice adn nn capn, .slice adl nl capl, .slice ads ns caps, .int .i64 r.pl] 51) := ⟨_, rfl⟩
          rw [← hX]
          obtain ⟨qX, hcX, _⟩ := box_at wr _ hX hb3
          have HX2 : Hid (Below U.heap.size U X) := bel_up HW.out.2 qX HW.out.2.size
          obtain ⟨S3, hS3⟩ : ∃ x, x = S2 ++ ⟨#[114, 111, 117, 116, 101, 114, 32]⟩ ++ N ++ ⟨#[32, 123, 10]⟩ := ⟨_, rfl⟩
          rw [← hS3]
          obtain ⟨RC, hRC⟩ : ∃ RC : Array Value, RC = #[.string N, .slice adn nn capn, .slice adl nl capl, .slice ads ns caps, .int .i64 r.pl] := ⟨_, rfl⟩
          have HRC : Hid (RC = #[.string N, .slice adn nn capn, .slice adl nl capl, .slice ads ns caps, .int .i64 r.pl]) := hRC
          have HS3 : Hid (S3 = ⟨(M ++ preR rs k2 ++ preN r 0).toArray⟩ ∧ Below U.heap.size U X ∧ X.heap[b3]? = some (.cells RC 51 (0, 0))) := ⟨by rw [hS3]; exact HS.out, HX2.out, by rw [hRC]; exact hcX⟩
          clear hX hb3 hcX qX M0 M1 M2 M3 M4 hS3 hRC HS zS zN HX2
          go_loopg [3, 60] nn (fun g v i wy => ∃ (j : Nat) (S : ByteArray), j + g = nn ∧ i = .int .i64 j ∧ v = .string S ∧ Hid (S = ⟨(M ++ preR rs k2 ++ preN r j).toArray⟩ ∧ Below U.heap.size U wy ∧ wy.heap[b3]? = some (.cells RC 51 (0, 0))))
          case atStart => exact ⟨0, S3, Nat.zero_add _, rfl, rfl, HS3⟩
          case round =>
            obtain ⟨j, S4, hj, rfl, rfl, HV⟩ := hrel
            have HBV : Hid (Below w.heap.size w wr) := bel_up HQ.out.1 HV.out.2.1 HQ.out.1.size
            by_cases hjl : j < nn
            · obtain ⟨x, hx⟩ : ∃ x, r.nets[j]? = some x := ⟨r.nets[j]'(by have := HNN.out.1; omega), List.getElem?_eq_getElem _⟩
              obtain ⟨bc, offc, rfl, hbc, hcl⟩ := HNS.out j x hx
              have hxo := HR.out.2.2.n x (List.mem_of_getElem? hx)
              obtain ⟨C0, C1⟩ := hcl.keep hbc (cells_below HBV.out (Nat.le_refl _))
              obtain ⟨xa, xb⟩ := x
              dsimp only at C0 C1 hxo
              have d5 : decide ((j : Int) < nn) = true := decide_eq_true (by omega)
              have c1 : (0 : Int) ≤ j := by omega
              have hcc := fun w h => pft_any xa xb hxo w h
              have hpl := pf_len xa xb hxo
              obtain ⟨t, htt⟩ : ∃ t : ByteArray, t = ⟨(pfT xa xb).toArray⟩ := ⟨_, rfl⟩
              rw [← htt] at hcc
              have zt : t.size ≤ 20 := by rw [htt, str_size]; omega
              have hw2 := in_rout HR.out.1 HT2.out.1 (A := preN r j) (B := netT (xa, xb)) (by rw [preN_next hx]; have := preN_len r (j + 1); omega)
              have zS : S4.size ≤ 13743895347200 := by rw [HV.out.1, str_size]; omega
              have HX : Hid ((S4 ++ ⟨#[9, 110, 101, 116, 32]⟩ ++ t ++ ⟨#[59, 10]⟩ : ByteArray) = ⟨(M ++ preR rs k2 ++ preN r (j + 1)).toArray⟩) := by
                show _ = _
                rw [cat_net HV.out.1 htt, List.append_assoc, preN_next hx]
              have k4 : (⟨#[9, 110, 101, 116, 32]⟩ : ByteArray).size = 5 := rfl
              have k5 := size_two 59 10
              unfold pfV at hcc
              clear hx hcl hxo htt hpl hw2
              go_wp2_with fail
              obtain ⟨b4, hb4⟩ : ∃ b, b = wr.heap.size := ⟨_, rfl⟩
              rw [← hb4]
              obtain ⟨X, hX⟩ : ∃ X, X = wr.alloc (.cells #[.int .u32 xa, .int .i64 xb] 24) := ⟨_, rfl⟩
              rw [← hX]
              obtain ⟨qX, hcX, lX⟩ := box_at wr _ hX hb4
              have hT4 := (ht.below HBV.out).below qX
              have hXU : Hid (Below U.heap.size U X) := bel_up HV.out.2.1 qX HV.out.2.1.size
              have hRX := pf_block qX HV.out.2.2
              clear hX hb4 C0 C1 hcX lX
              refine (hcc _ hT4).mono ?_
              rintro e Y ⟨rfl, qY⟩
              have HYU : Hid (Below U.heap.size U Y ∧ Y.heap[b3]? = some (.cells RC 51 (0, 0))) := ⟨bel_up hXU.out qY hXU.out.size, pf_block qY hRX⟩
              clear hcc hT4 qY qX hXU hRX
              go_wp2_with fail
              go_roundg (nn - (j + 1))
              case measure => omega
              case rel => exact ⟨j + 1, _, by omega, by go_num, rfl, (⟨HX.out, HYU.out.1, HYU.out.2⟩ : _ ∧ _ ∧ _)⟩
            · obtain rfl : j = nn := by omega
              have d5 : decide ((j : Int) < j) = false := decide_eq_false (by omega)
              have hR0 := HV.out.2.2
              rw [HRC.out] at hR0
              obtain ⟨_, _, Y2, _, _⟩ := cells_five hR0
              have HWY : Hid (S4 = ⟨(M ++ preR rs k2 ++ preL r 0).toArray⟩ ∧ Below U.heap.size U wr ∧ wr.heap[b3]? = some (.cells RC 51 (0, 0))) := by
                refine ⟨?_, HV.out.2⟩
                rw [← preN_end, ← HNN.out.1]
                exact HV.out.1
              clear hR0 HV
              go_wp2_with fail
              clear Y2
              go_loopg [3, 74] nl (fun g v i wy => ∃ (j : Nat) (S : ByteArray), j + g = nl ∧ i = .int .i64 j ∧ v = .string S ∧ Hid (S = ⟨(M ++ preR rs k2 ++ preL r j).toArray⟩ ∧ Below U.heap.size U wy ∧ wy.heap[b3]? = some (.cells RC 51 (0, 0))))
              case atStart => exact ⟨0, S4, Nat.zero_add _, rfl, rfl, HWY⟩
              case round =>
                obtain ⟨j2, S5, hj2, rfl, rfl, HV⟩ := hrel
                have HBV : Hid (Below w.heap.size w wr) := bel_up HQ.out.1 HV.out.2.1 HQ.out.1.size
                by_cases hjl2 : j2 < nl
                · obtain ⟨x, hx⟩ : ∃ x, r.lks[j2]? = some x := ⟨r.lks[j2]'(by have := HNN.out.2.1; omega), List.getElem?_eq_getElem _⟩
                  obtain ⟨bc, offc, rfl, hbc, hcl⟩ := HLS.out j2 x hx
                  have hxo := HR.out.2.2.l x (List.mem_of_getElem? hx)
                  have hxf := HOK.out.2.2.r r HR.out.2.1 x (List.mem_of_getElem? hx)
                  have hxb : x.bulk ≤ 68719476736 := by
                    have h1 := sum_ge LkD.bulk (List.mem_of_getElem? hx)
                    have h2 := HRB.out
                    unfold RoD.bulk at h2
                    omega
                  unfold LkD.bulk at hxb
                  obtain ⟨C0, C1, C2, C3, C4⟩ := hcl.keep hbc (cells_below HBV.out (Nat.le_refl _))
                  have d6 : decide ((j2 : Int) < nl) = true := decide_eq_true (by omega)
                  have c1 : (0 : Int) ≤ j2 := by omega
                  have hcc := fun w => ldig_int x.cost hxf hxo.c1 w
                  have hil := itoa_len hxo.c0 hxo.c1
                  have hw2 := in_rout HR.out.1 HT2.out.1 (A := preL r j2) (B := linkT x) (by rw [preL_next hx]; have := preL_len r (j2 + 1); omega)
                  have zS : S5.size ≤ 13743895347200 := by rw [HV.out.1, str_size]; omega
                  obtain ⟨D, hD⟩ : ∃ N : ByteArray, N = ⟨(itoa x.cost).toArray⟩ := ⟨_, rfl⟩
                  obtain ⟨pN, hpN⟩ : ∃ N : ByteArray, N = ⟨x.peer.toArray⟩ := ⟨_, rfl⟩
                  obtain ⟨pI, hpI⟩ : ∃ N : ByteArray, N = ⟨x.imp.toArray⟩ := ⟨_, rfl⟩
                  obtain ⟨pE, hpE⟩ : ∃ N : ByteArray, N = ⟨x.exp.toArray⟩ := ⟨_, rfl⟩
                  have HX : Hid ((putN [32, 101, 120, 112, 111, 114, 116, 32] pE (putN [32, 105, 109, 112, 111, 114, 116, 32] pI (S5 ++ ⟨#[9, 108, 105, 110, 107, 32]⟩ ++ pN ++ ⟨#[32, 99, 111, 115, 116, 32]⟩ ++ D)) ++ ⟨#[59, 10]⟩ : ByteArray) = ⟨(M ++ preR rs k2 ++ preL r (j2 + 1)).toArray⟩) := by
                    show _ = _
                    rw [cat_link HV.out.1 hpN hD hpI hpE, List.append_assoc, preL_next hx]
                  rw [← hD] at hcc
                  have zD : D.size ≤ 20 := by rw [hD, str_size]; exact hil
                  have zN : pN.size ≤ 68719476736 := by rw [hpN, str_size]; omega
                  have zI : pI.size ≤ 68719476736 := by rw [hpI, str_size]; omega
                  have zE : pE.size ≤ 68719476736 := by rw [hpE, str_size]; omega
                  have k1 : (⟨#[9, 108, 105, 110, 107, 32]⟩ : ByteArray).size = 6 := rfl
                  have k2' : (⟨#[32, 99, 111, 115, 116, 32]⟩ : ByteArray).size = 6 := rfl
                  have k3 : (⟨#[32, 105, 109, 112, 111, 114, 116, 32]⟩ : ByteArray).size = 8 := rfl
                  have k4 : (⟨#[32, 101, 120, 112, 111, 114, 116, 32]⟩ : ByteArray).size = 8 := rfl
                  have k5 := size_two 59 10
                  obtain ⟨pc, hpc⟩ : ∃ n, n = x.cost := ⟨_, rfl⟩
                  obtain ⟨pp, hpp⟩ : ∃ n, n = x.pl := ⟨_, rfl⟩
                  rw [← hpN] at C0
                  rw [← hpc] at C1 hcc
                  rw [← hpI] at C2
                  rw [← hpE] at C3
                  rw [← hpp] at C4
                  clear hx hcl hxo hxb hpN hpI hpE hpc hpp hD hil hw2 hxf
                  go_wp2_with fail
                  obtain ⟨b4, hb4⟩ : ∃ b, b = wr.heap.size := ⟨_, rfl⟩
                  rw [← hb4]
                  obtain ⟨X, hX⟩ : ∃ X, X = wr.alloc (.cells #[.string pN, .int .i64 pc, .string pI, .string pE, .int .i64 pp] 53) := ⟨_, rfl⟩
                  rw [← hX]
                  obtain ⟨qX, hcX, lX⟩ := box_at wr _ hX hb4
                  have hT4 := (ht.below HBV.out).below qX
                  have hXU : Hid (Below U.heap.size U X) := bel_up HV.out.2.1 qX HV.out.2.1.size
                  have hRX : Hid (X.heap[b3]? = some (.cells RC 51 (0, 0))) := pf_block qX HV.out.2.2
                  obtain ⟨D0, D1, D2, D3, D4⟩ := cells_five hcX
                  have E0 := fun p => bel_cell lX D0 p
                  have E1 := fun p => bel_cell lX D1 p
                  have HTX : ∀ p : BelOf X, TabP p.w := fun p => hT4.below p.h
                  clear hX hb4 C0 C1 C2 C3 C4 D0 D1 D4 hcX hT4 qX
                  have hne := bel_ne X
                  refine wp_region_bel (by kernel_rfl) (by kernel_rfl) ?_
                  repeat (go_big_quiet_step (first
                    | (go_at_call 23; exact bel_same (hcc _))))
                  refine wpQuiet_nil ?_
                  rintro W ⟨⟨W', hW⟩, rfl⟩
                  have HYU : Hid (Below U.heap.size U W ∧ W.heap[b3]? = some (.cells RC 51 (0, 0))) := ⟨bel_up hXU.out hW hXU.out.size, pf_block hW hRX.out⟩
                  have F2 := bel_cell lX D2 ⟨W, hW⟩
                  have F3 := bel_cell lX D3 ⟨W, hW⟩
                  dsimp only at F2 F3
                  clear hcc HTX E0 E1 hne hXU hRX lX D2 D3 hW
                  cases hI : pI.toList.isEmpty with
                  | true =>
                    cases hE : pE.toList.isEmpty with
                    | true =>
                      have HX3 := HX.out
                      rw [putN_t hE, putN_t hI] at HX3
                      have HX2 : Hid (_ = _) := HX3
                      clear HX HX3
                      go_wp2_with fail
                      go_roundg (nl - (j2 + 1))
                      case measure => omega
                      case rel => exact ⟨j2 + 1, _, by omega, by go_num, rfl, (⟨HX2.out, HYU.out.1, HYU.out.2⟩ : _ ∧ _ ∧ _)⟩
                    | false =>
                      have HX3 := HX.out
                      rw [putN_f hE, putN_t hI] at HX3
                      have HX2 : Hid (_ = _) := HX3
                      clear HX HX3
                      go_wp2_with fail
                      go_roundg (nl - (j2 + 1))
                      case measure => omega
                      case rel => exact ⟨j2 + 1, _, by omega, by go_num, rfl, (⟨HX2.out, HYU.out.1, HYU.out.2⟩ : _ ∧ _ ∧ _)⟩
                  | false =>
                    cases hE : pE.toList.isEmpty with
                    | true =>
                      have HX3 := HX.out
                      rw [putN_t hE, putN_f hI] at HX3
                      have HX2 : Hid (_ = _) := HX3
                      clear HX HX3
                      go_wp2_with fail
                      go_roundg (nl - (j2 + 1))
                      case measure => omega
                      case rel => exact ⟨j2 + 1, _, by omega, by go_num, rfl, (⟨HX2.out, HYU.out.1, HYU.out.2⟩ : _ ∧ _ ∧ _)⟩
                    | false =>
                      have HX3 := HX.out
                      rw [putN_f hE, putN_f hI] at HX3
                      have HX2 : Hid (_ = _) := HX3
                      clear HX HX3
                      go_wp2_with fail
                      go_roundg (nl - (j2 + 1))
                      case measure => omega
                      case rel => exact ⟨j2 + 1, _, by omega, by go_num, rfl, (⟨HX2.out, HYU.out.1, HYU.out.2⟩ : _ ∧ _ ∧ _)⟩
                · obtain rfl : j2 = nl := by omega
                  have d6 : decide ((j2 : Int) < j2) = false := decide_eq_false (by omega)
                  have hR0 := HV.out.2.2
                  rw [HRC.out] at hR0
                  obtain ⟨_, _, _, Y3, _⟩ := cells_five hR0
                  have HWY : Hid (S5 = ⟨(M ++ preR rs k2 ++ preS r 0).toArray⟩ ∧ Below U.heap.size U wr) := by
                    have h1 := HV.out.1
                    rw [HNN.out.2.1, preL_end] at h1
                    exact ⟨h1, HV.out.2.1⟩
                  clear hR0 HV
                  go_wp2_with fail
                  clear Y3
                  go_loopg [3, 110] ns (fun g v i wy => ∃ (j : Nat) (S : ByteArray), j + g = ns ∧ i = .int .i64 j ∧ v = .string S ∧ Hid (S = ⟨(M ++ preR rs k2 ++ preS r j).toArray⟩ ∧ Below U.heap.size U wy))
                  case atStart => exact ⟨0, S5, Nat.zero_add _, rfl, rfl, HWY⟩
                  case round =>
                    obtain ⟨j3, S6, hj3, rfl, rfl, HV0⟩ := hrel
                    have HV : Hid (S6 = ⟨(M ++ preR rs k2 ++ preS r j3).toArray⟩ ∧ Below U.heap.size U wr ∧ True) := ⟨HV0.out.1, HV0.out.2, trivial⟩
                    have HBV : Hid (Below w.heap.size w wr) := bel_up HQ.out.1 HV.out.2.1 HQ.out.1.size
                    clear HV0
                    by_cases hjl3 : j3 < ns
                    · obtain ⟨x, hx⟩ : ∃ x, r.sts[j3]? = some x := ⟨r.sts[j3]'(by have := HNN.out.2.2; omega), List.getElem?_eq_getElem _⟩
                      obtain ⟨bc, offc, rfl, hbc, hcl⟩ := HSS.out j3 x hx
                      have hxo := HR.out.2.2.s x (List.mem_of_getElem? hx)
                      have hxb : x.via.length ≤ 68719476736 := by
                        have h1 := sum_ge StD.bulk (List.mem_of_getElem? hx)
                        have h2 := HRB.out
                        unfold RoD.bulk at h2
                        unfold StD.bulk at h1 h2
                        omega
                      obtain ⟨C0, C1, C2, C3⟩ := hcl.keep hbc (cells_below HBV.out (Nat.le_refl _))
                      have d7 : decide ((j3 : Int) < ns) = true := decide_eq_true (by omega)
                      have c1 : (0 : Int) ≤ j3 := by omega
                      have hcc := fun w h => pft_any x.a x.b hxo w h
                      have hpl := pf_len x.a x.b hxo
                      obtain ⟨t, htt⟩ : ∃ t : ByteArray, t = ⟨(pfT x.a x.b).toArray⟩ := ⟨_, rfl⟩
                      obtain ⟨V, hV⟩ : ∃ t : ByteArray, t = ⟨x.via.toArray⟩ := ⟨_, rfl⟩
                      rw [← htt] at hcc
                      rw [← hV] at C2
                      have zt : t.size ≤ 20 := by rw [htt, str_size]; omega
                      have zv : V.size ≤ 68719476736 := by rw [hV, str_size]; omega
                      have hw2 := in_rout HR.out.1 HT2.out.1 (A := preS r j3) (B := statT x) (by rw [preS_next hx]; have := preS_len r (j3 + 1); omega)
                      have zS : S6.size ≤ 13743895347200 := by rw [HV.out.1, str_size]; omega
                      have HX : Hid ((S6 ++ ⟨#[9, 115, 116, 97, 116, 105, 99, 32]⟩ ++ t ++ ⟨#[32, 118, 105, 97, 32]⟩ ++ V ++ ⟨#[59, 10]⟩ : ByteArray) = ⟨(M ++ preR rs k2 ++ preS r (j3 + 1)).toArray⟩) := by
                        show _ = _
                        rw [cat_stat HV.out.1 htt hV, List.append_assoc, preS_next hx]
                      have k4 : (⟨#[9, 115, 116, 97, 116, 105, 99, 32]⟩ : ByteArray).size = 8 := rfl
                      have k5 : (⟨#[32, 118, 105, 97, 32]⟩ : ByteArray).size = 5 := rfl
                      have k6 := size_two 59 10
                      unfold pfV at hcc
                      obtain ⟨xa, hxa⟩ : ∃ n, n = x.a := ⟨_, rfl⟩
                      obtain ⟨xb, hxb2⟩ : ∃ n, n = x.b := ⟨_, rfl⟩
                      obtain ⟨xp, hxp⟩ : ∃ n, n = x.pl := ⟨_, rfl⟩
                      rw [← hxa] at C0 hcc
                      rw [← hxb2] at C1 hcc
                      rw [← hxp] at C3
                      clear hx hcl hxo htt hpl hV hxa hxb2 hxp hxb hw2
                      go_wp2_with fail
                      obtain ⟨b4, hb4⟩ : ∃ b, b = wr.heap.size := ⟨_, rfl⟩
                      rw [← hb4]
                      obtain ⟨X, hX⟩ : ∃ X, X = wr.alloc (.cells #[.int .u32 xa, .int .i64 xb, .string V, .int .i64 xp] 69) := ⟨_, rfl⟩
                      rw [← hX]
                      obtain ⟨qX, hcX, lX⟩ := box_at wr _ hX hb4
                      have hT4 := (ht.below HBV.out).below qX
                      have hXU : Hid (Below U.heap.size U X) := bel_up HV.out.2.1 qX HV.out.2.1.size
                      obtain ⟨D0, D1, D2, D3⟩ := cells_four hcX
                      have E0 := fun p => bel_cell lX D0 p
                      have E1 := fun p => bel_cell lX D1 p
                      have E2 := fun p => bel_cell lX D2 p
                      have HTX : ∀ p : BelOf X, TabP p.w := fun p => hT4.below p.h
                      clear hX hb4 C0 C1 C2 C3 D0 D1 D2 D3 hcX hT4 qX
                      have hne := bel_ne X
                      refine wp_region_bel (by kernel_rfl) (by kernel_rfl) ?_
                      repeat (go_big_quiet_step (first
                        | (go_at_call 17; exact bel_of (hcc _ (HTX _)))))
                      refine wpQuiet_nil ?_
                      rintro W ⟨⟨W', hW⟩, rfl⟩
                      have HYU : Hid (Below U.heap.size U W) := bel_up hXU.out hW hXU.out.size
                      clear hcc HTX E0 E1 E2 hne hXU lX hW
                      go_wp2_with fail
                      go_roundg (ns - (j3 + 1))
                      case measure => omega
                      case rel => exact ⟨j3 + 1, _, by omega, by go_num, rfl, (⟨HX.out, HYU.out⟩ : _ ∧ _)⟩
                    · obtain rfl : j3 = ns := by omega
                      have d7 : decide ((j3 : Int) < j3) = false := decide_eq_false (by omega)
                      have hw2 := in_rout HR.out.1 HT2.out.1 (A := preS r j3) (B := footT) (by have := preS_len r j3; simp only [List.length_append, footT, List.length_cons, List.length_nil]; omega)
                      have zS : S6.size ≤ 13743895347200 := by rw [HV.out.1, str_size]; omega
                      have z2 := size_two 125 10
                      have HX : Hid ((S6 ++ ⟨#[125, 10]⟩ : ByteArray) = ⟨(M ++ preR rs (k2 + 1)).toArray⟩) := by
                        show _ = _
                        rw [cat_foot HV.out.1, ← preR_next HR.out.1, ← HNN.out.2.2]
                        simp only [List.append_assoc]
                      clear hw2
                      go_wp2_with fail
                      go_roundg (n2 - (k2 + 1))
                      case measure => omega
                      case rel => exact ⟨k2 + 1, _, by omega, by go_num, rfl, (⟨HX.out, HV.out.2.1⟩ : _ ∧ _)⟩
        · obtain rfl : k2 = n2 := by omega
          have d4 : decide ((k2 : Int) < k2) = false := decide_eq_false (by omega)
          have HX : Hid (S2 = ⟨(confT ⟨ms, rs⟩).toArray⟩) := by
            show _ = _
            rw [HW.out.1, HT2.out.2]
            unfold preR
            rw [HN.out.2, List.take_length]
          go_wp2_with fail
          go_ret
          rw [← HX.out]
          exact ⟨rfl, HBW.out⟩
end Go.Proofs.YthelllciciohiaaDoor
