/- ParseNumbers. -/
import Derived.Test.YtejhgifadohbiaaDoorVN
import Derived.Test.YtejhgifadohbiaaDoorPK
namespace Go.Proofs.YtejhgifadohbiaaDoor
open Go.RowKit Go.Lib

theorem ba_size (x y : ByteArray) : (x ++ y).size = x.size + y.size := ByteArray.size_append
/-- The text, put together piece by piece. -/
theorem nb_sum {x y m p c : Nat} (hx : x < 10) (hy : y < 10) (hm : m < 1000) (hp : p < 1000) (hc : c < 10000) {X Y M P C : ByteArray} (eX : X = ⟨(decDigits x).toArray⟩) (eY : Y = ⟨(decDigits y).toArray⟩) (eM : M = ⟨(decDigits m).toArray⟩) (eP : P = ⟨(decDigits p).toArray⟩) (eC : C = ⟨(decDigits c).toArray⟩) :
    ∃ S1 S2 S3 S4 S5 S6 S7 S8 S9 S10 : ByteArray, (⟨#[109, 97, 112, 32, 109, 32, 123, 32, 105, 102, 32, 97, 110, 121, 32, 119, 105, 116, 104, 32]⟩ : ByteArray) ++ X = S1 ∧ S1 ++ ⟨#[32]⟩ = S2 ∧ S2 ++ Y = S3 ∧ S3 ++ ⟨#[32, 116, 104, 101, 110, 32, 109, 111, 114, 101, 32]⟩ = S4 ∧ S4 ++ M = S5 ∧
      S5 ++ ⟨#[32, 112, 114, 101, 102, 32]⟩ = S6 ∧ S6 ++ P = S7 ∧ S7 ++ ⟨#[59, 32, 125, 32, 114, 111, 117, 116, 101, 114, 32, 114, 32, 123, 32, 108, 105, 110, 107, 32, 113, 32, 99, 111, 115, 116, 32]⟩ = S8 ∧ S8 ++ C = S9 ∧ S9 ++ ⟨#[59, 32, 125]⟩ = S10 ∧
      S10 = ⟨(nbText x y m p c).toArray⟩ ∧ S1.size ≤ 200 ∧ S2.size ≤ 200 ∧ S3.size ≤ 200 ∧ S4.size ≤ 200 ∧ S5.size ≤ 200 ∧ S6.size ≤ 200 ∧ S7.size ≤ 200 ∧ S8.size ≤ 200 ∧ S9.size ≤ 200 ∧ X.size ≤ 10 ∧ Y.size ≤ 10 ∧ C.size ≤ 10 := by
  have h1 := dig_len 2 x (by omega)
  have h2 := dig_len 2 y (by omega)
  have h3 := dig_len 2 m (by omega)
  have h4 := dig_len 2 p (by omega)
  have h5 := dig_len 3 c (by omega)
  have s1 : X.size ≤ 3 := by rw [eX, str_size]; exact h1
  have s2 : Y.size ≤ 3 := by rw [eY, str_size]; exact h2
  have s3 : M.size ≤ 3 := by rw [eM, str_size]; exact h3
  have s4 : P.size ≤ 3 := by rw [eP, str_size]; exact h4
  have s5 : C.size ≤ 4 := by rw [eC, str_size]; exact h5
  have k1 : (⟨#[109, 97, 112, 32, 109, 32, 123, 32, 105, 102, 32, 97, 110, 121, 32, 119, 105, 116, 104, 32]⟩ : ByteArray).size = 20 := rfl
  have k2 : (⟨#[32]⟩ : ByteArray).size = 1 := rfl
  have k3 : (⟨#[32, 116, 104, 101, 110, 32, 109, 111, 114, 101, 32]⟩ : ByteArray).size = 11 := rfl
  have k4 : (⟨#[32, 112, 114, 101, 102, 32]⟩ : ByteArray).size = 6 := rfl
  have k5 : (⟨#[59, 32, 125, 32, 114, 111, 117, 116, 101, 114, 32, 114, 32, 123, 32, 108, 105, 110, 107, 32, 113, 32, 99, 111, 115, 116, 32]⟩ : ByteArray).size = 27 := rfl
  refine ⟨_, _, _, _, _, _, _, _, _, _, rfl, rfl, rfl, rfl, rfl, rfl, rfl, rfl, rfl, rfl, ?_, ?_, ?_, ?_, ?_, ?_, ?_, ?_, ?_, ?_, by omega, by omega, by omega⟩
  · rw [eX, eY, eM, eP, eC]
    rw [show (⟨#[109, 97, 112, 32, 109, 32, 123, 32, 105, 102, 32, 97, 110, 121, 32, 119, 105, 116, 104, 32]⟩ : ByteArray) = ⟨nbHead.toArray⟩ from rfl, show (⟨#[32]⟩ : ByteArray) = ⟨([32] : Bs).toArray⟩ from rfl, show (⟨#[32, 116, 104, 101, 110, 32, 109, 111, 114, 101, 32]⟩ : ByteArray) = ⟨nbThen.toArray⟩ from rfl,
      show (⟨#[32, 112, 114, 101, 102, 32]⟩ : ByteArray) = ⟨nbPref.toArray⟩ from rfl, show (⟨#[59, 32, 125, 32, 114, 111, 117, 116, 101, 114, 32, 114, 32, 123, 32, 108, 105, 110, 107, 32, 113, 32, 99, 111, 115, 116, 32]⟩ : ByteArray) = ⟨nbRout.toArray⟩ from rfl, show (⟨#[59, 32, 125]⟩ : ByteArray) = ⟨nbEnd.toArray⟩ from rfl]
    simp only [str_add]
    rfl
  all_goals
    simp only [ba_size, k1, k2, k3, k4, k5]
    omega
set_option maxHeartbeats 16000000 in
set_option maxRecDepth 20000 in
theorem parseNumbers_walk (cost more pref a b : Nat) (hcost : cost < 65536) (hmore : more < 256) (hpref : pref < 65536) (ha : a < 256) (hb : b < 256) (w : World) (hw : Laid w) :
    Calls Tryd.prog 3 #[.int .u16 cost, .int .u8 more, .int .u16 pref, .int .u8 a, .int .u8 b] w fun e w' => e = .returned (.bool true) ∧ Below w.heap.size w w' := by
  obtain ⟨c, hc⟩ : ∃ c, c = cost % 1200 := ⟨_, rfl⟩
  obtain ⟨m, hm⟩ : ∃ c, c = more % 20 := ⟨_, rfl⟩
  obtain ⟨p, hp⟩ : ∃ c, c = pref % 300 := ⟨_, rfl⟩
  obtain ⟨x, hx⟩ : ∃ c, c = a % 6 := ⟨_, rfl⟩
  obtain ⟨y, hy⟩ : ∃ c, c = b % 6 := ⟨_, rfl⟩
  have rc : ((cost : Int) % 1200) = (c : Int) := by omega
  have rm : ((more : Int) % 20) = (m : Int) := by omega
  have rp : ((pref : Int) % 300) = (p : Int) := by omega
  have rx : ((a : Int) % 6) = (x : Int) := by omega
  have ry : ((b : Int) % 6) = (y : Int) := by omega
  have lc : c < 1200 := by omega
  have lm : m < 20 := by omega
  have lp : p < 300 := by omega
  have lx : x < 6 := by omega
  have ly : y < 6 := by omega
  clear hc hm hp hx hy
  have hr := nb_read (x := x) (y := y) (m := m) (p := p) (c := c) (by omega) (by omega) (by omega) (by omega) (by omega)
  have hlen := nb_len (x := x) (y := y) (m := m) (p := p) (c := c) (by omega) (by omega) (by omega) (by omega) (by omega)
  obtain ⟨X, eX⟩ : ∃ X : ByteArray, X = ⟨(decDigits x).toArray⟩ := ⟨_, rfl⟩
  obtain ⟨Y, eY⟩ : ∃ X : ByteArray, X = ⟨(decDigits y).toArray⟩ := ⟨_, rfl⟩
  obtain ⟨M, eM⟩ : ∃ X : ByteArray, X = ⟨(decDigits m).toArray⟩ := ⟨_, rfl⟩
  obtain ⟨P, eP⟩ : ∃ X : ByteArray, X = ⟨(decDigits p).toArray⟩ := ⟨_, rfl⟩
  obtain ⟨C, eC⟩ : ∃ X : ByteArray, X = ⟨(decDigits c).toArray⟩ := ⟨_, rfl⟩
  obtain ⟨S1, S2, S3, S4, S5, S6, S7, S8, S9, S10, g1, g2, g3, g4, g5, g6, g7, g8, g9, g10, g11, z1, z2, z3, z4, z5, z6, z7, z8, z9, zX, zY, zC⟩ := nb_sum (x := x) (y := y) (m := m) (p := p) (c := c) (by omega) (by omega) (by omega) (by omega) (by omega) eX eY eM eP eC
  have zM : M.size ≤ 3 := by rw [eM, str_size]; exact dig_len 2 m (by omega)
  have zP : P.size ≤ 3 := by rw [eP, str_size]; exact dig_len 2 p (by omega)
  have hk := fun W => paconfig_any (nbText x y m p c) (by omega) W
  have kX := fun W => dig8_nat x (by omega) W
  have kY := fun W => dig8_nat y (by omega) W
  have kM := fun W => dig8_nat m (by omega) W
  have kP := fun W => dig8_nat p (by omega) W
  have kC := fun W => dig8_nat c (by omega) W
  rw [← eX] at kX
  rw [← eY] at kY
  rw [← eM] at kM
  rw [← eP] at kP
  rw [← eC] at kC
  rw [← g11] at hk
  obtain ⟨LM, hLM⟩ : ∃ n, n = (decDigits m).length := ⟨_, rfl⟩
  obtain ⟨LP, hLP⟩ : ∃ n, n = (decDigits p).length := ⟨_, rfl⟩
  have sM : M.size = LM := by rw [eM, str_size, hLM]
  have sP : P.size = LP := by rw [eP, str_size, hLP]
  rw [← hLM, ← hLP] at hr
  have HK : Hid (∀ W, Calls Tryd.prog 7 #[.string S10] W (PaOut W (readP (nbText x y m p c)))) := hk
  have HR : Hid _ := hr
  have HW : Hid (Laid w) := hw
  have lM : LM ≤ 3 := by omega
  have lP : LP ≤ 3 := by omega
  clear hw hr hlen eX eY eM eP eC g11 hk hLM hLP zM zP
  have h0 := awake8_any w HW.out
  go_enter Tryd.func3, Tryd.ntmps3
  go_wp2_with fail
  refine h0.mono ?_
  rintro e U ⟨rfl, qU⟩
  clear h0
  have HU : Hid (Below w.heap.size w U) := qU
  clear qU
  have cs := HK.out
  go_wp2_with fail
  refine (kX _).mono ?_
  rintro e U ⟨rfl, rfl⟩
  go_wp2_with fail
  refine (kY _).mono ?_
  rintro e U ⟨rfl, rfl⟩
  go_wp2_with fail
  refine (kM _).mono ?_
  rintro e U ⟨rfl, rfl⟩
  go_wp2_with fail
  refine (kP _).mono ?_
  rintro e U ⟨rfl, rfl⟩
  go_wp2_with fail
  refine (kC _).mono ?_
  rintro e U ⟨rfl, rfl⟩
  go_wp2_with fail
  have hk := HK.out U
  have hr := HR.out
  cases hsd : nbSaid x y m p c LM LP with
  | some kq =>
    obtain ⟨k, q⟩ := kq
    simp only [hsd] at hr
    rw [hr] at hk
    unfold PaOut faV at hk
    dsimp only at hk
    have HD : Hid (nbSaid x y m p c LM LP = some (k, q)) := hsd
    clear hsd hr HR HK cs kX kY kC g1 g2 g3 g4 g5 g6 g7 g8 g9 g10 z1 z2 z3 z4 z5 z6 z7 z8 z9 zX zY zC
    refine hk.mono ?_
    rintro e V ⟨rfl, qV⟩
    clear hk
    go_upto_region 8 with fail
    obtain ⟨V2, hV2⟩ : ∃ Z, Z = V.alloc (.cells #[.slice none 0 0, .slice none 0 0] 28) := ⟨_, rfl⟩
    rw [← hV2]
    have HV : Hid (Below w.heap.size w V2) := bel_up (bel_up HU.out qV HU.out.size) (by rw [hV2]; exact bel_alloc (Below.refl _ _) _) (Nat.le_trans HU.out.size qV.size)
    clear hV2 qV HU
    go_wp2_with fail
    refine (kM _).mono ?_
    rintro e V2 ⟨rfl, rfl⟩
    go_wp2_with fail
    refine (kP _).mono ?_
    rintro e V2 ⟨rfl, rfl⟩
    clear kM kP
    go_upto_region 14 with fail
    by_cases c1 : 3 < x
    · have d1 : decide ((3 : Int) < x) = true := decide_eq_true (by omega)
      have HKQ : k = 6 ∧ q = 20 := by
        have h9 := HD.out
        unfold nbSaid at h9
        rw [if_pos c1] at h9
        cases h9
        exact ⟨rfl, by omega⟩
      have ek : ((k : Int) == 6) = true := by rw [beq_iff_eq]; omega
      have eq9 : ((q : Int) == 20) = true := by rw [beq_iff_eq]; omega
      clear HKQ
      go_wp2_with fail
      refine (number_fault k q _ (laid_below HW.out HV.out)).mono ?_
      rintro e Z1 ⟨rfl, q1⟩
      have HZ : Hid (Below w.heap.size w Z1) := bel_up HV.out q1 HV.out.size
      clear q1
      go_wp2_with fail
      refine (place_fault k q _ (laid_below HW.out HZ.out)).mono ?_
      rintro e Z2 ⟨rfl, q2⟩
      go_wp2_with fail
      go_ret
      exact ⟨rfl, bel_up HZ.out q2 HZ.out.size⟩
    have d1 : decide ((3 : Int) < x) = false := decide_eq_false (by omega)
    by_cases c2 : 3 < y
    · have d2 : decide ((3 : Int) < y) = true := decide_eq_true (by omega)
      have HKQ : k = 6 ∧ q = 22 := by
        have h9 := HD.out
        unfold nbSaid at h9
        rw [if_neg c1, if_pos c2] at h9
        cases h9
        exact ⟨rfl, by omega⟩
      have ek : ((k : Int) == 6) = true := by rw [beq_iff_eq]; omega
      have eq9 : ((q : Int) == 22) = true := by rw [beq_iff_eq]; omega
      clear HKQ
      go_wp2_with fail
      refine (number_fault k q _ (laid_below HW.out HV.out)).mono ?_
      rintro e Z1 ⟨rfl, q1⟩
      have HZ : Hid (Below w.heap.size w Z1) := bel_up HV.out q1 HV.out.size
      clear q1
      go_wp2_with fail
      refine (place_fault k q _ (laid_below HW.out HZ.out)).mono ?_
      rintro e Z2 ⟨rfl, q2⟩
      go_wp2_with fail
      go_ret
      exact ⟨rfl, bel_up HZ.out q2 HZ.out.size⟩
    have d2 : decide ((3 : Int) < y) = false := decide_eq_false (by omega)
    by_cases c3 : y < x + 1
    · have d3 : decide ((y : Int) ≤ x) = true := decide_eq_true (by omega)
      have n3 : decide (y ≤ x) = true := decide_eq_true (by omega)
      have HKQ : k = 4 ∧ q = 22 := by
        have h9 := HD.out
        unfold nbSaid at h9
        rw [if_neg c1, if_neg c2, if_pos c3] at h9
        cases h9
        exact ⟨rfl, by omega⟩
      have ek : ((k : Int) == 4) = true := by rw [beq_iff_eq]; omega
      have eq9 : ((q : Int) == 22) = true := by rw [beq_iff_eq]; omega
      clear HKQ
      go_wp2_with fail
      refine (number_fault k q _ (laid_below HW.out HV.out)).mono ?_
      rintro e Z1 ⟨rfl, q1⟩
      have HZ : Hid (Below w.heap.size w Z1) := bel_up HV.out q1 HV.out.size
      clear q1
      go_wp2_with fail
      refine (place_fault k q _ (laid_below HW.out HZ.out)).mono ?_
      rintro e Z2 ⟨rfl, q2⟩
      go_wp2_with fail
      go_ret
      exact ⟨rfl, bel_up HZ.out q2 HZ.out.size⟩
    have d3 : decide ((y : Int) ≤ x) = false := decide_eq_false (by omega)
    have n3 : decide (y ≤ x) = false := decide_eq_false (by omega)
    by_cases c4 : ¬ (1 ≤ m ∧ m ≤ 15)
    · by_cases c4a : m < 1
      · have d4 : decide ((m : Int) < 1) = true := decide_eq_true (by omega)
        have HKQ : k = 6 ∧ q = 34 := by
          have h9 := HD.out
          unfold nbSaid at h9
          rw [if_neg c1, if_neg c2, if_neg c3, if_neg c4] at h9
          cases h9
          exact ⟨rfl, by omega⟩
        have ek : ((k : Int) == 6) = true := by rw [beq_iff_eq]; omega
        have eq9 : ((q : Int) == 34) = true := by rw [beq_iff_eq]; omega
        clear HKQ
        go_wp2_with fail
        refine (number_fault k q _ (laid_below HW.out HV.out)).mono ?_
        rintro e Z1 ⟨rfl, q1⟩
        have HZ : Hid (Below w.heap.size w Z1) := bel_up HV.out q1 HV.out.size
        clear q1
        go_wp2_with fail
        refine (place_fault k q _ (laid_below HW.out HZ.out)).mono ?_
        rintro e Z2 ⟨rfl, q2⟩
        go_wp2_with fail
        go_ret
        exact ⟨rfl, bel_up HZ.out q2 HZ.out.size⟩
      · have d4 : decide ((m : Int) < 1) = false := decide_eq_false (by omega)
        have d4b : decide ((15 : Int) < m) = true := decide_eq_true (by omega)
        have HKQ : k = 6 ∧ q = 34 := by
          have h9 := HD.out
          unfold nbSaid at h9
          rw [if_neg c1, if_neg c2, if_neg c3, if_neg c4] at h9
          cases h9
          exact ⟨rfl, by omega⟩
        have ek : ((k : Int) == 6) = true := by rw [beq_iff_eq]; omega
        have eq9 : ((q : Int) == 34) = true := by rw [beq_iff_eq]; omega
        clear HKQ
        go_wp2_with fail
        refine (number_fault k q _ (laid_below HW.out HV.out)).mono ?_
        rintro e Z1 ⟨rfl, q1⟩
        have HZ : Hid (Below w.heap.size w Z1) := bel_up HV.out q1 HV.out.size
        clear q1
        go_wp2_with fail
        refine (place_fault k q _ (laid_below HW.out HZ.out)).mono ?_
        rintro e Z2 ⟨rfl, q2⟩
        go_wp2_with fail
        go_ret
        exact ⟨rfl, bel_up HZ.out q2 HZ.out.size⟩
    replace c4 := Decidable.not_not.1 c4
    have d4 : decide ((m : Int) < 1) = false := decide_eq_false (by omega)
    have d4b : decide ((15 : Int) < m) = false := decide_eq_false (by omega)
    by_cases c5 : ¬ (1 ≤ p ∧ p ≤ 255)
    · by_cases c5a : p < 1
      · have d5 : decide ((p : Int) < 1) = true := decide_eq_true (by omega)
        have HKQ : k = 6 ∧ q = 40 + LM := by
          have h9 := HD.out
          unfold nbSaid at h9
          rw [if_neg c1, if_neg c2, if_neg c3, if_pos c4, if_neg c5] at h9
          cases h9
          exact ⟨rfl, by omega⟩
        have ek : ((k : Int) == 6) = true := by rw [beq_iff_eq]; omega
        have eq9 : ((q : Int) == 34 + (LM : Int) + 6) = true := by rw [beq_iff_eq]; omega
        clear HKQ
        go_wp2_with fail
        refine (number_fault k q _ (laid_below HW.out HV.out)).mono ?_
        rintro e Z1 ⟨rfl, q1⟩
        have HZ : Hid (Below w.heap.size w Z1) := bel_up HV.out q1 HV.out.size
        clear q1
        go_wp2_with fail
        refine (place_fault k q _ (laid_below HW.out HZ.out)).mono ?_
        rintro e Z2 ⟨rfl, q2⟩
        go_wp2_with fail
        go_ret
        exact ⟨rfl, bel_up HZ.out q2 HZ.out.size⟩
      · have d5 : decide ((p : Int) < 1) = false := decide_eq_false (by omega)
        have d5b : decide ((255 : Int) < p) = true := decide_eq_true (by omega)
        have HKQ : k = 6 ∧ q = 40 + LM := by
          have h9 := HD.out
          unfold nbSaid at h9
          rw [if_neg c1, if_neg c2, if_neg c3, if_pos c4, if_neg c5] at h9
          cases h9
          exact ⟨rfl, by omega⟩
        have ek : ((k : Int) == 6) = true := by rw [beq_iff_eq]; omega
        have eq9 : ((q : Int) == 34 + (LM : Int) + 6) = true := by rw [beq_iff_eq]; omega
        clear HKQ
        go_wp2_with fail
        refine (number_fault k q _ (laid_below HW.out HV.out)).mono ?_
        rintro e Z1 ⟨rfl, q1⟩
        have HZ : Hid (Below w.heap.size w Z1) := bel_up HV.out q1 HV.out.size
        clear q1
        go_wp2_with fail
        refine (place_fault k q _ (laid_below HW.out HZ.out)).mono ?_
        rintro e Z2 ⟨rfl, q2⟩
        go_wp2_with fail
        go_ret
        exact ⟨rfl, bel_up HZ.out q2 HZ.out.size⟩
    replace c5 := Decidable.not_not.1 c5
    have d5 : decide ((p : Int) < 1) = false := decide_eq_false (by omega)
    have d5b : decide ((255 : Int) < p) = false := decide_eq_false (by omega)
    by_cases c6 : ¬ (1 ≤ c ∧ c ≤ 1000)
    · by_cases c6a : c < 1
      · have d6 : decide ((c : Int) < 1) = true := decide_eq_true (by omega)
        have HKQ : k = 6 ∧ q = 67 + LM + LP := by
          have h9 := HD.out
          unfold nbSaid at h9
          rw [if_neg c1, if_neg c2, if_neg c3, if_pos c4, if_pos c5, if_neg c6] at h9
          cases h9
          exact ⟨rfl, by omega⟩
        have ek : ((k : Int) == 6) = true := by rw [beq_iff_eq]; omega
        have eq9 : ((q : Int) == 34 + (LM : Int) + 6 + LP + 27) = true := by rw [beq_iff_eq]; omega
        clear HKQ
        go_wp2_with fail
        refine (number_fault k q _ (laid_below HW.out HV.out)).mono ?_
        rintro e Z1 ⟨rfl, q1⟩
        have HZ : Hid (Below w.heap.size w Z1) := bel_up HV.out q1 HV.out.size
        clear q1
        go_wp2_with fail
        refine (place_fault k q _ (laid_below HW.out HZ.out)).mono ?_
        rintro e Z2 ⟨rfl, q2⟩
        go_wp2_with fail
        go_ret
        exact ⟨rfl, bel_up HZ.out q2 HZ.out.size⟩
      · have d6 : decide ((c : Int) < 1) = false := decide_eq_false (by omega)
        have d6b : decide ((1000 : Int) < c) = true := decide_eq_true (by omega)
        have HKQ : k = 6 ∧ q = 67 + LM + LP := by
          have h9 := HD.out
          unfold nbSaid at h9
          rw [if_neg c1, if_neg c2, if_neg c3, if_pos c4, if_pos c5, if_neg c6] at h9
          cases h9
          exact ⟨rfl, by omega⟩
        have ek : ((k : Int) == 6) = true := by rw [beq_iff_eq]; omega
        have eq9 : ((q : Int) == 34 + (LM : Int) + 6 + LP + 27) = true := by rw [beq_iff_eq]; omega
        clear HKQ
        go_wp2_with fail
        refine (number_fault k q _ (laid_below HW.out HV.out)).mono ?_
        rintro e Z1 ⟨rfl, q1⟩
        have HZ : Hid (Below w.heap.size w Z1) := bel_up HV.out q1 HV.out.size
        clear q1
        go_wp2_with fail
        refine (place_fault k q _ (laid_below HW.out HZ.out)).mono ?_
        rintro e Z2 ⟨rfl, q2⟩
        go_wp2_with fail
        go_ret
        exact ⟨rfl, bel_up HZ.out q2 HZ.out.size⟩
    replace c6 := Decidable.not_not.1 c6
    exfalso
    have h9 := HD.out
    unfold nbSaid at h9
    rw [if_neg c1, if_neg c2, if_neg c3, if_pos c4, if_pos c5, if_pos c6] at h9
    cases h9
  | none =>
    simp only [hsd] at hr
    obtain ⟨dd, hr⟩ := hr
    rw [hr] at hk
    unfold PaOut at hk
    have HD : Hid ((x ≤ 3 ∧ y ≤ 3 ∧ x < y) ∧ (1 ≤ m ∧ m ≤ 15) ∧ (1 ≤ p ∧ p ≤ 255) ∧ 1 ≤ c ∧ c ≤ 1000) := by
      unfold nbSaid at hsd
      split at hsd
      · cases hsd
      · split at hsd
        · cases hsd
        · split at hsd
          · cases hsd
          · split at hsd
            · split at hsd
              · split at hsd
                · rename_i h1 h2 h3 h4 h5 h6
                  exact ⟨⟨by omega, by omega, by omega⟩, h4, h5, h6⟩
                · cases hsd
              · cases hsd
            · cases hsd
    clear hsd hr HR HK cs kX kY kC g1 g2 g3 g4 g5 g6 g7 g8 g9 g10 z1 z2 z3 z4 z5 z6 z7 z8 z9 zX zY zC
    refine hk.mono ?_
    rintro e V ⟨mv, rv, _, _, rfl, ho, _, _, qV⟩
    obtain ⟨ma, mn, mc, rfl⟩ := own_slc ho.m
    obtain ⟨ra, rn, rc, rfl⟩ := own_slc ho.r
    clear hk ho
    go_upto_region 8 with fail
    obtain ⟨V2, hV2⟩ : ∃ Z, Z = V.alloc (.cells #[.slice ma mn mc, .slice ra rn rc] 28) := ⟨_, rfl⟩
    rw [← hV2]
    have HV : Hid (Below w.heap.size w V2) := bel_up (bel_up HU.out qV HU.out.size) (by rw [hV2]; exact bel_alloc (Below.refl _ _) _) (Nat.le_trans HU.out.size qV.size)
    clear hV2 qV HU
    go_wp2_with fail
    refine (kM _).mono ?_
    rintro e V2 ⟨rfl, rfl⟩
    go_wp2_with fail
    refine (kP _).mono ?_
    rintro e V2 ⟨rfl, rfl⟩
    clear kM kP
    go_upto_region 14 with fail
    have d1 : decide ((3 : Int) < x) = false := decide_eq_false (by have := HD.out; omega)
    have d2 : decide ((3 : Int) < y) = false := decide_eq_false (by have := HD.out; omega)
    have d3 : decide ((y : Int) ≤ x) = false := decide_eq_false (by have := HD.out; omega)
    have n3 : decide (y ≤ x) = false := decide_eq_false (by have := HD.out; omega)
    have d4 : decide ((m : Int) < 1) = false := decide_eq_false (by have := HD.out; omega)
    have d4b : decide ((15 : Int) < m) = false := decide_eq_false (by have := HD.out; omega)
    have d5 : decide ((p : Int) < 1) = false := decide_eq_false (by have := HD.out; omega)
    have d5b : decide ((255 : Int) < p) = false := decide_eq_false (by have := HD.out; omega)
    have d6 : decide ((c : Int) < 1) = false := decide_eq_false (by have := HD.out; omega)
    have d6b : decide ((1000 : Int) < c) = false := decide_eq_false (by have := HD.out; omega)
    go_wp2_with fail
    refine (number_nil _).mono ?_
    rintro e Z1 ⟨rfl, q1⟩
    have HZ : Hid (Below w.heap.size w Z1) := bel_up HV.out q1 HV.out.size
    clear q1
    go_wp2_with fail
    refine (place_nil _).mono ?_
    rintro e Z2 ⟨rfl, q2⟩
    go_wp2_with fail
    go_ret
    exact ⟨rfl, bel_up HZ.out q2 HZ.out.size⟩
end Go.Proofs.YtejhgifadohbiaaDoor
