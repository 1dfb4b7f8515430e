/- What Cut at one byte and number do. -/
import Derived.Test.YtejhgifadohbiaaGreatDoorHC
import Derived.Test.YtejhgifadohbiaaGreatDoorHD
import Derived.Test.YtejhgifadohbiaaGreatDoorShelf
import Derived.Lib.CutLaws
namespace Go.Proofs.YtejhgifadohbiaaGreatDoor
open Go.RowKit Go.Lib

/-- What a cut answers. -/
def cutV (l : List UInt8) : Option (List UInt8 × List UInt8) → Value
  | some r => .tuple #[strV r.1, strV r.2, .bool true]
  | none => .tuple #[strV l, strV [], .bool false]
theorem str_mk (s : ByteArray) : (⟨s.data.toList.toArray⟩ : ByteArray) = s := by simp
set_option maxHeartbeats 1000000 in
set_option maxRecDepth 20000 in
theorem scut_any (s : ByteArray) (c : UInt8) (hs : s.size ≤ maxLen) (w : World) :
    Calls Tryz.prog 87 #[.string s, .string ⟨#[c]⟩] w fun e w' => e = .returned (cutV s.data.toList (cutP s.data.toList c)) ∧ Below w.heap.size w w' := by
  unfold maxLen at hs
  have hi := Tryz.stringslite_Index_one s c
  cases hc : cutP s.data.toList c with
  | none =>
    rw [cut_none.1 hc] at hi
    have e : cutV s.data.toList none = .tuple #[.string s, .string ⟨#[]⟩, .bool false] := by unfold cutV strV; rw [str_mk]
    rw [e]
    go_enter Tryz.func87, Tryz.ntmps87
    go_wp2_with fail
    refine (hi _).mono ?_
    rintro e w1 ⟨rfl, rfl⟩
    go_wp2
    go_ret3
    exact ⟨rfl, Below.refl _ _⟩
  | some r =>
    have hg := indexByte_ge s.data.toList c
    have hn : indexByte s.data.toList c ≠ -1 := fun h => by rw [cut_none.2 h] at hc; cases hc
    obtain ⟨i, hi'⟩ : ∃ i : Nat, indexByte s.data.toList c = i := ⟨(indexByte s.data.toList c).toNat, by omega⟩
    obtain ⟨hl, hr⟩ := cut_some hi'
    rw [hc] at hr
    obtain rfl := Option.some.inj hr
    rw [hi'] at hi
    have hsz : s.data.toList.length = s.size := (size_eq s).symm
    rw [hsz] at hl
    have e : cutV s.data.toList (some (s.data.toList.take i, s.data.toList.drop (i + 1))) = .tuple #[.string (s.extract 0 i), .string (s.extract (i + 1) s.size), .bool true] := by
      unfold cutV strV
      rw [extract_eq, extract_eq]
      have ht : List.take (s.size - (i + 1)) (List.drop (i + 1) s.data.toList) = List.drop (i + 1) s.data.toList :=
        List.take_of_length_le (by rw [List.length_drop, hsz]; exact Nat.le_refl _)
      rw [ht]
      simp
    rw [e]
    have c1 : (0 : Int) ≤ ↑i := by omega
    have c2 : (↑i : Int) ≤ ↑s.size := by omega
    have c3 : (0 : Int) ≤ ↑i + 1 := by omega
    have c4 : (↑i + 1 : Int) ≤ ↑s.size := by omega
    have c5 : (⟨#[c]⟩ : ByteArray).size = 1 := rfl
    clear hc hg hn hi' hsz e
    go_enter Tryz.func87, Tryz.ntmps87
    go_wp2_with fail
    refine (hi _).mono ?_
    rintro e w1 ⟨rfl, rfl⟩
    go_wp2_with fail
    go_quiet (fail)
    go_wp2
    go_ret3
    exact ⟨rfl, bel_drewN (Below.refl _ _) _⟩
set_option maxHeartbeats 1000000 in
set_option maxRecDepth 20000 in
theorem pcut_any (s : ByteArray) (c : UInt8) (hs : s.size ≤ maxLen) (w : World) :
    Calls Tryz.prog 74 #[.string s, .string ⟨#[c]⟩] w fun e w' => e = .returned (cutV s.data.toList (cutP s.data.toList c)) ∧ Below w.heap.size w w' := by
  have h := scut_any s c hs
  cases hc : cutP s.data.toList c with
  | none =>
    rw [hc] at h
    unfold cutV strV at h ⊢
    go_enter Tryz.func74, Tryz.ntmps74
    go_wp2_with fail
    refine (h _).mono ?_
    rintro e w1 ⟨rfl, q⟩
    go_wp2
    go_ret3
    exact ⟨rfl, q⟩
  | some r =>
    rw [hc] at h
    unfold cutV strV at h ⊢
    go_enter Tryz.func74, Tryz.ntmps74
    go_wp2_with fail
    refine (h _).mono ?_
    rintro e w1 ⟨rfl, q⟩
    go_wp2
    go_ret3
    exact ⟨rfl, q⟩
/-- What number answers. -/
def numV (o : Option Nat) : Value := .tuple #[.int .u32 (o.getD 0 : Nat), .bool o.isSome]
set_option maxHeartbeats 4000000 in
set_option maxRecDepth 20000 in
theorem number_any (s : ByteArray) (w : World) :
    Calls Tryz.prog 75 #[.string s] w fun e w' => e = .returned (numV (numP s.data.toList)) ∧ w' = w := by
  have hsz : s.data.toList.length = s.size := (size_eq s).symm
  by_cases h0 : s.size < 1 ∨ 3 < s.size
  · have e : numP s.data.toList = none := by
      unfold numP
      rw [if_pos (by rw [hsz]; omega)]
    rw [e]
    go_enter Tryz.func75, Tryz.ntmps75
    go_wp2
    all_goals first | (exfalso; omega) | skip
    all_goals go_ret2
    all_goals exact ⟨rfl, rfl⟩
  · obtain ⟨l, hl⟩ : ∃ l, l = s.data.toList := ⟨_, rfl⟩
    rw [← hl] at hsz ⊢
    have hidx : ∀ k (h : k < s.size), s[k] = l.getD k 0 := by
      intro k h
      have h' : k < l.length := by omega
      subst hl
      have h2 : k < s.data.size := h
      simp [List.getD, ByteArray.getElem_eq_getElem_data, Array.getElem?_eq_getElem h2]
    clear hl
    have k1 : (1 : Int) ≤ s.size := by omega
    have k3 : (s.size : Int) ≤ 3 := by omega
    have d1 : decide ((s.size : Int) < 1) = false := decide_eq_false (by omega)
    have d3 : decide ((3 : Int) < s.size) = false := decide_eq_false (by omega)
    by_cases hz : 1 < s.size ∧ l.getD 0 0 = 48
    · have e : numP l = none := by
        unfold numP
        rw [if_pos]
        refine Or.inr (Or.inr ⟨by omega, ?_⟩)
        cases l with
        | nil => simp at hz
        | cons y r => simpa using hz.2
      rw [e]
      have hi := hidx 0 (by omega)
      rw [hz.2] at hi
      have d5 : decide ((1 : Int) < s.size) = true := decide_eq_true (by omega)
      clear hidx
      go_enter Tryz.func75, Tryz.ntmps75
      go_wp2_with fail
      go_ret2
      exact ⟨rfl, rfl⟩
    · have HNP : (accP 0 l = none → numP l = none) ∧ ∀ n, accP 0 l = some n → numP l = if 255 < n then none else some n := by
        have hcond : ¬ (l.length < 1 ∨ 3 < l.length ∨ (1 < l.length ∧ l.head? = some 48)) := by
          rintro (h | h | ⟨h1, h2⟩)
          · omega
          · omega
          · apply hz
            refine ⟨by omega, ?_⟩
            cases l with
            | nil => simp at h1
            | cons y r => simpa using h2
        constructor
        · intro h
          unfold numP
          rw [if_neg hcond, h]
        · intro n h
          unfold numP
          rw [if_neg hcond, h]
      by_cases hb : 1 < s.size
      · have d5 : decide ((1 : Int) < s.size) = true := decide_eq_true (by omega)
        have hne : ¬ l.getD 0 0 = 48 := fun h => hz ⟨hb, h⟩
        have hi0 := hidx 0 (by omega)
        obtain ⟨y, hy⟩ : ∃ y, y = l.getD 0 0 := ⟨_, rfl⟩
        rw [← hy] at hi0 hne
        have d6 : ((y.toNat : Int) == 48) = false := by
          rw [beq_eq_false_iff_ne]
          intro h
          apply hne
          apply UInt8.toNat_inj.1
          show y.toNat = 48
          omega
        clear hy hne hz
        have HP : Hid ((accP 0 l = none → numP l = none) ∧ ∀ n, accP 0 l = some n → numP l = if 255 < n then none else some n) := HNP
        have HIDX : Hid (∀ k (h : k < s.size), s[k] = l.getD k 0) := hidx
        clear hidx HNP
        go_enter Tryz.func75, Tryz.ntmps75
        go_wp2_with fail
        go_loop [4, 27] (fun nv i => ∃ k acc : Nat, k ≤ s.size ∧ i = .int .i64 k ∧ nv = .int .u32 acc ∧ acc < 10 ^ k ∧ accP acc (l.drop k) = accP 0 l) (fun _ i => s.size - (RowKit.intOf i).toNat)
        case atStart => exact ⟨0, 0, Nat.zero_le _, rfl, rfl, by decide, rfl⟩
        case round =>
          obtain ⟨k, acc, hk, rfl, rfl, ha, HJ⟩ := hrel
          by_cases hlt : k < s.size
          · have ha2 : acc < 100 := Nat.lt_of_lt_of_le ha (Nat.le_trans (Nat.pow_le_pow_right (by decide) (show k ≤ 2 by omega)) (by decide))
            have HA : Hid (acc < 10 ^ k) := ha
            obtain ⟨c, hc⟩ : ∃ c, c = l.getD k 0 := ⟨_, rfl⟩
            have hi := HIDX.out k hlt
            rw [← hc] at hi
            have hdrop : l.drop k = c :: l.drop (k + 1) := by
              have hl : k < l.length := by omega
              rw [List.drop_eq_getElem_cons hl, hc]
              simp [List.getD, hl]
            rw [hdrop] at HJ
            have HJ' : Hid (accP acc (c :: l.drop (k + 1)) = accP 0 l) := HJ
            have hcl := UInt8.toNat_lt c
            obtain ⟨x, hx⟩ : ∃ x : Nat, x = c.toNat := ⟨_, rfl⟩
            have HX : Hid (x = c.toNat) := hx
            rw [← hx] at hcl
            have hi2 : s[k].toNat = x := by rw [hi, hx]
            have d4 : decide ((k : Int) < s.size) = true := decide_eq_true (by omega)
            clear ha HJ hdrop hi hx hc
            go_wp2_with fail
            · have hbad : numP l = none := by
                have hx : x = c.toNat := HX
                have hj : accP acc (c :: l.drop (k + 1)) = accP 0 l := HJ'
                rw [accP, if_pos (by rw [u8_lt, u8_gt]; omega)] at hj
                exact HP.out.1 hj.symm
              rw [hbad]
              go_ret2
              exact ⟨rfl, rfl⟩
            · have hx : x = c.toNat := HX
              have hj : accP acc (c :: l.drop (k + 1)) = accP 0 l := HJ'
              rw [accP, if_neg (by rw [u8_lt, u8_gt]; omega), ← hx] at hj
              have hacc : acc < 10 ^ k := HA
              go_round
              case rel => exact ⟨k + 1, acc * 10 + (x - 48), by omega, by go_num, by congr 1; omega, by rw [Nat.pow_succ]; omega, hj⟩
              case measure => simp [RowKit.intOf]; omega
            · have hbad : numP l = none := by
                have hx : x = c.toNat := HX
                have hj : accP acc (c :: l.drop (k + 1)) = accP 0 l := HJ'
                rw [accP, if_pos (by rw [u8_lt, u8_gt]; omega)] at hj
                exact HP.out.1 hj.symm
              rw [hbad]
              go_ret2
              exact ⟨rfl, rfl⟩
          · obtain rfl : k = s.size := by omega
            have hj : accP acc (l.drop s.size) = accP 0 l := HJ
            rw [List.drop_of_length_le (by omega), accP] at hj
            have hn := HP.out.2 acc hj.symm
            have d4 : decide ((s.size : Int) < s.size) = false := decide_eq_false (by omega)
            have ha3 : acc < 1000 := Nat.lt_of_lt_of_le ha (Nat.le_trans (Nat.pow_le_pow_right (by decide) (show s.size ≤ 3 by omega)) (by decide))
            clear hj HJ ha
            by_cases h255 : 255 < acc
            · rw [if_pos h255] at hn
              have d7 : decide ((255 : Int) < acc) = true := decide_eq_true (by omega)
              have HN : Hid (numP l = _) := hn
              clear hn
              go_wp2_with fail
              rw [HN.out]
              go_ret2
              exact ⟨rfl, rfl⟩
            · rw [if_neg h255] at hn
              have d7 : decide ((255 : Int) < acc) = false := decide_eq_false (by omega)
              have HN : Hid (numP l = _) := hn
              clear hn
              go_wp2_with fail
              rw [HN.out]
              go_ret2
              exact ⟨rfl, rfl⟩
      · have d5 : decide ((1 : Int) < s.size) = false := decide_eq_false (by omega)
        clear hz
        have HP : Hid ((accP 0 l = none → numP l = none) ∧ ∀ n, accP 0 l = some n → numP l = if 255 < n then none else some n) := HNP
        have HIDX : Hid (∀ k (h : k < s.size), s[k] = l.getD k 0) := hidx
        clear hidx HNP
        go_enter Tryz.func75, Tryz.ntmps75
        go_wp2_with fail
        go_loop [4, 27] (fun nv i => ∃ k acc : Nat, k ≤ s.size ∧ i = .int .i64 k ∧ nv = .int .u32 acc ∧ acc < 10 ^ k ∧ accP acc (l.drop k) = accP 0 l) (fun _ i => s.size - (RowKit.intOf i).toNat)
        case atStart => exact ⟨0, 0, Nat.zero_le _, rfl, rfl, by decide, rfl⟩
        case round =>
          obtain ⟨k, acc, hk, rfl, rfl, ha, HJ⟩ := hrel
          by_cases hlt : k < s.size
          · have ha2 : acc < 100 := Nat.lt_of_lt_of_le ha (Nat.le_trans (Nat.pow_le_pow_right (by decide) (show k ≤ 2 by omega)) (by decide))
            have HA : Hid (acc < 10 ^ k) := ha
            obtain ⟨c, hc⟩ : ∃ c, c = l.getD k 0 := ⟨_, rfl⟩
            have hi := HIDX.out k hlt
            rw [← hc] at hi
            have hdrop : l.drop k = c :: l.drop (k + 1) := by
              have hl : k < l.length := by omega
              rw [List.drop_eq_getElem_cons hl, hc]
              simp [List.getD, hl]
            rw [hdrop] at HJ
            have HJ' : Hid (accP acc (c :: l.drop (k + 1)) = accP 0 l) := HJ
            have hcl := UInt8.toNat_lt c
            obtain ⟨x, hx⟩ : ∃ x : Nat, x = c.toNat := ⟨_, rfl⟩
            have HX : Hid (x = c.toNat) := hx
            rw [← hx] at hcl
            have hi2 : s[k].toNat = x := by rw [hi, hx]
            have d4 : decide ((k : Int) < s.size) = true := decide_eq_true (by omega)
            clear ha HJ hdrop hi hx hc
            go_wp2_with fail
            · have hbad : numP l = none := by
                have hx : x = c.toNat := HX
                have hj : accP acc (c :: l.drop (k + 1)) = accP 0 l := HJ'
                rw [accP, if_pos (by rw [u8_lt, u8_gt]; omega)] at hj
                exact HP.out.1 hj.symm
              rw [hbad]
              go_ret2
              exact ⟨rfl, rfl⟩
            · have hx : x = c.toNat := HX
              have hj : accP acc (c :: l.drop (k + 1)) = accP 0 l := HJ'
              rw [accP, if_neg (by rw [u8_lt, u8_gt]; omega), ← hx] at hj
              have hacc : acc < 10 ^ k := HA
              go_round
              case rel => exact ⟨k + 1, acc * 10 + (x - 48), by omega, by go_num, by congr 1; omega, by rw [Nat.pow_succ]; omega, hj⟩
              case measure => simp [RowKit.intOf]; omega
            · have hbad : numP l = none := by
                have hx : x = c.toNat := HX
                have hj : accP acc (c :: l.drop (k + 1)) = accP 0 l := HJ'
                rw [accP, if_pos (by rw [u8_lt, u8_gt]; omega)] at hj
                exact HP.out.1 hj.symm
              rw [hbad]
              go_ret2
              exact ⟨rfl, rfl⟩
          · obtain rfl : k = s.size := by omega
            have hj : accP acc (l.drop s.size) = accP 0 l := HJ
            rw [List.drop_of_length_le (by omega), accP] at hj
            have hn := HP.out.2 acc hj.symm
            have d4 : decide ((s.size : Int) < s.size) = false := decide_eq_false (by omega)
            have ha3 : acc < 1000 := Nat.lt_of_lt_of_le ha (Nat.le_trans (Nat.pow_le_pow_right (by decide) (show s.size ≤ 3 by omega)) (by decide))
            clear hj HJ ha
            by_cases h255 : 255 < acc
            · rw [if_pos h255] at hn
              have d7 : decide ((255 : Int) < acc) = true := decide_eq_true (by omega)
              have HN : Hid (numP l = _) := hn
              clear hn
              go_wp2_with fail
              rw [HN.out]
              go_ret2
              exact ⟨rfl, rfl⟩
            · rw [if_neg h255] at hn
              have d7 : decide ((255 : Int) < acc) = false := decide_eq_false (by omega)
              have HN : Hid (numP l = _) := hn
              clear hn
              go_wp2_with fail
              rw [HN.out]
              go_ret2
              exact ⟨rfl, rfl⟩
end Go.Proofs.YtejhgifadohbiaaGreatDoor
