/- What the law's Name, number and mapped do. -/
import Derived.Test.YtcjdjifooaeomaaDoorUN
namespace Go.Proofs.YtcjdjifooaeomaaDoor
open Go.RowKit Go.Lib

theorem enc_fin : ∀ k : Fin 26, Utf8.encode (97 + (k.val : Int)) = ⟨#[UInt8.ofNat (97 + k.val)]⟩ := by decide +kernel
theorem enc_at {k : Nat} (h : k < 26) : Utf8.encode (97 + (k : Int)) = ⟨#[UInt8.ofNat (97 + k)]⟩ := enc_fin ⟨k, h⟩
theorem name7_any (k : Nat) (hk : k < 26) (w : World) : Calls Tryd.prog 16 #[.int .i64 k] w fun e w' => e = .returned (.string ⟨(nameS k).toArray⟩) ∧ w' = w := by
  have e := enc_at hk
  obtain ⟨t, ht⟩ : ∃ t : ByteArray, t = ⟨#[UInt8.ofNat (97 + k)]⟩ := ⟨_, rfl⟩
  rw [← ht] at e
  have z1 := size_one 114
  have zt : t.size = 1 := by rw [ht]; rfl
  have HS : Hid ((⟨#[114]⟩ ++ t : ByteArray) = ⟨(nameS k).toArray⟩) := by
    show _ = _
    have d1 : (⟨#[114]⟩ : ByteArray) = ⟨([114] : List UInt8).toArray⟩ := rfl
    have d2 : (⟨#[UInt8.ofNat (97 + k)]⟩ : ByteArray) = ⟨([UInt8.ofNat (97 + k)] : List UInt8).toArray⟩ := rfl
    rw [ht, d1, d2, str_add]
    rfl
  have k0 : (0 : Int) ≤ k := by omega
  have k1 : (k : Int) < 26 := by omega
  clear ht
  go_enter Tryd.func16, Tryd.ntmps16
  go_wp2
  go_ret
  rw [HS.out]
  exact ⟨rfl, rfl⟩
/-- A byte that lies. -/
def ByAt (W : World) (b o : Nat) (x : Nat) : Prop := W.cell? ⟨b, o, none⟩ = some (.int .u8 x)
theorem num_nil (k : Nat) (ad : Option Addr) (cap : Nat) (w : World) : Calls Tryd.prog 22 #[.slice ad 0 cap, .int .i64 k] w fun e w' => e = .returned (.int .i64 0) ∧ w' = w := by
  go_enter Tryd.func22, Tryd.ntmps22
  go_wp2
  go_ret
  exact ⟨rfl, rfl⟩
set_option maxHeartbeats 1000000 in
set_option maxRecDepth 20000 in
theorem num_some (n k b off cap x : Nat) (hn : 0 < n) (hn2 : n ≤ 9223372036854775807) (hx : x < 256) (w : World) (hc : w.cell? ⟨b, off + k % n, none⟩ = some (.int .u8 x)) :
    Calls Tryd.prog 22 #[.slice (some ⟨b, off, none⟩) n cap, .int .i64 k] w fun e w' => e = .returned (.int .i64 x) ∧ w' = w := by
  have d0 : ((n : Int) == 0) = false := by rw [beq_eq_false_iff_ne]; omega
  have hlt := Nat.mod_lt k hn
  obtain ⟨j, hj⟩ : ∃ j, j = k % n := ⟨_, rfl⟩
  rw [← hj] at hc hlt
  have hm : ((k : Int) % n) = (j : Int) := by rw [hj]; simp
  have hz : ¬ (n : Int) = 0 := by omega
  have hz2 : ¬ (n : Int) = -1 := by omega
  have k0 : (0 : Int) ≤ k := by omega
  have j0 : (0 : Int) ≤ j := by omega
  have j1 : (j : Int) < n := by omega
  have x1 : (x : Int) < 256 := by omega
  clear hj
  go_enter Tryd.func22, Tryd.ntmps22
  go_wp2
  go_ret
  exact ⟨rfl, rfl⟩
theorem num_any {B : Nat} {l : List Nat} (hl : ∀ x ∈ l, x < 256) {v : Value} {w : World} (hv : SliceAt B 1 (ByAt w) v l) (k : Nat) :
    Calls Tryd.prog 22 #[v, .int .i64 k] w fun e w' => e = .returned (.int .i64 (numS l k : Nat)) ∧ w' = w := by
  obtain ⟨ad, cap, rfl, h2, h3⟩ := hv
  by_cases h0 : l = []
  · subst h0
    exact num_nil k ad cap w
  · have hp : 0 < l.length := List.length_pos_iff.2 h0
    have hlt := Nat.mod_lt k hp
    have hx : l[k % l.length]? = some (l[k % l.length]'hlt) := List.getElem?_eq_getElem hlt
    obtain ⟨b, off, rfl, _, he⟩ := h3 _ _ hx
    have e : numS l k = l[k % l.length]'hlt := by
      unfold numS
      rw [List.getD_eq_getElem?_getD, hx]
      rfl
    rw [e]
    refine num_some l.length k b off cap _ hp h2 (hl _ (List.getElem_mem _)) w ?_
    have := he
    unfold ByAt at this
    rwa [Nat.mul_one] at this
def RlAt (W : World) (b o : Nat) (r : RlD) : Prop :=
  W.cell? ⟨b, o, none⟩ = some (.int .u8 r.tg) ∧ W.cell? ⟨b, o + 1, none⟩ = some (.int .u8 r.wi) ∧ W.cell? ⟨b, o + 2, none⟩ = some (.int .u8 r.ou) ∧ W.cell? ⟨b, o + 3, none⟩ = some (.int .u8 r.act) ∧ W.cell? ⟨b, o + 4, none⟩ = some (.int .u8 r.more) ∧ W.cell? ⟨b, o + 5, none⟩ = some (.int .u8 r.pref)
def RsAt (W : World) (B b o : Nat) (rs : List RlD) : Prop := ∃ rv, W.cell? ⟨b, o, none⟩ = some rv ∧ SliceAt B 6 (RlAt W) rv rs
/-- A configuration by numbers as a value. -/
def ShAt (W : World) (B : Nat) (v : Value) (s : ShD) : Prop :=
  ∃ lv mv nv tv wv, v = .agg #[.int .u8 s.n, lv, mv, nv, tv, wv] ∧ SliceAt B 1 (ByAt W) lv s.links ∧ SliceAt B 1 (RsAt W B) mv s.maps ∧ SliceAt B 1 (ByAt W) nv s.names ∧ SliceAt B 1 (ByAt W) tv s.nets ∧ SliceAt B 1 (ByAt W) wv s.ways
section
variable {W W' : World} {B B' b o : Nat} {v : Value}
theorem ByAt.keep {x : Nat} (h : ByAt W b o x) (hb : b < B) (k : Cells B W W') : ByAt W' b o x := k _ _ _ hb h
theorem RlAt.keep {r : RlD} (h : RlAt W b o r) (hb : b < B) (k : Cells B W W') : RlAt W' b o r :=
  ⟨k _ _ _ hb h.1, k _ _ _ hb h.2.1, k _ _ _ hb h.2.2.1, k _ _ _ hb h.2.2.2.1, k _ _ _ hb h.2.2.2.2.1, k _ _ _ hb h.2.2.2.2.2⟩
theorem RsAt.keep {rs : List RlD} (h : RsAt W B b o rs) (hb : b < B) (hB : B ≤ B') (k : Cells B W W') : RsAt W' B' b o rs := by
  obtain ⟨rv, h1, h2⟩ := h
  exact ⟨rv, k _ _ _ hb h1, h2.mono hB fun _ _ _ hb h => h.keep hb k⟩
theorem ShAt.keep {s : ShD} (h : ShAt W B v s) (hB : B ≤ B') (k : Cells B W W') : ShAt W' B' v s := by
  obtain ⟨lv, mv, nv, tv, wv, h1, h2, h3, h4, h5, h6⟩ := h
  exact ⟨lv, mv, nv, tv, wv, h1, h2.mono hB fun _ _ _ hb h => h.keep hb k, h3.mono hB fun _ _ _ hb h => h.keep hb hB k, h4.mono hB fun _ _ _ hb h => h.keep hb k, h5.mono hB fun _ _ _ hb h => h.keep hb k, h6.mono hB fun _ _ _ hb h => h.keep hb k⟩
end
set_option maxHeartbeats 4000000 in
set_option maxRecDepth 20000 in
theorem mapped_any {B : Nat} {s : ShD} {v : Value} {w : World} (hv : ShAt w B v s) (x : Nat) (hx : x < 256) :
    Calls Tryd.prog 24 #[v, .int .i64 x] w fun e w' => e = .returned (.string ⟨(mappedS s x).toArray⟩) ∧ Below w.heap.size w w' := by
  obtain ⟨lv, mv, nv, tv, wv, rfl, _, ⟨ad, cap, rfl, hn0, _⟩, _, _, _⟩ := hv
  obtain ⟨n, hn⟩ : ∃ n, n = s.maps.length := ⟨_, rfl⟩
  obtain ⟨m, hm⟩ : ∃ m : Nat, m = min n 4 := ⟨_, rfl⟩
  have hmin : min (n : Int) 4 = (m : Int) := by omega
  have hm4 : m ≤ 4 := by omega
  have e0 : mappedS s x = if m = 0 ∨ 0 < x % 3 then [] else mapN (x / 3 % m) := by unfold mappedS; rw [← hn, ← hm]
  rw [← hn] at hn0 ⊢
  have x0 : (0 : Int) ≤ x := by omega
  have x1 : (x : Int) < 256 := by omega
  clear hm hn
  by_cases h0 : m = 0
  · have HS : Hid ((⟨#[]⟩ : ByteArray) = ⟨(mappedS s x).toArray⟩) := by show _ = _; rw [e0, if_pos (.inl h0)]
    have d0 : ((m : Int) == 0) = true := by rw [beq_iff_eq]; omega
    clear e0 h0
    go_enter Tryd.func24, Tryd.ntmps24
    go_wp2
    go_ret
    rw [← HS.out]
    exact ⟨rfl, bel_alloc (Below.refl _ _) _⟩
  · have d0 : ((m : Int) == 0) = false := by rw [beq_eq_false_iff_ne]; omega
    by_cases h1 : 0 < x % 3
    · have HS : Hid ((⟨#[]⟩ : ByteArray) = ⟨(mappedS s x).toArray⟩) := by show _ = _; rw [e0, if_pos (.inr h1)]
      have d1 : decide (0 < (x : Int) % 3) = true := decide_eq_true (by omega)
      clear e0 h0 h1
      go_enter Tryd.func24, Tryd.ntmps24
      go_wp2
      go_ret
      rw [← HS.out]
      exact ⟨rfl, bel_alloc (Below.refl _ _) _⟩
    · have d1 : decide (0 < (x : Int) % 3) = false := decide_eq_false (by omega)
      obtain ⟨k, hk⟩ : ∃ k, k = x / 3 % m := ⟨_, rfl⟩
      have hkm : k < 4 := by
        have := Nat.mod_lt (x / 3) (show 0 < m by omega)
        omega
      have hki : ((x : Int) / 3 % (m : Int)) = (k : Int) := by rw [hk, Int.natCast_emod, Int.natCast_ediv]; rfl
      have e := enc_at (k := k) (by omega)
      obtain ⟨t, ht⟩ : ∃ t : ByteArray, t = ⟨#[UInt8.ofNat (97 + k)]⟩ := ⟨_, rfl⟩
      rw [← ht] at e
      have z1 := size_one 109
      have zt : t.size = 1 := by rw [ht]; rfl
      have HS : Hid ((⟨#[109]⟩ ++ t : ByteArray) = ⟨(mappedS s x).toArray⟩) := by
        show _ = _
        have d1 : (⟨#[109]⟩ : ByteArray) = ⟨([109] : List UInt8).toArray⟩ := rfl
        have d2 : (⟨#[UInt8.ofNat (97 + k)]⟩ : ByteArray) = ⟨([UInt8.ofNat (97 + k)] : List UInt8).toArray⟩ := rfl
        have hno : ¬ (m = 0 ∨ 0 < x % 3) := fun h => h.elim h0 h1
        rw [ht, d1, d2, str_add, e0, if_neg hno, ← hk]
        rfl
      have m0 : (0 : Int) ≤ m := by omega
      have mz : ¬ (m : Int) = 0 := by omega
      have k0 : (0 : Int) ≤ k := by omega
      have k4 : (k : Int) < 4 := by omega
      clear e0 h0 h1 hk ht
      go_enter Tryd.func24, Tryd.ntmps24
      go_wp2
      go_ret
      rw [HS.out]
      exact ⟨rfl, bel_alloc (Below.refl _ _) _⟩
end Go.Proofs.YtcjdjifooaeomaaDoor
