/- Rows that a call made, as lists; what the law's Clauses does. -/
import Derived.Test.YtphhfjfdanlhiaaUK
import Derived.Test.YtphhfjfdanlhiaaOW
import Derived.Test.YtphhfjfdanlhiaaSC
import Derived.Deep.AppendLies
import Derived.Deep.LoopGhost
namespace Go.Proofs.Ytphhfjfdanlhiaa
open Go.RowKit Go.Lib

theorem clauses_next {rs : List RlD} {k : Nat} {r : RlD} (h : rs[k]? = some r) (hk : k < 5) : (rs.take (min k 5)).map ruleC ++ [ruleC r] = (rs.take (min (k + 1) 5)).map ruleC := by
  rw [show min k 5 = k by omega, show min (k + 1) 5 = k + 1 by omega, List.take_add_one, h]
  simp
theorem clauses_skip {rs : List RlD} {k : Nat} (hk : ¬ k < 5) : (rs.take (min k 5)).map ruleC = (rs.take (min (k + 1) 5)).map ruleC := by
  rw [show min k 5 = 5 by omega, show min (k + 1) 5 = 5 by omega]
theorem clauses_all (rs : List RlD) : (rs.take (min rs.length 5)).map ruleC = clausesS rs := by
  unfold clausesS
  rw [Nat.min_comm, ← List.take_take, List.take_length]
set_option maxHeartbeats 8000000 in
set_option maxRecDepth 20000 in
theorem clausesS_any {B : Nat} {rs : List RlD} (hrs : ∀ r ∈ rs, r.ok) {v : Value} {w : World} (hB : B ≤ w.heap.size) (hv : SliceAt B 6 (RlAt w) v rs) :
    Calls Try.prog 20 #[v] w fun e w' => ∃ cv, e = .returned cv ∧ w'.ownsRow w.heap.size 53 10 cv (clausesS rs).length ((clausesS rs).flatMap clW) ∧ Below w.heap.size w w' := by
  obtain ⟨ad, cap, rfl, hn0, hsl⟩ := hv
  obtain ⟨n, hn⟩ : ∃ n, n = rs.length := ⟨_, rfl⟩
  rw [← hn] at hn0 ⊢
  have HSL : Hid (∀ i x, rs[i]? = some x → ∃ b off, ad = some ⟨b, off, none⟩ ∧ b < B ∧ RlAt w b (off + i * 6) x) := hsl
  have HR : Hid (∀ r ∈ rs, r.ok) := hrs
  have HN : Hid (n = rs.length ∧ B ≤ w.heap.size) := ⟨hn, hB⟩
  obtain ⟨i0, hi0, hz0, hz1, hz2⟩ := info_parts infoCl
  clear hsl hrs hn hB
  go_enter Try.func20, Try.ntmps20
  go_wp2_with fail
  go_loopg [3, 8] n (fun g v i wr => ∃ (k m : Nat) (l : List ClD), k + g = n ∧ i = .int .i64 k ∧ Hid (l = (rs.take (min k 5)).map ruleC ∧ m = l.length ∧ wr.ownsRow w.heap.size 53 10 v m (l.flatMap clW) ∧ Below w.heap.size w wr))
  case atStart => exact ⟨0, 0, [], Nat.zero_add _, rfl, (⟨rfl, rfl, World.ownsRow_nil _ _ _ _, Below.refl _ _⟩ : _ ∧ _ ∧ _ ∧ _)⟩
  case round =>
    obtain ⟨k, m, l, hk, rfl, HW⟩ := hrel
    by_cases hlt : k < n
    · obtain ⟨r, hr⟩ : ∃ r, rs[k]? = some r := ⟨rs[k]'(by have := HN.out.1; omega), List.getElem?_eq_getElem _⟩
      obtain ⟨b, off, rfl, hb, hrl⟩ := HSL.out k r hr
      have hro := HR.out r (List.mem_of_getElem? hr)
      obtain ⟨C0, C1, C2, C3, C4, C5⟩ := hrl.keep hb (cells_below HW.out.2.2.2 HN.out.2)
      have d4 : decide ((k : Int) < n) = true := decide_eq_true (by omega)
      have c0 : (0 : Int) ≤ k := by omega
      have hcc := fun w => rule_any r hro w
      have HRK : Hid (rs[k]? = some r) := hr
      obtain ⟨tg, wi, ou, act, more, pref⟩ := r
      unfold rlV at hcc
      dsimp only at C0 C1 C2 C3 C4 C5 hcc
      clear hr hrl hro
      by_cases h5 : k < 5
      · have d5 : decide ((k : Int) < 5) = true := decide_eq_true (by omega)
        obtain ⟨D, hD⟩ : ∃ D, D = ruleC ⟨tg, wi, ou, act, more, pref⟩ := ⟨_, rfl⟩
        rw [← hD] at hcc
        have HD : Hid (D = ruleC ⟨tg, wi, ou, act, more, pref⟩) := hD
        obtain ⟨dany, da, db, dwi, dou, ddrop, dse, dcl, dmore, dpref⟩ := D
        unfold clV at hcc
        dsimp only at hcc
        clear hD
        go_wp2_with fail
        obtain ⟨b4, hb4⟩ : ∃ b, b = wr.heap.size := ⟨_, rfl⟩
        rw [← hb4]
        obtain ⟨X, hX⟩ : ∃ X, X = wr.alloc (.cells #[.int .u8 tg, .int .u8 wi, .int .u8 ou, .int .u8 act, .int .u8 more, .int .u8 pref] 58) := ⟨_, rfl⟩
        rw [← hX]
        obtain ⟨qX, hcX, _⟩ := box_at wr _ hX hb4
        clear hX hb4 C0 C1 C2 C3 C4 C5
        refine (hcc _).mono ?_
        rintro e Y ⟨rfl, qY⟩
        have qwY : Below wr.heap.size wr Y := bel_up qX qY qX.size
        have ho2 := own_bel HW.out.2.2.1 qwY
        have QB : Below w.heap.size w Y := bel_up HW.out.2.2.2 qwY HW.out.2.2.2.size
        have hlen : m ≤ 5 := by rw [HW.out.2.1, HW.out.1]; simp; omega
        clear hcc qY qX hcX
        go_wp2_with (at_builtin; refine wpList_append_lies _ rfl _ _ _ rfl w.heap.size 53 i0 _ 10 48 Try.underlying25 hi0 hz0 hz1 hz2 rfl (by omega) _ _ _ rfl (ho2.alloc _) ⟨Y.heap.size, 0, none⟩ 1 1 [.bool dany, .int .u32 da, .int .i64 db, .int .u8 dwi, .int .u8 dou, .bool ddrop, .int .u8 dse, .int .u8 dcl, .int .i64 dmore, .int .i64 dpref] rfl rfl (World.news_of_block (cs := #[.bool dany, .int .u32 da, .int .i64 db, .int .u8 dwi, .int .u8 dou, .bool ddrop, .int .u8 dse, .int .u8 dcl, .int .i64 dmore, .int .i64 dpref]) (t := 53) (fr := (0, 0)) (pf_new _ _ _ rfl)) (by simp [Value.oneCell']) (by omega) (by unfold maxLen; omega) (by omega) (by simp; have := QB.size; omega) _ rfl ?_; intro g1 cap W1 hown1 hgrow hat hlt1)
        have q9 := own_up (ho2.alloc _) hgrow (bel_alloc QB _)
        have e9 : l.flatMap clW ++ [.bool dany, .int .u32 da, .int .i64 db, .int .u8 dwi, .int .u8 dou, .bool ddrop, .int .u8 dse, .int .u8 dcl, .int .i64 dmore, .int .i64 dpref] = (l ++ [(⟨dany, da, db, dwi, dou, ddrop, dse, dcl, dmore, dpref⟩ : ClD)]).flatMap clW := by rw [List.flatMap_append]; simp [clW]
        rw [e9] at hown1
        have HX : Hid (l ++ [(⟨dany, da, db, dwi, dou, ddrop, dse, dcl, dmore, dpref⟩ : ClD)] = (rs.take (min (k + 1) 5)).map ruleC ∧ m + 1 = (l ++ [(⟨dany, da, db, dwi, dou, ddrop, dse, dcl, dmore, dpref⟩ : ClD)]).length) := by
          refine ⟨?_, ?_⟩
          · rw [HD.out, HW.out.1, clauses_next HRK.out h5]
          · rw [List.length_append, ← HW.out.2.1]; rfl
        have HO : Hid (W1.ownsRow w.heap.size 53 10 (.slice (some ⟨g1, 0, none⟩) (m + 1) cap) (m + 1) ((l ++ [(⟨dany, da, db, dwi, dou, ddrop, dse, dcl, dmore, dpref⟩ : ClD)]).flatMap clW) ∧ Below w.heap.size w W1) := ⟨hown1, q9⟩
        clear e9 hown1 q9 hgrow hat hlt1 ho2 QB qwY hlen
        go_roundg (n - (k + 1))
        case measure => omega
        case rel => exact ⟨k + 1, m + 1, _, by omega, by go_num, (⟨HX.out.1, HX.out.2, HO.out.1, HO.out.2⟩ : _ ∧ _ ∧ _ ∧ _)⟩
      · have d5 : decide ((k : Int) < 5) = false := decide_eq_false (by omega)
        have HX : Hid (l = (rs.take (min (k + 1) 5)).map ruleC) := by show l = _; rw [HW.out.1, clauses_skip h5]
        clear hcc
        go_wp2_with fail
        have HO : Hid (World.ownsRow (wr.alloc (.cells #[.int .u8 tg, .int .u8 wi, .int .u8 ou, .int .u8 act, .int .u8 more, .int .u8 pref] 58)) w.heap.size 53 10 _ m (l.flatMap clW) ∧ Below w.heap.size w (wr.alloc (.cells #[.int .u8 tg, .int .u8 wi, .int .u8 ou, .int .u8 act, .int .u8 more, .int .u8 pref] 58))) := ⟨HW.out.2.2.1.alloc _, bel_alloc HW.out.2.2.2 _⟩
        go_roundg (n - (k + 1))
        case measure => omega
        case rel => exact ⟨k + 1, m, _, by omega, by go_num, (⟨HX.out, HW.out.2.1, HO.out.1, HO.out.2⟩ : _ ∧ _ ∧ _ ∧ _)⟩
    · obtain rfl : k = n := by omega
      have d4 : decide ((k : Int) < k) = false := decide_eq_false (by omega)
      have HF : Hid (∀ v, wr.ownsRow w.heap.size 53 10 v m (l.flatMap clW) → wr.ownsRow w.heap.size 53 10 v (clausesS rs).length ((clausesS rs).flatMap clW)) := by
        intro v ho
        have e : l = clausesS rs := by rw [HW.out.1, HN.out.1, clauses_all]
        rw [HW.out.2.1, e] at ho
        exact ho
      go_wp2_with fail
      go_ret
      exact ⟨_, rfl, HF.out _ HW.out.2.2.1, HW.out.2.2.2⟩
end Go.Proofs.Ytphhfjfdanlhiaa
