/- Rows that a call made, as lists; what the law's Clauses does. -/
import Derived.Test.YthelllciciohiaaDoorUO
import Derived.Deep.AppendLies
import Derived.Deep.LoopGhost
namespace Go.Proofs.YthelllciciohiaaDoor
open Go.RowKit Go.Lib

theorem own_bel {w w' : World} {B t z n : Nat} {v : Value} {xs : List Value} (h : w.ownsRow B t z v n xs) (q : Below w.heap.size w w') : w'.ownsRow B t z v n xs := by
  refine ⟨h.1, ?_⟩
  rcases h.2 with h0 | ⟨g, cap, cur, h1, h2, h3, h4⟩
  · exact .inl h0
  · exact .inr ⟨g, cap, cur, h1, h2, pf_block q h3, h4⟩
theorem own_up {w w' U : World} {t z n : Nat} {v : Value} {xs : List Value} (h : w.ownsRow U.heap.size t z v n xs) (hg : w.grownBy w' v.ownBlock) (q : Below U.heap.size U w) : Below U.heap.size U w' := by
  refine ⟨hg.os.trans q.os, hg.tape.trans q.tape, hg.output.trans q.output, Nat.le_trans q.size hg.size, fun k hk => ?_⟩
  rw [hg.block k (Nat.lt_of_lt_of_le hk ?_) ?_]
  · exact q.block k hk
  · exact q.size
  · rcases h.2 with ⟨h0, _⟩ | ⟨g, cap, cur, h1, h2, _⟩
    · rw [h0]; simp [Value.ownBlock]
    · rw [h1]; simp [Value.ownBlock]; omega
theorem own_len {w : World} {B t z n cap : Nat} {a : Addr} {xs : List Value} (h : w.ownsRow B t z (.slice (some a) n cap) n xs) : n ≤ 9223372036854775807 := by
  rcases h.2 with ⟨h0, _⟩ | ⟨g', cap', cur, _, _, _, h4, h5, _⟩
  · cases h0
  · exact Nat.le_trans h4 h5
theorem own_cell {w : World} {B t z n cap g : Nat} {xs : List Value} (h : w.ownsRow B t z (.slice (some ⟨g, 0, none⟩) n cap) n xs) {j : Nat} {u : Value} (hj : xs[j]? = some u) : w.cell? ⟨g, j, none⟩ = some u := by
  rcases h.2 with ⟨h0, _⟩ | ⟨g', cap', cur, h1, _, h3, _, _, _, h7⟩
  · cases h0
  · obtain rfl : g = g' := by injection h1 with h1; injection h1 with h1; injection h1
    rw [← h7] at hj
    have hj2 : cur.toList[j]? = some u := by
      rw [List.getElem?_take] at hj
      split at hj
      · exact hj
      · cases hj
    unfold World.cell?
    simp only [h3]
    simpa using hj2
theorem flat_at {α : Type} (f : α → List Value) (z : Nat) (hz : ∀ x, (f x).length = z) : ∀ (ts : List α) (i j : Nat) (t : α), ts[i]? = some t → j < z → (ts.flatMap f)[i * z + j]? = (f t)[j]?
  | [], i, j, t, h, _ => by simp at h
  | a :: r, 0, j, t, h, hf => by
    obtain rfl : a = t := by simpa using h
    rw [List.flatMap_cons, List.getElem?_append_left (by rw [hz]; omega)]
    simp
  | a :: r, i + 1, j, t, h, hf => by
    rw [List.flatMap_cons, List.getElem?_append_right (by rw [hz, Nat.succ_mul]; omega), hz, show (i + 1) * z + j - z = i * z + j by rw [Nat.succ_mul]; omega]
    exact flat_at f z hz r i j t (by simpa using h) hf
/-- A row that a call made, as a list that lies. -/
theorem slice_of_own {α : Type} {W : World} {B e z : Nat} (f : α → List Value) (hz : ∀ x, (f x).length = z) {el : Nat → Nat → α → Prop} (hel : ∀ b o x, b < W.heap.size → (∀ j u, (f x)[j]? = some u → W.cell? ⟨b, o + j, none⟩ = some u) → el b o x)
    {v : Value} {l : List α} (hl : l.length ≤ 9223372036854775807) (h : W.ownsRow B e z v l.length (l.flatMap f)) : SliceAt W.heap.size z el v l := by
  have h' := h
  rcases h.2 with ⟨rfl, h0⟩ | ⟨g, cap, cur, rfl, _, hg, _⟩
  · have : l = [] := List.eq_nil_of_length_eq_zero h0
    subst this
    exact ⟨none, 0, rfl, hl, fun i x hx => by simp at hx⟩
  · refine ⟨_, cap, rfl, hl, fun i x hx => ⟨g, 0, rfl, (Array.getElem?_eq_some_iff.1 hg).1, hel g _ x (Array.getElem?_eq_some_iff.1 hg).1 fun j u hu => ?_⟩⟩
    have hj : j < z := by
      have := (List.getElem?_eq_some_iff.1 hu).1
      rw [hz] at this
      exact this
    have := own_cell h' (j := i * z + j) (u := u) (by rw [flat_at f z hz l i j x hx hj]; exact hu)
    rwa [Nat.zero_add]
def clW (c : ClD) : List Value := [.bool c.any, .int .u32 c.a, .int .i64 c.b, .int .u8 c.wi, .int .u8 c.ou, .bool c.drop, .int .u8 c.se, .int .u8 c.cl, .int .i64 c.more, .int .i64 c.pref]
theorem clW_at {W : World} {b o : Nat} {c : ClD} (h : ∀ j u, (clW c)[j]? = some u → W.cell? ⟨b, o + j, none⟩ = some u) : ClAt W b o c :=
  ⟨h 0 _ rfl, h 1 _ rfl, h 2 _ rfl, h 3 _ rfl, h 4 _ rfl, h 5 _ rfl, h 6 _ rfl, h 7 _ rfl, h 8 _ rfl, h 9 _ rfl⟩
theorem clW_one (c : ClD) : ∀ u ∈ clW c, u.oneCell' = true := by
  intro u hu
  simp [clW] at hu
  rcases hu with rfl | rfl | rfl | rfl | rfl | rfl | rfl | rfl | rfl | rfl <;> rfl
theorem infoCl : (Tryd.prog.info? 26).map (fun i => (i.zero, i.size, i.bytes)) = some (some (.agg #[.bool false, .int .u32 0, .int .i64 0, .int .u8 0, .int .u8 0, .bool false, .int .u8 0, .int .u8 0, .int .i64 0, .int .i64 0]), 10, 48) := by kernel_rfl
theorem clauses_next {rs : List RlD} {k : Nat} {r : RlD} (h : rs[k]? = some r) (hk : k < 5) : (rs.take (min k 5)).map ruleC ++ [ruleC r] = (rs.take (min (k + 1) 5)).map ruleC := by
  rw [show min k 5 = k by omega, show min (k + 1) 5 = k + 1 by omega, List.take_add_one, h]
  simp
theorem clauses_skip {rs : List RlD} {k : Nat} (hk : ¬ k < 5) : (rs.take (min k 5)).map ruleC = (rs.take (min (k + 1) 5)).map ruleC := by
  rw [show min k 5 = 5 by omega, show min (k + 1) 5 = 5 by omega]
theorem clauses_all (rs : List RlD) : (rs.take (min rs.length 5)).map ruleC = clausesS rs := by
  unfold clausesS
  rw [Nat.min_comm, ← List.take_take, List.take_length]
set_option maxHeartbeats 8000000 in
set_option maxRecDepth 20000 in
theorem clausesS_any {B : Nat} {rs : List RlD} (hrs : ∀ r ∈ rs, r.ok) {v : Value} {w : World} (hB : B ≤ w.heap.size) (hv : SliceAt B 6 (RlAt w) v rs) :
    Calls Tryd.prog 25 #[v] w fun e w' => ∃ cv, e = .returned cv ∧ w'.ownsRow w.heap.size 26 10 cv (clausesS rs).length ((clausesS rs).flatMap clW) ∧ Below w.heap.size w w' := by
  obtain ⟨ad, cap, rfl, hn0, hsl⟩ := hv
  obtain ⟨n, hn⟩ : ∃ n, n = rs.length := ⟨_, rfl⟩
  rw [← hn] at hn0 ⊢
  have HSL : Hid (∀ i x, rs[i]? = some x → ∃ b off, ad = some ⟨b, off, none⟩ ∧ b < B ∧ RlAt w b (off + i * 6) x) := hsl
  have HR : Hid (∀ r ∈ rs, r.ok) := hrs
  have HN : Hid (n = rs.length ∧ B ≤ w.heap.size) := ⟨hn, hB⟩
  obtain ⟨i0, hi0, hz0, hz1, hz2⟩ := info_parts infoCl
  clear hsl hrs hn hB
  go_enter Tryd.func25, Tryd.ntmps25
  go_wp2_with fail
  go_loopg [3, 8] n (fun g v i wr => ∃ (k m : Nat) (l : List ClD), k + g = n ∧ i = .int .i64 k ∧ Hid (l = (rs.take (min k 5)).map ruleC ∧ m = l.length ∧ wr.ownsRow w.heap.size 26 10 v m (l.flatMap clW) ∧ Below w.heap.size w wr))
  case atStart => exact ⟨0, 0, [], Nat.zero_add _, rfl, (⟨rfl, rfl, World.ownsRow_nil _ _ _ _, Below.refl _ _⟩ : _ ∧ _ ∧ _ ∧ _)⟩
  case round =>
    obtain ⟨k, m, l, hk, rfl, HW⟩ := hrel
    by_cases hlt : k < n
    · obtain ⟨r, hr⟩ : ∃ r, rs[k]? = some r := ⟨rs[k]'(by have := HN.out.1; omega), List.getElem?_eq_getElem _⟩
      obtain ⟨b, off, rfl, hb, hrl⟩ := HSL.out k r hr
      have hro := HR.out r (List.mem_of_getElem? hr)
      obtain ⟨C0, C1, C2, C3, C4, C5⟩ := hrl.keep hb (cells_below HW.out.2.2.2 HN.out.2)
      have d4 : decide ((k : Int) < n) = true := decide_eq_true (by omega)
      have c0 : (0 : Int) ≤ k := by omega
      have hcc := fun w => rule_any r hro w
      have HRK : Hid (rs[k]? = some r) := hr
      obtain ⟨tg, wi, ou, act, more, pref⟩ := r
      unfold rlV at hcc
      dsimp only at C0 C1 C2 C3 C4 C5 hcc
      clear hr hrl hro
      by_cases h5 : k < 5
      · have d5 : decide ((k : Int) < 5) = true := decide_eq_true (by omega)
        obtain ⟨D, hD⟩ : ∃ D, D = ruleC ⟨tg, wi, ou, act, more, pref⟩ := ⟨_, rfl⟩
        rw [← hD] at hcc
        have HD : Hid (D = ruleC ⟨tg, wi, ou, act, more, pref⟩) := hD
        obtain ⟨dany, da, db, dwi, dou, ddrop, dse, dcl, dmore, dpref⟩ := D
        unfold clV at hcc
        dsimp only at hcc
        clear hD
        go_wp2_with fail
        obtain ⟨b4, hb4⟩ : ∃ b, b = wr.heap.size := ⟨_, rfl⟩
        rw [← hb4]
        obtain ⟨X, hX⟩ : ∃ X, X = wr.alloc (.cells #[.int .u8 tg, .int .u8 wi, .int .u8 ou, .int .u8 act, .int .u8 more, .int .u8 pref] 28) := ⟨_, rfl⟩
        rw [← hX]
        obtain ⟨qX, hcX, _⟩ := box_at wr _ hX hb4
        clear hX hb4 C0 C1 C2 C3 C4 C5
        refine (hcc _).mono ?_
        rintro e Y ⟨rfl, qY⟩
        have qwY : Below wr.heap.size wr Y := bel_up qX qY qX.size
        have ho2 := own_bel HW.out.2.2.1 qwY
        have QB : Below w.heap.size w Y := bel_up HW.out.2.2.2 qwY HW.out.2.2.2.size
        have hlen : m ≤ 5 := by rw [HW.out.2.1, HW.out.1]; simp; omega
        clear hcc qY qX hcX
        go_wp2_with (at_builtin; refine wpList_append_lies _ rfl _ _ _ rfl w.heap.size 26 i0 _ 10 48 Tryd.underlying44 hi0 hz0 hz1 hz2 rfl (by omega) _ _ _ rfl (ho2.alloc _) ⟨Y.heap.size, 0, none⟩ 1 1 [.bool dany, .int .u32 da, .int .i64 db, .int .u8 dwi, .int .u8 dou, .bool ddrop, .int .u8 dse, .int .u8 dcl, .int .i64 dmore, .int .i64 dpref] rfl rfl (World.news_of_block (cs := #[.bool dany, .int .u32 da, .int .i64 db, .int .u8 dwi, .int .u8 dou, .bool ddrop, .int .u8 dse, .int .u8 dcl, .int .i64 dmore, .int .i64 dpref]) (t := 26) (fr := (0, 0)) (pf_new _ _ _ rfl)) (by simp [Value.oneCell']) (by omega) (by unfold maxLen; omega) (by omega) (by simp; have := QB.size; omega) _ rfl ?_; intro g1 cap W1 hown1 hgrow hat hlt1)
        have q9 := own_up (ho2.alloc _) hgrow (bel_alloc QB _)
        have e9 : l.flatMap clW ++ [.bool dany, .int .u32 da, .int .i64 db, .int .u8 dwi, .int .u8 dou, .bool ddrop, .int .u8 dse, .int .u8 dcl, .int .i64 dmore, .int .i64 dpref] = (l ++ [(⟨dany, da, db, dwi, dou, ddrop, dse, dcl, dmore, dpref⟩ : ClD)]).flatMap clW := by rw [List.flatMap_append]; simp [clW]
        rw [e9] at hown1
        have HX : Hid (l ++ [(⟨dany, da, db, dwi, dou, ddrop, dse, dcl, dmore, dpref⟩ : ClD)] = (rs.take (min (k + 1) 5)).map ruleC ∧ m + 1 = (l ++ [(⟨dany, da, db, dwi, dou, ddrop, dse, dcl, dmore, dpref⟩ : ClD)]).length) := by
          refine ⟨?_, ?_⟩
          · rw [HD.out, HW.out.1, clauses_next HRK.out h5]
          · rw [List.length_append, ← HW.out.2.1]; rfl
        have HO : Hid (W1.ownsRow w.heap.size 26 10 (.slice (some ⟨g1, 0, none⟩) (m + 1) cap) (m + 1) ((l ++ [(⟨dany, da, db, dwi, dou, ddrop, dse, dcl, dmore, dpref⟩ : ClD)]).flatMap clW) ∧ Below w.heap.size w W1) := ⟨hown1, q9⟩
        clear e9 hown1 q9 hgrow hat hlt1 ho2 QB qwY hlen
        go_roundg (n - (k + 1))
        case measure => omega
        case rel => exact ⟨k + 1, m + 1, _, by omega, by go_num, (⟨HX.out.1, HX.out.2, HO.out.1, HO.out.2⟩ : _ ∧ _ ∧ _ ∧ _)⟩
      · have d5 : decide ((k : Int) < 5) = false := decide_eq_false (by omega)
        have HX : Hid (l = (rs.take (min (k + 1) 5)).map ruleC) := by show l = _; rw [HW.out.1, clauses_skip h5]
        clear hcc
        go_wp2_with fail
        have HO : Hid (World.ownsRow (wr.alloc (.cells #[.int .u8 tg, .int .u8 wi, .int .u8 ou, .int .u8 act, .int .u8 more, .int .u8 pref] 28)) w.heap.size 26 10 _ m (l.flatMap clW) ∧ Below w.heap.size w (wr.alloc (.cells #[.int .u8 tg, .int .u8 wi, .int .u8 ou, .int .u8 act, .int .u8 more, .int .u8 pref] 28))) := ⟨HW.out.2.2.1.alloc _, bel_alloc HW.out.2.2.2 _⟩
        go_roundg (n - (k + 1))
        case measure => omega
        case rel => exact ⟨k + 1, m, _, by omega, by go_num, (⟨HX.out, HW.out.2.1, HO.out.1, HO.out.2⟩ : _ ∧ _ ∧ _ ∧ _)⟩
    · obtain rfl : k = n := by omega
      have d4 : decide ((k : Int) < k) = false := decide_eq_false (by omega)
      have HF : Hid (∀ v, wr.ownsRow w.heap.size 26 10 v m (l.flatMap clW) → wr.ownsRow w.heap.size 26 10 v (clausesS rs).length ((clausesS rs).flatMap clW)) := by
        intro v ho
        have e : l = clausesS rs := by rw [HW.out.1, HN.out.1, clauses_all]
        rw [HW.out.2.1, e] at ho
        exact ho
      go_wp2_with fail
      go_ret
      exact ⟨_, rfl, HF.out _ HW.out.2.2.1, HW.out.2.2.2⟩
end Go.Proofs.YthelllciciohiaaDoor
