/- What parse.Config does. -/
import Derived.Test.YtejhgifadohbiaaDoorVK
import Derived.Test.YtejhgifadohbiaaDoorPH
namespace Go.Proofs.YtejhgifadohbiaaDoor
open Go.RowKit Go.Lib

/-- What Config answers of a text. -/
def PaOut (w : World) : (Nat × Nat) ⊕ CfD → Ending → World → Prop
  | .inl x, e, w' => e = .returned (.tuple #[.agg #[.slice none 0 0, .slice none 0 0], faV x.1 x.2]) ∧ Below w.heap.size w w'
  | .inr c, e, w' => ∃ (mv rv : Value) (lm : List MpV) (lr : List RoV), e = .returned (.tuple #[.agg #[mv, rv], .nilIface]) ∧ ConfOwn w.heap.size w' mv rv lm lr ∧ (lm.length ≤ 64 ∧ lr.length ≤ 64) ∧ (lm.map (·.1) = c.maps ∧ lr.map (·.1) = c.ros) ∧ Below w.heap.size w w'
theorem toks_tail {l : Bs} {ts : List Tk} (h : toks l 0 0 = .inr ts) : Tail ts := by
  obtain ⟨us, rfl, _⟩ := toks_wf l.length l (Nat.le_refl _) 0 0 ts h
  exact ⟨us, _, rfl, rfl, rfl⟩
theorem read_is {l : Bs} (hl : l.length ≤ 65536) {ts : List Tk} (h : toks l 0 0 = .inr ts) : readP l = match cfgR ts with | .inl e => .inl e | .inr (c, _) => .inr c := by
  unfold readP
  rw [if_neg (by omega), h]
  rfl
theorem read_bad {l : Bs} (hl : l.length ≤ 65536) {k : Nat} (h : toks l 0 0 = .inl k) : readP l = .inl (1, k) := by
  unfold readP
  rw [if_neg (by omega), h]
theorem end_ok {ts : List Tk} {c : CfD} {s9 : Sta} {l : Bs} (hl : l.length ≤ 65536) (ht : toks l 0 0 = .inr ts) (h : EndR (stepS cfgR (.inl ts)) c s9) : ((∃ r, s9 = .inl r) ∧ readP l = .inr c) ∨ ∃ e, s9 = .inr e ∧ readP l = .inl e := by
  rw [read_is hl ht]
  have e0 : stepS cfgR (.inl ts) = resS (cfgR ts) := rfl
  rw [e0] at h
  cases hc : cfgR ts with
  | inl e =>
    rw [hc] at h
    rcases h with ⟨r, r', h, _⟩ | ⟨e', h, h2⟩
    · cases h
    · have : e = e' := by
        have := congrArg Prod.fst h
        injection this
      subst this
      exact .inr ⟨e, h2, rfl⟩
  | inr p =>
    obtain ⟨c', r1⟩ := p
    rw [hc] at h
    rcases h with ⟨r, r', h, h2⟩ | ⟨e', h, _⟩
    · have : c' = c := by
        have := congrArg Prod.snd h
        injection this
      subst this
      exact .inl ⟨⟨r, h2⟩, rfl⟩
    · cases congrArg Prod.snd h
set_option maxHeartbeats 8000000 in
set_option maxRecDepth 20000 in
theorem paconfig_any (l : Bs) (hl : l.length ≤ 65536) (w : World) : Calls Tryd.prog 7 #[.string ⟨l.toArray⟩] w (PaOut w (readP l)) := by
  have hc := cut_any ⟨l.toArray⟩ (by rw [str_size]; exact hl)
  rw [show (⟨l.toArray⟩ : ByteArray).data.toList = l from rfl] at hc
  obtain ⟨A, hA⟩ : ∃ A : ByteArray, A = ⟨l.toArray⟩ := ⟨_, rfl⟩
  rw [← hA] at hc ⊢
  clear hA
  obtain ⟨br, hbr⟩ : ∃ b, b = w.heap.size := ⟨_, rfl⟩
  obtain ⟨W, hW⟩ : ∃ W, W = w.alloc (.cells #[.slice none 0 0, .slice none 0 0] 28) := ⟨_, rfl⟩
  obtain ⟨q1, r1, _⟩ := box_at w _ hW hbr
  have hcW := hc W
  clear hc
  cases ht : toks l 0 0 with
  | inl k =>
    have HP : Hid (readP l = .inl (1, k)) := read_bad hl ht
    rw [ht] at hcW
    clear ht
    go_enter Tryd.func7, Tryd.ntmps7
    go_upto_region 1 with fail
    rw [← hbr, ← hW]
    have HB : Hid (w.heap.size ≤ br) := by show _ ≤ _; omega
    clear hW hbr
    unfold CutOut faV at hcW
    go_wp2_with fail
    refine hcW.mono ?_
    rintro e U ⟨rfl, qU⟩
    have rU := pf_block qU r1
    have QU : Hid (Below w.heap.size w U) := bel_up q1 qU q1.size
    clear hcW r1 q1 qU
    obtain ⟨D0, D1⟩ := cells_two rU
    have F0 := free_at rU 0
    have F1 := free_at rU 1
    go_wp2_with fail
    obtain ⟨X, hX⟩ : ∃ X, X = (U.setCell ⟨br, 0, none⟩ (.slice none 0 0)).setCell ⟨br, 1, none⟩ (.slice none 0 0) := ⟨_, rfl⟩
    rw [← hX]
    have rX : X.heap[br]? = some (.cells #[.slice none 0 0, .slice none 0 0] 28 (0, 0)) := by rw [hX]; exact set_at (i := 1) (set_at (i := 0) rU _) _
    have qX : Below w.heap.size w X := by rw [hX]; exact (QU.out.setCell HB.out _).setCell HB.out _
    clear hX D0 D1 F0 F1 rU
    obtain ⟨W0, W1⟩ := cells_two rX
    rw [HP.out]
    refine bodyPost_ret (v := .tuple #[.agg #[.slice none 0 0, .slice none 0 0], .iface 52 (.agg #[.int .i64 1, .int .i64 k])]) (by simp [results, Tryd.results7, go_sem, W0, W1]) rfl ?_
    exact ⟨rfl, qX⟩
  | inr ts =>
    have HP : Hid (∀ c s9, EndR (stepS cfgR (.inl ts)) c s9 → ((∃ r, s9 = .inl r) ∧ readP l = .inr c) ∨ ∃ e, s9 = .inr e ∧ readP l = .inl e) := fun c s9 h => end_ok hl ht h
    have HT : Hid (Tail ts) := toks_tail ht
    rw [ht] at hcW
    clear ht
    go_enter Tryd.func7, Tryd.ntmps7
    go_upto_region 1 with fail
    rw [← hbr, ← hW]
    have HB : Hid (w.heap.size ≤ br) := by show _ ≤ _; omega
    clear hW hbr
    unfold CutOut at hcW
    go_wp2_with fail
    refine hcW.mono ?_
    rintro e U ⟨g, cap, rfl, ho, qU⟩
    have rU := pf_block qU r1
    have HU : Hid (Below w.heap.size w U ∧ U.ownsRow w.heap.size 61 6 (.slice (some ⟨g, 0, none⟩) ts.length cap) ts.length (ts.flatMap tkL) ∧ U.heap[br]? = some (.cells #[.slice none 0 0, .slice none 0 0] 28 (0, 0))) := ⟨bel_up q1 qU q1.size, own_le ho q1.size, rU⟩
    clear hcW r1 q1 qU ho rU
    go_upto_region 5 with fail
    obtain ⟨b, hb⟩ : ∃ b, b = U.heap.size := ⟨_, rfl⟩
    rw [← hb]
    obtain ⟨V, hV⟩ : ∃ V, V = U.alloc (.cells #[.slice (some ⟨g, 0, none⟩) ts.length cap, .int .i64 0, .nilIface] 47) := ⟨_, rfl⟩
    rw [← hV]
    obtain ⟨q2, r2, _⟩ := box_at U _ hV hb
    have hrd : RdS w.heap.size b g cap ts (.inl ts) V := by
      refine ⟨0, rfl, HT.out, r2, own_bel HU.out.2.1 q2, ?_⟩
      obtain ⟨t, r, h⟩ := HT.out.cons
      rw [h]
      simp
    have HV : Hid (Below w.heap.size w V ∧ V.heap[br]? = some (.cells #[.slice none 0 0, .slice none 0 0] 28 (0, 0)) ∧ w.heap.size ≤ b ∧ br ≠ b) := by
      have h1 := HU.out.1.size
      have h2 := (Array.getElem?_eq_some_iff.1 HU.out.2.2).1
      exact ⟨bel_up HU.out.1 q2 h1, pf_block q2 HU.out.2.2, by omega, by omega⟩
    have hk := config_rd hrd
    clear hV hb q2 r2 hrd HU
    go_wp2_with fail
    refine hk.mono ?_
    rintro e Y ⟨mv, rv, lm, lr, s9, rfl, hown, hlen, hend, hY, qY⟩
    have hval := HP.out _ _ hend
    obtain ⟨ma, mn, mc, rfl⟩ := own_slc hown.m
    obtain ⟨ra, rn, rc, rfl⟩ := own_slc hown.r
    have HO : Hid (ConfOwn w.heap.size Y (.slice ma mn mc) (.slice ra rn rc) lm lr ∧ lm.length ≤ 64 ∧ lr.length ≤ 64) := ⟨⟨own_le hown.m HV.out.1.size, fun p hp => own_le (hown.mc p hp) HV.out.1.size, own_le hown.r HV.out.1.size, fun p hp => ⟨own_le (hown.rc p hp).1 HV.out.1.size, own_le (hown.rc p hp).2.1 HV.out.1.size, own_le (hown.rc p hp).2.2 HV.out.1.size⟩⟩, hlen⟩
    have HY : Hid (Below w.heap.size w Y ∧ Y.heap[br]? = some (.cells #[.slice none 0 0, .slice none 0 0] 28 (0, 0))) := ⟨qY.bel HV.out.1 HV.out.2.2.1, qY.get HV.out.2.1 HV.out.2.2.2⟩
    clear hk hown hlen hend qY
    go_upto_region 6 with fail
    obtain ⟨b7, hb7⟩ : ∃ b, b = Y.heap.size := ⟨_, rfl⟩
    rw [← hb7]
    obtain ⟨Q, hQ⟩ : ∃ Q, Q = Y.alloc (.cells #[.slice ma mn mc, .slice ra rn rc] 28) := ⟨_, rfl⟩
    rw [← hQ]
    obtain ⟨q3, r3, _⟩ := box_at Y _ hQ hb7
    have hQ1 := hY.below q3
    have rQ := pf_block q3 HY.out.2
    have HQ : Hid (Below w.heap.size w Q ∧ Q.heap[br]? = some (.cells #[.slice none 0 0, .slice none 0 0] 28 (0, 0)) ∧ ConfOwn w.heap.size Q (.slice ma mn mc) (.slice ra rn rc) lm lr ∧ lm.length ≤ 64 ∧ lr.length ≤ 64) := ⟨bel_up HY.out.1 q3 HY.out.1.size, rQ, HO.out.1.kept q3, HO.out.2⟩
    clear hQ hb7 q3 hY
    rcases hval with ⟨⟨r, rfl⟩, hp⟩ | ⟨⟨k, p⟩, rfl, hp⟩
    · obtain ⟨n, _, _, hrd⟩ := hQ1
      obtain ⟨C0, C1, C2⟩ := cells_three hrd.c
      obtain ⟨T0, T1⟩ := cells_two r3
      obtain ⟨D0, D1⟩ := cells_two rQ
      have F0 := free_at rQ 0
      have F1 := free_at rQ 1
      have HPP : Hid (readP l = .inr ⟨lm.map (·.1), lr.map (·.1)⟩) := hp
      clear hrd r3 rQ hp
      go_wp2_with fail
      obtain ⟨X, hX⟩ : ∃ X, X = (Q.setCell ⟨br, 0, none⟩ (.slice ma mn mc)).setCell ⟨br, 1, none⟩ (.slice ra rn rc) := ⟨_, rfl⟩
      rw [← hX]
      have rX : X.heap[br]? = some (.cells #[.slice ma mn mc, .slice ra rn rc] 28 (0, 0)) := by rw [hX]; exact set_at (i := 1) (set_at (i := 0) HQ.out.2.1 _) _
      have qX : Below w.heap.size w X := by rw [hX]; exact (HQ.out.1.setCell HB.out _).setCell HB.out _
      have oX : ConfOwn w.heap.size X (.slice ma mn mc) (.slice ra rn rc) lm lr := by
        have key : ∀ {e z n : Nat} {v : Value} {xs : List Value}, 28 ≠ e → Q.ownsRow w.heap.size e z v n xs → X.ownsRow w.heap.size e z v n xs := fun he ho => by
          rw [hX]
          exact row_set (row_set ho HQ.out.2.1 he) (set_at (i := 0) HQ.out.2.1 _) he
        exact ⟨key (by decide) HQ.out.2.2.1.m, fun p hp => key (by decide) (HQ.out.2.2.1.mc p hp), key (by decide) HQ.out.2.2.1.r, fun p hp => ⟨key (by decide) (HQ.out.2.2.1.rc p hp).1, key (by decide) (HQ.out.2.2.1.rc p hp).2.1, key (by decide) (HQ.out.2.2.1.rc p hp).2.2⟩⟩
      clear hX C0 C1 C2 T0 T1 D0 D1 F0 F1
      obtain ⟨W0, W1⟩ := cells_two rX
      rw [HPP.out]
      refine bodyPost_ret (v := .tuple #[.agg #[.slice ma mn mc, .slice ra rn rc], .nilIface]) (by simp [results, Tryd.results7, go_sem, W0, W1]) rfl ?_
      exact ⟨_, _, lm, lr, rfl, oX, HQ.out.2.2.2, ⟨rfl, rfl⟩, qX⟩
    · obtain ⟨n, hrd⟩ := hQ1
      obtain ⟨C0, C1, C2⟩ := cells_three hrd.c
      obtain ⟨D0, D1⟩ := cells_two rQ
      have F0 := free_at rQ 0
      have F1 := free_at rQ 1
      have HPP : Hid (readP l = .inl (k, p)) := hp
      unfold faV at C2
      dsimp only at C2
      clear hrd r3 rQ hp
      go_wp2_with fail
      go_region
      obtain ⟨X, hX⟩ : ∃ X, X = ((Q.setCell ⟨br, 0, none⟩ (.slice none 0 0)).setCell ⟨br, 1, none⟩ (.slice none 0 0)).drew := ⟨_, rfl⟩
      rw [← hX]
      have rX : X.heap[br]? = some (.cells #[.slice none 0 0, .slice none 0 0] 28 (0, 0)) := by rw [hX, heap_drew]; exact set_at (i := 1) (set_at (i := 0) HQ.out.2.1 _) _
      have qX : Below w.heap.size w X := by rw [hX]; exact ((HQ.out.1.setCell HB.out _).setCell HB.out _).drew
      clear hX C0 C1 C2 D0 D1 F0 F1
      obtain ⟨W0, W1⟩ := cells_two rX
      go_wp2_with fail
      rw [HPP.out]
      refine bodyPost_ret (v := .tuple #[.agg #[.slice none 0 0, .slice none 0 0], .iface 52 (.agg #[.int .i64 k, .int .i64 p])]) (by simp [results, Tryd.results7, go_sem, W0, W1]) rfl ?_
      exact ⟨rfl, qX⟩
end Go.Proofs.YtejhgifadohbiaaDoor
