/- Places written over, router by router; whether two configurations have the same text. -/
import Derived.Test.YthelllciciohiaaDoorU3
namespace Go.Proofs.YthelllciciohiaaDoor
open Go.RowKit Go.Lib

def atR (pl : Int) (p : RoV) : RoV := (⟨p.1.name, p.1.nets, p.1.lks, p.1.sts, pl⟩, p.2)
/-- The first k have the place. -/
def mixR (pl : Int) (k : Nat) (lr : List RoV) : List RoV := (lr.take k).map (atR pl) ++ lr.drop k
theorem mix_zero (pl : Int) (lr : List RoV) : mixR pl 0 lr = lr := by simp [mixR]
theorem mix_all (pl : Int) (lr : List RoV) : mixR pl lr.length lr = lr.map (atR pl) := by simp [mixR]
theorem mix_len (pl : Int) (k : Nat) (lr : List RoV) : (mixR pl k lr).length = lr.length := by
  unfold mixR
  rw [List.length_append, List.length_map, ← List.length_append, List.take_append_drop]
theorem flat5_len (l : List RoV) : (l.flatMap roL).length = 5 * l.length := by
  induction l with
  | nil => rfl
  | cons p r ih => rw [List.flatMap_cons, List.length_append, ih]; simp [roL]; omega
theorem mix_set (pl : Int) {k : Nat} {lr : List RoV} (hk : k < lr.length) : ((mixR pl k lr).flatMap roL).set (k * 5 + 4) (.int .i64 pl) = (mixR pl (k + 1) lr).flatMap roL := by
  obtain ⟨p, hp⟩ : ∃ p, p = lr[k] := ⟨_, rfl⟩
  have h1 : lr.drop k = p :: lr.drop (k + 1) := by rw [List.drop_eq_getElem_cons hk, hp]
  have h2 : lr.take (k + 1) = lr.take k ++ [p] := by rw [List.take_succ_eq_append_getElem hk, hp]
  unfold mixR
  rw [h1, h2, List.map_append, List.flatMap_append, List.flatMap_append, List.flatMap_append, List.flatMap_cons]
  have hl : ((List.map (atR pl) (lr.take k)).flatMap roL).length = 5 * k := by rw [flat5_len, List.length_map, List.length_take]; omega
  rw [List.set_append_right _ _ (by omega), hl, show k * 5 + 4 - 5 * k = 4 by omega, List.append_assoc]
  rfl
theorem mix_rows {P : RoV → Prop} {pl : Int} {k : Nat} {lr : List RoV} (h : ∀ p ∈ lr, P p) (hP : ∀ p, P p → P (atR pl p)) : ∀ p ∈ mixR pl k lr, P p := by
  intro p hp
  unfold mixR at hp
  rcases List.mem_append.1 hp with hp | hp
  · obtain ⟨q, hq, rfl⟩ := List.mem_map.1 hp
    exact hP q (h q (List.mem_of_mem_take hq))
  · exact h p (List.mem_of_mem_drop hp)
/-- One place is written. -/
theorem ConfOwn.place {B : Nat} {w : World} {mv : Value} {g n cap k : Nat} {pl : Int} {lm : List MpV} {lr : List RoV} (h : ConfOwn B w mv (.slice (some ⟨g, 0, none⟩) n cap) lm (mixR pl k lr)) (hn : n = lr.length) (hk : k < lr.length) :
    ConfOwn B (w.setCell ⟨g, k * 5 + 4, none⟩ (.int .i64 pl)) mv (.slice (some ⟨g, 0, none⟩) n cap) lm (mixR pl (k + 1) lr) := by
  have hr := h.r
  rw [mix_len, ← hn] at hr
  obtain ⟨hs, _⟩ := hr.stored (k * 5 + 4) (.int .i64 pl)
  rw [mix_set pl hk] at hs
  obtain ⟨cur, hg⟩ : ∃ cur, w.heap[g]? = some (.cells cur 51 (0, 0)) := by
    rcases hr.2 with ⟨h0, _⟩ | ⟨g', cap', cur, h1, _, h3, _⟩
    · cases h0
    · injection h1 with h1 _ _
      injection h1 with h1
      injection h1 with h1 _ _
      subst h1
      exact ⟨cur, h3⟩
  have K : KeptT [] [g] w (w.setCell ⟨g, k * 5 + 4, none⟩ (.int .i64 pl)) := KeptT.setCell (List.mem_singleton.2 rfl) _
  refine ⟨K.own h.m (by simp) (own_off h.m hg (by decide)), fun p hp => ?_, ?_, fun p hp => ?_⟩
  · refine (h.mc p hp).kept K (by simp) fun b hb => ?_
    rw [List.mem_singleton] at hb
    subst hb
    exact ⟨_, _, _, hg, by decide⟩
  · rw [mix_len, ← hn]
    exact hs
  · have key : ∀ p ∈ lr, Rows3 (w.setCell ⟨g, k * 5 + 4, none⟩ (.int .i64 pl)) B p := by
      intro q hq
      have hq' : Rows3 w B q ∨ Rows3 w B (atR pl q) := by
        have : q ∈ lr.take k ∨ q ∈ lr.drop k := by rw [← List.mem_append, List.take_append_drop]; exact hq
        rcases this with h1 | h1
        · exact .inr (h.rc _ (by unfold mixR; exact List.mem_append_left _ (List.mem_map_of_mem h1)))
        · exact .inl (h.rc _ (by unfold mixR; exact List.mem_append_right _ h1))
      have hq2 : Rows3 w B q := hq'.elim id id
      refine hq2.kept K (by simp) fun b hb => ?_
      rw [List.mem_singleton] at hb
      subst hb
      exact ⟨_, _, _, hg, by decide, by decide, by decide⟩
    exact mix_rows key (fun p h => h) p hp
/-- What lies then. -/
theorem ConfOwn.placed {s : ShD} {B : Nat} {W : World} {mv rv : Value} {lm : List MpV} {lr : List RoV} {pl : Int} (h : ConfOwn B W mv rv lm (mixR pl lr.length lr)) (h1 : lm.map (·.1) = (confS s).maps) (h2 : lr.map (·.1) = (confS s).ros) :
    CfAt W W.heap.size (.agg #[mv, rv]) ⟨(confS s).maps, (lr.map (atR pl)).map (·.1)⟩ := by
  have hs := conf_small (Nat.mod_lt s.n (by decide)) h1 h2
  rw [mix_all] at h
  have := conf_rows h.m h.mc h.r h.rc ⟨hs.1.1, by rw [List.length_map]; exact hs.1.2⟩ hs.2.1 (fun p hp => by obtain ⟨q, hq, rfl⟩ := List.mem_map.1 hp; exact hs.2.2 q hq)
  rw [h1] at this
  exact this
theorem placed_text (ms : List MpD) (pl : Int) (lr : List RoV) : confT ⟨ms, (lr.map (atR pl)).map (·.1)⟩ = confT ⟨ms, lr.map (·.1)⟩ := by
  unfold confT
  congr 1
  induction lr with
  | nil => rfl
  | cons p r ih => simp only [List.map_cons, List.flatMap_cons]; rw [ih]; rfl
theorem placed_ok {c : CfD} {pl : Int} {lr : List RoV} (h : c.ok) (h2 : lr.map (·.1) = c.ros) : (⟨c.maps, (lr.map (atR pl)).map (·.1)⟩ : CfD).ok := by
  refine ⟨h.m, fun r hr => ?_⟩
  obtain ⟨q, hq, rfl⟩ := List.mem_map.1 hr
  obtain ⟨p, hp, rfl⟩ := List.mem_map.1 hq
  have := h.r p.1 (by rw [← h2]; exact List.mem_map_of_mem hp)
  exact ⟨this.n, this.l, this.s⟩
theorem placed_bulk {c : CfD} {pl : Int} {lr : List RoV} (h2 : lr.map (·.1) = c.ros) : (⟨c.maps, (lr.map (atR pl)).map (·.1)⟩ : CfD).bulk = c.bulk := by
  unfold CfD.bulk
  rw [← h2]
  congr 1
  rw [List.map_map, List.map_map, List.map_map]
  rfl
set_option maxHeartbeats 4000000 in
set_option maxRecDepth 20000 in
theorem same_any (c1 c2 : CfD) (ok1 : c1.ok) (ok2 : c2.ok) (bk1 : c1.bulk ≤ 68719476736) (bk2 : c2.bulk ≤ 68719476736) (v1 v2 : Value) (w : World) (h1 : CfAt w w.heap.size v1 c1) (h2 : CfAt w w.heap.size v2 c2) (ht : TabP w) (T1 T2 : ByteArray)
    (hT1 : T1 = ⟨(confT c1).toArray⟩) (hT2 : T2 = ⟨(confT c2).toArray⟩) : Calls Tryd.prog 16 #[v1, v2] w fun e w' => e = .returned (.bool (T1.toList == T2.toList)) ∧ Below w.heap.size w w' := by
  have k1 := fun (p : BelOf w) => tconf_any c1 ok1 bk1 v1 p.w (h1.keep p.h.size (cells_below p.h (Nat.le_refl _))) (ht.below p.h)
  have k2 := fun (p : BelOf w) => tconf_any c2 ok2 bk2 v2 p.w (h2.keep p.h.size (cells_below p.h (Nat.le_refl _))) (ht.below p.h)
  rw [← hT1] at k1
  rw [← hT2] at k2
  obtain ⟨m1, r1, rfl, ⟨a1, p1, rfl, _⟩, ⟨a2, p2, rfl, _⟩⟩ := h1
  obtain ⟨m2, r2, rfl, ⟨a3, p3, rfl, _⟩, ⟨a4, p4, rfl, _⟩⟩ := h2
  generalize c1.maps.length = n1, c1.ros.length = n2, c2.maps.length = n3, c2.ros.length = n4 at k1 k2 ⊢
  clear hT1 hT2 ht bk1 bk2 ok1 ok2
  go_enter Tryd.func16, Tryd.ntmps16
  go_wp2_with fail
  obtain ⟨b1, hb1⟩ : ∃ b, b = w.heap.size := ⟨_, rfl⟩
  obtain ⟨b2, hb2⟩ : ∃ b, b = w.heap.size + 1 := ⟨_, rfl⟩
  rw [← hb2, ← hb1]
  obtain ⟨U1, hU1⟩ : ∃ U, U = w.alloc (.cells #[.slice a1 n1 p1, .slice a2 n2 p2] 40) := ⟨_, rfl⟩
  rw [← hU1]
  obtain ⟨U, hU⟩ : ∃ U, U = U1.alloc (.cells #[.slice a3 n3 p3, .slice a4 n4 p4] 40) := ⟨_, rfl⟩
  rw [← hU]
  obtain ⟨q1, r1, _⟩ := box_at w _ hU1 hb1
  obtain ⟨q2, r2, _⟩ := box_at U1 _ hU (b := b2) (by rw [hU1, hb2]; simp)
  have QU : Hid (Below w.heap.size w U) := bel_up q1 q2 q1.size
  have r1U := pf_block q2 r1
  have l1 := (Array.getElem?_eq_some_iff.1 r1U).1
  have l2 := (Array.getElem?_eq_some_iff.1 r2).1
  have E0 := fun p => bel_cell l1 (cells_two r1U).1 p
  have E1 := fun p => bel_cell l1 (cells_two r1U).2 p
  have E2 := fun p => bel_cell l2 (cells_two r2).1 p
  have E3 := fun p => bel_cell l2 (cells_two r2).2 p
  have j1 := fun (p : BelOf U) => k1 ⟨p.w, bel_up QU.out p.h QU.out.size⟩
  have j2 := fun (p : BelOf U) => k2 ⟨p.w, bel_up QU.out p.h QU.out.size⟩
  have hne := bel_ne U
  clear hU hU1 hb1 hb2 q1 q2 r1 r2 r1U l1 l2 k1 k2
  refine wp_region_bel (by kernel_rfl) (by kernel_rfl) ?_
  repeat (go_big_quiet_step (first
    | (go_at_call 14; with_reducible exact bel_of (j1 _))
    | (go_at_call 14; with_reducible exact bel_of (j2 _))))
  refine wpQuiet_nil ?_
  rintro X ⟨⟨X', hX⟩, rfl⟩
  clear j1 j2 E0 E1 E2 E3 hne
  go_wp2_with fail
  go_ret
  exact ⟨rfl, bel_up QU.out hX QU.out.size⟩
end Go.Proofs.YthelllciciohiaaDoor
