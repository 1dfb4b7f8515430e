/- What Config's rounds do to what lies. -/
import Derived.Test.YtcjdjifooaeomaaDoorUQ
import Derived.Test.YtcjdjifooaeomaaDoorUS
import Derived.Test.YtcjdjifooaeomaaDoorHM
namespace Go.Proofs.YtcjdjifooaeomaaDoor
open Go.RowKit Go.Lib

section
variable {w W W' : World} {b1 b2 b3 : Nat} {bx : Array Value} {mv rv : Value} {lm : List MpV} {lr : List RoV}
/-- A map more. -/
theorem CS.addMap {mv' : Value} {p : MpV} (h : CS w b1 b2 b3 bx mv rv lm lr W) (hp : Row1 W w.heap.size p) (hg : W.grownBy W' mv.ownBlock)
    (ho : W'.ownsRow w.heap.size 57 3 mv' (lm.length + 1) (lm.flatMap mpL ++ mpL p)) (h12 : b1 ≠ b3 ∧ b2 ≠ b3 ∧ w.heap.size ≤ b3) :
    CS w b1 b2 b3 bx mv' rv (lm ++ [p]) lr (W'.setCell ⟨b3, 0, none⟩ mv') := by
  have k1 : KeptT [57] [] W W' := KeptT.grown h.m hg (List.mem_singleton.2 rfl)
  have c1 : W'.heap[b3]? = some (.cells #[mv, rv] 33 (0, 0)) := k1.2 _ _ _ _ h.c (by decide) (by simp)
  have k2 : KeptT [57] [b3] W (W'.setCell ⟨b3, 0, none⟩ mv') := (k1.mono (fun _ h => h) (by simp)).trans ((KeptT.setCell (E := []) (List.mem_singleton.2 rfl) mv').mono (by simp) (fun _ h => h))
  have hl : ∀ T, 33 ≠ T → ∀ b ∈ [b3], ∃ cs t fr, W.heap[b]? = some (.cells cs t fr) ∧ t ≠ T := by
    intro T hT b hb
    rw [List.mem_singleton] at hb
    subst hb
    exact ⟨_, _, _, h.c, hT⟩
  refine ⟨set_at (i := 0) c1 _, k2.2 _ _ _ _ h.x (by decide) (by simpa using h12.1), k2.2 _ _ _ _ h.z (by decide) (by simpa using h12.2.1), ?_, ?_, k2.own h.r (by decide) (own_off h.r h.c (by decide)), ?_, ?_⟩
  · rw [List.length_append, List.flatMap_append, List.flatMap_singleton]
    exact (KeptT.setCell (E := []) (List.mem_singleton.2 rfl) mv').own ho (by simp) (own_off ho c1 (by decide))
  · intro q hq
    rcases List.mem_append.1 hq with hq | hq
    · exact (h.mc q hq).kept k2 (by decide) (hl _ (by decide))
    · rw [List.mem_singleton] at hq
      subst hq
      exact hp.kept k2 (by decide) (hl _ (by decide))
  · intro q hq
    refine (h.rc q hq).kept k2 (by decide) ?_
    intro b hb
    rw [List.mem_singleton] at hb
    subst hb
    exact ⟨_, _, _, h.c, by decide, by decide, by decide⟩
  · exact (own_up h.m hg h.b).setCell h12.2.2 _
/-- A router more. -/
theorem CS.addRo {rv' : Value} {p : RoV} (h : CS w b1 b2 b3 bx mv rv lm lr W) (hp : Rows3 W w.heap.size p) (hg : W.grownBy W' rv.ownBlock)
    (ho : W'.ownsRow w.heap.size 48 5 rv' (lr.length + 1) (lr.flatMap roL ++ roL p)) (h12 : b1 ≠ b3 ∧ b2 ≠ b3 ∧ w.heap.size ≤ b3) :
    CS w b1 b2 b3 bx mv rv' lm (lr ++ [p]) (W'.setCell ⟨b3, 1, none⟩ rv') := by
  have k1 : KeptT [48] [] W W' := KeptT.grown h.r hg (List.mem_singleton.2 rfl)
  have c1 : W'.heap[b3]? = some (.cells #[mv, rv] 33 (0, 0)) := k1.2 _ _ _ _ h.c (by decide) (by simp)
  have k2 : KeptT [48] [b3] W (W'.setCell ⟨b3, 1, none⟩ rv') := (k1.mono (fun _ h => h) (by simp)).trans ((KeptT.setCell (E := []) (List.mem_singleton.2 rfl) rv').mono (by simp) (fun _ h => h))
  have hl : ∀ b ∈ [b3], ∃ cs t fr, W.heap[b]? = some (.cells cs t fr) ∧ t ≠ 74 ∧ t ≠ 50 ∧ t ≠ 77 := by
    intro b hb
    rw [List.mem_singleton] at hb
    subst hb
    exact ⟨_, _, _, h.c, by decide, by decide, by decide⟩
  refine ⟨set_at (i := 1) c1 _, k2.2 _ _ _ _ h.x (by decide) (by simpa using h12.1), k2.2 _ _ _ _ h.z (by decide) (by simpa using h12.2.1), k2.own h.m (by decide) (own_off h.m h.c (by decide)), ?_, ?_, ?_, ?_⟩
  · intro q hq
    refine (h.mc q hq).kept k2 (by decide) ?_
    intro b hb
    rw [List.mem_singleton] at hb
    subst hb
    exact ⟨_, _, _, h.c, by decide⟩
  · rw [List.length_append, List.flatMap_append, List.flatMap_singleton]
    exact (KeptT.setCell (E := []) (List.mem_singleton.2 rfl) rv').own ho (by simp) (own_off ho c1 (by decide))
  · intro q hq
    rcases List.mem_append.1 hq with hq | hq
    · exact (h.rc q hq).kept k2 (by decide) hl
    · rw [List.mem_singleton] at hq
      subst hq
      exact hp.kept k2 (by decide) hl
  · exact (own_up h.r hg h.b).setCell h12.2.2 _
end
/-- What lies while a router is made. -/
structure RS (V : World) (b8 : Nat) (nm : ByteArray) (nv lv sv : Value) (ln : List (Nat × Int)) (ll : List LkD) (lt : List StD) (W : World) : Prop where
  s : V.heap.size = b8
  b : Below V.heap.size V W
  c : W.heap[b8]? = some (.cells #[.string nm, nv, lv, sv, .int .i64 0] 48 (0, 0))
  n : W.ownsRow V.heap.size 74 2 nv ln.length (ln.flatMap pfL)
  l : W.ownsRow V.heap.size 50 5 lv ll.length (ll.flatMap lkL)
  t : W.ownsRow V.heap.size 77 4 sv lt.length (lt.flatMap stL)
section
variable {V W W' : World} {b8 : Nat} {nm : ByteArray} {nv lv sv : Value} {ln : List (Nat × Int)} {ll : List LkD} {lt : List StD}
theorem RS.below (h : RS V b8 nm nv lv sv ln ll lt W) (q : Below W.heap.size W W') : RS V b8 nm nv lv sv ln ll lt W' :=
  ⟨h.s, bel_up h.b q h.b.size, pf_block q h.c, own_bel h.n q, own_bel h.l q, own_bel h.t q⟩
theorem RS.addNet {v' : Value} {p : Nat × Int} (h : RS V b8 nm nv lv sv ln ll lt W) (hg : W.grownBy W' nv.ownBlock) (ho : W'.ownsRow V.heap.size 74 2 v' (ln.length + 1) (ln.flatMap pfL ++ pfL p)) :
    RS V b8 nm v' lv sv (ln ++ [p]) ll lt (W'.setCell ⟨b8, 1, none⟩ v') := by
  have k1 : KeptT [74] [] W W' := KeptT.grown h.n hg (List.mem_singleton.2 rfl)
  have c1 := k1.2 _ _ _ _ h.c (by decide) (by simp)
  have k2 : KeptT [74] [b8] W (W'.setCell ⟨b8, 1, none⟩ v') := (k1.mono (fun _ h => h) (by simp)).trans ((KeptT.setCell (E := []) (List.mem_singleton.2 rfl) v').mono (by simp) (fun _ h => h))
  refine ⟨h.s, (own_up h.n hg h.b).setCell (Nat.le_of_eq h.s) _, set_at (i := 1) c1 _, ?_, k2.own h.l (by decide) (own_off h.l h.c (by decide)), k2.own h.t (by decide) (own_off h.t h.c (by decide))⟩
  rw [List.length_append, List.flatMap_append, List.flatMap_singleton]
  exact (KeptT.setCell (E := []) (List.mem_singleton.2 rfl) v').own ho (by simp) (own_off ho c1 (by decide))
theorem RS.addLink {v' : Value} {p : LkD} (h : RS V b8 nm nv lv sv ln ll lt W) (hg : W.grownBy W' lv.ownBlock) (ho : W'.ownsRow V.heap.size 50 5 v' (ll.length + 1) (ll.flatMap lkL ++ lkL p)) :
    RS V b8 nm nv v' sv ln (ll ++ [p]) lt (W'.setCell ⟨b8, 2, none⟩ v') := by
  have k1 : KeptT [50] [] W W' := KeptT.grown h.l hg (List.mem_singleton.2 rfl)
  have c1 := k1.2 _ _ _ _ h.c (by decide) (by simp)
  have k2 : KeptT [50] [b8] W (W'.setCell ⟨b8, 2, none⟩ v') := (k1.mono (fun _ h => h) (by simp)).trans ((KeptT.setCell (E := []) (List.mem_singleton.2 rfl) v').mono (by simp) (fun _ h => h))
  refine ⟨h.s, (own_up h.l hg h.b).setCell (Nat.le_of_eq h.s) _, set_at (i := 2) c1 _, k2.own h.n (by decide) (own_off h.n h.c (by decide)), ?_, k2.own h.t (by decide) (own_off h.t h.c (by decide))⟩
  rw [List.length_append, List.flatMap_append, List.flatMap_singleton]
  exact (KeptT.setCell (E := []) (List.mem_singleton.2 rfl) v').own ho (by simp) (own_off ho c1 (by decide))
theorem RS.addStat {v' : Value} {p : StD} (h : RS V b8 nm nv lv sv ln ll lt W) (hg : W.grownBy W' sv.ownBlock) (ho : W'.ownsRow V.heap.size 77 4 v' (lt.length + 1) (lt.flatMap stL ++ stL p)) :
    RS V b8 nm nv lv v' ln ll (lt ++ [p]) (W'.setCell ⟨b8, 3, none⟩ v') := by
  have k1 : KeptT [77] [] W W' := KeptT.grown h.t hg (List.mem_singleton.2 rfl)
  have c1 := k1.2 _ _ _ _ h.c (by decide) (by simp)
  have k2 : KeptT [77] [b8] W (W'.setCell ⟨b8, 3, none⟩ v') := (k1.mono (fun _ h => h) (by simp)).trans ((KeptT.setCell (E := []) (List.mem_singleton.2 rfl) v').mono (by simp) (fun _ h => h))
  refine ⟨h.s, (own_up h.t hg h.b).setCell (Nat.le_of_eq h.s) _, set_at (i := 3) c1 _, k2.own h.n (by decide) (own_off h.n h.c (by decide)), k2.own h.l (by decide) (own_off h.l h.c (by decide)), ?_⟩
  rw [List.length_append, List.flatMap_append, List.flatMap_singleton]
  exact (KeptT.setCell (E := []) (List.mem_singleton.2 rfl) v').own ho (by simp) (own_off ho c1 (by decide))
/-- A router's block, made. -/
theorem RS.new {V W : World} (h : Below V.heap.size V W) (nm : ByteArray) (hc : W.heap[V.heap.size]? = some (.cells #[.string nm, .slice none 0 0, .slice none 0 0, .slice none 0 0, .int .i64 0] 48 (0, 0))) :
    RS V V.heap.size nm (.slice none 0 0) (.slice none 0 0) (.slice none 0 0) [] [] [] W := ⟨rfl, h, hc, World.ownsRow_nil _ _ _ _, World.ownsRow_nil _ _ _ _, World.ownsRow_nil _ _ _ _⟩
end
/-- The answer, stored and read. -/
theorem CS.fin {w W : World} {b1 b2 b3 : Nat} {bx : Array Value} {mv rv : Value} {lm : List MpV} {lr : List RoV} (h : CS w b1 b2 b3 bx mv rv lm lr W) (hb : w.heap.size ≤ b2) :
    ConfOwn w.heap.size ((W.setCell ⟨b2, 0, none⟩ mv).setCell ⟨b2, 1, none⟩ rv) mv rv lm lr ∧ Below w.heap.size w ((W.setCell ⟨b2, 0, none⟩ mv).setCell ⟨b2, 1, none⟩ rv) := by
  have k : KeptT [] [b2] W ((W.setCell ⟨b2, 0, none⟩ mv).setCell ⟨b2, 1, none⟩ rv) := (KeptT.setCell (List.mem_singleton.2 rfl) mv).trans (KeptT.setCell (List.mem_singleton.2 rfl) rv)
  refine ⟨⟨k.own h.m (by simp) (own_off h.m h.z (by decide)), ?_, k.own h.r (by simp) (own_off h.r h.z (by decide)), ?_⟩, (h.b.setCell hb _).setCell hb _⟩
  · intro p hp
    refine (h.mc p hp).kept k (by simp) fun b hb => ?_
    rw [List.mem_singleton] at hb
    subst hb
    exact ⟨_, _, _, h.z, by decide⟩
  · intro p hp
    refine (h.rc p hp).kept k (by simp) fun b hb => ?_
    rw [List.mem_singleton] at hb
    subst hb
    exact ⟨_, _, _, h.z, by decide, by decide, by decide⟩
/-- What numbers make is small. -/
theorem conf_small {s : ShD} {m : Nat} {lm : List MpV} {lr : List RoV} (hm : m < 8) (h1 : lm.map (·.1) = mapsS (s.maps.take 4) 0) (h2 : lr.map (·.1) = rosS s m m) :
    (lm.length ≤ 100 ∧ lr.length ≤ 100) ∧ (∀ p ∈ lm, p.1.cls.length ≤ 100) ∧ ∀ p ∈ lr, p.1.nets.length ≤ 100 ∧ p.1.lks.length ≤ 100 ∧ p.1.sts.length ≤ 100 := by
  refine ⟨⟨?_, ?_⟩, ?_, ?_⟩
  · have h := congrArg List.length h1
    rw [List.length_map, mapsS_len] at h
    rw [h]
    simp
    omega
  · have h := congrArg List.length h2
    rw [List.length_map, rosS_len] at h
    omega
  · intro p hp
    have h : p.1 ∈ lm.map (·.1) := List.mem_map_of_mem hp
    rw [h1] at h
    obtain ⟨k, rs, _, _, e⟩ := mapsS_mem h
    rw [e]
    have := clausesS_len rs
    dsimp only
    omega
  · intro p hp
    have h : p.1 ∈ lr.map (·.1) := List.mem_map_of_mem hp
    rw [h2] at h
    obtain ⟨i, _, e⟩ := rosS_mem h
    rw [e]
    unfold routerS
    dsimp only
    have := linksS_len s m i m
    refine ⟨?_, by omega, ?_⟩
    · unfold netsS; split <;> simp
    · unfold statS; split <;> simp
theorem ConfOwn.at {s : ShD} {B : Nat} {W : World} {mv rv : Value} {lm : List MpV} {lr : List RoV} (h : ConfOwn B W mv rv lm lr) (h1 : lm.map (·.1) = (confS s).maps) (h2 : lr.map (·.1) = (confS s).ros) : CfAt W W.heap.size (.agg #[mv, rv]) (confS s) := by
  have hs := conf_small (Nat.mod_lt s.n (by decide)) h1 h2
  have := conf_rows h.m h.mc h.r h.rc hs.1 hs.2.1 hs.2.2
  rw [h1, h2] at this
  exact this
end Go.Proofs.YtcjdjifooaeomaaDoor
