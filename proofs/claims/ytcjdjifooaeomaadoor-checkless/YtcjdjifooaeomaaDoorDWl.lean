/- CheckLess: what lies. -/
import Derived.Test.YtcjdjifooaeomaaDoorDKt
import Derived.Test.YtcjdjifooaeomaaDoorVZt
import Derived.Test.YtcjdjifooaeomaaDoorDNt
namespace Go.Proofs.YtcjdjifooaeomaaDoor
open Go.RowKit Go.Lib

theorem cell_at {w : World} {b t j : Nat} {cs : List Value} {u : Value} (h : w.heap[b]? = some (.cells cs.toArray t (0, 0))) (hu : cs[j]? = some u) : w.cell? ⟨b, j, none⟩ = some u := by
  simp [World.cell?, h, hu]
/-- A router with a name and nets alone. -/
def bareV (p : RoV) : RoV := (⟨p.1.name, p.1.nets, [], [], 0⟩, p.2.1, .slice none 0 0, .slice none 0 0)
theorem bareV_fst {c : CfD} {lr : List RoV} (h : lr.map (·.1) = c.ros) : (lr.map bareV).map (·.1) = (bareC c).ros := by
  show _ = c.ros.map _
  rw [← h, List.map_map, List.map_map]
  rfl
/-- What lies while the bare configuration is made. -/
structure WS (V : World) (b6 : Nat) (mv rv : Value) (lr : List RoV) (k : Nat) (W : World) : Prop where
  c : W.heap[b6]? = some (.cells #[mv, rv] 33 (0, 0))
  r : W.ownsRow V.heap.size 48 5 rv k (((lr.take k).map bareV).flatMap roL)
  b : Below V.heap.size V W
  o : V.heap.size ≤ b6
theorem take_map {lr : List RoV} {k : Nat} {p : RoV} (h : lr[k]? = some p) : ((lr.take (k + 1)).map bareV).flatMap roL = ((lr.take k).map bareV).flatMap roL ++ roL (bareV p) := by
  rw [List.take_add_one, h, List.map_append, List.flatMap_append]
  simp
/-- The bare configuration lies. -/
theorem WS.conf {s : ShD} {B b6 : Nat} {V W : World} {mv rv0 rv : Value} {lm : List MpV} {lr : List RoV} (h : WS V b6 mv rv lr lr.length W) (hc : ConfOwn B V mv rv0 lm lr) (hB : B ≤ V.heap.size) (h1 : lm.map (·.1) = (confS s).maps) (h2 : lr.map (·.1) = (confS s).ros) :
    CfAt W W.heap.size (.agg #[mv, rv]) (bareC (confS s)) := by
  have hs := conf_small (Nat.mod_lt s.n (by decide)) h1 h2
  have hr := own_le h.r hB
  rw [List.take_length] at hr
  have hc' := hc.kept h.b
  have := conf_rows (lr := lr.map bareV) hc'.m hc'.mc (by rw [List.length_map]; exact hr) (fun p hp => by
    obtain ⟨q, hq, rfl⟩ := List.mem_map.1 hp
    exact ⟨(hc'.rc q hq).1, World.ownsRow_nil _ _ _ _, World.ownsRow_nil _ _ _ _⟩) (by rw [List.length_map]; exact hs.1) hs.2.1 (fun p hp => by
    obtain ⟨q, hq, rfl⟩ := List.mem_map.1 hp
    have := hs.2.2 q hq
    exact ⟨this.1, Nat.zero_le _, Nat.zero_le _⟩)
  rw [bareV_fst h2, h1] at this
  exact this
theorem bare_fit {c : CfD} (h : c.fit) : (bareC c).fit := by
  refine ⟨h.m, fun r hr => ?_⟩
  obtain ⟨x, hx, rfl⟩ := List.mem_map.1 hr
  have h2 := h.r x hx
  exact ⟨h2.n, h2.p, (fun l hl => by cases hl), (fun l hl => by cases hl)⟩
theorem nm_nil : NmOk [] := by unfold NmOk; simp
/-- What numbers make may be keys. -/
theorem confS_fit {s : ShD} (hok : s.ok) : (confS s).fit := by
  have hN : ∀ n, NmOk (nameS n) := fun n => by unfold NmOk nameS; simp
  have hM : ∀ v, NmOk (mappedS s v) := fun v => by unfold mappedS mapN NmOk; split <;> simp
  refine ⟨fun m hm => ?_, fun r hr => ?_⟩
  · obtain ⟨k, rs, _, hk, rfl⟩ := mapsS_mem hm
    unfold NmOk mapN
    simp
  · obtain ⟨k, hk, rfl⟩ := rosS_mem hr
    have key : ∀ j l, l ∈ linksS s (s.n % 8) k j → l.fit := by
      intro j l hl
      obtain ⟨i, hi, rfl⟩ := linksS_mem hl
      exact ⟨hN _, hM _, hM _⟩
    have hpf : ∀ z, z < 256 → PfOk (mkA z, (mkB z : Int)) := fun z hz => ⟨mkA_lt hz, by have := mkB_le z; show (-9223372036854775808 : Int) ≤ (mkB z : Int); omega, by have := mkB_le z; show (mkB z : Int) ≤ 9223372036854775807; omega⟩
    refine ⟨hN _, fun p hp => ?_, fun l hl => key _ l hl, fun x hx => ?_⟩
    · have hp' : p ∈ netsS s k := hp
      unfold netsS at hp'
      split at hp'
      · rw [List.mem_singleton] at hp'
        rw [hp']
        exact hpf _ (numS_lt hok.t k)
      · cases hp'
    · have : x ∈ statS s (linksS s (s.n % 8) k (s.n % 8)) k := hx
      unfold statS at this
      split at this
      · rw [List.mem_singleton] at this
        rw [this]
        refine ⟨hpf _ (numS_lt hok.w k), ?_⟩
        show NmOk (((linksS s (s.n % 8) k (s.n % 8))[numS s.ways k / 8 % (linksS s (s.n % 8) k (s.n % 8)).length]?).map LkD.peer |>.getD [])
        cases hl : (linksS s (s.n % 8) k (s.n % 8))[numS s.ways k / 8 % (linksS s (s.n % 8) k (s.n % 8)).length]? with
        | none => exact nm_nil
        | some l => exact (key _ l (List.mem_of_getElem? hl)).p
      · cases this
theorem own_news2 {W : World} {B e z n n' cap : Nat} {ad : Option Addr} {xs : List Value} (h : W.ownsRow B e z (.slice ad n' cap) n xs) : ∀ j u, xs[j]? = some u → ∃ b off, ad = some ⟨b, off, none⟩ ∧ W.cell? ⟨b, off + j, none⟩ = some u := by
  intro j u hu
  obtain ⟨ad', cap', e1⟩ := own_form h
  injection e1 with e1 e2 e3
  rcases h.2 with ⟨h0, h1⟩ | ⟨g, cap', cur, h1, _⟩
  · have h2 := h.1
    rw [h1, Nat.zero_mul] at h2
    rw [List.eq_nil_of_length_eq_zero h2] at hu
    simp at hu
  · injection h1 with h1 h2 _
    subst h1
    subst e2
    exact ⟨g, 0, rfl, by rw [Nat.zero_add]; exact own_cell h hu⟩
theorem flat_len3 {α : Type} (f : α → List Value) (z : Nat) (hz : ∀ x, (f x).length = z) : ∀ l : List α, (l.flatMap f).length = l.length * z
  | [] => by simp
  | a :: r => by rw [List.flatMap_cons, List.length_append, hz, flat_len3 f z hz r, List.length_cons, Nat.succ_mul]; omega
theorem flat_split3 {α : Type} (f : α → List Value) (l : List α) (i : Nat) : l.flatMap f = (l.take i).flatMap f ++ (l.drop i).flatMap f := by
  rw [← List.flatMap_append, List.take_append_drop]
/-- The cells of a row's first things; of its last ones. -/
theorem news_take {α : Type} {f : α → List Value} {l : List α} {W : World} {B e z n n' cap bm om : Nat} (h : W.ownsRow B e z (.slice (some ⟨bm, om, none⟩) n' cap) n (l.flatMap f)) (i : Nat) :
    ∀ j u, ((l.take i).flatMap f)[j]? = some u → ∃ b off, some (⟨bm, om, none⟩ : Addr) = some ⟨b, off, none⟩ ∧ W.cell? ⟨b, off + j, none⟩ = some u := fun j u hu => by
  refine own_news2 h j u ?_
  rw [flat_split3 f l i, List.getElem?_append_left (List.getElem?_eq_some_iff.1 hu).1]
  exact hu
theorem news_drop {α : Type} {f : α → List Value} {l : List α} {W : World} {B e z n n' cap bm om : Nat} (hz : ∀ x, (f x).length = z) (h : W.ownsRow B e z (.slice (some ⟨bm, om, none⟩) n' cap) n (l.flatMap f)) (k : Nat) (hk : k ≤ l.length) :
    ∀ j u, ((l.drop k).flatMap f)[j]? = some u → ∃ b off, some (⟨bm, om + k * z, none⟩ : Addr) = some ⟨b, off, none⟩ ∧ W.cell? ⟨b, off + j, none⟩ = some u := fun j u hu => by
  have hlen : ((l.take k).flatMap f).length = k * z := by
    rw [flat_len3 f z hz, List.length_take, show min k l.length = k by omega]
  obtain ⟨b, off, e1, hc⟩ := own_news2 h (k * z + j) u (by
    rw [flat_split3 f l k, List.getElem?_append_right (by rw [hlen]; omega), hlen, show k * z + j - k * z = j by omega]
    exact hu)
  injection e1 with e1
  injection e1 with e1 e2 _
  subst e1 e2
  exact ⟨_, _, rfl, by rw [Nat.add_assoc]; exact hc⟩
theorem mp_one {lm : List MpV} (h : ∀ p ∈ lm, p.2.oneCell' = true) : ∀ u ∈ lm.flatMap mpL, u.oneCell' = true := by
  intro u hu
  obtain ⟨p, hp, hm⟩ := List.mem_flatMap.1 hu
  have := h p hp
  simp [mpL] at hm
  rcases hm with rfl | rfl | rfl
  · rfl
  · exact this
  · rfl
theorem mem_less {α : Type} {l : List α} {i : Nat} {x : α} (h : x ∈ l.take i ++ l.drop (i + 1)) : x ∈ l := (List.mem_append.1 h).elim List.mem_of_mem_take List.mem_of_mem_drop
theorem less_fit {c : CfD} (h : c.fit) (i : Nat) : (lessC c i).fit := ⟨fun m hm => h.m m (mem_less hm), h.r⟩
/-- The configuration without a map lies. -/
theorem less_conf {s : ShD} {i B b15 fn : Nat} {Y1 W4 Wf : World} {mv rv v x y : Value} {lm : List MpV} {lr : List RoV} (hc : ConfOwn B Y1 mv rv lm lr) (h1 : lm.map (·.1) = (confS s).maps) (h2 : lr.map (·.1) = (confS s).ros) (hB : B ≤ Y1.heap.size) (q : Below Y1.heap.size Y1 W4)
    (ho : W4.ownsRow Y1.heap.size 57 3 v fn ((lm.take i).flatMap mpL ++ (lm.drop (i + 1)).flatMap mpL)) (hn : fn = (lm.take i ++ lm.drop (i + 1)).length) (hb : W4.heap[b15]? = some (.cells #[x, y] 33 (0, 0))) (hb15 : Y1.heap.size ≤ b15) (hW : Wf = (W4.setCell ⟨b15, 0, none⟩ v).setCell ⟨b15, 1, none⟩ rv) :
    Below Y1.heap.size Y1 Wf ∧ Wf.heap[b15]? = some (.cells #[v, rv] 33 (0, 0)) ∧ CfAt Wf Wf.heap.size (.agg #[v, rv]) (lessC (confS s) i) := by
  have hs := conf_small (Nat.mod_lt s.n (by decide)) h1 h2
  have qf : Below Y1.heap.size Y1 Wf := by rw [hW]; exact (q.setCell hb15 _).setCell hb15 _
  refine ⟨qf, by rw [hW]; exact set_at (i := 1) (set_at (i := 0) hb _) _, ?_⟩
  have k : KeptT [] [b15] W4 Wf := by rw [hW]; exact (KeptT.setCell (List.mem_singleton.2 rfl) _).trans (KeptT.setCell (List.mem_singleton.2 rfl) _)
  have ho' := own_le (k.own ho (by simp) (own_off ho hb (by decide))) hB
  rw [← List.flatMap_append, hn] at ho'
  have hc' := hc.kept qf
  have := conf_rows (lm := lm.take i ++ lm.drop (i + 1)) ho' (fun p hp => hc'.mc p (mem_less hp)) hc'.r hc'.rc ⟨by have := hs.1.1; simp; omega, hs.1.2⟩ (fun p hp => hs.2.1 p (mem_less hp)) hs.2.2
  rw [List.map_append, List.map_take, List.map_drop, h1, h2] at this
  exact this
end Go.Proofs.YtcjdjifooaeomaaDoor
