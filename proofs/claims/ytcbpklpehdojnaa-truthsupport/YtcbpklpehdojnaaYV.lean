/- truth.visit: the closure's walk. -/
import Derived.Test.YtcbpklpehdojnaaYT2
namespace Go.Proofs.Ytcbpklpehdojnaa
open Go.RowKit Go.Maps

theorem lawI' : Keyed Try.prog 3 := int_keyed Try.underlying3
theorem keyI' (k : Int) (h : (Lit.int .i64 k).wf = true) : ∃ l, keyOf Try.prog 3 (.int .i64 k) = some l := ⟨_, keyOf_int_mk Try.underlying3 h⟩
theorem mapIs.lt' {w : World} {q : Nat} {kvs : List (Value × Value)} (h : mapIs w q kvs) : q < w.heap.size := by
  obtain ⟨es, c, hm, _⟩ := h
  exact (Array.getElem?_eq_some_iff.1 hm).1
theorem mapIs.same' {w w' : World} {q : Nat} {kvs : List (Value × Value)} (h : mapIs w q kvs) (e : w'.heap[q]? = w.heap[q]?) : mapIs w' q kvs := by
  obtain ⟨es, c, k1, k2⟩ := h
  exact ⟨es, c, e.trans k1, k2⟩
theorem zeroU (w : World) : (zeroValue 67).run Try.prog w = .ok (.agg #[]) w := by kernel_rfl
def seenE (k : Int) : Value × Value := (.int .i64 k, .agg #[])
def stepV (ba bs be bt : Nat) : Value := .func (.func 33) #[] #[.pointer (some ⟨ba, 0, none⟩), .pointer (some ⟨bs, 0, none⟩), .pointer (some ⟨be, 0, none⟩), .pointer (some ⟨bt, 0, none⟩)]
theorem enterStep (args : Array Value) (W : World) : Sem.run Try.prog (callFunc 33 args) W = .ok (.enter 33 args) W := by kernel_rfl

/-- Nodes that are seen, one behind the other. -/
def visP (ns : List Nd) : Nat → Int → List Int → List Int
  | 0, _, S => S
  | n + 1, k, S => if (getN ns k).v < 1024 then (if k ∈ S then S else visP ns n (getN ns k).hi (visP ns n (getN ns k).lo (S ++ [k]))) else S

/-- What the closure works on; 'own' are the blocks of who sees nodes. -/
structure VSit (w : World) (p g m cap ba bs be bt q : Nat) (most : Int) (ns : List Nd) (F : FuncId) (caps : Array Value) (own : List Nat) (S : List Int) : Prop where
  arena : ArenaAt 51 47 w p g m cap most ns
  ca : w.heap[ba]? = some (.cells #[.pointer (some ⟨p, 0, none⟩)] 24)
  cs : w.heap[bs]? = some (.cells #[.map (some q)] 65)
  ce : w.heap[be]? = some (.cells #[.func (.func F) #[] caps] 62)
  ct : w.heap[bt]? = some (.cells #[stepV ba bs be bt] 66)
  map : mapIs w q (S.map seenE)
  nq : q ∉ p :: g :: m :: ba :: bs :: be :: bt :: own
  no : ∀ x ∈ own, x ∉ [p, g, m, ba, bs, be, bt] ∧ x < w.heap.size
  is : ∀ k ∈ S, In ns k ∧ (getN ns k).v < 1024
  once : S.Nodup
section
variable {w W : World} {p g m cap ba bs be bt q : Nat} {most : Int} {ns : List Nd} {F : FuncId} {caps : Array Value} {own : List Nat} {S S' : List Int}
theorem VSit.next (s : VSit w p g m cap ba bs be bt q most ns F caps own S) (k : Kept (q :: own) w W) (hm : mapIs W q (S'.map seenE)) (is : ∀ k ∈ S', In ns k ∧ (getN ns k).v < 1024) (once : S'.Nodup) : VSit W p g m cap ba bs be bt q most ns F caps own S' := by
  have nq := s.nq
  simp only [List.mem_cons, not_or] at nq
  have st : ∀ x, x < w.heap.size → x ∈ [p, g, m, ba, bs, be, bt] → W.heap[x]? = w.heap[x]? := fun x hx hn => k.block x hx (by
    intro h
    rcases List.mem_cons.1 h with rfl | h
    · simp only [List.mem_cons, List.not_mem_nil, or_false] at hn
      omega
    · exact (s.no x h).1 hn)
  have l3 := (Array.getElem?_eq_some_iff.1 s.ca).1
  have l4 := (Array.getElem?_eq_some_iff.1 s.cs).1
  have l5 := (Array.getElem?_eq_some_iff.1 s.ce).1
  have l6 := (Array.getElem?_eq_some_iff.1 s.ct).1
  exact ⟨s.arena.stays (st _ s.arena.ltp (by simp)) (st _ s.arena.ltg (by simp)) (st _ s.arena.ltm (by simp)), (st _ l3 (by simp)).trans s.ca, (st _ l4 (by simp)).trans s.cs, (st _ l5 (by simp)).trans s.ce, (st _ l6 (by simp)).trans s.ct, hm, s.nq, fun x hx => ⟨(s.no x hx).1, Nat.lt_of_lt_of_le (s.no x hx).2 k.size⟩, is, once⟩
theorem VSit.below (s : VSit w p g m cap ba bs be bt q most ns F caps own S) (k : Below w.heap.size w W) : VSit W p g m cap ba bs be bt q most ns F caps own S :=
  s.next (Kept.of_below k _) (s.map.same' (k.block q s.map.lt')) s.is s.once
theorem i64_nat {i : Nat} (h : i < 131072) : (Lit.int .i64 (i : Int)).wf = true := by
  have h1 : IntKind.i64.min = -9223372036854775808 := rfl
  have h2 : IntKind.i64.max = 9223372036854775807 := rfl
  simp [Lit.wf, h1, h2]
  omega
theorem nodup_bound : ∀ (n : Nat) (l : List Nat), l.Nodup → (∀ x ∈ l, x < n) → l.length ≤ n
  | 0, l, _, h => by
    cases l with
    | nil => simp
    | cons a r => exact absurd (h a (by simp)) (by omega)
  | n + 1, l, hn, h => by
    have h1 := nodup_bound n (l.filter (· != n)) (hn.filter _) (fun x hx => by
      obtain ⟨h1, h2⟩ := List.mem_filter.1 hx
      have := h x h1
      simp at h2
      omega)
    have h2 : l.length ≤ (l.filter (· != n)).length + 1 := by
      have e := List.length_eq_countP_add_countP (l := l) (fun x => x != n)
      rw [List.countP_eq_length_filter] at e
      have e2 : l.countP (fun x => decide (¬(x != n) = true)) ≤ 1 := by
        have e3 : l.countP (fun x => decide (¬(x != n) = true)) = l.count n := by unfold List.count; congr 1; funext x; by_cases hx : x = n <;> simp [hx]
        rw [e3]
        exact List.nodup_iff_count.1 hn n
      omega
    omega
theorem VSit.keys (s : VSit w p g m cap ba bs be bt q most ns F caps own S) : ∀ x ∈ S.map seenE, ∃ l, keyOf Try.prog 3 x.1 = some l := by
  intro x hx
  obtain ⟨k, hk, rfl⟩ := List.mem_map.1 hx
  obtain ⟨⟨i, rfl, hi⟩, _⟩ := s.is k hk
  have h1 := s.arena.good.room
  have h2 := s.arena.good.most
  exact keyI' _ (i64_nat (by omega))

/-- Who sees nodes: what is so of those that were seen, J, stays where its blocks do. -/
structure SeeOk (F : FuncId) (caps : Array Value) (own : List Nat) (J : List Nd → World → Prop) : Prop where
  enter : ∀ args W, Sem.run Try.prog (callFunc F args) W = .ok (.enter F args) W
  stay : ∀ S W W', J S W → (∀ x ∈ own, W'.heap[x]? = W.heap[x]?) → J S W'
  see : ∀ S (n : Nd) W, J S W → S.length ≤ 131072 → 0 ≤ n.v → n.v < 1024 → Calls Try.prog F (#[ndV n] ++ caps) W fun e W' => e = .returned (.tuple #[]) ∧ J (S ++ [n]) W' ∧ Kept own W W'
def VPost (w : World) (p g m cap ba bs be bt q : Nat) (most : Int) (ns : List Nd) (F : FuncId) (caps : Array Value) (own : List Nat) (J : List Nd → World → Prop) (S' : List Int) (e : Ending) (w' : World) : Prop :=
  e = .returned (.tuple #[]) ∧ VSit w' p g m cap ba bs be bt q most ns F caps own S' ∧ J (S'.map (getN ns)) w' ∧ Kept (q :: own) w w'

theorem SeeOk.below {J : List Nd → World → Prop} (ok : SeeOk F caps own J) (s : VSit w p g m cap ba bs be bt q most ns F caps own S) {L : List Nd} (hJ : J L w) (k : Below w.heap.size w W) : J L W :=
  ok.stay L w W hJ (fun x hx => k.block x (s.no x hx).2)

set_option maxHeartbeats 400000 in
set_option maxRecDepth 20000 in
theorem step_end {J : List Nd → World → Prop} (ok : SeeOk F caps own J) (s : VSit w p g m cap ba bs be bt q most ns F caps own S) (hJ : J (S.map (getN ns)) w) (k : Int) (hv : ¬ (getN ns k).v < 1024) :
    Calls Try.prog 33 #[.int .i64 k, .pointer (some ⟨ba, 0, none⟩), .pointer (some ⟨bs, 0, none⟩), .pointer (some ⟨be, 0, none⟩), .pointer (some ⟨bt, 0, none⟩)] w (VPost w p g m cap ba bs be bt q most ns F caps own J S) := by
  have C1 : w.cell? ⟨ba, 0, none⟩ = some (.pointer (some ⟨p, 0, none⟩)) := by simp [World.cell?, s.ca]
  have hg := get_any s.arena k
  have hv' : 1024 ≤ (getN ns k).v := by omega
  go_enter Try.func33, Try.ntmps33
  go_wp2_with fail
  refine hg.mono ?_
  rintro e w1 ⟨rfl, b1, z1⟩
  clear hg C1
  unfold ndV
  have b2 := Below.up b1 ((Below.refl _ _).alloc (Nat.le_refl _) (.cells #[.int .i64 (getN ns k).v, .int .i64 (getN ns k).lo, .int .i64 (getN ns k).hi] 47)) (Nat.le_refl _)
  go_wp2_with fail
  go_returns
  exact ⟨rfl, s.below b2, ok.below s hJ b2, Kept.of_below b2 _⟩

set_option maxHeartbeats 400000 in
set_option maxRecDepth 20000 in
theorem step_known {J : List Nd → World → Prop} (ok : SeeOk F caps own J) (s : VSit w p g m cap ba bs be bt q most ns F caps own S) (hJ : J (S.map (getN ns)) w) (k : Int) (hk : k ∈ S) :
    Calls Try.prog 33 #[.int .i64 k, .pointer (some ⟨ba, 0, none⟩), .pointer (some ⟨bs, 0, none⟩), .pointer (some ⟨be, 0, none⟩), .pointer (some ⟨bt, 0, none⟩)] w (VPost w p g m cap ba bs be bt q most ns F caps own J S) := by
  have C1 : w.cell? ⟨ba, 0, none⟩ = some (.pointer (some ⟨p, 0, none⟩)) := by simp [World.cell?, s.ca]
  have hg := get_any s.arena k
  have hv := (s.is k hk).2
  go_enter Try.func33, Try.ntmps33
  go_wp2_with fail
  refine hg.mono ?_
  rintro e w1 ⟨rfl, b1, z1⟩
  clear hg C1
  unfold ndV
  have b2 := Below.up b1 ((Below.refl _ _).alloc (Nat.le_refl _) (.cells #[.int .i64 (getN ns k).v, .int .i64 (getN ns k).lo, .int .i64 (getN ns k).hi] 47)) (Nat.le_refl _)
  have s2 := s.below b2
  have C2 : (w1.alloc (.cells #[.int .i64 (getN ns k).v, .int .i64 (getN ns k).lo, .int .i64 (getN ns k).hi] 47)).cell? ⟨bs, 0, none⟩ = some (.map (some q)) := by simp [World.cell?, s2.cs]
  have hl : Sem.run Try.prog (Instr.lookup 65 (.map (some q)) (.int .i64 k) true) (w1.alloc (.cells #[.int .i64 (getN ns k).v, .int .i64 (getN ns k).lo, .int .i64 (getN ns k).hi] 47)) = .ok (.tuple #[.agg #[], .bool true]) (w1.alloc (.cells #[.int .i64 (getN ns k).v, .int .i64 (getN ns k).lo, .int .i64 (getN ns k).hi] 47)) := by
    obtain ⟨l, hl⟩ := s2.keys (seenE k) (List.mem_map.2 ⟨k, hk, rfl⟩)
    rcases s2.map.look lawI' Try.underlying65 (zeroU _) s2.keys hl with ⟨_, h2⟩ | ⟨x, hx, h1, h2⟩
    · exact absurd rfl (h2 (seenE k) (List.mem_map.2 ⟨k, hk, rfl⟩))
    · obtain ⟨k', hk', rfl⟩ := List.mem_map.1 hx
      exact h2
  have b3 : Below w.heap.size w ((w1.alloc (.cells #[.int .i64 (getN ns k).v, .int .i64 (getN ns k).lo, .int .i64 (getN ns k).hi] 47)).alloc (.cells #[] 67)) := Below.up b2 ((Below.refl _ _).alloc (Nat.le_refl _) _) (Nat.le_refl _)
  go_wp2_with fail
  go_returns
  exact ⟨rfl, s.below b3, ok.below s hJ b3, Kept.of_below b3 _⟩

theorem nodup_len {n : Nat} {l : List Int} (hn : l.Nodup) (h : ∀ k ∈ l, ∃ i : Nat, k = i ∧ i < n) : l.length ≤ n := by
  have h1 : (l.map Int.toNat).Nodup := by
    rw [List.Nodup, List.pairwise_map]
    refine List.Pairwise.imp_of_mem ?_ hn
    intro a b ha hb hne he
    obtain ⟨i, rfl, _⟩ := h a ha
    obtain ⟨j, rfl, _⟩ := h b hb
    exact hne (by rw [show i = j by simpa using he])
  have h2 : ∀ x ∈ l.map Int.toNat, x < n := by
    intro x hx
    obtain ⟨k, hk, rfl⟩ := List.mem_map.1 hx
    obtain ⟨i, rfl, hi⟩ := h k hk
    simpa using hi
  have := nodup_bound n (l.map Int.toNat) h1 h2
  simpa using this

set_option maxHeartbeats 1000000 in
set_option maxRecDepth 20000 in
theorem step_new {J : List Nd → World → Prop} (ok : SeeOk F caps own J) (s : VSit w p g m cap ba bs be bt q most ns F caps own S) (hJ : J (S.map (getN ns)) w) (k : Int) (hv : (getN ns k).v < 1024) (hk : k ∉ S) {SA SB : List Int}
    (ha : ∀ W, VSit W p g m cap ba bs be bt q most ns F caps own (S ++ [k]) → J ((S ++ [k]).map (getN ns)) W → Calls Try.prog 33 #[.int .i64 (getN ns k).lo, .pointer (some ⟨ba, 0, none⟩), .pointer (some ⟨bs, 0, none⟩), .pointer (some ⟨be, 0, none⟩), .pointer (some ⟨bt, 0, none⟩)] W (VPost W p g m cap ba bs be bt q most ns F caps own J SA))
    (hb : ∀ W, VSit W p g m cap ba bs be bt q most ns F caps own SA → J (SA.map (getN ns)) W → Calls Try.prog 33 #[.int .i64 (getN ns k).hi, .pointer (some ⟨ba, 0, none⟩), .pointer (some ⟨bs, 0, none⟩), .pointer (some ⟨be, 0, none⟩), .pointer (some ⟨bt, 0, none⟩)] W (VPost W p g m cap ba bs be bt q most ns F caps own J SB)) :
    Calls Try.prog 33 #[.int .i64 k, .pointer (some ⟨ba, 0, none⟩), .pointer (some ⟨bs, 0, none⟩), .pointer (some ⟨be, 0, none⟩), .pointer (some ⟨bt, 0, none⟩)] w (VPost w p g m cap ba bs be bt q most ns F caps own J SB) := by
  have hent := enterStep
  have hent2 := ok.enter
  have C1 : w.cell? ⟨ba, 0, none⟩ = some (.pointer (some ⟨p, 0, none⟩)) := by simp [World.cell?, s.ca]
  have hg := get_any s.arena k
  obtain ⟨i, ei, hi2, hil, _⟩ := asks s.arena.good hv
  have hv0 := asks_nonneg s.arena.good hv
  have hroom := s.arena.good.room
  have hmost := s.arena.good.most
  have hkey : ∃ l, keyOf Try.prog 3 (.int .i64 k) = some l := by rw [ei]; exact keyI' _ (i64_nat (by omega))
  have hin : In ns k := ⟨i, ei, hil⟩
  have hlen : S.length ≤ 131072 := by
    have := nodup_len s.once (n := ns.length) (fun k hk => (s.is k hk).1)
    omega
  clear ei hi2 hil hroom hmost
  go_enter Try.func33, Try.ntmps33
  go_wp2_with fail
  refine hg.mono ?_
  rintro e w1 ⟨rfl, b1, z1⟩
  clear hg C1
  unfold ndV
  have b2 := Below.up b1 ((Below.refl _ _).alloc (Nat.le_refl _) (.cells #[.int .i64 (getN ns k).v, .int .i64 (getN ns k).lo, .int .i64 (getN ns k).hi] 47)) (Nat.le_refl _)
  have s2 := s.below b2
  have C2 : (w1.alloc (.cells #[.int .i64 (getN ns k).v, .int .i64 (getN ns k).lo, .int .i64 (getN ns k).hi] 47)).cell? ⟨bs, 0, none⟩ = some (.map (some q)) := by simp [World.cell?, s2.cs]
  have hl : Sem.run Try.prog (Instr.lookup 65 (.map (some q)) (.int .i64 k) true) (w1.alloc (.cells #[.int .i64 (getN ns k).v, .int .i64 (getN ns k).lo, .int .i64 (getN ns k).hi] 47)) = .ok (.tuple #[.agg #[], .bool false]) (w1.alloc (.cells #[.int .i64 (getN ns k).v, .int .i64 (getN ns k).lo, .int .i64 (getN ns k).hi] 47)) := by
    obtain ⟨l, hl⟩ := hkey
    rcases s2.map.look lawI' Try.underlying65 (zeroU _) s2.keys hl with ⟨h1, _⟩ | ⟨x, hx, h1, h2⟩
    · exact h1
    · obtain ⟨k', hk', rfl⟩ := List.mem_map.1 hx
      simp only [seenE, Value.int.injEq, true_and] at h1
      exact absurd (h1 ▸ hk') hk
  obtain ⟨V, hV⟩ : ∃ V, V = (w1.alloc (.cells #[.int .i64 (getN ns k).v, .int .i64 (getN ns k).lo, .int .i64 (getN ns k).hi] 47)).alloc (.cells #[] 67) := ⟨_, rfl⟩
  have b3 : Below w.heap.size w V := by rw [hV]; exact Below.up b2 ((Below.refl _ _).alloc (Nat.le_refl _) _) (Nat.le_refl _)
  have s3 := s.below b3
  have J3 := ok.below s hJ b3
  have hN : V.heap[w.heap.size + 1]? = some (.cells #[.int .i64 (getN ns k).v, .int .i64 (getN ns k).lo, .int .i64 (getN ns k).hi] 47) := by
    rw [hV, (MapKept.heap_alloc _ _).2 _ (by simp [z1])]
    exact heap_new_at _ _ _ z1.symm
  have hn1 : w.heap.size + 1 ∉ q :: own := by
    have := s.map.lt'
    intro h
    rcases List.mem_cons.1 h with h | h
    · omega
    · have := (s.no _ h).2
      omega
  have C3 : V.cell? ⟨bs, 0, none⟩ = some (.map (some q)) := by simp [World.cell?, s3.cs]
  obtain ⟨w3, hupd, hm3, hg3⟩ : ∃ w3, (Instr.mapUpdate 65 (.map (some q)) (.int .i64 k) (.agg #[])).run Try.prog V = .ok () w3 ∧ mapIs w3 q ((S ++ [k]).map seenE) ∧ V.grownBy w3 (some q) := by
    obtain ⟨l, hl⟩ := hkey
    obtain ⟨w3, h1, h2, h3⟩ := s3.map.store lawI' Try.underlying65 s3.keys hl (val := .agg #[]) (by
      intro x hx
      obtain ⟨k', hk', rfl⟩ := List.mem_map.1 hx
      simp only [seenE, ne_eq, Value.int.injEq, true_and]
      exact fun h => hk (h ▸ hk'))
    exact ⟨w3, h1, by simpa [seenE] using h2, h3⟩
  have k3 : Kept (q :: own) V w3 := ⟨hg3.os, hg3.tape, hg3.output, hg3.size, fun x hx hn => hg3.block x hx (fun e => hn (by cases e; simp))⟩
  have is3 : ∀ x ∈ S ++ [k], In ns x ∧ (getN ns x).v < 1024 := by
    intro x hx
    rcases List.mem_append.1 hx with h | h
    · exact s.is x h
    · rw [List.mem_singleton.1 h]; exact ⟨hin, hv⟩
  have on3 : (S ++ [k]).Nodup := by
    rw [List.nodup_append]
    exact ⟨s.once, by simp, fun a ha b hb e => hk (by rw [← List.mem_singleton.1 hb, ← e]; exact ha)⟩
  have s4 := s3.next k3 hm3 is3 on3
  have J4 : J (S.map (getN ns)) w3 := ok.stay _ V w3 J3 (fun x hx => hg3.block x (s3.no x hx).2 (fun e => by cases e; exact s3.nq (by simp [hx])))
  have kA : Kept (q :: own) w w3 := Kept.both (Kept.of_below b3 _) k3
  have hN4 := k3.stays hN hn1
  have C4 : w3.cell? ⟨be, 0, none⟩ = some (.func (.func F) #[] caps) := by simp [World.cell?, s4.ce]
  have N0 : w3.cell? ⟨w.heap.size + 1, 0, none⟩ = some (.int .i64 (getN ns k).v) := by simp [World.cell?, hN4]
  have N1 : w3.cell? ⟨w.heap.size + 1, 1, none⟩ = some (.int .i64 (getN ns k).lo) := by simp [World.cell?, hN4]
  have N2 : w3.cell? ⟨w.heap.size + 1, 2, none⟩ = some (.int .i64 (getN ns k).hi) := by simp [World.cell?, hN4]
  clear s3 J3 hm3 is3 on3 hkey hin k3 hg3
  have hS := ok.see (S.map (getN ns)) (getN ns k) w3 J4 (by simpa using hlen) hv0 hv
  unfold ndV at hS
  have hbV : V.heap.size = w.heap.size + 1 + 1 + 1 := by rw [hV]; simp [z1]
  subst hV
  go_wp2_with fail
  refine hS.mono ?_
  rintro e w4 ⟨rfl, J5, k5⟩
  clear hS
  rw [show S.map (getN ns) ++ [getN ns k] = (S ++ [k]).map (getN ns) by simp] at J5
  have k5' : Kept (q :: own) w3 w4 := ⟨k5.os, k5.tape, k5.output, k5.size, fun x hx hn => k5.block x hx (fun h => hn (by simp [h]))⟩
  have s5 := s4.next k5' (s4.map.same' (k5.block q s4.map.lt' (fun h => s4.nq (by simp [h])))) s4.is s4.once
  have hN5 := k5'.stays hN4 hn1
  have kB := Kept.both kA k5'
  clear k5 k5' s4 N0 N1 N2 C4 hN4 kA J4
  have N1 : w4.cell? ⟨w.heap.size + 1, 1, none⟩ = some (.int .i64 (getN ns k).lo) := by simp [World.cell?, hN5]
  have C5 : w4.cell? ⟨bt, 0, none⟩ = some (.func (.func 33) #[] #[.pointer (some ⟨ba, 0, none⟩), .pointer (some ⟨bs, 0, none⟩), .pointer (some ⟨be, 0, none⟩), .pointer (some ⟨bt, 0, none⟩)]) := by simp [World.cell?, s5.ct, stepV]
  have hA := ha w4 s5 J5
  clear ha
  go_wp2_with fail
  refine hA.mono ?_
  rintro e w5 ⟨rfl, s6, J6, k6⟩
  have hN6 := k6.stays hN5 hn1
  have kC := Kept.both kB k6
  clear hA C5 N1 s5 J5 k6 kB hN5
  have N1 : w5.cell? ⟨w.heap.size + 1, 2, none⟩ = some (.int .i64 (getN ns k).hi) := by simp [World.cell?, hN6]
  have C6 : w5.cell? ⟨bt, 0, none⟩ = some (.func (.func 33) #[] #[.pointer (some ⟨ba, 0, none⟩), .pointer (some ⟨bs, 0, none⟩), .pointer (some ⟨be, 0, none⟩), .pointer (some ⟨bt, 0, none⟩)]) := by simp [World.cell?, s6.ct, stepV]
  have hB := hb w5 s6 J6
  clear hb
  go_wp2_with fail
  refine hB.mono ?_
  rintro e w6 ⟨rfl, s7, J7, k7⟩
  clear hB
  go_wp2_with fail
  go_returns
  exact ⟨rfl, s7, J7, Kept.both kC k7⟩

theorem step_any {J : List Nd → World → Prop} (ok : SeeOk F caps own J) : ∀ (n : Nat) (k : Int) (S : List Int) (w : World), k.toNat < n → VSit w p g m cap ba bs be bt q most ns F caps own S → J (S.map (getN ns)) w →
    Calls Try.prog 33 #[.int .i64 k, .pointer (some ⟨ba, 0, none⟩), .pointer (some ⟨bs, 0, none⟩), .pointer (some ⟨be, 0, none⟩), .pointer (some ⟨bt, 0, none⟩)] w (VPost w p g m cap ba bs be bt q most ns F caps own J (visP ns n k S))
  | 0, k, S, w, hn, s, hJ => by omega
  | n + 1, k, S, w, hn, s, hJ => by
    rw [visP]
    by_cases hv : (getN ns k).v < 1024
    · rw [if_pos hv]
      by_cases hk : k ∈ S
      · rw [if_pos hk]
        exact step_known ok s hJ k hk
      · rw [if_neg hk]
        obtain ⟨i, ei, _, _, ⟨a, ea, la⟩, ⟨b, eb, lb⟩⟩ := asks s.arena.good hv
        exact step_new ok s hJ k hv hk (fun W s' J' => step_any ok n _ _ W (by rw [ea]; omega) s' J') (fun W s' J' => step_any ok n _ _ W (by rw [eb]; omega) s' J')
    · rw [if_neg hv]
      exact step_end ok s hJ k hv
end
end Go.Proofs.Ytcbpklpehdojnaa
