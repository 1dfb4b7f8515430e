/- A region that draws its order: reads, nil checks among them; then what is alone; one operation that waits for nothing may come up anywhere ahead of the last ones. No program. A region that draws its order: reads; then what is alone; and so on; at the end what may change what was read. No program. -/
import Derived.Test.YtcjdjifooaeomaaDoorVB
namespace Go.Proofs.YtcjdjifooaeomaaDoor
open Go.RowKit

section
variable {P : Program} {ops : Array Oper} {C : World → Prop} {Q : Exit → Act → World → Prop} {md : Region.Mode} {e1 : Nat → Bool}
/-- Operations that call nothing. -/
def plainOp2 : Op → Bool
  | .nilCheck _ | .slice .. | .assign _ | .extract .. => true
  | o => plainOp o
theorem goPanic_halts {α : Type} (v : Value) {w w' : World} {n : α} (h : (goPanic v : Sem α).run P w = .ok n w') : False := by
  simp [goPanic] at h
theorem nil_halts {α : Type} {w w' : World} {n : α} (h : (runtimePanic .nilDeref : Sem α).run P w = .ok n w') : False := by
  simp [runtimePanic, goPanic] at h
theorem plain_value2 {o : Oper} (h : plainOp2 o.op = true) {ρ : Operand → Value} {w w' : World} {n : Next} (hr : (execOp ρ o).run P w = .ok n w') : ∃ v, n = .value v := by
  by_cases hp : plainOp o.op = true
  · exact plain_value hp hr
  · obtain ⟨dst, op, type, pos, after, guard⟩ := o
    cases op <;> first | (exact absurd h hp) | skip
    case nilCheck x =>
      simp only [execOp] at hr
      split at hr
      · exact (nil_halts hr).elim
      · exact (nil_halts hr).elim
      · exact (nil_halts hr).elim
      · split at hr
        · exact (nil_halts hr).elim
        · rw [Sem.run_bind] at hr
          cases h1 : (program : Sem Program).run P w with
          | halt x w1 => rw [h1] at hr; cases hr
          | ok p w1 =>
            rw [h1] at hr
            simp only [Result.andThen_ok] at hr
            rw [Sem.run_bind] at hr
            revert hr
            generalize (nilAhead _ _ _ _ : Sem (Option Bool)).run P w1 = R
            intro hr
            cases R with
            | halt x w2 => cases hr
            | ok q w2 =>
              simp only [Result.andThen_ok] at hr
              split at hr
              · rw [Sem.run_bind] at hr
                cases h2 : (unsupported _ : Sem PUnit).run P w2 with
                | halt x w3 => rw [h2] at hr; cases hr
                | ok u w3 =>
                  rw [h2] at hr
                  simp only [Result.andThen_ok, Sem.run_pure, Result.ok.injEq] at hr
                  exact ⟨_, hr.1.symm⟩
              · simp only [Sem.run_pure, Result.ok.injEq] at hr
                exact ⟨_, hr.1.symm⟩
        · simp only [Sem.run_pure, Result.ok.injEq] at hr
          exact ⟨_, hr.1.symm⟩
      · simp only [Sem.run_pure, Result.ok.injEq] at hr
        exact ⟨_, hr.1.symm⟩
    case assign x =>
      simp only [execOp, Sem.run_pure, Result.ok.injEq] at hr
      exact ⟨_, hr.1.symm⟩
    all_goals exact value_of (by simpa only [execOp] using hr)
def lexY (md : Region.Mode) (ops : Array Oper) : List Nat → Array Bool → Bool
  | [], _ => true
  | i :: r, L => (Region.ready md ops L).contains i && Region.free md ops L i && (match ops[i]? with | some o => plainOp2 o.op | none => false) && lexY md ops r (L.setIfInBounds i true)
theorem closed_allY (L : Array Bool) (h : Closed md ops L) : ∀ r : List Nat, lexY md ops r L = true → Closed md ops (listAll L r)
  | [], _ => h
  | i :: r, hB => by
    simp only [lexY, Bool.and_eq_true] at hB
    exact closed_allY (L.setIfInBounds i true) (h.put (by simpa using hB.1.1.1)) r hB.2
def noF (_ : Nat) : Bool := false
/-- What only reads, met first, leaves the world where it was. -/
theorem G_plainY {l : List Oper} (hs : Region.noSelect l.toArray = true) (hQ : ∀ c a d v w, Q (.panic c) (Act.put a d v) w → Q (.panic c) a w) {k : Nat} {w : World} (hw : C w) :
    ∀ (xs : List Nat) (L : Array Bool) (a : Act), Closed md l.toArray L → lexY md l.toArray xs L = true →
      wpQuiet P l.toArray C (fun a' => wpAnyG P md l.toArray Q C noF k (listAll L xs) a' w) (pickL l xs) a → wpAnyG P md l.toArray Q C noF (xs.length + k) L a w
  | [], L, a, _, _, h => by
    have h' : wpAnyG P md l.toArray Q C noF k L a w := h
    simpa using h'
  | i :: r, L, a, hcl, hB, h => by
    simp only [lexY, Bool.and_eq_true] at hB
    obtain ⟨⟨⟨hr, hf⟩, hp⟩, hB'⟩ := hB
    have hr' : i ∈ Region.ready md l.toArray L := by simpa using hr
    cases ho : l.toArray[i]? with
    | none => rw [ho] at hp; cases hp
    | some o =>
      rw [ho] at hp
      have ho' : l[i]? = some o := by simpa using ho
      rw [pickL_cons ho'] at h
      have hE : ∀ j, noF j = true → j < l.toArray.size → L.getD j true = false → waitsB md l.toArray l.toArray.size j i = true := fun j hj => by cases hj
      have key : ∀ v, YieldsIf P l.toArray C o v a → wpQuiet P l.toArray C (fun a' => wpAnyG P md l.toArray Q C noF k (listAll L (i :: r)) a' w) (pickL l r) (a.put o.dst v) → wpAnyG P md l.toArray Q C noF ((i :: r).length + k) L a w := by
        intro v hy hn
        have ih := G_plainY hs hQ hw r (L.setIfInBounds i true) (a.put o.dst v) (hcl.put hr') hB' hn
        rw [List.length_cons, Nat.add_right_comm]
        exact G_first (D := C) ho (Region.noSelect_spec hs) (fun c a w => hQ c a _ _ w) (fun _ h => h) _ L a w hcl (.inr hE) (Region.free_spec ho hf) hr' hy hw ih (fun _ => hw)
      unfold wpQuiet at h
      by_cases hwn : Region.wanted o (yielded l.toArray a.tmps) = true
      · rw [if_pos hwn] at h
        obtain ⟨v, h1, h2⟩ := h
        refine key v (.inl ⟨hwn, fun w' hw' => ?_⟩) h2
        have h3 := h1 w' hw'
        unfold Oper.quietAt at h3
        cases hrun : (execOp a.eval o).run P w' with
        | halt x w1 => rw [hrun] at h3; exact h3.elim
        | ok n w1 =>
          obtain ⟨u, rfl⟩ := plain_value2 hp hrun
          rw [hrun] at h3
          obtain ⟨rfl, rfl⟩ := h3
          rfl
      · rw [if_neg hwn] at h
        exact key undef (.inr ⟨by simpa using hwn, rfl⟩) h
/-- Reads, and then one that is alone; and so on; reads at the end. -/
def planY (md : Region.Mode) (ops : Array Oper) : List (List Nat × Nat) → List Nat → Array Bool → Bool
  | [], ys, L => lexY md ops ys L && (Region.ready md ops (listAll L ys)).isEmpty
  | p :: r, ys, L => lexY md ops p.1 L && decide (Region.ready md ops (listAll L p.1) = [p.2]) && (ops[p.2]?).isSome && planY md ops r ys ((listAll L p.1).setIfInBounds p.2 true)
def planYN : List (List Nat × Nat) → List Nat → Nat
  | [], ys => ys.length
  | p :: r, ys => p.1.length + (planYN r ys + 1)
def planYC (P : Program) (l : List Oper) (C : World → Prop) (Q : Exit → Act → World → Prop) : List (List Nat × Nat) → List Nat → Act → World → Prop
  | [], ys, a, w => wpQuiet P l.toArray C (fun a' => Q .normal a' w) (pickL l ys) a
  | p :: r, ys, a, w => wpQuiet P l.toArray C (fun a' => wpList P l.toArray (exitN (fun a'' w'' => C w'' ∧ planYC P l C Q r ys a'' w'') Q) (pickL l [p.2]) a' w) (pickL l p.1) a
/-- One operation, as wpList has it, as wpOp has it. -/
theorem op_of_list {l : List Oper} {i : Nat} {o : Oper} (ho : l[i]? = some o) {K K' : Act → World → Prop} {a : Act} {w : World} (hK : ∀ a w, K a w → K' a w) (h : wpList P l.toArray (exitN K Q) (pickL l [i]) a w) : wpOp P l.toArray Q i K' a w := by
  rw [pickL_cons ho] at h
  have ho' : l.toArray[i]? = some o := by simpa using ho
  unfold wpList at h
  unfold wpOp
  rw [ho']
  simp only
  split
  · rename_i hwn
    rw [if_pos hwn] at h
    exact h.imp (fun h => Oper.wp_mono hK (exit_wp h)) (fun h => ⟨h.1, h.2⟩)
  · rename_i hwn
    rw [if_neg hwn] at h
    exact hK _ _ h
theorem G_planY {l : List Oper} (hs : Region.noSelect l.toArray = true) (hQ : ∀ c a d v w, Q (.panic c) (Act.put a d v) w → Q (.panic c) a w) :
    ∀ (ps : List (List Nat × Nat)) (ys : List Nat) (L : Array Bool) (a : Act) (w : World), Closed md l.toArray L → planY md l.toArray ps ys L = true → C w →
      planYC P l C Q ps ys a w → wpAnyG P md l.toArray Q C noF (planYN ps ys) L a w
  | [], ys, L, a, w, hcl, hB, hw, h => by
    unfold planY at hB
    simp only [Bool.and_eq_true] at hB
    have := G_plainY (md := md) (k := 0) hs hQ hw ys L a hcl hB.1 (wpQuiet_mono (fun a' h' => ⟨List.isEmpty_iff.1 hB.2, h'⟩) _ _ h)
    rw [Nat.add_zero] at this
    exact this
  | p :: r, ys, L, a, w, hcl, hB, hw, h => by
    unfold planY at hB
    simp only [Bool.and_eq_true, decide_eq_true_eq] at hB
    obtain ⟨⟨⟨hX, hr⟩, hso⟩, hB'⟩ := hB
    refine G_plainY (md := md) (k := planYN r ys + 1) hs hQ hw p.1 L a hcl hX (wpQuiet_mono (fun a' h' => ?_) _ _ h)
    have hcl2 := closed_allY L hcl p.1 hX
    obtain ⟨o, ho⟩ := Option.isSome_iff_exists.1 hso
    have ho' : l[p.2]? = some o := by simpa using ho
    refine ⟨fun h0 => (by rw [hr] at h0; cases h0), fun j hj => ?_⟩
    have hj' := hj
    rw [hr, List.mem_singleton] at hj
    subst hj
    exact op_of_list ho' (fun a w h => ⟨fun _ => h.1, G_planY hs hQ r ys _ a w (hcl2.put hj') hB' h.1 h.2⟩) h'
theorem wp_region_planY {id : Nat} {l : List Oper} (ps : List (List Nat × Nat)) (ys : List Nat) {a : Act} {w : World} (hm : P.follows .mixedOrders = true) (hB : (Region.noSelect l.toArray && planY .any l.toArray ps ys (Array.replicate l.length false)) = true)
    (hn : planYN ps ys = l.length) (hC : C w.drew) (hQ : ∀ c a d v w, Q (.panic c) (Act.put a d v) w → Q (.panic c) a w) (h : planYC P l C Q ps ys a w.drew) : (Code.region id l.toArray true).wp P Q a w := by
  simp only [Bool.and_eq_true] at hB
  refine wp_region_any hm ?_
  have h1 := G_planY (md := .any) hB.1 hQ ps ys (Array.replicate l.length false) a w.drew (Closed.none _) hB.2 hC h
  have := wpAny_of_G _ _ _ _ h1
  rw [hn] at this
  simpa using this
/-- The same with one operation, f, that waits for nothing: ahead of each that is alone, or behind all of them. -/
def planF (md : Region.Mode) (ops : Array Oper) (f : Nat) (p2 : List (List Nat × Nat)) (ys : List Nat) : List (List Nat × Nat) → Array Bool → Bool
  | [], L => decide (Region.ready md ops L = [f]) && (ops[f]?).isSome && planY md ops p2 ys (L.setIfInBounds f true)
  | p :: r, L => lexY md ops p.1 L && (decide (Region.ready md ops (listAll L p.1) = [p.2, f]) || decide (Region.ready md ops (listAll L p.1) = [f, p.2])) && (ops[p.2]?).isSome && (ops[f]?).isSome &&
      planF md ops f p2 ys r ((listAll L p.1).setIfInBounds p.2 true) && planY md ops (([], p.2) :: (r ++ p2)) ys ((listAll L p.1).setIfInBounds f true)
def planFN (p2 : List (List Nat × Nat)) (ys : List Nat) : List (List Nat × Nat) → Nat
  | [] => planYN p2 ys + 1
  | p :: r => p.1.length + (planFN p2 ys r + 1)
theorem planYN_app (r p2 : List (List Nat × Nat)) (ys : List Nat) : planYN (r ++ p2) ys + 1 = planFN p2 ys r := by
  induction r with
  | nil => rfl
  | cons p r ih => rw [List.cons_append, planYN, planFN, ← ih]; omega
def planFC (P : Program) (l : List Oper) (C : World → Prop) (Q : Exit → Act → World → Prop) (f : Nat) (p2 : List (List Nat × Nat)) (ys : List Nat) : List (List Nat × Nat) → Act → World → Prop
  | [], a, w => wpList P l.toArray (exitN (fun a'' w'' => C w'' ∧ planYC P l C Q p2 ys a'' w'') Q) (pickL l [f]) a w
  | p :: r, a, w => wpQuiet P l.toArray C (fun a' => wpList P l.toArray (exitN (fun a'' w'' => C w'' ∧ planFC P l C Q f p2 ys r a'' w'') Q) (pickL l [p.2]) a' w ∧
      wpList P l.toArray (exitN (fun a'' w'' => C w'' ∧ planYC P l C Q (([], p.2) :: (r ++ p2)) ys a'' w'') Q) (pickL l [f]) a' w) (pickL l p.1) a
theorem G_planF {l : List Oper} (hs : Region.noSelect l.toArray = true) (hQ : ∀ c a d v w, Q (.panic c) (Act.put a d v) w → Q (.panic c) a w) (f : Nat) (p2 : List (List Nat × Nat)) (ys : List Nat) :
    ∀ (ps : List (List Nat × Nat)) (L : Array Bool) (a : Act) (w : World), Closed md l.toArray L → planF md l.toArray f p2 ys ps L = true → C w →
      planFC P l C Q f p2 ys ps a w → wpAnyG P md l.toArray Q C noF (planFN p2 ys ps) L a w
  | [], L, a, w, hcl, hB, hw, h => by
    unfold planF at hB
    simp only [Bool.and_eq_true, decide_eq_true_eq] at hB
    obtain ⟨⟨hr, hso⟩, hB'⟩ := hB
    obtain ⟨o, ho⟩ := Option.isSome_iff_exists.1 hso
    have ho' : l[f]? = some o := by simpa using ho
    refine ⟨fun h0 => (by rw [hr] at h0; cases h0), fun j hj => ?_⟩
    have hj' := hj
    rw [hr, List.mem_singleton] at hj
    subst hj
    exact op_of_list ho' (fun a w h => ⟨fun _ => h.1, G_planY hs hQ p2 ys _ a w (hcl.put hj') hB' h.1 h.2⟩) h
  | p :: r, L, a, w, hcl, hB, hw, h => by
    unfold planF at hB
    simp only [Bool.and_eq_true, Bool.or_eq_true, decide_eq_true_eq] at hB
    obtain ⟨⟨⟨⟨⟨hX, hr⟩, hso⟩, hsf⟩, hB1⟩, hB2⟩ := hB
    refine G_plainY (md := md) (k := planFN p2 ys r + 1) hs hQ hw p.1 L a hcl hX (wpQuiet_mono (fun a' h' => ?_) _ _ h)
    have hcl2 := closed_allY L hcl p.1 hX
    obtain ⟨o, ho⟩ := Option.isSome_iff_exists.1 hso
    have ho' : l[p.2]? = some o := by simpa using ho
    obtain ⟨of, hof⟩ := Option.isSome_iff_exists.1 hsf
    have hof' : l[f]? = some of := by simpa using hof
    have hm : ∀ j, j ∈ Region.ready md l.toArray (listAll L p.1) ↔ j = p.2 ∨ j = f := fun j => by
      rcases hr with hr | hr <;> rw [hr] <;> simp
      exact ⟨fun h => h.elim .inr .inl, fun h => h.elim .inr .inl⟩
    refine ⟨fun h0 => ?_, fun j hj => ?_⟩
    · have := (hm p.2).2 (.inl rfl)
      rw [h0] at this
      cases this
    · have hj' := hj
      rcases (hm j).1 hj with rfl | rfl
      · exact op_of_list ho' (fun a w h => ⟨fun _ => h.1, G_planF hs hQ f p2 ys r _ a w (hcl2.put hj') hB1 h.1 h.2⟩) h'.1
      · have e : planFN p2 ys r = planYN (([], p.2) :: (r ++ p2)) ys := by rw [← planYN_app, planYN, List.length_nil, Nat.zero_add]
        rw [e]
        exact op_of_list hof' (fun a w h => ⟨fun _ => h.1, G_planY hs hQ _ ys _ a w (hcl2.put hj') hB2 h.1 h.2⟩) h'.2
theorem wp_region_planF {id : Nat} {l : List Oper} (f : Nat) (ps p2 : List (List Nat × Nat)) (ys : List Nat) {a : Act} {w : World} (hm : P.follows .mixedOrders = true)
    (hB : (Region.noSelect l.toArray && planF .any l.toArray f p2 ys ps (Array.replicate l.length false)) = true)
    (hn : planFN p2 ys ps = l.length) (hC : C w.drew) (hQ : ∀ c a d v w, Q (.panic c) (Act.put a d v) w → Q (.panic c) a w) (h : planFC P l C Q f p2 ys ps a w.drew) : (Code.region id l.toArray true).wp P Q a w := by
  simp only [Bool.and_eq_true] at hB
  refine wp_region_any hm ?_
  have h1 := G_planF (md := .any) hB.1 hQ f p2 ys ps (Array.replicate l.length false) a w.drew (Closed.none _) hB.2 hC h
  have := wpAny_of_G _ _ _ _ h1
  rw [hn] at this
  simpa using this
/-- A step that is alone; one at which the free one may come up. -/
theorem planY_go {l : List Oper} {xs ys : List Nat} {i : Nat} {r : List (List Nat × Nat)} {a : Act} {w : World} {o : Oper} (ho : l[i]? = some o)
    (h : wpQuiet P l.toArray C (fun a' => ∀ Q2 : Exit → Act → World → Prop, (∀ a'' w'', C w'' → planYC P l C Q r ys a'' w'' → Q2 .normal a'' w'') → wpList P l.toArray Q2 [o] a' w) (pickL l xs) a) : planYC P l C Q ((xs, i) :: r) ys a w := by
  unfold planYC
  refine wpQuiet_mono (fun a' h' => ?_) _ _ h
  rw [pickL_cons ho]
  exact h' _ fun a'' w'' h1 h2 => ⟨h1, h2⟩
theorem planY_end {l : List Oper} {a : Act} {w : World} (h : Q .normal a w) : planYC P l C Q [] [] a w := h
theorem planF_go {l : List Oper} {xs ys : List Nat} {f i : Nat} {r p2 : List (List Nat × Nat)} {a : Act} {w : World} {o fo : Oper} (ho : l[i]? = some o) (hf : l[f]? = some fo)
    (h : wpQuiet P l.toArray C (fun a' => (∀ Q2 : Exit → Act → World → Prop, (∀ a'' w'', C w'' → planFC P l C Q f p2 ys r a'' w'' → Q2 .normal a'' w'') → wpList P l.toArray Q2 [o] a' w) ∧
      ∀ Q2 : Exit → Act → World → Prop, (∀ a'' w'', C w'' → planYC P l C Q (([], i) :: (r ++ p2)) ys a'' w'' → Q2 .normal a'' w'') → wpList P l.toArray Q2 [fo] a' w) (pickL l xs) a) : planFC P l C Q f p2 ys ((xs, i) :: r) a w := by
  unfold planFC
  refine wpQuiet_mono (fun a' h' => ?_) _ _ h
  rw [pickL_cons ho, pickL_cons hf]
  exact ⟨h'.1 _ fun a'' w'' h1 h2 => ⟨h1, h2⟩, h'.2 _ fun a'' w'' h1 h2 => ⟨h1, h2⟩⟩
theorem planF_last {l : List Oper} {ys : List Nat} {f : Nat} {p2 : List (List Nat × Nat)} {a : Act} {w : World} {fo : Oper} (hf : l[f]? = some fo)
    (h : ∀ Q2 : Exit → Act → World → Prop, (∀ a'' w'', C w'' → planYC P l C Q p2 ys a'' w'' → Q2 .normal a'' w'') → wpList P l.toArray Q2 [fo] a w) : planFC P l C Q f p2 ys [] a w := by
  unfold planFC
  rw [pickL_cons hf]
  exact h _ fun a'' w'' h1 h2 => ⟨h1, h2⟩
end
end Go.Proofs.YtcjdjifooaeomaaDoor
namespace Go.Proofs.YtcjdjifooaeomaaDoor
open Go.RowKit

section
variable {P : Program} {ops : Array Oper} {C : World → Prop} {Q : Exit → Act → World → Prop} {md : Region.Mode}
def eqF (s j : Nat) : Bool := j == s
def lexS (md : Region.Mode) (ops : Array Oper) (s : Nat) : List Nat → Array Bool → Bool
  | [], _ => true
  | i :: r, L => (Region.ready md ops L).contains i && Region.free md ops L i && (match ops[i]? with | some o => plainOp2 o.op | none => false) && waitsB md ops ops.size s i && lexS md ops s r (L.setIfInBounds i true)
theorem closed_allS (s : Nat) (L : Array Bool) (h : Closed md ops L) : ∀ r : List Nat, lexS md ops s r L = true → Closed md ops (listAll L r)
  | [], _ => h
  | i :: r, hB => by
    simp only [lexS, Bool.and_eq_true] at hB
    exact closed_allS s (L.setIfInBounds i true) (h.put (by simpa using hB.1.1.1.1)) r hB.2
theorem G_plainS {l : List Oper} {s : Nat} (hs : Region.noSelect l.toArray = true) (hQ : ∀ c a d v w, Q (.panic c) (Act.put a d v) w → Q (.panic c) a w) {k : Nat} {w : World} (hw : C w) :
    ∀ (xs : List Nat) (L : Array Bool) (a : Act), Closed md l.toArray L → lexS md l.toArray s xs L = true →
      wpQuiet P l.toArray C (fun a' => wpAnyG P md l.toArray Q C (eqF s) k (listAll L xs) a' w) (pickL l xs) a → wpAnyG P md l.toArray Q C (eqF s) (xs.length + k) L a w
  | [], L, a, _, _, h => by
    have h' : wpAnyG P md l.toArray Q C (eqF s) k L a w := h
    simpa using h'
  | i :: r, L, a, hcl, hB, h => by
    simp only [lexS, Bool.and_eq_true] at hB
    obtain ⟨⟨⟨⟨hr, hf⟩, hp⟩, hwt⟩, hB'⟩ := hB
    have hr' : i ∈ Region.ready md l.toArray L := by simpa using hr
    cases ho : l.toArray[i]? with
    | none => rw [ho] at hp; cases hp
    | some o =>
      rw [ho] at hp
      have ho' : l[i]? = some o := by simpa using ho
      rw [pickL_cons ho'] at h
      have hE : ∀ j, eqF s j = true → j < l.toArray.size → L.getD j true = false → waitsB md l.toArray l.toArray.size j i = true := fun j hj _ _ => by
        have : j = s := by simpa [eqF] using hj
        rw [this]
        exact hwt
      have key : ∀ v, YieldsIf P l.toArray C o v a → wpQuiet P l.toArray C (fun a' => wpAnyG P md l.toArray Q C (eqF s) k (listAll L (i :: r)) a' w) (pickL l r) (a.put o.dst v) → wpAnyG P md l.toArray Q C (eqF s) ((i :: r).length + k) L a w := by
        intro v hy hn
        have ih := G_plainS hs hQ hw r (L.setIfInBounds i true) (a.put o.dst v) (hcl.put hr') hB' hn
        rw [List.length_cons, Nat.add_right_comm]
        exact G_first (D := C) ho (Region.noSelect_spec hs) (fun c a w => hQ c a _ _ w) (fun _ h => h) _ L a w hcl (.inr hE) (Region.free_spec ho hf) hr' hy hw ih (fun _ => hw)
      unfold wpQuiet at h
      by_cases hwn : Region.wanted o (yielded l.toArray a.tmps) = true
      · rw [if_pos hwn] at h
        obtain ⟨v, h1, h2⟩ := h
        refine key v (.inl ⟨hwn, fun w' hw' => ?_⟩) h2
        have h3 := h1 w' hw'
        unfold Oper.quietAt at h3
        cases hrun : (execOp a.eval o).run P w' with
        | halt x w1 => rw [hrun] at h3; exact h3.elim
        | ok n w1 =>
          obtain ⟨u, rfl⟩ := plain_value2 hp hrun
          rw [hrun] at h3
          obtain ⟨rfl, rfl⟩ := h3
          rfl
      · rw [if_neg hwn] at h
        exact key undef (.inr ⟨by simpa using hwn, rfl⟩) h
def planS (md : Region.Mode) (ops : Array Oper) (ys : List Nat) (s : Nat) : List (List Nat × Nat) → Array Bool → Bool
  | [], L => lexS md ops s ys L && decide (Region.ready md ops (listAll L ys) = [s]) && (ops[s]?).isSome && (Region.ready md ops ((listAll L ys).setIfInBounds s true)).isEmpty
  | p :: r, L => lexS md ops s p.1 L && decide (Region.ready md ops (listAll L p.1) = [p.2]) && (ops[p.2]?).isSome && planS md ops ys s r ((listAll L p.1).setIfInBounds p.2 true)
def planSN (ys : List Nat) : List (List Nat × Nat) → Nat
  | [] => ys.length + 1
  | p :: r => p.1.length + (planSN ys r + 1)
def planSC (P : Program) (l : List Oper) (C : World → Prop) (Q : Exit → Act → World → Prop) (ys : List Nat) (s : Nat) : List (List Nat × Nat) → Act → World → Prop
  | [], a, w => wpQuiet P l.toArray C (fun a' => wpList P l.toArray (exitN (fun a'' w'' => Q .normal a'' w'') Q) (pickL l [s]) a' w) (pickL l ys) a
  | p :: r, a, w => wpQuiet P l.toArray C (fun a' => wpList P l.toArray (exitN (fun a'' w'' => C w'' ∧ planSC P l C Q ys s r a'' w'') Q) (pickL l [p.2]) a' w) (pickL l p.1) a
theorem G_planS {l : List Oper} (hs : Region.noSelect l.toArray = true) (hQ : ∀ c a d v w, Q (.panic c) (Act.put a d v) w → Q (.panic c) a w) (ys : List Nat) (s : Nat) :
    ∀ (ps : List (List Nat × Nat)) (L : Array Bool) (a : Act) (w : World), Closed md l.toArray L → planS md l.toArray ys s ps L = true → C w →
      planSC P l C Q ys s ps a w → wpAnyG P md l.toArray Q C (eqF s) (planSN ys ps) L a w
  | [], L, a, w, hcl, hB, hw, h => by
    unfold planS at hB
    simp only [Bool.and_eq_true, decide_eq_true_eq] at hB
    obtain ⟨⟨⟨hX, hr⟩, hso⟩, hE⟩ := hB
    refine G_plainS (md := md) (k := 1) hs hQ hw ys L a hcl hX (wpQuiet_mono (fun a' h' => ?_) _ _ h)
    obtain ⟨o, ho⟩ := Option.isSome_iff_exists.1 hso
    have ho' : l[s]? = some o := by simpa using ho
    refine ⟨fun h0 => (by rw [hr] at h0; cases h0), fun j hj => ?_⟩
    rw [hr, List.mem_singleton] at hj
    subst hj
    exact op_of_list ho' (fun a w h => ⟨fun h0 => (by simp [eqF] at h0), List.isEmpty_iff.1 hE, h⟩) h'
  | p :: r, L, a, w, hcl, hB, hw, h => by
    unfold planS at hB
    simp only [Bool.and_eq_true, decide_eq_true_eq] at hB
    obtain ⟨⟨⟨hX, hr⟩, hso⟩, hB'⟩ := hB
    refine G_plainS (md := md) (k := planSN ys r + 1) hs hQ hw p.1 L a hcl hX (wpQuiet_mono (fun a' h' => ?_) _ _ h)
    have hcl2 := closed_allS s L hcl p.1 hX
    obtain ⟨o, ho⟩ := Option.isSome_iff_exists.1 hso
    have ho' : l[p.2]? = some o := by simpa using ho
    refine ⟨fun h0 => (by rw [hr] at h0; cases h0), fun j hj => ?_⟩
    have hj' := hj
    rw [hr, List.mem_singleton] at hj
    subst hj
    exact op_of_list ho' (fun a w h => ⟨fun _ => h.1, G_planS hs hQ ys s r _ a w (hcl2.put hj') hB' h.1 h.2⟩) h'
theorem wp_region_planS {id : Nat} {l : List Oper} (ps : List (List Nat × Nat)) (ys : List Nat) (s : Nat) {a : Act} {w : World} (hm : P.follows .mixedOrders = true) (hB : (Region.noSelect l.toArray && planS .any l.toArray ys s ps (Array.replicate l.length false)) = true)
    (hn : planSN ys ps = l.length) (hC : C w.drew) (hQ : ∀ c a d v w, Q (.panic c) (Act.put a d v) w → Q (.panic c) a w) (h : planSC P l C Q ys s ps a w.drew) : (Code.region id l.toArray true).wp P Q a w := by
  simp only [Bool.and_eq_true] at hB
  refine wp_region_any hm ?_
  have h1 := G_planS (md := .any) hB.1 hQ ys s ps (Array.replicate l.length false) a w.drew (Closed.none _) hB.2 hC h
  have := wpAny_of_G _ _ _ _ h1
  rw [hn] at this
  simpa using this
theorem planS_go {l : List Oper} {xs ys : List Nat} {i s : Nat} {r : List (List Nat × Nat)} {a : Act} {w : World} {o : Oper} (ho : l[i]? = some o)
    (h : wpQuiet P l.toArray C (fun a' => ∀ Q2 : Exit → Act → World → Prop, (∀ a'' w'', C w'' → planSC P l C Q ys s r a'' w'' → Q2 .normal a'' w'') → wpList P l.toArray Q2 [o] a' w) (pickL l xs) a) : planSC P l C Q ys s ((xs, i) :: r) a w := by
  unfold planSC
  refine wpQuiet_mono (fun a' h' => ?_) _ _ h
  rw [pickL_cons ho]
  exact h' _ fun a'' w'' h1 h2 => ⟨h1, h2⟩
theorem planS_end {l : List Oper} {ys : List Nat} {s : Nat} {a : Act} {w : World} {o : Oper} (ho : l[s]? = some o)
    (h : wpQuiet P l.toArray C (fun a' => ∀ Q2 : Exit → Act → World → Prop, (∀ a'' w'', Q .normal a'' w'' → Q2 .normal a'' w'') → wpList P l.toArray Q2 [o] a' w) (pickL l ys) a) : planSC P l C Q ys s [] a w := by
  unfold planSC
  refine wpQuiet_mono (fun a' h' => ?_) _ _ h
  rw [pickL_cons ho]
  exact h' _ fun a'' w'' h1 => h1
/-- A world in which one block is as it was. -/
structure GrOf (V : World) (gr : Nat) where
  w : World
  h : w.heap[gr]? = V.heap[gr]?
theorem gr_ne (V : World) (gr : Nat) : Nonempty (GrOf V gr) := ⟨⟨V, rfl⟩⟩
theorem gr_cell {V : World} {gr j : Nat} {u : Value} (h : V.cell? ⟨gr, j, none⟩ = some u) (p : GrOf V gr) : p.w.cell? ⟨gr, j, none⟩ = some u := by
  rw [← h]
  simp only [World.cell?, p.h]
end
end Go.Proofs.YtcjdjifooaeomaaDoor
