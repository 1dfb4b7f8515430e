/- A region that draws its order: loads first, calls that make memory by one walk, and what writes at the end, in its one order. Plain laws, no program. -/
import Derived.WalkKit
import Derived.Deep.Quiet
import Derived.Deep.QuietTactic
import Derived.Deep.RegionWith
import Derived.Deep.RegionHeld
namespace Go.Proofs.Ytphhfjfdanlhiaa

section
variable {P : Program} {ops : Array Oper} {Q : Exit → Act → World → Prop} {md : Region.Mode} {C : World → Prop} {e1 : Nat → Bool}

/-- Number j waits for number i. -/
def waitsB (md : Region.Mode) (ops : Array Oper) : Nat → Nat → Nat → Bool
  | 0, _, _ => false
  | f + 1, j, i => match ops[j]? with
    | none => false
    | some o => o.after.any fun e => Region.binds md e && (e.on == i || waitsB md ops f e.on i)
/-- What has come up waited for what has come up. -/
def Closed (md : Region.Mode) (ops : Array Oper) (L : Array Bool) : Prop := ∀ k o, ops[k]? = some o → L.getD k false = true → ∀ e ∈ o.after, Region.binds md e = true → L.getD e.on false = true
theorem waits_listed {L : Array Bool} (hc : Closed md ops L) : ∀ f j i, waitsB md ops f j i = true → (∀ o, ops[j]? = some o → ∀ e ∈ o.after, Region.binds md e = true → L.getD e.on false = true) → L.getD i false = true
  | 0, _, _, h, _ => by cases h
  | f + 1, j, i, h, hj => by
    unfold waitsB at h
    cases ho : ops[j]? with
    | none => rw [ho] at h; cases h
    | some o =>
      rw [ho] at h
      obtain ⟨e, he, hb⟩ := Array.any_eq_true'.1 h
      simp only [Bool.and_eq_true, Bool.or_eq_true, beq_iff_eq] at hb
      have h1 := hj o ho e he hb.1
      rcases hb.2 with rfl | h2
      · exact h1
      · exact waits_listed hc f e.on i h2 (fun o' ho' => hc _ _ ho' h1)
theorem ready_not {L : Array Bool} {i j f : Nat} (hc : Closed md ops L) (hj : j ∈ Region.ready md ops L) (hw : waitsB md ops f j i = true) : L.getD i false = true := by
  obtain ⟨_, o, ho, h⟩ := mem_ready.1 hj
  refine waits_listed hc f j i hw ?_
  intro o' ho'
  rw [ho] at ho'
  cases ho'
  exact h
theorem unlisted {L : Array Bool} {i : Nat} (h : L.getD i true = false) : L.getD i false = false := by
  rcases Nat.lt_or_ge i L.size with h' | h'
  · simp [h'] at h ⊢; exact h
  · simp [Array.getElem?_eq_none h'] at h
theorem Closed.put {L : Array Bool} {j : Nat} (hc : Closed md ops L) (hj : j ∈ Region.ready md ops L) : Closed md ops (L.setIfInBounds j true) := by
  intro k o ho hk e he hb
  by_cases hjk : j = k
  · subst hjk
    obtain ⟨_, o', ho', h⟩ := mem_ready.1 hj
    rw [ho] at ho'
    cases ho'
    exact getD_set_true (h e he hb)
  · rw [getD_set_ne false hjk] at hk
    exact getD_set_true (hc k o ho hk e he hb)
theorem Closed.none (n : Nat) : Closed md ops (Array.replicate n false) := by
  intro k o _ hk
  rcases Nat.lt_or_ge k n with h | h
  · simp [h] at hk
  · simp [h] at hk

/-- Whatever order is picked from here on, and C holds behind each operation but those of e1. -/
def wpAnyG (P : Program) (md : Region.Mode) (ops : Array Oper) (Q : Exit → Act → World → Prop) (C : World → Prop) (e1 : Nat → Bool) : Nat → Array Bool → Act → World → Prop
  | 0, L, a, w => Region.ready md ops L = [] ∧ Q .normal a w
  | f + 1, L, a, w =>
    (Region.ready md ops L = [] → Q .normal a w) ∧
    ∀ i ∈ Region.ready md ops L, wpOp P ops Q i (fun a' w' => (e1 i = false → C w') ∧ wpAnyG P md ops Q C e1 f (L.setIfInBounds i true) a' w') a w
theorem wpAny_of_G : ∀ (f : Nat) (L : Array Bool) (a : Act) (w : World), wpAnyG P md ops Q C e1 f L a w → wpAny P md ops Q f L a w
  | 0, _, _, _, h => h
  | f + 1, _, _, _, h => ⟨h.1, fun i hi => wpOp_mono (fun a' w' h' => wpAny_of_G f _ a' w' h'.2) (h.2 i hi)⟩

/-- An operation may be taken first. -/
theorem G_first {D : World → Prop} {i : Nat} {oi : Oper} {v : Value} (hi : ops[i]? = some oi) (hsel : ∀ (j : Nat) (o : Oper) cs b, ops[j]? = some o → o.op ≠ .select cs b)
    (hQ : ∀ c a w, Q (.panic c) (a.put oi.dst v) w → Q (.panic c) a w) (hCD : ∀ w, C w → D w) :
    ∀ (f : Nat) (L : Array Bool) (a : Act) (w : World), Closed md ops L → (((∀ w, D w) ∧ e1 i = true) ∨ ∀ j, e1 j = true → j < ops.size → L.getD j true = false → waitsB md ops ops.size j i = true) →
      (∀ j oj, ops[j]? = some oj → j ≠ i → L.getD j true = false → (∀ e ∈ oj.after, Region.binds md e = true → e.on ≠ i) → oi.apart ops oj = true) →
      i ∈ Region.ready md ops L → YieldsIf P ops D oi v a → D w →
      wpAnyG P md ops Q C e1 f (L.setIfInBounds i true) (a.put oi.dst v) w → (e1 i = false → C w) → wpAnyG P md ops Q C e1 (f + 1) L a w := by
  intro f
  induction f with
  | zero =>
    intro L a w _ _ _ hr hy hD H hCw
    refine ⟨fun h => (by rw [h] at hr; cases hr), fun j hj => ?_⟩
    by_cases hji : j = i
    · subst hji; exact hy.wpOp hi hD ⟨hCw, H⟩
    · have := ready_mono hj hji
      rw [H.1] at this
      cases this
  | succ f ih =>
    intro L a w hcl hE hfree hr hy hD H hCw
    refine ⟨fun h => (by rw [h] at hr; cases hr), fun j hj => ?_⟩
    by_cases hji : j = i
    · subst hji; exact hy.wpOp hi hD ⟨hCw, H⟩
    · have h1 := H.2 j (ready_mono hj hji)
      obtain ⟨hjun, oj, hoj, hall⟩ := mem_ready.1 hj
      have hiun := (mem_ready.1 hr).1
      have hnot : ∀ e ∈ oj.after, Region.binds md e = true → e.on ≠ i := fun e he hb heq => by
        have h1 := hall e he hb
        rw [heq, unlisted hiun] at h1
        cases h1
      have h2 := wpOp_putIf hoj (hfree j oj hoj hji hjun hnot) (fun cs b => hsel i oi cs b hi) (fun cs b => hsel j oj cs b hoj) hQ hy h1
      have hfree' : ∀ k ok, ops[k]? = some ok → k ≠ i → (L.setIfInBounds j true).getD k true = false →
          (∀ e ∈ ok.after, Region.binds md e = true → e.on ≠ i) → oi.apart ops ok = true := fun k ok hk hki hun hno => by
        refine hfree k ok hk hki ?_ hno
        by_cases hjk : j = k
        · subst hjk; exact hjun
        · rw [getD_set_ne true hjk] at hun; exact hun
      have he1 : ((∀ w, D w) ∧ e1 i = true) ∨ e1 j = false := by
        rcases hE with h | h
        · exact .inl h
        · right
          cases hej : e1 j with
          | false => rfl
          | true =>
            have := ready_not hcl hj (h j hej (Array.getElem?_eq_some_iff.1 hoj).1 hjun)
            rw [unlisted hiun] at this
            cases this
      refine wpOp_mono (fun a' w' h3 => ⟨h3.2.1, ?_⟩) h2
      have hD' : D w' := by
        rcases he1 with h | h
        · exact h.1 w'
        · exact hCD _ (h3.2.1 h)
      have hE' : ((∀ w, D w) ∧ e1 i = true) ∨ ∀ k, e1 k = true → k < ops.size → (L.setIfInBounds j true).getD k true = false → waitsB md ops ops.size k i = true := by
        rcases hE with h | h
        · exact .inl h
        · refine .inr fun k hk hks hun => h k hk hks ?_
          by_cases hjk : j = k
          · subst hjk; exact hjun
          · rw [getD_set_ne true hjk] at hun; exact hun
      refine ih (L.setIfInBounds j true) a' w' (hcl.put hj) hE' hfree' (ready_mono hr (Ne.symm hji)) h3.1 hD' ?_ ?_
      · rw [Array.setIfInBounds_comm _ _ hji]
        exact h3.2.2
      · intro hei
        rcases he1 with h | h
        · rw [h.2] at hei; cases hei
        · exact h3.2.1 h
/-- A free operation, which yields its value in whatever world. -/
theorem G_free {i : Nat} {oi : Oper} {v : Value} {f : Nat} {L : Array Bool} {a : Act} {w : World} (hi : ops[i]? = some oi) (hs : Region.noSelect ops = true) (he : e1 i = true) (hcl : Closed md ops L)
    (hf : Region.free md ops L i = true) (hr : (Region.ready md ops L).contains i = true) (hQ : ∀ c a w, Q (.panic c) (a.put oi.dst v) w → Q (.panic c) a w) (hg : oi.guard = none)
    (hy : ∀ w, (execOp a.eval oi).run P w = .ok (.value v) w)
    (h : wpAnyG P md ops Q C e1 f (L.setIfInBounds i true) (a.put oi.dst v) w) : wpAnyG P md ops Q C e1 (f + 1) L a w :=
  G_first (D := fun _ => True) hi (Region.noSelect_spec hs) hQ (fun _ _ => trivial) f L a w hcl (.inl ⟨fun _ => trivial, he⟩) (Region.free_spec hi hf) (by simpa using hr)
    (.inl ⟨by simp [Region.wanted, hg], fun w _ => hy w⟩) trivial h (fun h => by rw [he] at h; cases h)

/-- The listed operations of a region. -/
def pickL (ops : List Oper) : List Nat → List Oper
  | [] => []
  | i :: r => match ops[i]? with
    | some o => o :: pickL ops r
    | none => pickL ops r
/-- Operations that yield a value, if they yield at all. -/
def plainOp : Op → Bool
  | .move _ | .build .. | .load .. | .binOp .. | .convert .. | .fieldAddr .. | .field .. | .indexAddr .. | .unOp .. => true
  | .call { callee := .builtin .len, .. } => true
  | _ => false
theorem value_of {s : Sem Value} {w w' : World} {n : Next} (hr : (do let x ← s; pure (Next.value x) : Sem Next).run P w = .ok n w') : ∃ v, n = .value v := by
  rw [Sem.run_bind] at hr
  cases h : s.run P w with
  | ok u w1 =>
    rw [h] at hr
    simp only [Result.andThen_ok, Sem.run_pure, Result.ok.injEq] at hr
    exact ⟨u, hr.1.symm⟩
  | halt x w1 =>
    rw [h] at hr
    cases hr
theorem plain_value {o : Oper} (h : plainOp o.op = true) {ρ : Operand → Value} {w w' : World} {n : Next} (hr : (execOp ρ o).run P w = .ok n w') : ∃ v, n = .value v := by
  obtain ⟨dst, op, type, pos, after, guard⟩ := o
  cases op <;> simp only [plainOp] at h <;> first | (cases h; done) | skip
  case move x =>
    simp only [execOp, Sem.run_pure, Result.ok.injEq] at hr
    exact ⟨_, hr.1.symm⟩
  case call c =>
    obtain ⟨callee, args, argTypes⟩ := c
    cases callee with
    | builtin b =>
      cases b <;> first | (cases h; done) | skip
      simp only [execOp, resolve, invoke, builtin, Sem.run_bind, Sem.run_pure, Result.andThen_ok] at hr
      refine value_of (P := P) (s := Builtin.len_ argTypes type (Array.map ρ args)) (w := w) (w' := w') ?_
      simpa only [Sem.run_bind, Sem.run_pure] using hr
    | _ => cases h
  all_goals exact value_of (by simpa only [execOp] using hr)

def listAll (L : Array Bool) : List Nat → Array Bool
  | [] => L
  | i :: r => listAll (L.setIfInBounds i true) r
def lexX (md : Region.Mode) (ops : Array Oper) (e1 : Nat → Bool) : List Nat → Array Bool → Bool
  | [], _ => true
  | i :: r, L => (Region.ready md ops L).contains i && Region.free md ops L i && (match ops[i]? with | some o => plainOp o.op | none => false) && ((List.range ops.size).all fun j => !e1 j || L.getD j true || waitsB md ops ops.size j i) && !e1 i && lexX md ops e1 r (L.setIfInBounds i true)
theorem pickL_cons {l : List Oper} {i : Nat} {o : Oper} {r : List Nat} (h : l[i]? = some o) : pickL l (i :: r) = o :: pickL l r := by
  rw [pickL, h]
theorem pickL_app {l : List Oper} : ∀ (r s : List Nat), pickL l (r ++ s) = pickL l r ++ pickL l s
  | [], s => rfl
  | i :: r, s => by
    rw [List.cons_append, pickL, pickL, pickL_app r s]
    cases l[i]? <;> rfl
theorem closed_all (L : Array Bool) (h : Closed md ops L) : ∀ r : List Nat, lexX md ops e1 r L = true → Closed md ops (listAll L r)
  | [], _ => h
  | i :: r, hB => by
    simp only [lexX, Bool.and_eq_true] at hB
    exact closed_all (L.setIfInBounds i true) (h.put (by simpa using hB.1.1.1.1.1)) r hB.2
theorem G_plain {l : List Oper} (hs : Region.noSelect l.toArray = true) (hQ : ∀ c a d v w, Q (.panic c) (Act.put a d v) w → Q (.panic c) a w) {k : Nat} :
    ∀ (xs : List Nat) (L : Array Bool) (a : Act), Closed md l.toArray L → lexX md l.toArray e1 xs L = true →
      wpQuiet P l.toArray C (fun a' => ∀ w, C w → wpAnyG P md l.toArray Q C e1 k (listAll L xs) a' w) (pickL l xs) a → ∀ w, C w → wpAnyG P md l.toArray Q C e1 (xs.length + k) L a w
  | [], L, a, _, _, h, w, hw => by
    have := h w hw
    simpa [listAll] using this
  | i :: r, L, a, hcl, hB, h, w, hw => by
    simp only [lexX, Bool.and_eq_true] at hB
    obtain ⟨⟨⟨⟨⟨hr, hf⟩, hp⟩, hwt⟩, he⟩, hB'⟩ := hB
    have hr' : i ∈ Region.ready md l.toArray L := by simpa using hr
    cases ho : l.toArray[i]? with
    | none => rw [ho] at hp; cases hp
    | some o =>
      rw [ho] at hp
      have ho' : l[i]? = some o := by simpa using ho
      rw [pickL_cons ho'] at h
      have hE : ∀ j, e1 j = true → j < l.toArray.size → L.getD j true = false → waitsB md l.toArray l.toArray.size j i = true := by
        intro j hj hlt hun
        have := List.all_eq_true.1 hwt j (List.mem_range.2 hlt)
        rw [hj, hun] at this
        simpa using this
      have key : ∀ v, YieldsIf P l.toArray C o v a → wpQuiet P l.toArray C (fun a' => ∀ w, C w → wpAnyG P md l.toArray Q C e1 k (listAll L (i :: r)) a' w) (pickL l r) (a.put o.dst v) → wpAnyG P md l.toArray Q C e1 ((i :: r).length + k) L a w := by
        intro v hy hn
        have ih := G_plain hs hQ r (L.setIfInBounds i true) (a.put o.dst v) (hcl.put hr') hB' hn w hw
        rw [List.length_cons, Nat.add_right_comm]
        exact G_first (D := C) ho (Region.noSelect_spec hs) (fun c a w => hQ c a _ _ w) (fun _ h => h) _ L a w hcl (.inr hE) (Region.free_spec ho hf) hr' hy hw ih (fun _ => hw)
      unfold wpQuiet at h
      by_cases hwn : Region.wanted o (yielded l.toArray a.tmps) = true
      · rw [if_pos hwn] at h
        obtain ⟨v, h1, h2⟩ := h
        refine key v (.inl ⟨hwn, fun w' hw' => ?_⟩) h2
        have h3 := h1 w' hw'
        unfold Oper.quietAt at h3
        cases hrun : (execOp a.eval o).run P w' with
        | halt x w1 => rw [hrun] at h3; exact h3.elim
        | ok n w1 =>
          obtain ⟨u, rfl⟩ := plain_value hp hrun
          rw [hrun] at h3
          obtain ⟨rfl, rfl⟩ := h3
          rfl
      · rw [if_neg hwn] at h
        exact key undef (.inr ⟨by simpa using hwn, rfl⟩) h

/-- Whichever of those that are not e's comes up, quiet in the class. -/
def wpAnyZ (P : Program) (md : Region.Mode) (ops : Array Oper) (C : World → Prop) (e : Nat → Bool) (R : Array Bool → Act → Prop) : Nat → Array Bool → Act → Prop
  | 0, L, a => (∀ i ∈ Region.ready md ops L, e i = true) ∧ R L a
  | f + 1, L, a => (∃ i ∈ Region.ready md ops L, e i = false) ∧ ∀ i ∈ Region.ready md ops L, e i = false → qOp P ops C i (wpAnyZ P md ops C e R f (L.setIfInBounds i true)) a
theorem Z_first {e : Nat → Bool} {R : Array Bool → Act → Prop} {i : Nat} {oi : Oper} {v : Value} (hi : ops[i]? = some oi) (hei : e i = false) (hsel : ∀ (j : Nat) (o : Oper) cs b, ops[j]? = some o → o.op ≠ .select cs b) :
    ∀ (f : Nat) (L : Array Bool) (a : Act),
      (∀ j oj, ops[j]? = some oj → j ≠ i → e j = false → L.getD j true = false → (∀ e ∈ oj.after, Region.binds md e = true → e.on ≠ i) → oi.apart ops oj = true) →
      i ∈ Region.ready md ops L → YieldsIn P ops C oi v a →
      wpAnyZ P md ops C e R f (L.setIfInBounds i true) (a.put oi.dst v) → wpAnyZ P md ops C e R (f + 1) L a := by
  intro f
  induction f with
  | zero =>
    intro L a _ hr hy H
    refine ⟨⟨i, hr, hei⟩, fun j hj hej => ?_⟩
    by_cases hji : j = i
    · subst hji; exact hy.qOp hi H
    · have := H.1 j (ready_mono hj hji)
      rw [hej] at this
      cases this
  | succ f ih =>
    intro L a hfree hr hy H
    refine ⟨⟨i, hr, hei⟩, fun j hj hej => ?_⟩
    by_cases hji : j = i
    · subst hji; exact hy.qOp hi H
    · have h1 := H.2 j (ready_mono hj hji) hej
      obtain ⟨hjun, oj, hoj, hall⟩ := mem_ready.1 hj
      have hnot : ∀ e ∈ oj.after, Region.binds md e = true → e.on ≠ i := fun e he hb heq => by
        have h1 := hall e he hb
        rw [heq, unlisted (mem_ready.1 hr).1] at h1
        cases h1
      have h2 := qOp_put hoj (hfree j oj hoj hji hej hjun hnot) (fun cs b => hsel i oi cs b hi) (fun cs b => hsel j oj cs b hoj) hy h1
      have hfree' : ∀ k ok, ops[k]? = some ok → k ≠ i → e k = false → (L.setIfInBounds j true).getD k true = false →
          (∀ e ∈ ok.after, Region.binds md e = true → e.on ≠ i) → oi.apart ops ok = true := fun k ok hk hki hek hun hno => by
        refine hfree k ok hk hki hek ?_ hno
        by_cases hjk : j = k
        · subst hjk; exact hjun
        · rw [getD_set_ne true hjk] at hun; exact hun
      refine qOp_mono (fun a' h3 => ih (L.setIfInBounds j true) a' hfree' (ready_mono hr (Ne.symm hji)) h3.1 ?_) h2
      rw [Array.setIfInBounds_comm _ _ hji]
      exact h3.2
def freeZ (md : Region.Mode) (ops : Array Oper) (e : Nat → Bool) (L : Array Bool) (i : Nat) : Bool :=
  match ops[i]? with
  | none => false
  | some oi => (List.range ops.size).all fun j => j == i || e j || L.getD j true || match ops[j]? with
      | some oj => oj.after.any (fun e => Region.binds md e && e.on == i) || oi.apart ops oj
      | none => true
theorem freeZ_spec {e : Nat → Bool} {i : Nat} {oi : Oper} {L : Array Bool} (hi : ops[i]? = some oi) (h : freeZ md ops e L i = true) (j : Nat) (oj : Oper)
    (hj : ops[j]? = some oj) (hne : j ≠ i) (hej : e j = false) (hun : L.getD j true = false) (hno : ∀ e ∈ oj.after, Region.binds md e = true → e.on ≠ i) :
    oi.apart ops oj = true := by
  simp only [freeZ, hi, List.all_eq_true, List.mem_range] at h
  have h1 := h j (Array.getElem?_eq_some_iff.1 hj).1
  simp only [hj, Bool.or_eq_true, beq_iff_eq, hne, false_or, hun, hej, Bool.false_eq_true] at h1
  rcases h1 with h1 | h1
  · obtain ⟨e, he, hb⟩ := Array.any_eq_true'.1 h1
    simp only [Bool.and_eq_true, beq_iff_eq] at hb
    exact absurd hb.2 (hno e he hb.1)
  · exact h1
def lexZ (md : Region.Mode) (ops : Array Oper) (e : Nat → Bool) : List Nat → Array Bool → Bool
  | [], L => (Region.ready md ops L).all e
  | i :: r, L => (Region.ready md ops L).contains i && !e i && (ops[i]?).isSome && freeZ md ops e L i && lexZ md ops e r (L.setIfInBounds i true)
theorem Z_lex {l : List Oper} {e : Nat → Bool} {R : Array Bool → Act → Prop} (hs : Region.noSelect l.toArray = true) : ∀ (zs : List Nat) (L : Array Bool) (a : Act), lexZ md l.toArray e zs L = true →
    wpQuiet P l.toArray C (R (listAll L zs)) (pickL l zs) a → wpAnyZ P md l.toArray C e R zs.length L a
  | [], L, a, hB, h => ⟨by simpa [lexZ] using hB, h⟩
  | i :: r, L, a, hB, h => by
    simp only [lexZ, Bool.and_eq_true] at hB
    obtain ⟨⟨⟨⟨hr, he⟩, ho⟩, hf⟩, hB'⟩ := hB
    obtain ⟨o, ho⟩ := Option.isSome_iff_exists.1 ho
    have ho' : l[i]? = some o := by simpa using ho
    rw [pickL_cons ho'] at h
    have hst : qOp P l.toArray C i (wpQuiet P l.toArray C (R (listAll L (i :: r))) (pickL l r)) a := by unfold qOp; simp only [ho]; exact h
    obtain ⟨v, hy, hK⟩ := yieldsIn_of_qOp ho hst
    exact Z_first ho (by simpa using he) (Region.noSelect_spec hs) r.length L a (freeZ_spec ho hf) (by simpa using hr) hy (Z_lex hs r _ _ hB' hK)
theorem G_of_Z {e : Nat → Bool} {R : Array Bool → Act → Prop} {k : Nat} (hR : ∀ L a, R L a → ∀ w, C w → wpAnyG P md ops Q C e1 k L a w) :
    ∀ (f : Nat) (L : Array Bool) (a : Act) (w : World), Closed md ops L → (∀ i, e i = false → L.getD i true = false → ∀ j, e j = true → j < ops.size → waitsB md ops ops.size j i = true) → C w →
      wpAnyZ P md ops C e R f L a → wpAnyG P md ops Q C e1 (f + k) L a w
  | 0, L, a, w, _, _, hw, h => by
    rw [Nat.zero_add]
    exact hR L a h.2 w hw
  | f + 1, L, a, w, hcl, hwt, hw, h => by
    obtain ⟨⟨i0, hi0, hei0⟩, h2⟩ := h
    rw [Nat.add_right_comm]
    refine ⟨fun h0 => (by rw [h0] at hi0; cases hi0), fun i hi => ?_⟩
    have hun := (mem_ready.1 hi0).1
    have hlt : i < ops.size := by
      obtain ⟨_, o, ho, _⟩ := mem_ready.1 hi
      exact (Array.getElem?_eq_some_iff.1 ho).1
    cases hei : e i with
    | true =>
      have := ready_not hcl hi (hwt i0 hei0 hun i hei hlt)
      rw [unlisted hun] at this
      cases this
    | false =>
      refine wpOp_of_qOp hw (fun a' w' hw' hK => ⟨fun _ => hw', ?_⟩) (h2 i hi hei)
      refine G_of_Z hR f _ a' w' (hcl.put hi) (fun j hej hunj => hwt j hej ?_) hw' hK
      by_cases hij : i = j
      · subst hij
        exact (mem_ready.1 hi).1
      · rw [getD_set_ne true hij] at hunj
        exact hunj

/-- What is left, in its one order. -/
def lexE (md : Region.Mode) (ops : Array Oper) : List Nat → Array Bool → Bool
  | [], L => (Region.ready md ops L).isEmpty
  | i :: r, L => decide (Region.ready md ops L = [i]) && (match ops[i]? with | some o => o.guard.isNone | none => false) && lexE md ops r (L.setIfInBounds i true)
theorem G_list {l : List Oper} : ∀ (es : List Nat) (L : Array Bool) (a : Act) (w : World), lexE md l.toArray es L = true → (∀ i ∈ es, e1 i = true) → wpList P l.toArray Q (pickL l es) a w → wpAnyG P md l.toArray Q C e1 es.length L a w
  | [], L, a, w, hB, _, h => ⟨by simpa [lexE] using hB, h⟩
  | i :: r, L, a, w, hB, he, h => by
    simp only [lexE, Bool.and_eq_true, decide_eq_true_eq] at hB
    obtain ⟨⟨hr, hg⟩, hB'⟩ := hB
    cases ho : l.toArray[i]? with
    | none => rw [ho] at hg; cases hg
    | some o =>
      rw [ho] at hg
      have ho' : l[i]? = some o := by simpa using ho
      rw [pickL_cons ho'] at h
      refine ⟨fun h0 => (by rw [hr] at h0; cases h0), fun j hj => ?_⟩
      rw [hr, List.mem_singleton] at hj
      subst hj
      unfold wpList at h
      unfold wpOp
      rw [ho]
      have hK : ∀ a w, wpList P l.toArray Q (pickL l r) a w → (e1 j = false → C w) ∧ wpAnyG P md l.toArray Q C e1 r.length (L.setIfInBounds j true) a w := fun a w h =>
        ⟨fun h0 => (by rw [he j (List.mem_cons_self ..)] at h0; cases h0), G_list r _ a w hB' (fun i hi => he i (List.mem_cons_of_mem _ hi)) h⟩
      simp only
      split
      · rename_i hwn
        rw [if_pos hwn] at h
        exact h.imp (Oper.wp_mono hK) id
      · rename_i hwn
        rw [if_neg hwn] at h
        exact hK _ _ h
/-- The first of them only makes memory. -/
def Keeps (P : Program) (C : World → Prop) (o : Oper) (a : Act) : Prop := ∀ w n w', C w → (execOp a.eval o).run P w = .ok n w' → (∃ v, n = .value v) ∧ C w'
theorem G_head {l : List Oper} {i : Nat} {r : List Nat} {o : Oper} {L : Array Bool} {a : Act} {w : World} (ho' : l[i]? = some o) (hB : lexE md l.toArray (i :: r) L = true) (he : ∀ i ∈ r, e1 i = true) (hk : Keeps P C o a) (hw : C w)
    (h : wpList P l.toArray Q (pickL l (i :: r)) a w) : wpAnyG P md l.toArray Q C e1 (i :: r).length L a w := by
  simp only [lexE, Bool.and_eq_true, decide_eq_true_eq] at hB
  obtain ⟨⟨hr, hg⟩, hB'⟩ := hB
  have ho : l.toArray[i]? = some o := by simpa using ho'
  rw [ho] at hg
  rw [pickL_cons ho'] at h
  refine ⟨fun h0 => (by rw [hr] at h0; cases h0), fun j hj => ?_⟩
  rw [hr, List.mem_singleton] at hj
  subst hj
  unfold wpList at h
  unfold wpOp
  rw [ho]
  have hK : ∀ a w, C w → wpList P l.toArray Q (pickL l r) a w → (e1 j = false → C w) ∧ wpAnyG P md l.toArray Q C e1 r.length (L.setIfInBounds j true) a w := fun a w hc h =>
    ⟨fun _ => hc, G_list r _ a w hB' he h⟩
  simp only
  split
  · rename_i hwn
    rw [if_pos hwn] at h
    refine h.imp (fun h => ?_) id
    unfold Oper.wp at h ⊢
    cases hrun : (execOp a.eval o).run P w with
    | halt x w1 =>
      rw [hrun] at h
      cases x <;> exact h
    | ok n w1 =>
      obtain ⟨⟨v, rfl⟩, hc⟩ := hk w n w1 hw hrun
      rw [hrun] at h
      exact hK _ _ hc h
  · rename_i hwn
    rw [if_neg hwn] at h
    exact hK _ _ hw h

def waitAll (md : Region.Mode) (ops : Array Oper) (es zs : List Nat) (L : Array Bool) : Bool := (List.range ops.size).all fun i => es.contains i || L.getD i true || zs.contains i && es.all fun j => waitsB md ops ops.size j i
/-- The conditions on a region's parts: what is read, what is called, and what writes, in this order. -/
def partsB (md : Region.Mode) (ops : Array Oper) (n0 : Nat) (xs zs es : List Nat) (L : Array Bool) : Bool :=
  Region.noSelect ops && lexX md ops (fun i => (es.drop n0).contains i || L.getD i false) xs L && lexZ md ops es.contains zs (listAll L xs) && waitAll md ops es zs (listAll L xs) && lexE md ops es (listAll (listAll L xs) zs)
theorem listAll_size : ∀ (r : List Nat) (L : Array Bool), (listAll L r).size = L.size
  | [], _ => rfl
  | _ :: r, L => by rw [listAll, listAll_size r, Array.size_setIfInBounds]
theorem wpQuiet_mono {R R' : Act → Prop} (h : ∀ a, R a → R' a) : ∀ (l : List Oper) (a : Act), wpQuiet P ops C R l a → wpQuiet P ops C R' l a
  | [], a, hh => h a hh
  | o :: r, a, hh => by
    unfold wpQuiet at hh ⊢
    split
    · rename_i hw
      rw [if_pos hw] at hh
      exact Oper.quiet_mono (fun a => wpQuiet_mono h r a) hh
    · rename_i hw
      rw [if_neg hw] at hh
      exact wpQuiet_mono h r _ hh
theorem wpQuiet_app {R : Act → Prop} : ∀ (l l2 : List Oper) (a : Act), wpQuiet P ops C R (l ++ l2) a → wpQuiet P ops C (fun a' => wpQuiet P ops C R l2 a') l a
  | [], _, _, hh => hh
  | o :: r, l2, a, hh => by
    rw [List.cons_append] at hh
    unfold wpQuiet at hh ⊢
    split
    · rename_i hw
      rw [if_pos hw] at hh
      exact Oper.quiet_mono (fun a => wpQuiet_app r l2 a) hh
    · rename_i hw
      rw [if_neg hw] at hh
      exact wpQuiet_app r l2 _ hh
theorem G_parts {l : List Oper} (n0 : Nat) (xs zs es : List Nat) (L : Array Bool) {a : Act} {w : World} (hsz : L.size = l.length) (hB : partsB md l.toArray n0 xs zs es L = true) (hcl : Closed md l.toArray L) (hC : C w)
    (hQ : ∀ c a d v w, Q (.panic c) (Act.put a d v) w → Q (.panic c) a w)
    (h : wpQuiet P l.toArray C (fun a' => ∀ w', C w' → wpAnyG P md l.toArray Q C (fun i => (es.drop n0).contains i || L.getD i false) es.length (listAll (listAll L xs) zs) a' w') (pickL l (xs ++ zs)) a) :
    wpAnyG P md l.toArray Q C (fun i => (es.drop n0).contains i || L.getD i false) (xs.length + (zs.length + es.length)) L a w := by
  simp only [partsB, Bool.and_eq_true] at hB
  obtain ⟨⟨⟨⟨hs, hX⟩, hZ⟩, hW⟩, _⟩ := hB
  have hcl2 := closed_all L hcl xs hX
  have hwt : ∀ i, es.contains i = false → (listAll L xs).getD i true = false → ∀ j, es.contains j = true → j < l.toArray.size → waitsB md l.toArray l.toArray.size j i = true := by
    intro i hei hun j hej _
    have hlt : i < l.toArray.size := by
      have h1 := listAll_size xs L
      rcases Nat.lt_or_ge i (listAll L xs).size with h' | h'
      · rw [h1, hsz] at h'
        simpa using h'
      · simp [Array.getElem?_eq_none h'] at hun
    have := List.all_eq_true.1 hW i (List.mem_range.2 hlt)
    rw [hei, hun] at this
    simp only [Bool.false_or, Bool.and_eq_true] at this
    exact List.all_eq_true.1 this.2 j (by simpa using hej)
  rw [pickL_app] at h
  refine G_plain hs hQ (k := zs.length + es.length) xs L a hcl hX ?_ w hC
  refine wpQuiet_mono (fun a' h' w' hw' => ?_) _ _ (wpQuiet_app _ _ _ h)
  exact G_of_Z (e := es.contains) (R := fun L' a' => ∀ w', C w' → wpAnyG P md l.toArray Q C (fun i => (es.drop n0).contains i || L.getD i false) es.length L' a' w') (fun _ _ h => h) zs.length _ a' w' hcl2 hwt hw' (Z_lex hs zs _ a' hZ h')

/-- A region in parts: what is read, what is called, and what writes behind it. -/
theorem wp_region_parts {id : Nat} {l : List Oper} (xs zs es : List Nat) {a : Act} {w : World} (hm : P.follows .mixedOrders = true) (hB : partsB .any l.toArray 0 xs zs es (Array.replicate l.length false) = true)
    (hn : xs.length + (zs.length + es.length) = l.length) (hC : C w.drew) (hQ : ∀ c a d v w, Q (.panic c) (Act.put a d v) w → Q (.panic c) a w)
    (h : wpQuiet P l.toArray C (fun a' => ∀ w', C w' → wpList P l.toArray Q (pickL l es) a' w') (pickL l (xs ++ zs)) a) : (Code.region id l.toArray true).wp P Q a w := by
  refine wp_region_any hm ?_
  have hE : lexE .any l.toArray es (listAll (listAll (Array.replicate l.length false) xs) zs) = true := by
    simp only [partsB, Bool.and_eq_true] at hB
    exact hB.2
  have := wpAny_of_G _ _ _ _ (G_parts 0 xs zs es (Array.replicate l.length false) (a := a) (w := w.drew) (by simp) hB (Closed.none _) hC hQ
    (wpQuiet_mono (fun a' h' w' hw' => G_list es _ a' w' hE (fun i hi => by simp [hi]) (h' w' hw')) _ _ h))
  rw [hn] at this
  simpa using this
/-- The same where the first that writes only makes memory. -/
theorem wp_region_parts2 {id : Nat} {l : List Oper} (xs zs : List Nat) (i : Nat) (r : List Nat) {a : Act} {w : World} (hm : P.follows .mixedOrders = true) (hB : partsB .any l.toArray 1 xs zs (i :: r) (Array.replicate l.length false) = true)
    (hn : xs.length + (zs.length + (i :: r).length) = l.length) (hC : C w.drew) (hQ : ∀ c a d v w, Q (.panic c) (Act.put a d v) w → Q (.panic c) a w)
    (h : wpQuiet P l.toArray C (fun a' => (∀ o, l[i]? = some o → Keeps P C o a') ∧ ∀ w', C w' → wpList P l.toArray Q (pickL l (i :: r)) a' w') (pickL l (xs ++ zs)) a) : (Code.region id l.toArray true).wp P Q a w := by
  refine wp_region_any hm ?_
  have hE : lexE .any l.toArray (i :: r) (listAll (listAll (Array.replicate l.length false) xs) zs) = true := by
    simp only [partsB, Bool.and_eq_true] at hB
    exact hB.2
  have hi : ∃ o, l[i]? = some o := by
    simp only [lexE, Bool.and_eq_true] at hE
    cases ho : l.toArray[i]? with
    | none => rw [ho] at hE; exact absurd hE.1.2 (by simp)
    | some o => exact ⟨o, by simpa using ho⟩
  obtain ⟨o, ho⟩ := hi
  have := wpAny_of_G _ _ _ _ (G_parts 1 xs zs (i :: r) (Array.replicate l.length false) (a := a) (w := w.drew) (by simp) hB (Closed.none _) hC hQ
    (wpQuiet_mono (fun a' h' w' hw' => G_head ho hE (fun j hj => by simp [hj]) (h'.1 o ho) hw' (h'.2 w' hw')) _ _ h))
  rw [hn] at this
  simpa using this
/-- The same where a free operation is taken ahead of all. -/
theorem wp_region_parts3 {id : Nat} {l : List Oper} (fi : Nat) (fo : Oper) (v : Value) (xs zs : List Nat) (i : Nat) (r : List Nat) {a : Act} {w : World} (hm : P.follows .mixedOrders = true) (hfo : l[fi]? = some fo)
    (hB : partsB .any l.toArray 1 xs zs (i :: r) ((Array.replicate l.length false).setIfInBounds fi true) = true) (hf : Region.free .any l.toArray (Array.replicate l.length false) fi = true)
    (hr : (Region.ready .any l.toArray (Array.replicate l.length false)).contains fi = true) (hg : fo.guard = none)
    (hn : xs.length + (zs.length + (i :: r).length) + 1 = l.length) (hC : C w.drew) (hQ : ∀ c a d v w, Q (.panic c) (Act.put a d v) w → Q (.panic c) a w) (hy : ∀ w, (execOp a.eval fo).run P w = .ok (.value v) w)
    (h : wpQuiet P l.toArray C (fun a' => (∀ o, l[i]? = some o → Keeps P C o a') ∧ ∀ w', C w' → wpList P l.toArray Q (pickL l (i :: r)) a' w') (pickL l (xs ++ zs)) (a.put fo.dst v)) : (Code.region id l.toArray true).wp P Q a w := by
  refine wp_region_any hm ?_
  have hB' := hB
  simp only [partsB, Bool.and_eq_true] at hB'
  obtain ⟨⟨⟨⟨hs, _⟩, _⟩, _⟩, hE⟩ := hB'
  have hi : ∃ o, l[i]? = some o := by
    simp only [lexE, Bool.and_eq_true] at hE
    cases ho : l.toArray[i]? with
    | none => rw [ho] at hE; exact absurd hE.1.2 (by simp)
    | some o => exact ⟨o, by simpa using ho⟩
  obtain ⟨o, ho⟩ := hi
  have hfi : fi < l.length := (List.getElem?_eq_some_iff.1 hfo).1
  have hfr : fi ∈ Region.ready .any l.toArray (Array.replicate l.length false) := by simpa using hr
  have hfo' : l.toArray[fi]? = some fo := by simpa using hfo
  have h1 := G_parts 1 xs zs (i :: r) ((Array.replicate l.length false).setIfInBounds fi true) (a := a.put fo.dst v) (w := w.drew) (by simp) hB ((Closed.none _).put hfr) hC hQ
    (wpQuiet_mono (fun a' h' w' hw' => G_head ho hE (fun j hj => by simp [hj]) (h'.1 o ho) hw' (h'.2 w' hw')) _ _ h)
  have := wpAny_of_G _ _ _ _ (G_free hfo' hs (by simp [hfi]) (Closed.none _) hf hr (fun c a w => hQ c a _ _ w) hg hy h1)
  rw [hn] at this
  simpa using this
end
end Go.Proofs.Ytphhfjfdanlhiaa
