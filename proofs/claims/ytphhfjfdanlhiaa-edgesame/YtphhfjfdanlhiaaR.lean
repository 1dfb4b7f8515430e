/- A region that draws its order, by what holds between its operations: no order is walked, each operation once. Plain laws, no program. -/
import Derived.WalkKit
import Derived.Deep.RegionHeld3
namespace Go.Proofs.Ytphhfjfdanlhiaa

/-- Each operation waits for earlier ones alone. -/
def risingB (ops : Array Oper) : Bool := (List.range ops.size).all fun i => match ops[i]? with | some o => o.after.all (fun e => decide (e.on < i)) | none => true
theorem risingB_spec {ops : Array Oper} (h : risingB ops = true) {i : Nat} {o : Oper} (ho : ops[i]? = some o) : ∀ e ∈ o.after, e.on < i := by
  intro e he
  have hi : i < ops.size := (Array.getElem?_eq_some_iff.1 ho).1
  unfold risingB at h
  rw [List.all_eq_true] at h
  have := h i (List.mem_range.2 hi)
  rw [ho] at this
  simp only [Array.all_eq_true_iff_forall_mem, decide_eq_true_eq] at this
  exact this e he

section
variable {P : Program} {ops : Array Oper} {Q : Exit → Act → World → Prop} {md : Region.Mode} {S : World → Prop}

/-- Where nothing may come up all have come up. -/
theorem all_listed (hord : risingB ops = true) {l : Array Bool} (hsz : l.size = ops.size) (h : Region.ready md ops l = []) : ∀ i, l.getD i true = true := by
  intro i
  induction i using Nat.strongRecOn with
  | _ i ih =>
    cases hb : l.getD i true with
    | true => rfl
    | false =>
      exfalso
      have hi : i < l.size := by
        rcases Nat.lt_or_ge i l.size with h' | h'
        · exact h'
        · simp [Array.getElem?_eq_none h'] at hb
      have ho : ops[i]? = some (ops[i]'(hsz ▸ hi)) := Array.getElem?_eq_getElem (hsz ▸ hi)
      have hm : i ∈ Region.ready md ops l := by
        refine mem_ready.2 ⟨hb, _, ho, fun e he _ => ?_⟩
        have hlt := risingB_spec hord ho e he
        have := ih e.on hlt
        have hlt' : e.on < l.size := Nat.lt_trans hlt hi
        simp [hlt'] at this ⊢
        exact this
      rw [h] at hm
      cases hm

/-- Take number i first; what it yields, and where, are said. -/
theorem wpAnyH_take2 {i : Nat} {d : Option Tmp} {v : Value} {fuel : Nat} {listed : Array Bool} {a : Act} {w : World} (hd : (ops[i]?).map (fun o => o.dst) = some d)
    (hs : Region.noSelect ops = true) (hf : Region.free md ops listed i = true) (hr : (Region.ready md ops listed).contains i = true)
    (hQ : ∀ c a w, Q (.panic c) (a.put d v) w → Q (.panic c) a w)
    (hy : ∀ o, ops[i]? = some o → Region.wanted o (yielded ops a.tmps) = true ∧ ∀ w, S w → (execOp a.eval o).run P w = .ok (.value v) w) (hS : S w)
    (h : wpAnyH P md ops Q S fuel (listed.setIfInBounds i true) (a.put d v) w) : wpAnyH P md ops Q S (fuel + 1) listed a w := by
  cases ho : ops[i]? with
  | none => rw [ho] at hd; cases hd
  | some o =>
    rw [ho] at hd
    simp only [Option.map_some, Option.some.injEq] at hd
    subst hd
    exact wpAnyH_take ho hs hf hr hQ (.inl (hy o ho)) hS h

/-- What holds between the operations, whichever comes up, holds at the end. -/
theorem wpAnyH_inv {I : Array Bool → Act → World → Prop} (hord : risingB ops = true)
    (hsz : ∀ l a w, I l a w → l.size = ops.size) (hS : ∀ l a w, I l a w → S w)
    (hstep : ∀ l a w, I l a w → ∀ i o, l.getD i true = false → ops[i]? = some o → (∀ e ∈ o.after, Region.binds md e = true → l.getD e.on false = true) → wpOp P ops Q i (fun a' w' => I (l.setIfInBounds i true) a' w') a w)
    (hend : ∀ l a w, I l a w → (∀ i, l.getD i true = true) → Q .normal a w) : ∀ (fuel : Nat) (l : Array Bool) (a : Act) (w : World), l.toList.count false ≤ fuel → I l a w → wpAnyH P md ops Q S fuel l a w
  | 0, l, a, w, hc, hI => by
    have hn : ∀ i, l.getD i true = true := by
      intro i
      cases hb : l.getD i true with
      | true => rfl
      | false =>
        exfalso
        have hi : i < l.size := by
          rcases Nat.lt_or_ge i l.size with h' | h'
          · exact h'
          · simp [Array.getElem?_eq_none h'] at hb
        have : false ∈ l.toList := by
          simp [hi] at hb
          rw [← hb]
          simp
        have := List.count_pos_iff.2 this
        omega
    refine ⟨?_, hend l a w hI hn⟩
    cases hr : Region.ready md ops l with
    | nil => rfl
    | cons j r =>
      exfalso
      have : j ∈ Region.ready md ops l := by rw [hr]; simp
      have := (mem_ready.1 this).1
      rw [hn j] at this
      cases this
  | fuel + 1, l, a, w, hc, hI => by
    refine ⟨fun h => hend l a w hI (all_listed hord (hsz l a w hI) h), fun i hi => ?_⟩
    obtain ⟨h1, o, ho, h2⟩ := mem_ready.1 hi
    refine wpOp_mono (fun a' w' h' => ⟨hS _ _ _ h', wpAnyH_inv hord hsz hS hstep hend fuel _ a' w' ?_ h'⟩) (hstep l a w hI i o h1 ho h2)
    have hlt : i < l.size := by
      rcases Nat.lt_or_ge i l.size with h' | h'
      · exact h'
      · simp [Array.getElem?_eq_none h'] at h1
    have hf : l[i] = false := by simpa [hlt] using h1
    have e : (l.setIfInBounds i true).toList = l.toList.set i true := by simp
    have e2 : l.toList[i]'(by simpa using hlt) = false := by simpa using hf
    have e3 : (true == false) = false := rfl
    rw [e, List.count_set (by simpa using hlt), e2, e3]
    simp only [beq_self_eq_true, if_true, Bool.false_eq_true, if_false]
    omega

/-- The one operation, written out. -/
theorem wpOp_is {i : Nat} {o : Oper} {K : Act → World → Prop} {a : Act} {w : World} (ho : ops[i]? = some o) (hw : Region.wanted o (yielded ops a.tmps) = true) (h : o.wp P a w K Q) : wpOp P ops Q i K a w := by
  unfold wpOp
  simp only [ho, hw, if_true]
  exact .inl h
end
end Go.Proofs.Ytphhfjfdanlhiaa
