/- What a reader's small functions do, by where it is. -/
import Derived.Test.YtejhgifadohbiaaDoorVC
namespace Go.Proofs.YtejhgifadohbiaaDoor
open Go.RowKit Go.Lib

/-- A text's last token is its end. -/
def Tail (r : List Tk) : Prop := ∃ l e, r = l ++ [e] ∧ e.kind = 0 ∧ e.text = []
theorem Tail.cons {r : List Tk} (h : Tail r) : ∃ t r', r = t :: r' := by
  obtain ⟨l, e, rfl, _⟩ := h
  cases l with
  | nil => exact ⟨e, [], rfl⟩
  | cons a l => exact ⟨a, l ++ [e], rfl⟩
theorem Tail.tl {t : Tk} {r : List Tk} (h : Tail (t :: r)) (hn : t.kind ≠ 0 ∨ t.text ≠ []) : Tail r := by
  obtain ⟨l, e, he, h1, h2⟩ := h
  cases l with
  | nil =>
    injection he with he _
    subst he
    exact absurd hn (by rintro (h | h); exact h h1; exact h h2)
  | cons a l =>
    injection he with _ he
    exact ⟨l, e, he, h1, h2⟩
/-- A reader, by where it is. -/
def RdS (B b g cap : Nat) (ts : List Tk) : Sta → World → Prop
  | .inl r, W => ∃ n, ts.drop n = r ∧ Tail r ∧ Rd B b g cap ts n .nilIface W
  | .inr e, W => ∃ n, Rd B b g cap ts n (faV e.1 e.2) W
section
variable {B b g cap : Nat} {ts : List Tk} {w w' : World}
theorem RdS.below {s : Sta} (h : RdS B b g cap ts s w) (q : Below w.heap.size w w') : RdS B b g cap ts s w' := by
  cases s with
  | inl r =>
    obtain ⟨n, h1, h2, h3⟩ := h
    exact ⟨n, h1, h2, h3.below q⟩
  | inr e =>
    obtain ⟨n, h⟩ := h
    exact ⟨n, h.below q⟩
theorem RdS.x {s : Sta} {p : Nat} (h : RdS B b g cap ts s w) (q : BelX p w w') (hp : p ≠ b) (hg : p ≠ g) : RdS B b g cap ts s w' := by
  cases s with
  | inl r =>
    obtain ⟨n, h1, h2, h3⟩ := h
    exact ⟨n, h1, h2, h3.x q hp hg⟩
  | inr e =>
    obtain ⟨n, h⟩ := h
    exact ⟨n, h.x q hp hg⟩
theorem RdS.cell {s : Sta} {p i : Nat} (h : RdS B b g cap ts s w) (hp : p ≠ b) (hg : p ≠ g) (v : Value) : RdS B b g cap ts s (w.setCell ⟨p, i, none⟩ v) := by
  cases s with
  | inl r =>
    obtain ⟨n, h1, h2, h3⟩ := h
    exact ⟨n, h1, h2, h3.cell hp hg v⟩
  | inr e =>
    obtain ⟨n, h⟩ := h
    exact ⟨n, h.cell hp hg v⟩
theorem RdS.old {s : Sta} (h : RdS B b g cap ts s w) : g < w.heap.size ∧ b < w.heap.size := by
  cases s with
  | inl r =>
    obtain ⟨n, _, _, h3⟩ := h
    exact ⟨h3.old, (Array.getElem?_eq_some_iff.1 h3.c).1⟩
  | inr e =>
    obtain ⟨n, h⟩ := h
    exact ⟨h.old, (Array.getElem?_eq_some_iff.1 h.c).1⟩
/-- There is a token. -/
theorem RdS.ex {s : Sta} (h : RdS B b g cap ts s w) : ∃ n t ev, ts[n]? = some t ∧ Rd B b g cap ts n ev w ∧ ((∃ r, s = .inl (t :: r) ∧ ts.drop (n + 1) = r ∧ Tail (t :: r) ∧ ev = .nilIface) ∨ ∃ e, s = .inr e ∧ ev = faV e.1 e.2) := by
  cases s with
  | inl r =>
    obtain ⟨n, h1, h2, h3⟩ := h
    obtain ⟨t, r', rfl⟩ := h2.cons
    have e1 : ts[n]? = some t := by
      have := congrArg List.head? h1
      rw [List.head?_drop] at this
      exact this
    refine ⟨n, t, _, e1, h3, .inl ⟨r', rfl, ?_, h2, rfl⟩⟩
    have := congrArg (List.drop 1) h1
    rw [List.drop_drop] at this
    simpa [Nat.add_comm] using this
  | inr e =>
    obtain ⟨n, h⟩ := h
    exact ⟨n, ts[n]'h.l, _, List.getElem?_eq_getElem h.l, h, .inr ⟨e, rfl, rfl⟩⟩
end
def hasB (x : Bs) : Sta → Bool
  | .inl (t :: _) => decide (t.text = x)
  | _ => false
def holdsB (k : Nat) : Sta → Bool
  | .inl (t :: _) => decide (t.kind = k)
  | _ => false
def failS (no : Nat) : Sta → Sta
  | .inl (t :: _) => .inr (no, t.pl)
  | s => s
theorem str_eq (x y : Bs) : (⟨x.toArray⟩ : ByteArray) = ⟨y.toArray⟩ ↔ x = y := by
  constructor
  · intro h
    injection h with h
    injection h
  · rintro rfl
    rfl
theorem tkf0 (k v a b p : Nat) (x : ByteArray) (W : World) : Sem.run Tryd.prog (Instr.field 61 (.agg #[.int .i64 k, .string x, .int .i64 v, .int .u32 a, .int .i64 b, .int .i64 p]) 0) W = .ok (.int .i64 k) W := by kernel_rfl
theorem tkf1 (k v a b p : Nat) (x : ByteArray) (W : World) : Sem.run Tryd.prog (Instr.field 61 (.agg #[.int .i64 k, .string x, .int .i64 v, .int .u32 a, .int .i64 b, .int .i64 p]) 1) W = .ok (.string x) W := by kernel_rfl
theorem tkf2 (k v a b p : Nat) (x : ByteArray) (W : World) : Sem.run Tryd.prog (Instr.field 61 (.agg #[.int .i64 k, .string x, .int .i64 v, .int .u32 a, .int .i64 b, .int .i64 p]) 2) W = .ok (.int .i64 v) W := by kernel_rfl
theorem tkf3 (k v a b p : Nat) (x : ByteArray) (W : World) : Sem.run Tryd.prog (Instr.field 61 (.agg #[.int .i64 k, .string x, .int .i64 v, .int .u32 a, .int .i64 b, .int .i64 p]) 3) W = .ok (.agg #[.int .u32 a, .int .i64 b]) W := by kernel_rfl
theorem tkf4 (k v a b p : Nat) (x : ByteArray) (W : World) : Sem.run Tryd.prog (Instr.field 61 (.agg #[.int .i64 k, .string x, .int .i64 v, .int .u32 a, .int .i64 b, .int .i64 p]) 4) W = .ok (.int .i64 p) W := by kernel_rfl
section
variable {B b g cap : Nat} {ts : List Tk} {w : World} {s : Sta}
set_option maxHeartbeats 2000000 in
set_option maxRecDepth 20000 in
theorem has_any (h : RdS B b g cap ts s w) (x : Bs) :
    Calls Tryd.prog 31 #[.pointer (some ⟨b, 0, none⟩), .string ⟨x.toArray⟩] w fun e w' => e = .returned (.bool (hasB x s)) ∧ Below w.heap.size w w' := by
  obtain ⟨n, t, ev, ht, hr, hs⟩ := h.ex
  have hh := here_any hr t ht
  obtain ⟨C0, C1, C2⟩ := cells_three hr.c
  unfold tkV at hh
  obtain ⟨X, hX⟩ : ∃ X : ByteArray, X = ⟨x.toArray⟩ := ⟨_, rfl⟩
  obtain ⟨T, hT⟩ : ∃ X : ByteArray, X = ⟨t.text.toArray⟩ := ⟨_, rfl⟩
  have HXT : Hid ((T.toList == X.toList) = decide (t.text = x)) := by
    show _ = _
    rw [hX, hT, ByteArray.toList_eq, ByteArray.toList_eq]
    show (t.text == x) = _
    by_cases h9 : t.text = x
    · rw [decide_eq_true h9, h9]
      simp
    · rw [decide_eq_false h9]
      exact beq_eq_false_iff_ne.2 h9
  rw [← hT] at hh
  rw [← hX]
  clear hX hT hr ht
  rcases hs with ⟨r, hs, _, _, rfl⟩ | ⟨e, hs, rfl⟩
  · have HS : Hid (hasB x s = (T.toList == X.toList)) := by
      show hasB x s = _
      rw [hs, HXT.out]
      rfl
    clear hs HXT
    go_enter Tryd.func31, Tryd.ntmps31
    go_wp2_with fail
    refine hh.mono ?_
    rintro e U ⟨rfl, qU⟩
    clear hh C0 C1 C2
    have f1 := tkf1 t.kind t.val t.a t.b t.pl T
    go_wp2_with fail
    go_ret
    exact ⟨by rw [HS.out]; rfl, qU⟩
  · unfold faV at C2
    have HS : Hid (hasB x s = false) := by show _ = _; rw [hs]; rfl
    clear hs HXT hh
    go_enter Tryd.func31, Tryd.ntmps31
    go_wp2_with fail
    go_ret
    exact ⟨by rw [HS.out]; rfl, Below.refl _ _⟩
set_option maxHeartbeats 2000000 in
set_option maxRecDepth 20000 in
theorem holds_any (h : RdS B b g cap ts s w) (k : Nat) :
    Calls Tryd.prog 20 #[.pointer (some ⟨b, 0, none⟩), .int .i64 k] w fun e w' => e = .returned (.bool (holdsB k s)) ∧ Below w.heap.size w w' := by
  obtain ⟨n, t, ev, ht, hr, hs⟩ := h.ex
  have hh := here_any hr t ht
  obtain ⟨C0, C1, C2⟩ := cells_three hr.c
  unfold tkV at hh
  obtain ⟨X, hX⟩ : ∃ X : ByteArray, X = ⟨t.text.toArray⟩ := ⟨_, rfl⟩
  rw [← hX] at hh
  clear hX hr ht
  rcases hs with ⟨r, hs, _, _, rfl⟩ | ⟨e, hs, rfl⟩
  · have HS : Hid (holdsB k s = ((t.kind : Int) == k)) := by
      show holdsB k s = _
      rw [hs]
      show decide (t.kind = k) = _
      by_cases hk : t.kind = k
      · rw [decide_eq_true hk, hk]
        simp
      · rw [decide_eq_false hk]
        symm
        rw [beq_eq_false_iff_ne]
        omega
    clear hs
    go_enter Tryd.func20, Tryd.ntmps20
    go_wp2_with fail
    refine hh.mono ?_
    rintro e U ⟨rfl, qU⟩
    clear hh C0 C1 C2
    have f1 := tkf0 t.kind t.val t.a t.b t.pl X
    go_wp2_with fail
    go_ret
    exact ⟨by rw [HS.out]; rfl, qU⟩
  · unfold faV at C2
    have HS : Hid (holdsB k s = false) := by show _ = _; rw [hs]; rfl
    clear hs hh
    go_enter Tryd.func20, Tryd.ntmps20
    go_wp2_with fail
    go_ret
    exact ⟨by rw [HS.out]; rfl, Below.refl _ _⟩
set_option maxHeartbeats 2000000 in
set_option maxRecDepth 20000 in
theorem fail_any (h : RdS B b g cap ts s w) (no : Nat) :
    Calls Tryd.prog 21 #[.pointer (some ⟨b, 0, none⟩), .int .i64 no] w fun e w' => e = .returned (.tuple #[]) ∧ RdS B b g cap ts (failS no s) w' ∧ BelX b w w' := by
  obtain ⟨n, t, ev, ht, hr, hs⟩ := h.ex
  have hh := here_any hr t ht
  obtain ⟨C0, C1, C2⟩ := cells_three hr.c
  unfold tkV at hh
  obtain ⟨X, hX⟩ : ∃ X : ByteArray, X = ⟨t.text.toArray⟩ := ⟨_, rfl⟩
  rw [← hX] at hh
  clear hX ht
  rcases hs with ⟨r, hs, _, _, rfl⟩ | ⟨e, hs, rfl⟩
  · have HS : Hid (failS no s = .inr (no, t.pl) ∧ Rd B b g cap ts n .nilIface w) := ⟨by rw [hs]; rfl, hr⟩
    have hwr := wrap_any no t.pl
    unfold faV at hwr
    clear hs hr
    go_enter Tryd.func21, Tryd.ntmps21
    go_wp2_with fail
    refine hh.mono ?_
    rintro e U ⟨rfl, qU⟩
    have hU := HS.out.2.below qU
    obtain ⟨D0, D1, D2⟩ := cells_three hU.c
    have F2 := free_at hU.c 2
    have HU : Hid (Rd B b g cap ts n .nilIface U) := hU
    clear hh C0 C1 C2 hU
    have f1 := tkf4 t.kind t.val t.a t.b t.pl X
    go_wp2_with fail
    refine (hwr _).mono ?_
    rintro e Y ⟨rfl, rfl⟩
    clear hwr
    go_wp2_with fail
    go_returns
    refine ⟨rfl, ?_, (BelX.of b qU).set (.inl rfl) _⟩
    rw [HS.out.1]
    exact ⟨n, HU.out.err _⟩
  · have HS : Hid (failS no s = s) := by show _ = _; rw [hs]; rfl
    unfold faV at C2
    clear hs hh hr
    go_enter Tryd.func21, Tryd.ntmps21
    go_wp2_with fail
    go_returns
    exact ⟨rfl, by rw [HS.out]; exact h, BelX.refl _ _⟩
/-- The token that is next is taken. -/
theorem RdS.take (h : RdS B b g cap ts s w) {t : Tk} {r : List Tk} (hs : s = .inl (t :: r)) (hn : t.kind ≠ 0 ∨ t.text ≠ []) :
    Calls Tryd.prog 50 #[.pointer (some ⟨b, 0, none⟩)] w fun e w' => e = .returned (tkV t) ∧ RdS B b g cap ts (.inl r) w' ∧ BelX b w w' := by
  obtain ⟨n, t', ev, ht, hr, hh⟩ := h.ex
  rcases hh with ⟨r', hs', hd, htl, rfl⟩ | ⟨e, hs', _⟩
  · rw [hs] at hs'
    injection hs' with hs'
    injection hs' with h1 h2
    subst h1
    subst h2
    have hl : n + 1 < ts.length := by
      rcases Nat.lt_or_ge (n + 1) ts.length with hl | hl
      · exact hl
      · obtain ⟨x, y, hxy⟩ := (htl.tl hn).cons
        rw [List.drop_eq_nil_of_le hl] at hd
        rw [← hd] at hxy
        cases hxy
    refine (taken_any hr t ht hl).mono ?_
    rintro e w' ⟨he, h1, h2⟩
    exact ⟨he, ⟨n + 1, hd, htl.tl hn, h1⟩, h2⟩
  · rw [hs] at hs'
    cases hs'
theorem has_some {x : Bs} (h : hasB x s = true) : ∃ t r, s = .inl (t :: r) ∧ t.text = x := by
  cases s with
  | inr e => cases h
  | inl r =>
    cases r with
    | nil => cases h
    | cons t r => exact ⟨t, r, rfl, of_decide_eq_true h⟩
theorem holds_some {k : Nat} (h : holdsB k s = true) : ∃ t r, s = .inl (t :: r) ∧ t.kind = k := by
  cases s with
  | inr e => cases h
  | inl r =>
    cases r with
    | nil => cases h
    | cons t r => exact ⟨t, r, rfl, of_decide_eq_true h⟩
theorem took_yes {x : Bs} {t : Tk} {r : List Tk} (hs : s = .inl (t :: r)) (ht : t.text = x) : stepS (optB x) s = (.inl r, some true) := by
  subst hs
  exact step_ok (by unfold optB; dsimp only; rw [if_pos ht])
theorem took_no {x : Bs} (h : hasB x s = false) : (stepS (optB x) s).1 = s ∧ (stepS (optB x) s).2.getD false = false := by
  cases s with
  | inr e => exact ⟨rfl, rfl⟩
  | inl r =>
    cases r with
    | nil => exact ⟨rfl, rfl⟩
    | cons t r =>
      rw [step_ok (r' := t :: r) (a := false) (by unfold optB; dsimp only; rw [if_neg (of_decide_eq_false h)])]
      exact ⟨rfl, rfl⟩
set_option maxHeartbeats 2000000 in
set_option maxRecDepth 20000 in
theorem took_any (h : RdS B b g cap ts s w) (x : Bs) (hx : x ≠ []) :
    Calls Tryd.prog 49 #[.pointer (some ⟨b, 0, none⟩), .string ⟨x.toArray⟩] w fun e w' => e = .returned (.bool ((stepS (optB x) s).2.getD false)) ∧ RdS B b g cap ts (stepS (optB x) s).1 w' ∧ BelX b w w' := by
  have h1 := has_any h x
  obtain ⟨X, hX⟩ : ∃ X : ByteArray, X = ⟨x.toArray⟩ := ⟨_, rfl⟩
  rw [← hX] at h1 ⊢
  clear hX
  cases hb : hasB x s with
  | false =>
    have HN : Hid _ := took_no hb
    rw [hb] at h1
    go_enter Tryd.func49, Tryd.ntmps49
    go_wp2_with fail
    refine h1.mono ?_
    rintro e U ⟨rfl, qU⟩
    clear h1 hb
    go_wp2_with fail
    go_ret
    exact ⟨by rw [HN.out.2]; rfl, by rw [HN.out.1]; exact h.below qU, BelX.of b qU⟩
  | true =>
    obtain ⟨t, r, hs, htx⟩ := has_some hb
    have HN : Hid _ := took_yes hs htx
    have HT : Hid (∀ U, RdS B b g cap ts s U → Calls Tryd.prog 50 #[.pointer (some ⟨b, 0, none⟩)] U fun e w' => e = .returned (tkV t) ∧ RdS B b g cap ts (.inl r) w' ∧ BelX b U w') := fun U hU => hU.take hs (.inr (by rw [htx]; exact hx))
    rw [hb] at h1
    clear hb hs
    go_enter Tryd.func49, Tryd.ntmps49
    go_wp2_with fail
    refine h1.mono ?_
    rintro e U ⟨rfl, qU⟩
    clear h1
    have h2 := HT.out U (h.below qU)
    go_wp2_with fail
    refine h2.mono ?_
    rintro e Y ⟨rfl, hY, qY⟩
    clear h2
    go_wp2_with fail
    go_ret
    exact ⟨by rw [HN.out]; rfl, by rw [HN.out]; exact hY, (BelX.of b qU).trans qY⟩
end
end Go.Proofs.YtejhgifadohbiaaDoor
