/- What Number and Place say of an error at a place. What Place says of an error at a place. The law's own examples. Numbers and places of no error; numbers in base 10, as the law writes them. -/
import Derived.Test.YtejhgifadohbiaaGreatDoorKO
import Derived.Test.YtejhgifadohbiaaGreatDoorVY
namespace Go.Proofs.YtejhgifadohbiaaGreatDoor
open Go.RowKit Go.Extern.Stop Go.Stop Go.Extern

set_option maxHeartbeats 4000000 in
set_option maxRecDepth 20000 in
theorem as_unw (n m : Int) (t : Addr) (old : Value) (w : World) (hg : w.cell? ⟨0, 0, none⟩ = some (.iface 139 (.agg #[.pointer (some ⟨5, 34, none⟩)]))) (ht0 : w.cell? t = some old) (hf0 : w.frozen? t = false) :
    Calls Tryz.prog 28 #[.iface 88 (.agg #[.int .i64 n, .int .i64 m]), .iface 86 (.pointer (some t))] w fun ev w' => ev = .returned (.bool true) ∧ w' = (((((w.alloc (.cells #[.pointer (some t)] 86)).alloc (.cells #[.pointer (some ⟨5, 86, none⟩), .pointer (some ⟨w.heap.size, 0, none⟩), .int .u64 150] 116)).alloc (.cells #[.pointer (some ⟨5, 86, none⟩), .pointer (some ⟨w.heap.size, 0, none⟩), .int .u64 150] 116)).alloc (.cells #[.int .i64 n, .int .i64 m] 88)).alloc (.cells #[.int .i64 n] 39)).setCell t (.int .i64 n) := by
  have h6 := @run_callFunc_extern Tryz.prog 46 _ (fun args => ReflectliteValue.unpack (args.getD 0 (.tuple #[]))) Tryz.func46 (by kernel_rfl) (by kernel_rfl) (by kernel_rfl) (by kernel_rfl)
  have h7 := @run_callFunc_extern Tryz.prog 47 _ (ReflectliteValue.methodAny (ReflectliteValue.valueError "reflectlite.Value.Type" 0) (fun t _ _ _ => ReflectliteType.toType t)) Tryz.func47 (by kernel_rfl) (by kernel_rfl) (by kernel_rfl) (by kernel_rfl)
  have h8 := @run_callFunc_extern Tryz.prog 48 _ (ReflectliteValue.method (ReflectliteValue.valueError "reflectlite.Value.IsNil" 0) ReflectliteValue.isNil) Tryz.func48 (by kernel_rfl) (by kernel_rfl) (by kernel_rfl) (by kernel_rfl)
  have h27 := @run_callFunc_extern Tryz.prog 116 _ (ReflectliteType.abiMethod fun t => do pure (.int .u8 (← Rtype.kind t))) Tryz.func116 (by kernel_rfl) (by kernel_rfl) (by kernel_rfl) (by kernel_rfl)
  have h37 := @run_callFunc_extern Tryz.prog 129 _ (ReflectliteType.method ReflectliteType.elem) Tryz.func129 (by kernel_rfl) (by kernel_rfl) (by kernel_rfl) (by kernel_rfl)
  have h38 := @run_callFunc_extern Tryz.prog 130 _ (ReflectliteType.relation "Implements" ReflectliteType.implements_) Tryz.func130 (by kernel_rfl) (by kernel_rfl) (by kernel_rfl) (by kernel_rfl)
  have h10 := @run_callFunc_extern Tryz.prog 67 _ ReflectliteType.typeOf Tryz.func67 (by kernel_rfl) (by kernel_rfl) (by kernel_rfl) (by kernel_rfl)
  have h35 := @run_callFunc_extern Tryz.prog 127 _ (ReflectliteType.relation "AssignableTo" ReflectliteType.assignableTo) Tryz.func127 (by kernel_rfl) (by kernel_rfl) (by kernel_rfl) (by kernel_rfl)
  have h11 := @run_callFunc_extern Tryz.prog 68 _ (ReflectliteValue.method (ReflectliteValue.valueError "reflectlite.Value.Elem" 0) ReflectliteValue.elem) Tryz.func68 (by kernel_rfl) (by kernel_rfl) (by kernel_rfl) (by kernel_rfl)
  have h12 := @run_callFunc_extern Tryz.prog 69 _ ReflectliteValue.set Tryz.func69 (by kernel_rfl) (by kernel_rfl) (by kernel_rfl) (by kernel_rfl)
  have tO := typeOfE
  have tF := typeOfF
  have aF := assignableFE
  have nA := noAsF
  have iU := isUnF
  have mU := methodUn
  have cU := unwrap_any n m
  have mA := methodAssignableTo
  have a25 := assignableE
  have v25 := valueOfE
  have f6 := valueOfP
  have f7 := typeP
  have mK := methodKind
  have mE := methodElem
  have mI := methodImplements
  have k27 := kindP
  have k25 := kindE
  have e27 := elemP
  have i25 := implementsE
  have n8 := isNilP ⟨w.heap.size, 0, none⟩ t ((w.alloc (.cells #[.pointer (some t)] 86)).alloc (.cells #[.pointer (some ⟨5, 86, none⟩), .pointer (some ⟨w.heap.size, 0, none⟩), .int .u64 150] 116)) (by simp)
  have hlt : 0 < w.heap.size := by
    rcases Nat.eq_zero_or_pos w.heap.size with h0 | h
    · simp [World.cell?, h0] at hg
    · exact h
  have hg2 : ((w.alloc (.cells #[.pointer (some t)] 86)).alloc (.cells #[.pointer (some ⟨5, 86, none⟩), .pointer (some ⟨w.heap.size, 0, none⟩), .int .u64 150] 116)).cell? ⟨0, 0, none⟩ = some (.iface 139 (.agg #[.pointer (some ⟨5, 34, none⟩)])) := by
    rw [World.cell?_alloc_lt _ _ ⟨0, 0, none⟩ (by simp), World.cell?_alloc_lt _ _ ⟨0, 0, none⟩ hlt]; exact hg
  have htl : t.block < w.heap.size := by
    rcases Nat.lt_or_ge t.block w.heap.size with h | h
    · exact h
    · simp [World.cell?, Array.getElem?_eq_none h] at ht0
  have el := elemVP ⟨w.heap.size, 0, none⟩ t ((((w.alloc (.cells #[.pointer (some t)] 86)).alloc (.cells #[.pointer (some ⟨5, 86, none⟩), .pointer (some ⟨w.heap.size, 0, none⟩), .int .u64 150] 116)).alloc (.cells #[.pointer (some ⟨5, 86, none⟩), .pointer (some ⟨w.heap.size, 0, none⟩), .int .u64 150] 116)).alloc (.cells #[.int .i64 n, .int .i64 m] 88)) (by rw [World.cell?_alloc_lt _ _ ⟨w.heap.size, 0, none⟩ (by simp; omega), World.cell?_alloc_lt _ _ ⟨w.heap.size, 0, none⟩ (by simp; omega)]; simp)
  have st := setE t ⟨w.heap.size + 1 + 1 + 1 + 1, 0, none⟩ n old (((((w.alloc (.cells #[.pointer (some t)] 86)).alloc (.cells #[.pointer (some ⟨5, 86, none⟩), .pointer (some ⟨w.heap.size, 0, none⟩), .int .u64 150] 116)).alloc (.cells #[.pointer (some ⟨5, 86, none⟩), .pointer (some ⟨w.heap.size, 0, none⟩), .int .u64 150] 116)).alloc (.cells #[.int .i64 n, .int .i64 m] 88)).alloc (.cells #[.int .i64 n] 39))
    (by rw [World.cell?_alloc_at _ _ _ _ (by simp)]; rfl)
    (by rw [World.cell?_alloc_lt _ _ t (by simp; omega), World.cell?_alloc_lt _ _ t (by simp; omega), World.cell?_alloc_lt _ _ t (by simp; omega), World.cell?_alloc_lt _ _ t (by simp; omega), World.cell?_alloc_lt _ _ t htl]; exact ht0)
    (by rw [World.frozen?_alloc_old _ _ t (by simp; omega), World.frozen?_alloc_old _ _ t (by simp; omega), World.frozen?_alloc_old _ _ t (by simp; omega), World.frozen?_alloc_old _ _ t (by simp; omega), World.frozen?_alloc_old _ _ t (Nat.ne_of_lt htl)]; exact hf0)
  go_enter Tryz.func28, Tryz.ntmps28
  go_wp2
  refine wp_loop_rounds 2 ?_
  rw [rounds_succ]
  go_wp2_with (first | (go_at_call 122; refine (cU _).mono ?_; rintro e w' ⟨rfl, rfl⟩))
  rw [rounds_succ]
  go_wp2
  go_ret
  exact ⟨rfl, rfl⟩

set_option maxHeartbeats 400000 in
set_option maxRecDepth 20000 in
theorem number_fault (n m : Int) (w : World) (hg : Laid w) :
    Calls Tryz.prog 12 #[.iface 88 (.agg #[.int .i64 n, .int .i64 m])] w fun e w' => e = .returned (.int .i64 n) ∧ Below w.heap.size w w' := by
  have hlt : 0 < w.heap.size := by
    rcases Nat.eq_zero_or_pos w.heap.size with h0 | h
    · simp [Laid, World.cell?, h0] at hg
    · exact h
  have hgA : (w.alloc (.cells #[.int .i64 0] 39)).cell? ⟨0, 0, none⟩ = some (.iface 139 (.agg #[.pointer (some ⟨5, 34, none⟩)])) := by
    rw [World.cell?_alloc_lt _ _ ⟨0, 0, none⟩ hlt]; exact hg
  have htA : (w.alloc (.cells #[.int .i64 0] 39)).cell? ⟨w.heap.size, 0, none⟩ = some (.int .i64 0) := by simp
  have hfA : (w.alloc (.cells #[.int .i64 0] 39)).frozen? ⟨w.heap.size, 0, none⟩ = false := by simp
  go_enter Tryz.func12, Tryz.ntmps12
  go_wp2_with (first | (go_at_call 28; refine (as_unw n m _ (.int .i64 0) _ hgA htA hfA).mono ?_; rintro e w' ⟨rfl, rfl⟩))
  go_ret
  refine ⟨rfl, ?_⟩
  go_grown
end Go.Proofs.YtejhgifadohbiaaGreatDoor
namespace Go.Proofs.YtejhgifadohbiaaGreatDoor
open Go.RowKit Go.Extern.Stop Go.Stop Go.Extern

set_option maxHeartbeats 4000000 in
set_option maxRecDepth 20000 in
theorem as_fault (n m : Int) (t : Addr) (o1 o2 : Value) (w : World) (hg : w.cell? ⟨0, 0, none⟩ = some (.iface 139 (.agg #[.pointer (some ⟨5, 34, none⟩)]))) (ht0 : w.cell? t = some o1) (hf0 : w.frozen? t = false) (ht1 : w.cell? (t.add 1) = some o2) (hf1 : w.frozen? (t.add 1) = false) :
    Calls Tryz.prog 28 #[.iface 88 (.agg #[.int .i64 n, .int .i64 m]), .iface 89 (.pointer (some t))] w fun ev w' => ev = .returned (.bool true) ∧ w' = (((((w.alloc (.cells #[.pointer (some t)] 89)).alloc (.cells #[.pointer (some ⟨5, 89, none⟩), .pointer (some ⟨w.heap.size, 0, none⟩), .int .u64 150] 116)).alloc (.cells #[.pointer (some ⟨5, 89, none⟩), .pointer (some ⟨w.heap.size, 0, none⟩), .int .u64 150] 116)).alloc (.cells #[.int .i64 n, .int .i64 m] 88)).setCell t (.int .i64 n)).setCell (t.add 1) (.int .i64 m) := by
  have h6 := @run_callFunc_extern Tryz.prog 46 _ (fun args => ReflectliteValue.unpack (args.getD 0 (.tuple #[]))) Tryz.func46 (by kernel_rfl) (by kernel_rfl) (by kernel_rfl) (by kernel_rfl)
  have h7 := @run_callFunc_extern Tryz.prog 47 _ (ReflectliteValue.methodAny (ReflectliteValue.valueError "reflectlite.Value.Type" 0) (fun t _ _ _ => ReflectliteType.toType t)) Tryz.func47 (by kernel_rfl) (by kernel_rfl) (by kernel_rfl) (by kernel_rfl)
  have h8 := @run_callFunc_extern Tryz.prog 48 _ (ReflectliteValue.method (ReflectliteValue.valueError "reflectlite.Value.IsNil" 0) ReflectliteValue.isNil) Tryz.func48 (by kernel_rfl) (by kernel_rfl) (by kernel_rfl) (by kernel_rfl)
  have h27 := @run_callFunc_extern Tryz.prog 116 _ (ReflectliteType.abiMethod fun t => do pure (.int .u8 (← Rtype.kind t))) Tryz.func116 (by kernel_rfl) (by kernel_rfl) (by kernel_rfl) (by kernel_rfl)
  have h37 := @run_callFunc_extern Tryz.prog 129 _ (ReflectliteType.method ReflectliteType.elem) Tryz.func129 (by kernel_rfl) (by kernel_rfl) (by kernel_rfl) (by kernel_rfl)
  have h38 := @run_callFunc_extern Tryz.prog 130 _ (ReflectliteType.relation "Implements" ReflectliteType.implements_) Tryz.func130 (by kernel_rfl) (by kernel_rfl) (by kernel_rfl) (by kernel_rfl)
  have h10 := @run_callFunc_extern Tryz.prog 67 _ ReflectliteType.typeOf Tryz.func67 (by kernel_rfl) (by kernel_rfl) (by kernel_rfl) (by kernel_rfl)
  have h35 := @run_callFunc_extern Tryz.prog 127 _ (ReflectliteType.relation "AssignableTo" ReflectliteType.assignableTo) Tryz.func127 (by kernel_rfl) (by kernel_rfl) (by kernel_rfl) (by kernel_rfl)
  have h11 := @run_callFunc_extern Tryz.prog 68 _ (ReflectliteValue.method (ReflectliteValue.valueError "reflectlite.Value.Elem" 0) ReflectliteValue.elem) Tryz.func68 (by kernel_rfl) (by kernel_rfl) (by kernel_rfl) (by kernel_rfl)
  have h12 := @run_callFunc_extern Tryz.prog 69 _ ReflectliteValue.set Tryz.func69 (by kernel_rfl) (by kernel_rfl) (by kernel_rfl) (by kernel_rfl)
  have tO := typeOfF
  have mA := methodAssignableTo
  have a25 := assignableF
  have v25 := valueOfF
  have f6 := valueOfQ
  have f7 := typeQ
  have mK := methodKind
  have mE := methodElem
  have mI := methodImplements
  have k27 := kindQ
  have k25 := kindF
  have e27 := elemQ
  have i25 := implementsF
  have n8 := isNilQ ⟨w.heap.size, 0, none⟩ t ((w.alloc (.cells #[.pointer (some t)] 89)).alloc (.cells #[.pointer (some ⟨5, 89, none⟩), .pointer (some ⟨w.heap.size, 0, none⟩), .int .u64 150] 116)) (by simp)
  have hlt : 0 < w.heap.size := by
    rcases Nat.eq_zero_or_pos w.heap.size with h0 | h
    · simp [World.cell?, h0] at hg
    · exact h
  have hg2 : ((w.alloc (.cells #[.pointer (some t)] 89)).alloc (.cells #[.pointer (some ⟨5, 89, none⟩), .pointer (some ⟨w.heap.size, 0, none⟩), .int .u64 150] 116)).cell? ⟨0, 0, none⟩ = some (.iface 139 (.agg #[.pointer (some ⟨5, 34, none⟩)])) := by
    rw [World.cell?_alloc_lt _ _ ⟨0, 0, none⟩ (by simp), World.cell?_alloc_lt _ _ ⟨0, 0, none⟩ hlt]; exact hg
  have htl : t.block < w.heap.size := by
    rcases Nat.lt_or_ge t.block w.heap.size with h | h
    · exact h
    · simp [World.cell?, Array.getElem?_eq_none h] at ht0
  have el := elemVQ ⟨w.heap.size, 0, none⟩ t (((w.alloc (.cells #[.pointer (some t)] 89)).alloc (.cells #[.pointer (some ⟨5, 89, none⟩), .pointer (some ⟨w.heap.size, 0, none⟩), .int .u64 150] 116)).alloc (.cells #[.pointer (some ⟨5, 89, none⟩), .pointer (some ⟨w.heap.size, 0, none⟩), .int .u64 150] 116)) (by rw [World.cell?_alloc_lt _ _ ⟨w.heap.size, 0, none⟩ (by simp; omega)]; simp)
  have htl' : (t.add 1).block < w.heap.size := htl
  have hne : t.add 1 ≠ t := by intro h; have := congrArg Addr.off h; simp [Addr.add] at this
  have st := setF t ⟨w.heap.size + 1 + 1 + 1, 0, none⟩ n m o1 o2 ((((w.alloc (.cells #[.pointer (some t)] 89)).alloc (.cells #[.pointer (some ⟨5, 89, none⟩), .pointer (some ⟨w.heap.size, 0, none⟩), .int .u64 150] 116)).alloc (.cells #[.pointer (some ⟨5, 89, none⟩), .pointer (some ⟨w.heap.size, 0, none⟩), .int .u64 150] 116)).alloc (.cells #[.int .i64 n, .int .i64 m] 88))
    (by rw [World.cell?_alloc_at _ _ _ _ (by simp)]; rfl)
    (by rw [show (⟨w.heap.size + 1 + 1 + 1, 0, none⟩ : Addr).add 1 = ⟨w.heap.size + 1 + 1 + 1, 1, none⟩ by simp [Addr.add], World.cell?_alloc_at _ _ _ _ (by simp)]; rfl)
    (by rw [World.cell?_alloc_lt _ _ t (by simp; omega), World.cell?_alloc_lt _ _ t (by simp; omega), World.cell?_alloc_lt _ _ t (by simp; omega), World.cell?_alloc_lt _ _ t htl]; exact ht0)
    (by rw [World.cell?_setCell_other _ _ _ _ (Ne.symm hne), World.cell?_alloc_lt _ _ (t.add 1) (by simp; omega), World.cell?_alloc_lt _ _ (t.add 1) (by simp; omega), World.cell?_alloc_lt _ _ (t.add 1) (by simp; omega), World.cell?_alloc_lt _ _ (t.add 1) htl']; exact ht1)
    (by rw [World.frozen?_alloc_old _ _ t (by simp; omega), World.frozen?_alloc_old _ _ t (by simp; omega), World.frozen?_alloc_old _ _ t (by simp; omega), World.frozen?_alloc_old _ _ t (Nat.ne_of_lt htl)]; exact hf0)
    (by rw [World.frozen?_setCell, World.frozen?_alloc_old _ _ (t.add 1) (by simp; omega), World.frozen?_alloc_old _ _ (t.add 1) (by simp; omega), World.frozen?_alloc_old _ _ (t.add 1) (by simp; omega), World.frozen?_alloc_old _ _ (t.add 1) (Nat.ne_of_lt htl')]; exact hf1)
  go_enter Tryz.func28, Tryz.ntmps28
  go_wp2
  refine wp_loop_rounds 1 ?_
  rw [rounds_succ]
  go_wp2
  go_ret
  exact ⟨rfl, rfl⟩

set_option maxHeartbeats 400000 in
set_option maxRecDepth 20000 in
theorem place_fault (n m : Int) (w : World) (hg : Laid w) :
    Calls Tryz.prog 13 #[.iface 88 (.agg #[.int .i64 n, .int .i64 m])] w fun e w' => e = .returned (.int .i64 m) ∧ Below w.heap.size w w' := by
  have hlt : 0 < w.heap.size := by
    rcases Nat.eq_zero_or_pos w.heap.size with h0 | h
    · simp [Laid, World.cell?, h0] at hg
    · exact h
  have hgA : (w.alloc (.cells #[.int .i64 0, .int .i64 0] 88)).cell? ⟨0, 0, none⟩ = some (.iface 139 (.agg #[.pointer (some ⟨5, 34, none⟩)])) := by
    rw [World.cell?_alloc_lt _ _ ⟨0, 0, none⟩ hlt]; exact hg
  have htA : (w.alloc (.cells #[.int .i64 0, .int .i64 0] 88)).cell? ⟨w.heap.size, 0, none⟩ = some (.int .i64 0) := by simp
  have hfA : (w.alloc (.cells #[.int .i64 0, .int .i64 0] 88)).frozen? ⟨w.heap.size, 0, none⟩ = false := by simp
  have htB : (w.alloc (.cells #[.int .i64 0, .int .i64 0] 88)).cell? ((⟨w.heap.size, 0, none⟩ : Addr).add 1) = some (.int .i64 0) := by simp [Addr.add]
  have hfB : (w.alloc (.cells #[.int .i64 0, .int .i64 0] 88)).frozen? ((⟨w.heap.size, 0, none⟩ : Addr).add 1) = false := by simp [Addr.add]
  go_enter Tryz.func13, Tryz.ntmps13
  go_wp2_with (first | (go_at_call 28; refine (as_fault n m _ (.int .i64 0) (.int .i64 0) _ hgA htA hfA htB hfB).mono ?_; rintro e w' ⟨rfl, rfl⟩))
  go_ret
  refine ⟨rfl, ?_⟩
  go_grown
end Go.Proofs.YtejhgifadohbiaaGreatDoor
namespace Go.Proofs.YtejhgifadohbiaaGreatDoor
open Go.RowKit Go.Lib

theorem laid_pos {w : World} (h : Laid w) : 0 < w.heap.size := by
  rcases Nat.eq_zero_or_pos w.heap.size with h0 | h1
  · simp [Laid, World.cell?, h0] at h
  · exact h1
theorem laid_below {w w' : World} (h : Laid w) (q : Below w.heap.size w w') : Laid w' := by
  show w'.cell? ⟨0, 0, none⟩ = _
  rw [q.cell (p := ⟨0, 0, none⟩) (laid_pos h)]
  exact h
def exA : Bs := [114, 111, 117, 116, 101, 114, 32, 97, 32, 123, 32, 110, 101, 116, 32, 49, 48, 46, 48, 46, 48, 46, 48, 47, 56, 59, 32, 125]
def exB : Bs := [114, 111, 117, 116, 101, 114, 32, 97, 32, 123, 32, 108, 105, 110, 107, 32, 98, 32, 99, 111, 115, 116, 32, 48, 59, 32, 125]
theorem exA_read : readP exA = .inr ⟨[], [⟨[97], [(167772160, 8)], [], [], 0⟩]⟩ := by kernel_rfl
theorem exB_read : readP exB = .inl (6, 23) := by kernel_rfl
theorem map_one {α β : Type} {l : List (α × β)} {x : α} (h : l.map (·.1) = [x]) : ∃ y, l = [(x, y)] := by
  cases l with
  | nil => cases h
  | cons p r =>
    obtain ⟨a, y⟩ := p
    injection h with h1 h2
    cases r with
    | nil => exact ⟨y, by rw [show a = x from h1]⟩
    | cons q r => cases h2
set_option maxHeartbeats 8000000 in
set_option maxRecDepth 20000 in
theorem awake8_any (w : World) (hw : Laid w) : Calls Tryz.prog 7 #[] w fun e w' => e = .returned (.bool true) ∧ Below w.heap.size w w' := by
  have h1 := paconfig_any exA (by decide) w
  have h2 := fun w => paconfig_any exB (by decide) w
  rw [exA_read] at h1
  rw [exB_read] at h2
  have HW : Hid (Laid w) := hw
  clear hw
  go_enter Tryz.func7, Tryz.ntmps7
  go_wp2_with fail
  refine h1.mono ?_
  rintro e W ⟨mv, rv, lm, lr, rfl, ho, _, hm, q⟩
  obtain ⟨⟨nv, lv, sv⟩, rfl⟩ := map_one hm.2
  obtain ⟨g, cap, hrv, _, _⟩ := ho.r.form (by simp)
  replace hrv : rv = .slice (some ⟨g, 0, none⟩) 1 cap := hrv
  subst hrv
  obtain ⟨ma, mn, mc, rfl⟩ := own_slc ho.m
  have hn := (ho.rc _ (List.mem_singleton.2 rfl)).1
  obtain ⟨g2, cap2, hnv, _, _⟩ := hn.form (by simp)
  replace hnv : nv = .slice (some ⟨g2, 0, none⟩) 1 cap2 := hnv
  subst hnv
  have c1 : W.cell? ⟨g, 1, none⟩ = some (.slice (some ⟨g2, 0, none⟩) 1 cap2) := own_cell ho.r rfl
  have hg : g < W.heap.size := own_lt ho.r g rfl
  clear ho hm hn
  go_upto_region 2 with fail
  obtain ⟨b1, hb1⟩ : ∃ b, b = W.heap.size := ⟨_, rfl⟩
  rw [← hb1]
  obtain ⟨V, hV⟩ : ∃ V, V = W.alloc (.cells #[.slice ma mn mc, .slice (some ⟨g, 0, none⟩) 1 cap] 31) := ⟨_, rfl⟩
  rw [← hV]
  obtain ⟨q2, r2, _⟩ := box_at W _ hV hb1
  have c2 : V.cell? ⟨g, 1, none⟩ = some (.slice (some ⟨g2, 0, none⟩) 1 cap2) := by rw [q2.cell (p := ⟨g, 1, none⟩) hg]; exact c1
  have HV : Hid (Below w.heap.size w V ∧ g < V.heap.size) := ⟨bel_up q q2 q.size, Nat.lt_of_lt_of_le hg q2.size⟩
  have h3 := h2 V
  clear hV hb1 q2 c1 q h2
  go_wp2_with fail
  refine h3.mono ?_
  rintro e Y ⟨rfl, qY⟩
  have c3 : Y.cell? ⟨g, 1, none⟩ = some (.slice (some ⟨g2, 0, none⟩) 1 cap2) := by rw [qY.cell (p := ⟨g, 1, none⟩) HV.out.2]; exact c2
  have r3 := pf_block qY r2
  have HY : Hid (Below w.heap.size w Y) := bel_up HV.out.1 qY HV.out.1.size
  have hgY : g < Y.heap.size := Nat.lt_of_lt_of_le HV.out.2 qY.size
  clear h3 c2 r2 qY
  unfold faV
  go_upto_region 3 with fail
  obtain ⟨Z, hZ⟩ : ∃ Z, Z = Y.alloc (.cells #[.slice none 0 0, .slice none 0 0] 31) := ⟨_, rfl⟩
  rw [← hZ]
  obtain ⟨q4, _, _⟩ := box_at Y _ hZ rfl
  have c4 : Z.cell? ⟨g, 1, none⟩ = some (.slice (some ⟨g2, 0, none⟩) 1 cap2) := by rw [q4.cell (p := ⟨g, 1, none⟩) hgY]; exact c3
  obtain ⟨B0, B1⟩ := cells_two (pf_block q4 r3)
  have HZ : Hid (Below w.heap.size w Z) := bel_up HY.out q4 HY.out.size
  have hl := laid_below HW.out HZ.out
  have h5 := number_fault 6 23 Z hl
  clear hZ c3 r3 q4 hgY hl
  go_wp2_with fail
  refine h5.mono ?_
  rintro e U ⟨rfl, qU⟩
  have HU : Hid (Below w.heap.size w U) := bel_up HZ.out qU HZ.out.size
  have h6 := place_fault 6 23 U (laid_below HW.out HU.out)
  clear h5 qU B0 B1 c4
  go_wp2_with fail
  refine h6.mono ?_
  rintro e X ⟨rfl, qX⟩
  clear h6
  go_wp2_with fail
  go_ret
  exact ⟨rfl, bel_up HU.out qX HU.out.size⟩
end Go.Proofs.YtejhgifadohbiaaGreatDoor
namespace Go.Proofs.YtejhgifadohbiaaGreatDoor
open Go.RowKit Go.Lib

set_option maxHeartbeats 1000000 in
set_option maxRecDepth 20000 in
theorem number_nil (w : World) :
    Calls Tryz.prog 12 #[.nilIface] w fun e w' => e = .returned (.int .i64 0) ∧ Below w.heap.size w w' := by
  go_enter Tryz.func12, Tryz.ntmps12
  go_wp2_with (first | (go_at_call 28; refine (as_nil _ _).mono ?_; rintro e w' ⟨rfl, rfl⟩))
  go_ret
  exact ⟨rfl, (Below.refl _ _).alloc (Nat.le_refl _) _⟩
set_option maxHeartbeats 1000000 in
set_option maxRecDepth 20000 in
theorem place_nil (w : World) :
    Calls Tryz.prog 13 #[.nilIface] w fun e w' => e = .returned (.int .i64 (-1)) ∧ Below w.heap.size w w' := by
  go_enter Tryz.func13, Tryz.ntmps13
  go_wp2_with (first | (go_at_call 28; refine (as_nil _ _).mono ?_; rintro e w' ⟨rfl, rfl⟩))
  go_ret
  exact ⟨rfl, (Below.refl _ _).alloc (Nat.le_refl _) _⟩
end Go.Proofs.YtejhgifadohbiaaGreatDoor
