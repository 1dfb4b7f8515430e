/- What is read of what came in: clauses, rules, links, ways, routers, maps. -/
import Derived.Test.YtcjdjifooaeomaaDoorHBd
import Derived.Test.YtcjdjifooaeomaaDoorUK
namespace Go.Proofs.YtcjdjifooaeomaaDoor
open Go.ChangeShapes Go.WideShapes Go.RowKit Go.Lib

theorem slice_nil {α : Type} (B z : Nat) (el : Nat → Nat → α → Prop) : SliceAt B z el (.slice none 0 0) [] := ⟨none, 0, rfl, Nat.zero_le _, fun i x h => by simp at h⟩
theorem two_of {α : Type} {l : List α} (h : l.length = 2) : ∃ a b, l = [a, b] := by
  match l, h with
  | [a, b], _ => exact ⟨a, b, rfl⟩
theorem three_of {α : Type} {l : List α} (h : l.length = 3) : ∃ a b c, l = [a, b, c] := by
  match l, h with
  | [a, b, c], _ => exact ⟨a, b, c, rfl⟩
theorem four_of {α : Type} {l : List α} (h : l.length = 4) : ∃ a b c d, l = [a, b, c, d] := by
  match l, h with
  | [a, b, c, d], _ => exact ⟨a, b, c, d, rfl⟩
theorem five_of {α : Type} {l : List α} (h : l.length = 5) : ∃ a b c d e, l = [a, b, c, d, e] := by
  match l, h with
  | [a, b, c, d, e], _ => exact ⟨a, b, c, d, e, rfl⟩
theorem six_of {α : Type} {l : List α} (h : l.length = 6) : ∃ a b c d e f, l = [a, b, c, d, e, f] := by
  match l, h with
  | [a, b, c, d, e, f], _ => exact ⟨a, b, c, d, e, f, rfl⟩
theorem nine_of {α : Type} {l : List α} (h : l.length = 9) : ∃ a b c d e f g i j, l = [a, b, c, d, e, f, g, i, j] := by
  match l, h with
  | [a, b, c, d, e, f, g, i, j], _ => exact ⟨a, b, c, d, e, f, g, i, j, rfl⟩
theorem ten_of {α : Type} {l : List α} (h : l.length = 10) : ∃ a b c d e f g i j k, l = [a, b, c, d, e, f, g, i, j, k] := by
  match l, h with
  | [a, b, c, d, e, f, g, i, j, k], _ => exact ⟨a, b, c, d, e, f, g, i, j, k, rfl⟩
theorem laidOut : laidOutB Tryd.prog = true := by kernel_rfl
theorem bounds_i64' {n : Int} (h : (Lit.int .i64 n).wf = true) : -9223372036854775808 ≤ n ∧ n ≤ 9223372036854775807 := by
  have := bounds_i64 h
  omega
section
variable {H : Type} {enc : TypeId × Value → H} {w : World} {n : Nat} {cs : List Value} {x : DataW H × List MemPlace}
theorem rd_u8 {c : Value} {y : DataW H × List MemPlace} (h : DataW.trod enc Tryd.prog w 0 (fun _ => true) true n 5 [c] = some y) : ∃ k : Nat, c = .int .u8 k ∧ k < 256 := by
  obtain ⟨m, e, _, hw⟩ := DataW.trod_int Tryd.underlying5 h
  obtain ⟨k, rfl, hk⟩ := bounds_u8' hw
  exact ⟨k, by simpa using e, hk⟩
theorem rd_u32 {c : Value} {y : DataW H × List MemPlace} (h : DataW.trod enc Tryd.prog w 0 (fun _ => true) true n 72 [c] = some y) : ∃ k : Nat, c = .int .u32 k ∧ k < 4294967296 := by
  obtain ⟨m, e, _, hw⟩ := DataW.trod_int Tryd.underlying72 h
  obtain ⟨k, rfl, hk⟩ := bounds_u32' hw
  exact ⟨k, by simpa using e, hk⟩
theorem rd_i64 {c : Value} {y : DataW H × List MemPlace} (h : DataW.trod enc Tryd.prog w 0 (fun _ => true) true n 3 [c] = some y) : ∃ k : Int, c = .int .i64 k ∧ -9223372036854775808 ≤ k ∧ k ≤ 9223372036854775807 := by
  obtain ⟨m, e, _, hw⟩ := DataW.trod_int Tryd.underlying3 h
  exact ⟨m, by simpa using e, bounds_i64' hw⟩
theorem rd_bool {c : Value} {y : DataW H × List MemPlace} (h : DataW.trod enc Tryd.prog w 0 (fun _ => true) true n 4 [c] = some y) : ∃ k : Bool, c = .bool k := by
  obtain ⟨m, e, _⟩ := DataW.trod_bool Tryd.underlying4 h
  exact ⟨m, by simpa using e⟩
theorem cells_Cl : Tryd.prog.cellsOf 96 = 10 := by kernel_rfl
theorem cells_Pf : Tryd.prog.cellsOf 74 = 2 := by kernel_rfl
theorem cells_U8 : Tryd.prog.cellsOf 5 = 1 := by kernel_rfl
theorem cells_U32 : Tryd.prog.cellsOf 72 = 1 := by kernel_rfl
theorem cells_I : Tryd.prog.cellsOf 3 = 1 := by kernel_rfl
theorem cells_B : Tryd.prog.cellsOf 4 = 1 := by kernel_rfl
theorem cells_Rl : Tryd.prog.cellsOf 94 = 6 := by kernel_rfl
/-- A clause's cells. -/
def clL (c : ClD) : List Value := [.bool c.any, .int .u32 c.a, .int .i64 c.b, .int .u8 c.wi, .int .u8 c.ou, .bool c.drop, .int .u8 c.se, .int .u8 c.cl, .int .i64 c.more, .int .i64 c.pref]
theorem rd_pf (h : DataW.trod enc Tryd.prog w 0 (fun _ => true) true n 74 cs = some x) : ∃ (a : Nat) (b : Int), a < 4294967296 ∧ cs = [.int .u32 a, .int .i64 b] := by
  obtain ⟨xs, m, _, _, hl, hlen, hf⟩ := DataW.trod_struct Tryd.underlying74 h
  rw [cells_Pf] at hl
  obtain ⟨c0, c1, rfl⟩ := two_of hl
  obtain ⟨y0, y1, rfl⟩ := two_of hlen
  have h0 := hf 0 _ rfl
  have h1 := hf 1 _ rfl
  simp [cells_U32, cells_I] at h0 h1
  obtain ⟨a, rfl, ha⟩ := rd_u32 h0
  obtain ⟨b, rfl, _⟩ := rd_i64 h1
  exact ⟨a, b, ha, rfl⟩
theorem rd_cl (h : DataW.trod enc Tryd.prog w 0 (fun _ => true) true n 96 cs = some x) : ∃ c : ClD, c.ok ∧ cs = clL c := by
  obtain ⟨xs, m, _, _, hl, hlen, hf⟩ := DataW.trod_struct Tryd.underlying96 h
  rw [cells_Cl] at hl
  obtain ⟨c0, c1, c2, c3, c4, c5, c6, c7, c8, c9, rfl⟩ := ten_of hl
  obtain ⟨y0, y1, y2, y3, y4, y5, y6, y7, y8, rfl⟩ := nine_of hlen
  have h0 := hf 0 _ rfl
  have h1 := hf 1 _ rfl
  have h2 := hf 2 _ rfl
  have h3 := hf 3 _ rfl
  have h4 := hf 4 _ rfl
  have h5 := hf 5 _ rfl
  have h6 := hf 6 _ rfl
  have h7 := hf 7 _ rfl
  have h8 := hf 8 _ rfl
  simp [cells_U8, cells_I, cells_B, cells_Pf] at h0 h1 h2 h3 h4 h5 h6 h7 h8
  obtain ⟨any, rfl⟩ := rd_bool h0
  obtain ⟨a, b, ha, e⟩ := rd_pf h1
  simp only [List.cons.injEq, and_true] at e
  obtain ⟨rfl, rfl⟩ := e
  obtain ⟨wi, rfl, hwi⟩ := rd_u8 h2
  obtain ⟨ou, rfl, hou⟩ := rd_u8 h3
  obtain ⟨dr, rfl⟩ := rd_bool h4
  obtain ⟨se, rfl, hse⟩ := rd_u8 h5
  obtain ⟨cl, rfl, hcl⟩ := rd_u8 h6
  obtain ⟨mo, rfl, m0, m1⟩ := rd_i64 h7
  obtain ⟨pr, rfl, p0, p1⟩ := rd_i64 h8
  exact ⟨⟨any, a, b, wi, ou, dr, se, cl, mo, pr⟩, ⟨ha, hwi, hou, hse, hcl, m0, m1, p0, p1⟩, rfl⟩
def rlL (r : RlD) : List Value := [.int .u8 r.tg, .int .u8 r.wi, .int .u8 r.ou, .int .u8 r.act, .int .u8 r.more, .int .u8 r.pref]
theorem rd_rl (h : DataW.trod enc Tryd.prog w 0 (fun _ => true) true n 94 cs = some x) : ∃ r : RlD, r.ok ∧ cs = rlL r := by
  obtain ⟨xs, m, _, _, hl, hlen, hf⟩ := DataW.trod_struct Tryd.underlying94 h
  rw [cells_Rl] at hl
  obtain ⟨c0, c1, c2, c3, c4, c5, rfl⟩ := six_of hl
  obtain ⟨y0, y1, y2, y3, y4, y5, rfl⟩ := six_of hlen
  have h0 := hf 0 _ rfl
  have h1 := hf 1 _ rfl
  have h2 := hf 2 _ rfl
  have h3 := hf 3 _ rfl
  have h4 := hf 4 _ rfl
  have h5 := hf 5 _ rfl
  simp [cells_U8] at h0 h1 h2 h3 h4 h5
  obtain ⟨a, rfl, ha⟩ := rd_u8 h0
  obtain ⟨b, rfl, hb⟩ := rd_u8 h1
  obtain ⟨c, rfl, hc⟩ := rd_u8 h2
  obtain ⟨d, rfl, hd⟩ := rd_u8 h3
  obtain ⟨e, rfl, he⟩ := rd_u8 h4
  obtain ⟨f, rfl, hg⟩ := rd_u8 h5
  exact ⟨⟨a, b, c, d, e, f⟩, ⟨ha, hb, hc, hd, he, hg⟩, rfl⟩
set_option maxRecDepth 100000 in
/-- A clause, a rule that came in. -/
theorem open_cl {b0 : Nat} {r : Reach} {v : Value} {d : DataW H} {p : List MemPlace} (hv : Value.okWide Tryd.prog w r b0 96 v) (h : DataW.Trod enc Tryd.prog w 0 (fun _ => true) true 96 v d p) : ∃ c : ClD, c.ok ∧ v = clV c := by
  obtain ⟨vs, rfl, _⟩ := okWide_struct Tryd.underlying96 hv
  obtain ⟨m, hm⟩ := h
  obtain ⟨c, hc, e⟩ := rd_cl hm
  refine ⟨c, hc, ?_⟩
  have e' : vs.toList = clL c := by simpa [Value.cells] using e
  unfold clV
  rw [show vs = (clL c).toArray by rw [← e']]
  rfl
set_option maxRecDepth 100000 in
theorem open_rl {b0 : Nat} {r : Reach} {v : Value} {d : DataW H} {p : List MemPlace} (hv : Value.okWide Tryd.prog w r b0 94 v) (h : DataW.Trod enc Tryd.prog w 0 (fun _ => true) true 94 v d p) : ∃ r : RlD, r.ok ∧ v = rlV r := by
  obtain ⟨vs, rfl, _⟩ := okWide_struct Tryd.underlying94 hv
  obtain ⟨m, hm⟩ := h
  obtain ⟨c, hc, e⟩ := rd_rl hm
  refine ⟨c, hc, ?_⟩
  have e' : vs.toList = rlL c := by simpa [Value.cells] using e
  unfold rlV
  rw [show vs = (rlL c).toArray by rw [← e']]
  rfl
end
end Go.Proofs.YtcjdjifooaeomaaDoor
