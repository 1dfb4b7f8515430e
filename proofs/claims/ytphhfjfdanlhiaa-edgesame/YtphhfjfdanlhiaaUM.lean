/- What is read of what came in: clauses, rules, links, ways, routers, maps. -/
import Derived.Test.YtphhfjfdanlhiaaHBd
import Derived.Test.YtphhfjfdanlhiaaUK
import Derived.Test.YtphhfjfdanlhiaaSC
import Derived.Test.YtphhfjfdanlhiaaSR
namespace Go.Proofs.Ytphhfjfdanlhiaa
open Go.ChangeShapes Go.WideShapes Go.RowKit Go.Lib

section
variable {H : Type} {enc : TypeId × Value → H} {w : World} {n : Nat} {cs : List Value} {x : DataW H × List MemPlace}
theorem cells_Cl : Try.prog.cellsOf 53 = 10 := by kernel_rfl
theorem cells_Pf : Try.prog.cellsOf 50 = 2 := by kernel_rfl
theorem cells_Rl : Try.prog.cellsOf 58 = 6 := by kernel_rfl
/-- A clause's cells. -/
def clL (c : ClD) : List Value := [.bool c.any, .int .u32 c.a, .int .i64 c.b, .int .u8 c.wi, .int .u8 c.ou, .bool c.drop, .int .u8 c.se, .int .u8 c.cl, .int .i64 c.more, .int .i64 c.pref]
theorem rd_pf (h : DataW.trod enc Try.prog w 0 (fun _ => true) true n 50 cs = some x) : ∃ (a : Nat) (b : Int), a < 4294967296 ∧ cs = [.int .u32 a, .int .i64 b] := by
  obtain ⟨xs, m, _, _, hl, hlen, hf⟩ := DataW.trod_struct Try.underlying50 h
  rw [cells_Pf] at hl
  obtain ⟨c0, c1, rfl⟩ := two_of hl
  obtain ⟨y0, y1, rfl⟩ := two_of hlen
  have h0 := hf 0 _ rfl
  have h1 := hf 1 _ rfl
  simp [cells_U32, cells_I] at h0 h1
  obtain ⟨a, rfl, ha⟩ := rd_u32 h0
  obtain ⟨b, rfl, _⟩ := rd_i64 h1
  exact ⟨a, b, ha, rfl⟩
theorem rd_cl (h : DataW.trod enc Try.prog w 0 (fun _ => true) true n 53 cs = some x) : ∃ c : ClD, c.ok ∧ cs = clL c := by
  obtain ⟨xs, m, _, _, hl, hlen, hf⟩ := DataW.trod_struct Try.underlying53 h
  rw [cells_Cl] at hl
  obtain ⟨c0, c1, c2, c3, c4, c5, c6, c7, c8, c9, rfl⟩ := ten_of hl
  obtain ⟨y0, y1, y2, y3, y4, y5, y6, y7, y8, rfl⟩ := nine_of hlen
  have h0 := hf 0 _ rfl
  have h1 := hf 1 _ rfl
  have h2 := hf 2 _ rfl
  have h3 := hf 3 _ rfl
  have h4 := hf 4 _ rfl
  have h5 := hf 5 _ rfl
  have h6 := hf 6 _ rfl
  have h7 := hf 7 _ rfl
  have h8 := hf 8 _ rfl
  simp [cells_U8, cells_I, cells_B, cells_Pf] at h0 h1 h2 h3 h4 h5 h6 h7 h8
  obtain ⟨any, rfl⟩ := rd_bool h0
  obtain ⟨a, b, ha, e⟩ := rd_pf h1
  simp only [List.cons.injEq, and_true] at e
  obtain ⟨rfl, rfl⟩ := e
  obtain ⟨wi, rfl, hwi⟩ := rd_u8 h2
  obtain ⟨ou, rfl, hou⟩ := rd_u8 h3
  obtain ⟨dr, rfl⟩ := rd_bool h4
  obtain ⟨se, rfl, hse⟩ := rd_u8 h5
  obtain ⟨cl, rfl, hcl⟩ := rd_u8 h6
  obtain ⟨mo, rfl, m0, m1⟩ := rd_i64 h7
  obtain ⟨pr, rfl, p0, p1⟩ := rd_i64 h8
  exact ⟨⟨any, a, b, wi, ou, dr, se, cl, mo, pr⟩, ⟨ha, hwi, hou, hse, hcl, m0, m1, p0, p1⟩, rfl⟩
def rlL (r : RlD) : List Value := [.int .u8 r.tg, .int .u8 r.wi, .int .u8 r.ou, .int .u8 r.act, .int .u8 r.more, .int .u8 r.pref]
theorem rd_rl (h : DataW.trod enc Try.prog w 0 (fun _ => true) true n 58 cs = some x) : ∃ r : RlD, r.ok ∧ cs = rlL r := by
  obtain ⟨xs, m, _, _, hl, hlen, hf⟩ := DataW.trod_struct Try.underlying58 h
  rw [cells_Rl] at hl
  obtain ⟨c0, c1, c2, c3, c4, c5, rfl⟩ := six_of hl
  obtain ⟨y0, y1, y2, y3, y4, y5, rfl⟩ := six_of hlen
  have h0 := hf 0 _ rfl
  have h1 := hf 1 _ rfl
  have h2 := hf 2 _ rfl
  have h3 := hf 3 _ rfl
  have h4 := hf 4 _ rfl
  have h5 := hf 5 _ rfl
  simp [cells_U8] at h0 h1 h2 h3 h4 h5
  obtain ⟨a, rfl, ha⟩ := rd_u8 h0
  obtain ⟨b, rfl, hb⟩ := rd_u8 h1
  obtain ⟨c, rfl, hc⟩ := rd_u8 h2
  obtain ⟨d, rfl, hd⟩ := rd_u8 h3
  obtain ⟨e, rfl, he⟩ := rd_u8 h4
  obtain ⟨f, rfl, hg⟩ := rd_u8 h5
  exact ⟨⟨a, b, c, d, e, f⟩, ⟨ha, hb, hc, hd, he, hg⟩, rfl⟩
set_option maxRecDepth 100000 in
/-- A clause, a rule that came in. -/
theorem open_cl {b0 : Nat} {r : Reach} {v : Value} {d : DataW H} {p : List MemPlace} (hv : Value.okWide Try.prog w r b0 53 v) (h : DataW.Trod enc Try.prog w 0 (fun _ => true) true 53 v d p) : ∃ c : ClD, c.ok ∧ v = clV c := by
  obtain ⟨vs, rfl, _⟩ := okWide_struct Try.underlying53 hv
  obtain ⟨m, hm⟩ := h
  obtain ⟨c, hc, e⟩ := rd_cl hm
  refine ⟨c, hc, ?_⟩
  have e' : vs.toList = clL c := by simpa [Value.cells] using e
  unfold clV
  rw [show vs = (clL c).toArray by rw [← e']]
  rfl
set_option maxRecDepth 100000 in
theorem open_rl {b0 : Nat} {r : Reach} {v : Value} {d : DataW H} {p : List MemPlace} (hv : Value.okWide Try.prog w r b0 58 v) (h : DataW.Trod enc Try.prog w 0 (fun _ => true) true 58 v d p) : ∃ r : RlD, r.ok ∧ v = rlV r := by
  obtain ⟨vs, rfl, _⟩ := okWide_struct Try.underlying58 hv
  obtain ⟨m, hm⟩ := h
  obtain ⟨c, hc, e⟩ := rd_rl hm
  refine ⟨c, hc, ?_⟩
  have e' : vs.toList = rlL c := by simpa [Value.cells] using e
  unfold rlV
  rw [show vs = (rlL c).toArray by rw [← e']]
  rfl
end
end Go.Proofs.Ytphhfjfdanlhiaa
