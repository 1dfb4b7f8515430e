/- What text's Config does: its maps. -/
import Derived.Test.YtcjdjifooaeomaaDoorUH
import Derived.Test.YtcjdjifooaeomaaDoorUR
import Derived.Test.YtcjdjifooaeomaaDoorHQ
import Derived.Test.YtcjdjifooaeomaaDoorOW
namespace Go.Proofs.YtcjdjifooaeomaaDoor
open Go.RowKit Go.Lib

theorem flat_step {α : Type} (f : α → Bs) {l : List α} {k : Nat} {x : α} (h : l[k]? = some x) : (l.take k).flatMap f ++ f x = (l.take (k + 1)).flatMap f := by
  rw [List.take_add_one, h]
  simp
theorem flat_le {α : Type} (f : α → Bs) (l : List α) (k : Nat) : ((l.take k).flatMap f).length ≤ (l.flatMap f).length := by
  conv => rhs; rw [← List.take_append_drop k l, List.flatMap_append, List.length_append]
  omega
theorem flat_le2 {α : Type} (f : α → Bs) {l : List α} {k : Nat} {x : α} (h : l[k]? = some x) : ((l.take k).flatMap f).length + (f x).length ≤ (l.flatMap f).length := by
  have := flat_le f l (k + 1)
  rw [← flat_step f h, List.length_append] at this
  exact this
theorem sum_ge {α : Type} (g : α → Nat) : ∀ {l : List α} {x : α}, x ∈ l → g x ≤ (l.map g).sum
  | y :: r, x, h => by
    rw [List.map_cons, List.sum_cons]
    rcases List.mem_cons.1 h with rfl | h
    · omega
    · have := sum_ge g h
      omega
/-- What the maps' text is while it is written. -/
def preM (ms : List MpD) (k : Nat) : Bs := (ms.take k).flatMap mapT
def preC (m : MpD) (j : Nat) : Bs := headT [109, 97, 112] m.name ++ (m.cls.take j).flatMap lineT
theorem preM_next {ms : List MpD} {k : Nat} {m : MpD} (h : ms[k]? = some m) : preM ms k ++ preC m m.cls.length ++ footT = preM ms (k + 1) := by
  have e : mapT m = headT [109, 97, 112] m.name ++ m.cls.flatMap lineT ++ footT := rfl
  unfold preM preC
  rw [← flat_step mapT h, List.take_length, e]
  simp only [List.append_assoc]
theorem preC_next {m : MpD} {j : Nat} {c : ClD} (h : m.cls[j]? = some c) : preC m j ++ lineT c = preC m (j + 1) := by
  unfold preC
  rw [← flat_step lineT h, List.append_assoc]
theorem pre_len {ms : List MpD} {k : Nat} {m : MpD} (h : ms[k]? = some m) (j : Nat) : (preM ms k ++ preC m j).length + 2 ≤ (ms.flatMap mapT).length := by
  have h1 := flat_le2 mapT h
  have h2 := flat_le lineT m.cls j
  have h3 : (mapT m).length = (headT [109, 97, 112] m.name).length + (m.cls.flatMap lineT).length + 2 := by
    unfold mapT
    simp only [List.length_append, footT, List.length_cons, List.length_nil]
  unfold preM preC
  simp only [List.length_append]
  omega
theorem pre_len2 {ms : List MpD} {k : Nat} {m : MpD} (h : ms[k]? = some m) {j : Nat} {c : ClD} (hc : m.cls[j]? = some c) : (preM ms k ++ preC m j).length + (lineT c).length ≤ (ms.flatMap mapT).length := by
  have h1 := pre_len h (j + 1)
  rw [← preC_next hc] at h1
  simp only [List.length_append] at *
  omega
theorem pre_len0 {ms : List MpD} {k : Nat} {m : MpD} (h : ms[k]? = some m) : (preM ms k).length + (headT [109, 97, 112] m.name).length ≤ (ms.flatMap mapT).length := by
  have h1 := pre_len h 0
  unfold preC at h1
  simp only [List.length_append, List.take_zero, List.flatMap_nil, List.length_nil] at *
  omega
theorem maps_total {c : CfD} (h : c.ok) (hb : c.bulk ≤ 68719476736) : (c.maps.flatMap mapT).length ≤ 13743895347200 ∧ (confT c).length ≤ 13743895347200 := by
  have h1 := conf_len h
  have h2 : (confT c).length = (c.maps.flatMap mapT).length + (c.ros.flatMap routT).length := by unfold confT; rw [List.length_append]
  omega
theorem cells_four {w : World} {b t : Nat} {x0 x1 x2 x3 : Value} (h : w.heap[b]? = some (.cells #[x0, x1, x2, x3] t (0, 0))) :
    w.cell? ⟨b, 0, none⟩ = some x0 ∧ w.cell? ⟨b, 1, none⟩ = some x1 ∧ w.cell? ⟨b, 2, none⟩ = some x2 ∧ w.cell? ⟨b, 3, none⟩ = some x3 := by
  refine ⟨?_, ?_, ?_, ?_⟩ <;> simp [World.cell?, h]
/-- What the routers' text is while it is written. -/
def preR (rs : List RoD) (k : Nat) : Bs := (rs.take k).flatMap routT
def hdR (r : RoD) : Bs := headT [114, 111, 117, 116, 101, 114] r.name
def preN (r : RoD) (j : Nat) : Bs := hdR r ++ (r.nets.take j).flatMap netT
def preL (r : RoD) (j : Nat) : Bs := hdR r ++ r.nets.flatMap netT ++ (r.lks.take j).flatMap linkT
def preS (r : RoD) (j : Nat) : Bs := hdR r ++ r.nets.flatMap netT ++ r.lks.flatMap linkT ++ (r.sts.take j).flatMap statT
theorem rout_is (r : RoD) : routT r = hdR r ++ r.nets.flatMap netT ++ r.lks.flatMap linkT ++ r.sts.flatMap statT ++ footT := rfl
theorem preN_next {r : RoD} {j : Nat} {x : Nat × Int} (h : r.nets[j]? = some x) : preN r j ++ netT x = preN r (j + 1) := by
  unfold preN
  rw [← flat_step netT h, List.append_assoc]
theorem preL_next {r : RoD} {j : Nat} {x : LkD} (h : r.lks[j]? = some x) : preL r j ++ linkT x = preL r (j + 1) := by
  unfold preL
  rw [← flat_step linkT h]
  simp only [List.append_assoc]
theorem preS_next {r : RoD} {j : Nat} {x : StD} (h : r.sts[j]? = some x) : preS r j ++ statT x = preS r (j + 1) := by
  unfold preS
  rw [← flat_step statT h]
  simp only [List.append_assoc]
theorem preN_end (r : RoD) : preN r r.nets.length = preL r 0 := by
  unfold preN preL
  simp
theorem preL_end (r : RoD) : preL r r.lks.length = preS r 0 := by
  unfold preL preS
  simp
theorem preR_next {rs : List RoD} {k : Nat} {r : RoD} (h : rs[k]? = some r) : preR rs k ++ preS r r.sts.length ++ footT = preR rs (k + 1) := by
  unfold preR preS
  rw [← flat_step routT h, List.take_length, rout_is]
  simp only [List.append_assoc]
theorem preS_len (r : RoD) (j : Nat) : (preS r j).length + 2 ≤ (routT r).length := by
  have h := flat_le statT r.sts j
  unfold preS
  rw [rout_is]
  simp only [List.length_append, footT, List.length_cons, List.length_nil]
  omega
theorem preL_len (r : RoD) (j : Nat) : (preL r j).length + 2 ≤ (routT r).length := by
  have h := flat_le linkT r.lks j
  unfold preL
  rw [rout_is]
  simp only [List.length_append, footT, List.length_cons, List.length_nil]
  omega
theorem preN_len (r : RoD) (j : Nat) : (preN r j).length + 2 ≤ (routT r).length := by
  have h := flat_le netT r.nets j
  unfold preN
  rw [rout_is]
  simp only [List.length_append, footT, List.length_cons, List.length_nil]
  omega
/-- How long all is that is written in a router. -/
theorem in_rout {M : Bs} {rs : List RoD} {k : Nat} {r : RoD} {T : Nat} (h : rs[k]? = some r) (hT : (M ++ rs.flatMap routT).length ≤ T) {A B : Bs} (hA : (A ++ B).length ≤ (routT r).length) : (M ++ preR rs k ++ A).length + B.length ≤ T := by
  have h1 := flat_le2 routT h
  unfold preR
  simp only [List.length_append] at *
  omega
end Go.Proofs.YtcjdjifooaeomaaDoor
