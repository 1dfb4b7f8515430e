/- What text's Config does: its maps. -/
import Derived.Test.YtejhgifadohbiaaGreatDoorUH
import Derived.Test.YtejhgifadohbiaaGreatDoorUR
import Derived.Test.YtejhgifadohbiaaGreatDoorHQ
import Derived.Test.YtejhgifadohbiaaGreatDoorOW
namespace Go.Proofs.YtejhgifadohbiaaGreatDoor
open Go.RowKit Go.Lib

theorem flat_step {α : Type} (f : α → Bs) {l : List α} {k : Nat} {x : α} (h : l[k]? = some x) : (l.take k).flatMap f ++ f x = (l.take (k + 1)).flatMap f := by
  rw [List.take_add_one, h]
  simp
theorem flat_le {α : Type} (f : α → Bs) (l : List α) (k : Nat) : ((l.take k).flatMap f).length ≤ (l.flatMap f).length := by
  conv => rhs; rw [← List.take_append_drop k l, List.flatMap_append, List.length_append]
  omega
theorem flat_le2 {α : Type} (f : α → Bs) {l : List α} {k : Nat} {x : α} (h : l[k]? = some x) : ((l.take k).flatMap f).length + (f x).length ≤ (l.flatMap f).length := by
  have := flat_le f l (k + 1)
  rw [← flat_step f h, List.length_append] at this
  exact this
theorem sum_ge {α : Type} (g : α → Nat) : ∀ {l : List α} {x : α}, x ∈ l → g x ≤ (l.map g).sum
  | y :: r, x, h => by
    rw [List.map_cons, List.sum_cons]
    rcases List.mem_cons.1 h with rfl | h
    · omega
    · have := sum_ge g h
      omega
/-- What the maps' text is while it is written. -/
def preM (ms : List MpD) (k : Nat) : Bs := (ms.take k).flatMap mapT
def preC (m : MpD) (j : Nat) : Bs := headT [109, 97, 112] m.name ++ (m.cls.take j).flatMap lineT
theorem preM_next {ms : List MpD} {k : Nat} {m : MpD} (h : ms[k]? = some m) : preM ms k ++ preC m m.cls.length ++ footT = preM ms (k + 1) := by
  have e : mapT m = headT [109, 97, 112] m.name ++ m.cls.flatMap lineT ++ footT := rfl
  unfold preM preC
  rw [← flat_step mapT h, List.take_length, e]
  simp only [List.append_assoc]
theorem preC_next {m : MpD} {j : Nat} {c : ClD} (h : m.cls[j]? = some c) : preC m j ++ lineT c = preC m (j + 1) := by
  unfold preC
  rw [← flat_step lineT h, List.append_assoc]
theorem pre_len {ms : List MpD} {k : Nat} {m : MpD} (h : ms[k]? = some m) (j : Nat) : (preM ms k ++ preC m j).length + 2 ≤ (ms.flatMap mapT).length := by
  have h1 := flat_le2 mapT h
  have h2 := flat_le lineT m.cls j
  have h3 : (mapT m).length = (headT [109, 97, 112] m.name).length + (m.cls.flatMap lineT).length + 2 := by
    unfold mapT
    simp only [List.length_append, footT, List.length_cons, List.length_nil]
  unfold preM preC
  simp only [List.length_append]
  omega
theorem pre_len2 {ms : List MpD} {k : Nat} {m : MpD} (h : ms[k]? = some m) {j : Nat} {c : ClD} (hc : m.cls[j]? = some c) : (preM ms k ++ preC m j).length + (lineT c).length ≤ (ms.flatMap mapT).length := by
  have h1 := pre_len h (j + 1)
  rw [← preC_next hc] at h1
  simp only [List.length_append] at *
  omega
theorem pre_len0 {ms : List MpD} {k : Nat} {m : MpD} (h : ms[k]? = some m) : (preM ms k).length + (headT [109, 97, 112] m.name).length ≤ (ms.flatMap mapT).length := by
  have h1 := pre_len h 0
  unfold preC at h1
  simp only [List.length_append, List.take_zero, List.flatMap_nil, List.length_nil] at *
  omega
theorem maps_total {c : CfD} (h : c.ok) (hb : c.bulk ≤ 68719476736) : (c.maps.flatMap mapT).length ≤ 13743895347200 ∧ (confT c).length ≤ 13743895347200 := by
  have h1 := conf_len h
  have h2 : (confT c).length = (c.maps.flatMap mapT).length + (c.ros.flatMap routT).length := by unfold confT; rw [List.length_append]
  omega
theorem cells_four {w : World} {b t : Nat} {x0 x1 x2 x3 : Value} (h : w.heap[b]? = some (.cells #[x0, x1, x2, x3] t (0, 0))) :
    w.cell? ⟨b, 0, none⟩ = some x0 ∧ w.cell? ⟨b, 1, none⟩ = some x1 ∧ w.cell? ⟨b, 2, none⟩ = some x2 ∧ w.cell? ⟨b, 3, none⟩ = some x3 := by
  refine ⟨?_, ?_, ?_, ?_⟩ <;> simp [World.cell?, h]
/-- What the routers' text is while it is written. -/
def preR (rs : List RoD) (k : Nat) : Bs := (rs.take k).flatMap routT
def hdR (r : RoD) : Bs := headT [114, 111, 117, 116, 101, 114] r.name
def preN (r : RoD) (j : Nat) : Bs := hdR r ++ (r.nets.take j).flatMap netT
def preL (r : RoD) (j : Nat) : Bs := hdR r ++ r.nets.flatMap netT ++ (r.lks.take j).flatMap linkT
def preS (r : RoD) (j : Nat) : Bs := hdR r ++ r.nets.flatMap netT ++ r.lks.flatMap linkT ++ (r.sts.take j).flatMap statT
theorem rout_is (r : RoD) : routT r = hdR r ++ r.nets.flatMap netT ++ r.lks.flatMap linkT ++ r.sts.flatMap statT ++ footT := rfl
theorem preN_next {r : RoD} {j : Nat} {x : Nat × Int} (h : r.nets[j]? = some x) : preN r j ++ netT x = preN r (j + 1) := by
  unfold preN
  rw [← flat_step netT h, List.append_assoc]
theorem preL_next {r : RoD} {j : Nat} {x : LkD} (h : r.lks[j]? = some x) : preL r j ++ linkT x = preL r (j + 1) := by
  unfold preL
  rw [← flat_step linkT h]
  simp only [List.append_assoc]
theorem preS_next {r : RoD} {j : Nat} {x : StD} (h : r.sts[j]? = some x) : preS r j ++ statT x = preS r (j + 1) := by
  unfold preS
  rw [← flat_step statT h]
  simp only [List.append_assoc]
theorem preN_end (r : RoD) : preN r r.nets.length = preL r 0 := by
  unfold preN preL
  simp
theorem preL_end (r : RoD) : preL r r.lks.length = preS r 0 := by
  unfold preL preS
  simp
theorem preR_next {rs : List RoD} {k : Nat} {r : RoD} (h : rs[k]? = some r) : preR rs k ++ preS r r.sts.length ++ footT = preR rs (k + 1) := by
  unfold preR preS
  rw [← flat_step routT h, List.take_length, rout_is]
  simp only [List.append_assoc]
theorem preS_len (r : RoD) (j : Nat) : (preS r j).length + 2 ≤ (routT r).length := by
  have h := flat_le statT r.sts j
  unfold preS
  rw [rout_is]
  simp only [List.length_append, footT, List.length_cons, List.length_nil]
  omega
theorem preL_len (r : RoD) (j : Nat) : (preL r j).length + 2 ≤ (routT r).length := by
  have h := flat_le linkT r.lks j
  unfold preL
  rw [rout_is]
  simp only [List.length_append, footT, List.length_cons, List.length_nil]
  omega
theorem preN_len (r : RoD) (j : Nat) : (preN r j).length + 2 ≤ (routT r).length := by
  have h := flat_le netT r.nets j
  unfold preN
  rw [rout_is]
  simp only [List.length_append, footT, List.length_cons, List.length_nil]
  omega
/-- How long all is that is written in a router. -/
theorem in_rout {M : Bs} {rs : List RoD} {k : Nat} {r : RoD} {T : Nat} (h : rs[k]? = some r) (hT : (M ++ rs.flatMap routT).length ≤ T) {A B : Bs} (hA : (A ++ B).length ≤ (routT r).length) : (M ++ preR rs k ++ A).length + B.length ≤ T := by
  have h1 := flat_le2 routT h
  unfold preR
  simp only [List.length_append] at *
  omega
theorem net_inner (a : Nat) (b : Int) (t : ByteArray) (ha : a < 4294967296) (ht : t = ⟨(pfT a b).toArray⟩) (w : World) :
    Calls Tryz.prog 17 #[.string (⟨#[110, 101, 116, 32]⟩ ++ t)] w fun e w' => e = .returned (.string ⟨(netT (a, b)).toArray⟩) ∧ w' = w := by
  have d1 : (⟨#[110, 101, 116, 32]⟩ : ByteArray) = ⟨([110, 101, 116, 32] : List UInt8).toArray⟩ := rfl
  rw [ht, d1, str_add]
  exact inner_any _ (by have := pf_len a b ha; simp; omega) w
theorem stat_inner (s : StD) (t V : ByteArray) (ha : s.a < 4294967296) (hb : s.via.length ≤ 68719476736) (ht : t = ⟨(pfT s.a s.b).toArray⟩) (hV : V = ⟨s.via.toArray⟩) (w : World) :
    Calls Tryz.prog 17 #[.string (⟨#[115, 116, 97, 116, 105, 99, 32]⟩ ++ t ++ ⟨#[32, 118, 105, 97, 32]⟩ ++ V)] w fun e w' => e = .returned (.string ⟨(statT s).toArray⟩) ∧ w' = w := by
  have d1 : (⟨#[115, 116, 97, 116, 105, 99, 32]⟩ : ByteArray) = ⟨([115, 116, 97, 116, 105, 99, 32] : List UInt8).toArray⟩ := rfl
  have d2 : (⟨#[32, 118, 105, 97, 32]⟩ : ByteArray) = ⟨([32, 118, 105, 97, 32] : List UInt8).toArray⟩ := rfl
  rw [ht, hV, d1, d2, str_add, str_add, str_add]
  exact inner_any _ (by have := pf_len s.a s.b ha; simp; omega) w
set_option maxHeartbeats 16000000 in
set_option maxRecDepth 20000 in
theorem tconf_any (c : CfD) (hok : c.ok) (hbk : c.bulk ≤ 68719476736) (v : Value) (w : World) (hv : CfAt w w.heap.size v c) (ht : TabP w) :
    Calls Tryz.prog 8 #[v] w fun e w' => e = .returned (.string ⟨(confT c).toArray⟩) ∧ Below w.heap.size w w' := by
  obtain ⟨ms, rs⟩ := c
  obtain ⟨mv, rv, rfl, ⟨ad, cap, rfl, hn0, hms⟩, ⟨ad2, cap2, rfl, hn2, hrs⟩⟩ := hv
  dsimp only at hms hrs hn0 hn2 ⊢
  obtain ⟨n, hn⟩ : ∃ n, n = ms.length := ⟨_, rfl⟩
  obtain ⟨n2, hn2e⟩ : ∃ n, n = rs.length := ⟨_, rfl⟩
  rw [← hn] at hn0 ⊢
  rw [← hn2e] at hn2 ⊢
  have HMS : Hid (∀ i x, ms[i]? = some x → ∃ b off, ad = some ⟨b, off, none⟩ ∧ b < w.heap.size ∧ MpAt w w.heap.size b (off + i * 3) x) := hms
  have HRS : Hid (∀ i x, rs[i]? = some x → ∃ b off, ad2 = some ⟨b, off, none⟩ ∧ b < w.heap.size ∧ RoAt w w.heap.size b (off + i * 5) x) := hrs
  have HOK : Hid (CfD.ok ⟨ms, rs⟩ ∧ CfD.bulk ⟨ms, rs⟩ ≤ 68719476736) := ⟨hok, hbk⟩
  have HT : Hid ((ms.flatMap mapT).length ≤ 13743895347200 ∧ (confT ⟨ms, rs⟩).length ≤ 13743895347200) := maps_total hok hbk
  have HN : Hid (n = ms.length ∧ n2 = rs.length) := ⟨hn, hn2e⟩
  clear hms hrs hok hbk hn hn2e
  go_enter Tryz.func8, Tryz.ntmps8
  go_wp2_with fail
  obtain ⟨b1, hb1⟩ : ∃ b, b = w.heap.size := ⟨_, rfl⟩
  obtain ⟨b2, hb2⟩ : ∃ b, b = w.heap.size + 1 := ⟨_, rfl⟩
  rw [← hb2, ← hb1]
  obtain ⟨U0, hU0⟩ : ∃ U0, U0 = w.alloc (.cells #[.slice ad n cap, .slice ad2 n2 cap2] 31) := ⟨_, rfl⟩
  rw [← hU0]
  obtain ⟨q0, hc0, _⟩ := box_at w _ hU0 hb1
  have hs0 : U0.heap.size = b2 := by rw [hU0, hb2]; simp
  obtain ⟨U, hU⟩ : ∃ U, U = U0.alloc (.cells #[.pointer none, .slice none 0 0] 54) := ⟨_, rfl⟩
  rw [← hU]
  have hW0 : Wr b2 U [] U := by rw [hU, ← hs0]; exact wr_new U0
  have qU : Below w.heap.size w U := by rw [hU]; exact bel_alloc q0 _
  have hcU : U.heap[b1]? = some (.cells #[.slice ad n cap, .slice ad2 n2 cap2] 31 (0, 0)) := by rw [hU]; exact pf_block (bel_alloc (Below.refl _ _) _) hc0
  have HB : Hid (w.heap.size ≤ b2 ∧ b1 < b2 ∧ b1 = w.heap.size) := ⟨by omega, by omega, hb1⟩
  have HQ : Hid (Below w.heap.size w U ∧ U.heap[b1]? = some (.cells #[.slice ad n cap, .slice ad2 n2 cap2] 31 (0, 0))) := ⟨qU, hcU⟩
  have HW0 : Hid (Wr b2 U [] U) := hW0
  clear hU hU0 hs0 hc0 q0 hW0 qU hcU hb1 hb2
  go_loopg [19] n (fun g i wr => ∃ k : Nat, k + g = n ∧ i = .int .i64 k ∧ Hid (Wr b2 U (preM ms k) wr))
  case atStart => exact ⟨0, Nat.zero_add _, rfl, HW0⟩
  case round =>
    obtain ⟨k, hk, rfl, HW⟩ := hrel
    have HBW : Hid (Below w.heap.size w wr) := bel_up HQ.out.1 HW.out.bel HB.out.1
    by_cases hlt : k < n
    · obtain ⟨m, hm⟩ : ∃ m, ms[k]? = some m := ⟨ms[k]'(by have := HN.out.1; omega), List.getElem?_eq_getElem _⟩
      obtain ⟨b, off, rfl, hb, hmp⟩ := HMS.out k m hm
      obtain ⟨cv, N0, N1, N2, ⟨adc, capc, rfl, hnc, hcs⟩⟩ := hmp
      have M0 := cells_below HBW.out (Nat.le_refl _) b _ _ hb N0
      have M1 := cells_below HBW.out (Nat.le_refl _) b _ _ hb N1
      have M2 := cells_below HBW.out (Nat.le_refl _) b _ _ hb N2
      have d4 : decide ((k : Int) < n) = true := decide_eq_true (by omega)
      have HM : Hid (ms[k]? = some m ∧ m ∈ ms ∧ m.ok) := ⟨hm, List.mem_of_getElem? hm, HOK.out.1.m m (List.mem_of_getElem? hm)⟩
      have HCS : Hid (∀ i x, m.cls[i]? = some x → ∃ b off, adc = some ⟨b, off, none⟩ ∧ b < w.heap.size ∧ ClAt w b (off + i * 10) x) := hcs
      have hname : m.name.length ≤ 68719476736 := by
        have h1 := sum_ge MpD.bulk HM.out.2.1
        have h2 := HOK.out.2
        unfold CfD.bulk at h2
        unfold MpD.bulk at h1 h2
        dsimp only at h2
        omega
      obtain ⟨nc, hnc2⟩ : ∃ x, x = m.cls.length := ⟨_, rfl⟩
      rw [← hnc2] at hnc M1
      have HNC : Hid (nc = m.cls.length) := hnc2
      have hh : ∀ w, Calls Tryz.prog 15 #[.string ⟨#[109, 97, 112]⟩, .string ⟨m.name.toArray⟩] w fun e w' => e = .returned (.string ⟨(headT [109, 97, 112] m.name).toArray⟩) ∧ w' = w := fun w =>
        head_s ⟨#[109, 97, 112]⟩ ⟨m.name.toArray⟩ (by decide) (by rw [str_size]; omega) w
      have hw1 := pre_len0 hm
      obtain ⟨N, hN⟩ : ∃ N : ByteArray, N = ⟨m.name.toArray⟩ := ⟨_, rfl⟩
      rw [← hN] at M0 hh
      have c0 : (0 : Int) ≤ k := by omega
      clear hm hcs hnc2 hN N0 N1 N2
      go_wp2_with fail
      refine (hh _).mono ?_
      rintro e X0 ⟨rfl, rfl⟩
      obtain ⟨b3, hb3⟩ : ∃ b, b = wr.heap.size := ⟨_, rfl⟩
      rw [← hb3]
      obtain ⟨X, hX⟩ : ∃ X, X = wr.alloc (.cells #[.string N, .slice adc nc capc, .int .i64 m.pl] 57) := ⟨_, rfl⟩
      rw [← hX]
      obtain ⟨qX, hcX, _⟩ := box_at wr _ hX hb3
      have HWX := HW.out.below qX HW.out.lt
      have hn3 : b3 ≠ b2 := by
        rcases HW.out.bd with h | h
        · have := h.lt; omega
        · have := h.lt; omega
      have hwr := HWX.write (headT [109, 97, 112] m.name) (by have := HT.out.1; omega)
      clear hX hb3 hh
      go_wp2_with fail
      refine hwr.mono ?_
      rintro e Y ⟨rfl, HY, oY⟩
      have hcY := oth_block oY hcX hn3 (by decide)
      obtain ⟨_, Y1, _⟩ := cells_three hcY
      have HWY : Hid (Wr b2 U (preM ms k ++ preC m 0) Y) := by
        have : preM ms k ++ headT [109, 97, 112] m.name = preM ms k ++ preC m 0 := by unfold preC; simp
        rw [this] at HY
        exact HY
      clear hwr HY oY hcY hcX hn3 HWX qX M0 M1 M2
      go_wp2_with fail
      go_loopg [30] nc (fun g i wy => ∃ j : Nat, j + g = nc ∧ i = .int .i64 j ∧ Hid (Wr b2 U (preM ms k ++ preC m j) wy))
      case atStart => exact ⟨0, Nat.zero_add _, rfl, HWY⟩
      case round =>
        obtain ⟨j, hj, rfl, HV⟩ := hrel
        have HBV : Hid (Below w.heap.size w wr) := bel_up HQ.out.1 HV.out.bel HB.out.1
        by_cases hjl : j < nc
        · obtain ⟨x, hx⟩ : ∃ x, m.cls[j]? = some x := ⟨m.cls[j]'(by have := HNC.out; omega), List.getElem?_eq_getElem _⟩
          obtain ⟨bc, offc, rfl, hbc, hcl⟩ := HCS.out j x hx
          have hxo : x.ok := HM.out.2.2.h x (List.mem_of_getElem? hx)
          obtain ⟨C0, C1, C2, C3, C4, C5, C6, C7, C8, C9⟩ := hcl.keep hbc (cells_below HBV.out (Nat.le_refl _))
          have d5 : decide ((j : Int) < nc) = true := decide_eq_true (by omega)
          have c1 : (0 : Int) ≤ j := by omega
          have hcc := fun w h => clause_ways x hxo w h
          have hw2 := pre_len2 HM.out.1 hx
          have HX : Hid (preM ms k ++ preC m j ++ lineT x = preM ms k ++ preC m (j + 1)) := by show _ = _; rw [List.append_assoc, preC_next hx]
          obtain ⟨xany, xa, xb, xwi, xou, xdrop, xse, xcl, xmore, xpref⟩ := x
          unfold clV at hcc
          dsimp only at C0 C1 C2 C3 C4 C5 C6 C7 C8 C9 hcc
          obtain ⟨LT, hLT⟩ : ∃ l, l = lineT ⟨xany, xa, xb, xwi, xou, xdrop, xse, xcl, xmore, xpref⟩ := ⟨_, rfl⟩
          rw [← hLT] at hcc HX hw2
          clear hx hcl hxo hLT
          go_wp2_with fail
          obtain ⟨b4, hb4⟩ : ∃ b, b = wr.heap.size := ⟨_, rfl⟩
          rw [← hb4]
          obtain ⟨X, hX⟩ : ∃ X, X = wr.alloc (.cells #[.bool xany, .int .u32 xa, .int .i64 xb, .int .u8 xwi, .int .u8 xou, .bool xdrop, .int .u8 xse, .int .u8 xcl, .int .i64 xmore, .int .i64 xpref] 65) := ⟨_, rfl⟩
          rw [← hX]
          obtain ⟨qX, hcX, _⟩ := box_at wr _ hX hb4
          have hT4 := (ht.below HBV.out).below qX
          have HWX := HV.out.below qX HV.out.lt
          clear hX hb4 C0 C1 C2 C3 C4 C5 C6 C7 C8 C9
          refine (hcc _ hT4).mono ?_
          rintro e Y ⟨rfl, qY⟩
          have HWY2 := HWX.below qY HWX.lt
          have hwr := HWY2.write LT (by have := HT.out.1; omega)
          clear hcc hT4 qY qX hcX HWX
          go_wp2_with fail
          refine hwr.mono ?_
          rintro e Z ⟨rfl, HZ, _⟩
          have HWZ : Hid (Wr b2 U (preM ms k ++ preC m (j + 1)) Z) := by
            rw [HX.out] at HZ
            exact HZ
          clear hwr HZ HWY2 HX
          go_wp2_with fail
          go_roundg (nc - (j + 1))
          case measure => omega
          case rel => exact ⟨j + 1, by omega, by go_num, HWZ⟩
        · obtain rfl : j = nc := by omega
          have d5 : decide ((j : Int) < j) = false := decide_eq_false (by omega)
          have hw2 := pre_len HM.out.1 j
          have hwr := HV.out.write footT (by have := HT.out.1; simp only [footT, List.length_cons, List.length_nil]; omega)
          have hft : (⟨footT.toArray⟩ : ByteArray) = ⟨#[125, 10]⟩ := rfl
          rw [hft] at hwr
          have HX : Hid (preM ms k ++ preC m j ++ footT = preM ms (k + 1)) := by show _ = _; rw [HNC.out]; exact preM_next HM.out.1
          clear hft
          go_wp2_with fail
          refine hwr.mono ?_
          rintro e Z ⟨rfl, HZ, _⟩
          have HWZ : Hid (Wr b2 U (preM ms (k + 1)) Z) := by
            rw [HX.out] at HZ
            exact HZ
          clear hwr HZ HX
          go_wp2_with fail
          go_roundg (n - (k + 1))
          case measure => omega
          case rel => exact ⟨k + 1, by omega, by go_num, HWZ⟩
    · obtain rfl : k = n := by omega
      have d4 : decide ((k : Int) < k) = false := decide_eq_false (by omega)
      have hcB : wr.cell? ⟨b1, 1, none⟩ = some (.slice ad2 n2 cap2) := by
        rw [HW.out.bel.cell (p := ⟨b1, 1, none⟩) HB.out.2.1]
        exact (cells_two HQ.out.2).2
      have HM0 : Hid (preM ms k = ms.flatMap mapT) := by show _ = _; unfold preM; rw [HN.out.1, List.take_length]
      obtain ⟨M, hMe⟩ : ∃ M, M = ms.flatMap mapT := ⟨_, rfl⟩
      have HT2 : Hid ((M ++ rs.flatMap routT).length ≤ 13743895347200 ∧ confT ⟨ms, rs⟩ = M ++ rs.flatMap routT) := by
        refine ⟨?_, ?_⟩
        · have := HT.out.2
          rw [hMe]
          exact this
        · rw [hMe]; rfl
      have HWM : Hid (Wr b2 U (M ++ preR rs 0) wr) := by
        have := HW.out
        rw [HM0.out, ← hMe] at this
        show Wr b2 U (M ++ preR rs 0) wr
        unfold preR
        simpa using this
      clear hMe HM0 HW
      go_wp2_with fail
      clear hcB
      go_loopg [43] n2 (fun g i wz => ∃ k : Nat, k + g = n2 ∧ i = .int .i64 k ∧ Hid (Wr b2 U (M ++ preR rs k) wz))
      case atStart => exact ⟨0, Nat.zero_add _, rfl, HWM⟩
      case round =>
        obtain ⟨k2, hk2, rfl, HW⟩ := hrel
        have HBW : Hid (Below w.heap.size w wr) := bel_up HQ.out.1 HW.out.bel HB.out.1
        by_cases hlt2 : k2 < n2
        · obtain ⟨r, hr⟩ : ∃ r, rs[k2]? = some r := ⟨rs[k2]'(by have := HN.out.2; omega), List.getElem?_eq_getElem _⟩
          obtain ⟨b, off, rfl, hb, nv, lv, sv, N0, N1, N2, N3, N4, ⟨adn, capn, rfl, hnn, hns⟩, ⟨adl, capl, rfl, hnl, hls⟩, ⟨ads, caps, rfl, hnst, hss⟩⟩ := HRS.out k2 r hr
          have M0 := cells_below HBW.out (Nat.le_refl _) b _ _ hb N0
          have M1 := cells_below HBW.out (Nat.le_refl _) b _ _ hb N1
          have M2 := cells_below HBW.out (Nat.le_refl _) b _ _ hb N2
          have M3 := cells_below HBW.out (Nat.le_refl _) b _ _ hb N3
          have M4 := cells_below HBW.out (Nat.le_refl _) b _ _ hb N4
          have d4 : decide ((k2 : Int) < n2) = true := decide_eq_true (by omega)
          have HR : Hid (rs[k2]? = some r ∧ r ∈ rs ∧ r.ok) := ⟨hr, List.mem_of_getElem? hr, HOK.out.1.r r (List.mem_of_getElem? hr)⟩
          have HNS : Hid (∀ i x, r.nets[i]? = some x → ∃ b off, adn = some ⟨b, off, none⟩ ∧ b < w.heap.size ∧ PfAt w b (off + i * 2) x) := hns
          have HLS : Hid (∀ i x, r.lks[i]? = some x → ∃ b off, adl = some ⟨b, off, none⟩ ∧ b < w.heap.size ∧ LkAt w b (off + i * 5) x) := hls
          have HSS : Hid (∀ i x, r.sts[i]? = some x → ∃ b off, ads = some ⟨b, off, none⟩ ∧ b < w.heap.size ∧ StAt w b (off + i * 4) x) := hss
          have hbulk : r.bulk ≤ 68719476736 := by
            have h1 := sum_ge RoD.bulk HR.out.2.1
            have h2 := HOK.out.2
            unfold CfD.bulk at h2
            dsimp only at h2
            omega
          have hname : r.name.length ≤ 68719476736 := by
            have h1 := hbulk
            unfold RoD.bulk at h1
            omega
          have HRB : Hid (r.bulk ≤ 68719476736) := hbulk
          obtain ⟨nn, hnn2⟩ : ∃ x, x = r.nets.length := ⟨_, rfl⟩
          obtain ⟨nl, hnl2⟩ : ∃ x, x = r.lks.length := ⟨_, rfl⟩
          obtain ⟨ns, hns2⟩ : ∃ x, x = r.sts.length := ⟨_, rfl⟩
          rw [← hnn2] at hnn M1
          rw [← hnl2] at hnl M2
          rw [← hns2] at hnst M3
          have HNN : Hid (nn = r.nets.length ∧ nl = r.lks.length ∧ ns = r.sts.length) := ⟨hnn2, hnl2, hns2⟩
          have hh : ∀ w, Calls Tryz.prog 15 #[.string ⟨#[114, 111, 117, 116, 101, 114]⟩, .string ⟨r.name.toArray⟩] w fun e w' => e = .returned (.string ⟨(hdR r).toArray⟩) ∧ w' = w := fun w =>
            head_s ⟨#[114, 111, 117, 116, 101, 114]⟩ ⟨r.name.toArray⟩ (by decide) (by rw [str_size]; omega) w
          have hw1 := in_rout HR.out.1 HT2.out.1 (A := []) (B := hdR r) (by have := preN_len r 0; unfold preN at this; simp at this ⊢; omega)
          rw [List.append_nil] at hw1
          obtain ⟨N, hN⟩ : ∃ N : ByteArray, N = ⟨r.name.toArray⟩ := ⟨_, rfl⟩
          rw [← hN] at M0 hh
          have c0 : (0 : Int) ≤ k2 := by omega
          clear hr hns hls hss hnn2 hnl2 hns2 hN N0 N1 N2 N3 N4 hbulk hname
          go_wp2_with fail
          refine (hh _).mono ?_
          rintro e X0 ⟨rfl, rfl⟩
          obtain ⟨b3, hb3⟩ : ∃ b, b = wr.heap.size := ⟨_, rfl⟩
          rw [← hb3]
          obtain ⟨X, hX⟩ : ∃ X, X = wr.alloc (.cells #[.string N, .slice adn nn capn, .slice adl nl capl, .slice ads ns caps, .int .i64 r.pl] 51) := ⟨_, rfl⟩
          rw [← hX]
          obtain ⟨qX, hcX, _⟩ := box_at wr _ hX hb3
          have HWX := HW.out.below qX HW.out.lt
          have hn3 : b3 ≠ b2 := by
            rcases HW.out.bd with h | h
            · have := h.lt; omega
            · have := h.lt; omega
          have hwr := HWX.write (hdR r) (by omega)
          have HN3 : Hid (b3 ≠ b2) := hn3
          clear hX hb3 hh
          go_wp2_with fail
          refine hwr.mono ?_
          rintro e Y ⟨rfl, HY, oY⟩
          have hcY := oth_block oY hcX hn3 (by decide)
          obtain ⟨_, Y1, _, _, _⟩ := cells_five hcY
          obtain ⟨RC, hRC⟩ : ∃ RC : Array Value, RC = #[.string N, .slice adn nn capn, .slice adl nl capl, .slice ads ns caps, .int .i64 r.pl] := ⟨_, rfl⟩
          have HRC : Hid (RC = #[.string N, .slice adn nn capn, .slice adl nl capl, .slice ads ns caps, .int .i64 r.pl]) := hRC
          have HWY : Hid (Wr b2 U (M ++ preR rs k2 ++ preN r 0) Y ∧ Y.heap[b3]? = some (.cells RC 51 (0, 0))) := by
            refine ⟨?_, by rw [hRC]; exact hcY⟩
            have : preN r 0 = hdR r := by unfold preN; simp
            rw [this]
            exact HY
          clear hwr HY oY hcY hcX hn3 HWX qX M0 M1 M2 M3 M4 hRC
          go_wp2_with fail
          clear Y1
          go_loopg [54] nn (fun g i wy => ∃ j : Nat, j + g = nn ∧ i = .int .i64 j ∧ Hid (Wr b2 U (M ++ preR rs k2 ++ preN r j) wy ∧ wy.heap[b3]? = some (.cells RC 51 (0, 0))))
          case atStart => exact ⟨0, Nat.zero_add _, rfl, HWY⟩
          case round =>
            obtain ⟨j, hj, rfl, HV⟩ := hrel
            have HBV : Hid (Below w.heap.size w wr) := bel_up HQ.out.1 HV.out.1.bel HB.out.1
            by_cases hjl : j < nn
            · obtain ⟨x, hx⟩ : ∃ x, r.nets[j]? = some x := ⟨r.nets[j]'(by have := HNN.out.1; omega), List.getElem?_eq_getElem _⟩
              obtain ⟨bc, offc, rfl, hbc, hcl⟩ := HNS.out j x hx
              have hxo := HR.out.2.2.n x (List.mem_of_getElem? hx)
              obtain ⟨C0, C1⟩ := hcl.keep hbc (cells_below HBV.out (Nat.le_refl _))
              obtain ⟨xa, xb⟩ := x
              dsimp only at C0 C1 hxo
              have d5 : decide ((j : Int) < nn) = true := decide_eq_true (by omega)
              have c1 : (0 : Int) ≤ j := by omega
              have hcc := fun w h => pft_any xa xb hxo w h
              have hpl := pf_len xa xb hxo
              obtain ⟨t, htt⟩ : ∃ t : ByteArray, t = ⟨(pfT xa xb).toArray⟩ := ⟨_, rfl⟩
              have hci := net_inner xa xb t hxo htt
              rw [← htt] at hcc
              have zt : t.size ≤ 20 := by rw [htt, str_size]; omega
              have hw2 := in_rout HR.out.1 HT2.out.1 (A := preN r j) (B := netT (xa, xb)) (by rw [preN_next hx]; have := preN_len r (j + 1); omega)
              have HX : Hid (M ++ preR rs k2 ++ preN r j ++ netT (xa, xb) = M ++ preR rs k2 ++ preN r (j + 1)) := by show _ = _; rw [List.append_assoc, preN_next hx]
              have k4 : (⟨#[110, 101, 116, 32]⟩ : ByteArray).size = 4 := rfl
              unfold pfV at hcc
              obtain ⟨LT, hLT⟩ : ∃ l, l = netT (xa, xb) := ⟨_, rfl⟩
              rw [← hLT] at hci HX hw2
              clear hx hcl hxo hLT htt hpl
              go_wp2_with fail
              obtain ⟨b4, hb4⟩ : ∃ b, b = wr.heap.size := ⟨_, rfl⟩
              rw [← hb4]
              obtain ⟨X, hX⟩ : ∃ X, X = wr.alloc (.cells #[.int .u32 xa, .int .i64 xb] 63) := ⟨_, rfl⟩
              rw [← hX]
              obtain ⟨qX, hcX, _⟩ := box_at wr _ hX hb4
              have hT4 := (ht.below HBV.out).below qX
              have HWX := HV.out.1.below qX HV.out.1.lt
              have hRX := pf_block qX HV.out.2
              clear hX hb4 C0 C1
              refine (hcc _ hT4).mono ?_
              rintro e Y ⟨rfl, qY⟩
              have HWY2 := HWX.below qY HWX.lt
              have hRY := pf_block qY hRX
              have hwr := HWY2.write LT (by omega)
              clear hcc hT4 qY qX hcX HWX hRX
              go_wp2_with fail
              refine (hci _).mono ?_
              rintro e Y2 ⟨rfl, rfl⟩
              clear hci
              go_wp2_with fail
              refine hwr.mono ?_
              rintro e Z ⟨rfl, HZ, oZ⟩
              have HWZ : Hid (Wr b2 U (M ++ preR rs k2 ++ preN r (j + 1)) Z ∧ Z.heap[b3]? = some (.cells RC 51 (0, 0))) := by
                rw [HX.out] at HZ
                exact ⟨HZ, oth_block oZ hRY HN3.out (by decide)⟩
              clear hwr HZ HWY2 HX oZ hRY
              go_wp2_with fail
              go_roundg (nn - (j + 1))
              case measure => omega
              case rel => exact ⟨j + 1, by omega, by go_num, HWZ⟩
            · obtain rfl : j = nn := by omega
              have d5 : decide ((j : Int) < j) = false := decide_eq_false (by omega)
              have hR0 := HV.out.2
              rw [HRC.out] at hR0
              obtain ⟨_, _, Y2, _, _⟩ := cells_five hR0
              have HWY : Hid (Wr b2 U (M ++ preR rs k2 ++ preL r 0) wr ∧ wr.heap[b3]? = some (.cells RC 51 (0, 0))) := by
                refine ⟨?_, HV.out.2⟩
                rw [← preN_end, ← HNN.out.1]
                exact HV.out.1
              clear hR0 HV
              go_wp2_with fail
              clear Y2
              go_loopg [67] nl (fun g i wy => ∃ j : Nat, j + g = nl ∧ i = .int .i64 j ∧ Hid (Wr b2 U (M ++ preR rs k2 ++ preL r j) wy ∧ wy.heap[b3]? = some (.cells RC 51 (0, 0))))
              case atStart => exact ⟨0, Nat.zero_add _, rfl, HWY⟩
              case round =>
                obtain ⟨j2, hj2, rfl, HV⟩ := hrel
                have HBV : Hid (Below w.heap.size w wr) := bel_up HQ.out.1 HV.out.1.bel HB.out.1
                by_cases hjl2 : j2 < nl
                · obtain ⟨x, hx⟩ : ∃ x, r.lks[j2]? = some x := ⟨r.lks[j2]'(by have := HNN.out.2.1; omega), List.getElem?_eq_getElem _⟩
                  obtain ⟨bc, offc, rfl, hbc, hcl⟩ := HLS.out j2 x hx
                  have hxo := HR.out.2.2.l x (List.mem_of_getElem? hx)
                  have hxb : x.bulk ≤ 68719476736 := by
                    have h1 := sum_ge LkD.bulk (List.mem_of_getElem? hx)
                    have h2 := HRB.out
                    unfold RoD.bulk at h2
                    omega
                  obtain ⟨C0, C1, C2, C3, C4⟩ := hcl.keep hbc (cells_below HBV.out (Nat.le_refl _))
                  have d6 : decide ((j2 : Int) < nl) = true := decide_eq_true (by omega)
                  have c1 : (0 : Int) ≤ j2 := by omega
                  have hcc := fun w h => link_any x hxo hxb w h
                  have hw2 := in_rout HR.out.1 HT2.out.1 (A := preL r j2) (B := linkT x) (by rw [preL_next hx]; have := preL_len r (j2 + 1); omega)
                  have HX : Hid (M ++ preR rs k2 ++ preL r j2 ++ linkT x = M ++ preR rs k2 ++ preL r (j2 + 1)) := by show _ = _; rw [List.append_assoc, preL_next hx]
                  unfold lkV at hcc
                  obtain ⟨LT, hLT⟩ : ∃ l, l = linkT x := ⟨_, rfl⟩
                  rw [← hLT] at hcc HX hw2
                  obtain ⟨pN, hpN⟩ : ∃ N : ByteArray, N = ⟨x.peer.toArray⟩ := ⟨_, rfl⟩
                  obtain ⟨pI, hpI⟩ : ∃ N : ByteArray, N = ⟨x.imp.toArray⟩ := ⟨_, rfl⟩
                  obtain ⟨pE, hpE⟩ : ∃ N : ByteArray, N = ⟨x.exp.toArray⟩ := ⟨_, rfl⟩
                  obtain ⟨pc, hpc⟩ : ∃ n, n = x.cost := ⟨_, rfl⟩
                  obtain ⟨pp, hpp⟩ : ∃ n, n = x.pl := ⟨_, rfl⟩
                  rw [← hpN] at C0 hcc
                  rw [← hpc] at C1 hcc
                  rw [← hpI] at C2 hcc
                  rw [← hpE] at C3 hcc
                  rw [← hpp] at C4 hcc
                  clear hx hcl hxo hLT hxb hpN hpI hpE hpc hpp
                  go_wp2_with fail
                  obtain ⟨b4, hb4⟩ : ∃ b, b = wr.heap.size := ⟨_, rfl⟩
                  rw [← hb4]
                  obtain ⟨X, hX⟩ : ∃ X, X = wr.alloc (.cells #[.string pN, .int .i64 pc, .string pI, .string pE, .int .i64 pp] 70) := ⟨_, rfl⟩
                  rw [← hX]
                  obtain ⟨qX, hcX, _⟩ := box_at wr _ hX hb4
                  have hT4 := (ht.below HBV.out).below qX
                  have HWX := HV.out.1.below qX HV.out.1.lt
                  have hRX := pf_block qX HV.out.2
                  clear hX hb4 C0 C1 C2 C3 C4
                  refine (hcc _ hT4).mono ?_
                  rintro e Y ⟨rfl, qY⟩
                  have HWY2 := HWX.below qY HWX.lt
                  have hRY := pf_block qY hRX
                  have hwr := HWY2.write LT (by omega)
                  clear hcc hT4 qY qX hcX HWX hRX
                  go_wp2_with fail
                  refine hwr.mono ?_
                  rintro e Z ⟨rfl, HZ, oZ⟩
                  have HWZ : Hid (Wr b2 U (M ++ preR rs k2 ++ preL r (j2 + 1)) Z ∧ Z.heap[b3]? = some (.cells RC 51 (0, 0))) := by
                    rw [HX.out] at HZ
                    exact ⟨HZ, oth_block oZ hRY HN3.out (by decide)⟩
                  clear hwr HZ HWY2 HX oZ hRY
                  go_wp2_with fail
                  go_roundg (nl - (j2 + 1))
                  case measure => omega
                  case rel => exact ⟨j2 + 1, by omega, by go_num, HWZ⟩
                · obtain rfl : j2 = nl := by omega
                  have d6 : decide ((j2 : Int) < j2) = false := decide_eq_false (by omega)
                  have hR0 := HV.out.2
                  rw [HRC.out] at hR0
                  obtain ⟨_, _, _, Y3, _⟩ := cells_five hR0
                  have HWY : Hid (Wr b2 U (M ++ preR rs k2 ++ preS r 0) wr) := by
                    have h1 := HV.out.1
                    rw [HNN.out.2.1, preL_end] at h1
                    exact h1
                  clear hR0 HV
                  go_wp2_with fail
                  clear Y3
                  go_loopg [78] ns (fun g i wy => ∃ j : Nat, j + g = ns ∧ i = .int .i64 j ∧ Hid (Wr b2 U (M ++ preR rs k2 ++ preS r j) wy))
                  case atStart => exact ⟨0, Nat.zero_add _, rfl, HWY⟩
                  case round =>
                    obtain ⟨j3, hj3, rfl, HV⟩ := hrel
                    have HBV : Hid (Below w.heap.size w wr) := bel_up HQ.out.1 HV.out.bel HB.out.1
                    by_cases hjl3 : j3 < ns
                    · obtain ⟨x, hx⟩ : ∃ x, r.sts[j3]? = some x := ⟨r.sts[j3]'(by have := HNN.out.2.2; omega), List.getElem?_eq_getElem _⟩
                      obtain ⟨bc, offc, rfl, hbc, hcl⟩ := HSS.out j3 x hx
                      have hxo := HR.out.2.2.s x (List.mem_of_getElem? hx)
                      have hxb : x.via.length ≤ 68719476736 := by
                        have h1 := sum_ge StD.bulk (List.mem_of_getElem? hx)
                        have h2 := HRB.out
                        unfold RoD.bulk at h2
                        unfold StD.bulk at h1 h2
                        omega
                      obtain ⟨C0, C1, C2, C3⟩ := hcl.keep hbc (cells_below HBV.out (Nat.le_refl _))
                      have d7 : decide ((j3 : Int) < ns) = true := decide_eq_true (by omega)
                      have c1 : (0 : Int) ≤ j3 := by omega
                      have hcc := fun w h => pft_any x.a x.b hxo w h
                      have hpl := pf_len x.a x.b hxo
                      obtain ⟨t, htt⟩ : ∃ t : ByteArray, t = ⟨(pfT x.a x.b).toArray⟩ := ⟨_, rfl⟩
                      obtain ⟨V, hV⟩ : ∃ t : ByteArray, t = ⟨x.via.toArray⟩ := ⟨_, rfl⟩
                      have hci := stat_inner x t V hxo hxb htt hV
                      rw [← htt] at hcc
                      rw [← hV] at C2
                      have zt : t.size ≤ 20 := by rw [htt, str_size]; omega
                      have zv : V.size ≤ 68719476736 := by rw [hV, str_size]; omega
                      have hw2 := in_rout HR.out.1 HT2.out.1 (A := preS r j3) (B := statT x) (by rw [preS_next hx]; have := preS_len r (j3 + 1); omega)
                      have HX : Hid (M ++ preR rs k2 ++ preS r j3 ++ statT x = M ++ preR rs k2 ++ preS r (j3 + 1)) := by show _ = _; rw [List.append_assoc, preS_next hx]
                      have k4 : (⟨#[115, 116, 97, 116, 105, 99, 32]⟩ : ByteArray).size = 7 := rfl
                      have k5 : (⟨#[32, 118, 105, 97, 32]⟩ : ByteArray).size = 5 := rfl
                      unfold pfV at hcc
                      obtain ⟨LT, hLT⟩ : ∃ l, l = statT x := ⟨_, rfl⟩
                      rw [← hLT] at hci HX hw2
                      obtain ⟨xa, hxa⟩ : ∃ n, n = x.a := ⟨_, rfl⟩
                      obtain ⟨xb, hxb2⟩ : ∃ n, n = x.b := ⟨_, rfl⟩
                      obtain ⟨xp, hxp⟩ : ∃ n, n = x.pl := ⟨_, rfl⟩
                      rw [← hxa] at C0 hcc
                      rw [← hxb2] at C1 hcc
                      rw [← hxp] at C3
                      clear hx hcl hxo hLT htt hpl hV hxa hxb2 hxp hxb
                      go_wp2_with fail
                      obtain ⟨b4, hb4⟩ : ∃ b, b = wr.heap.size := ⟨_, rfl⟩
                      rw [← hb4]
                      obtain ⟨X, hX⟩ : ∃ X, X = wr.alloc (.cells #[.int .u32 xa, .int .i64 xb, .string V, .int .i64 xp] 73) := ⟨_, rfl⟩
                      rw [← hX]
                      obtain ⟨qX, hcX, lX⟩ := box_at wr _ hX hb4
                      have hT4 := (ht.below HBV.out).below qX
                      have HWX : Hid (Wr b2 U (M ++ preR rs k2 ++ preS r j3) X) := HV.out.below qX HV.out.lt
                      obtain ⟨D0, D1, D2, D3⟩ := cells_four hcX
                      have E0 := fun p => bel_cell lX D0 p
                      have E1 := fun p => bel_cell lX D1 p
                      have E2 := fun p => bel_cell lX D2 p
                      have HTX : ∀ p : BelOf X, TabP p.w := fun p => hT4.below p.h
                      clear hX hb4 C0 C1 C2 C3 D0 D1 D2 D3 hcX hT4
                      have hne := bel_ne X
                      refine wp_region_parts (C := fun w' => ∃ p : BelOf X, w' = p.w) [] [0, 1, 2, 3, 4, 5, 6, 7, 8] [9] (by kernel_rfl) (by kernel_rfl) rfl ⟨⟨X.drew, (Below.refl _ _).drew⟩, rfl⟩ (fun _ _ d _ _ h => by cases d <;> exact h) ?_
                      simp only [pickL, List.nil_append, List.getElem?_cons_zero, List.getElem?_cons_succ]
                      repeat (go_big_quiet_step (first
                        | (go_at_call 17; exact bel_same (hci _))
                        | (go_at_call 18; exact bel_of (hcc _ (HTX _)))))
                      refine wpQuiet_nil ?_
                      rintro W ⟨⟨W', hW⟩, rfl⟩
                      clear hcc hci E0 E1 E2 HTX hne
                      have hwr := (HWX.out.below hW HWX.out.lt).write LT (by omega)
                      go_wp2_with fail
                      refine hwr.mono ?_
                      rintro e Z ⟨rfl, HZ, oZ⟩
                      have HWZ : Hid (Wr b2 U (M ++ preR rs k2 ++ preS r (j3 + 1)) Z) := by
                        rw [HX.out] at HZ
                        exact HZ
                      clear hwr HZ HX oZ
                      go_wp2_with fail
                      go_roundg (ns - (j3 + 1))
                      case measure => omega
                      case rel => exact ⟨j3 + 1, by omega, by go_num, HWZ⟩
                    · obtain rfl : j3 = ns := by omega
                      have d7 : decide ((j3 : Int) < j3) = false := decide_eq_false (by omega)
                      have hw2 := in_rout HR.out.1 HT2.out.1 (A := preS r j3) (B := footT) (by have := preS_len r j3; simp only [List.length_append, footT, List.length_cons, List.length_nil]; omega)
                      have hwr := HV.out.write footT (by omega)
                      have hft : (⟨footT.toArray⟩ : ByteArray) = ⟨#[125, 10]⟩ := rfl
                      rw [hft] at hwr
                      have HX : Hid (M ++ preR rs k2 ++ preS r j3 ++ footT = M ++ preR rs (k2 + 1)) := by
                        show _ = _
                        rw [← preR_next HR.out.1, ← HNN.out.2.2]
                        simp only [List.append_assoc]
                      clear hft
                      go_wp2_with fail
                      refine hwr.mono ?_
                      rintro e Z ⟨rfl, HZ, _⟩
                      have HWZ : Hid (Wr b2 U (M ++ preR rs (k2 + 1)) Z) := by
                        rw [HX.out] at HZ
                        exact HZ
                      clear hwr HZ HX
                      go_wp2_with fail
                      go_roundg (n2 - (k2 + 1))
                      case measure => omega
                      case rel => exact ⟨k2 + 1, by omega, by go_num, HWZ⟩
        · obtain rfl : k2 = n2 := by omega
          have d4 : decide ((k2 : Int) < k2) = false := decide_eq_false (by omega)
          have hR : M ++ preR rs k2 = confT ⟨ms, rs⟩ := by
            rw [HT2.out.2]
            unfold preR
            rw [HN.out.2, List.take_length]
          have hbd := HW.out.bd
          rw [hR] at hbd
          have hst := Tryz.Builder_String_any b2 b2 (confT ⟨ms, rs⟩) wr hbd HW.out.lt
          clear hR hbd
          go_wp2_with fail
          refine hst.mono ?_
          rintro e Z ⟨rfl, qZ⟩
          have qf := bel_up HBW.out (qZ.mono HB.out.1) (Nat.le_refl _)
          go_wp2_with fail
          go_ret
          exact ⟨rfl, qf⟩
end Go.Proofs.YtejhgifadohbiaaGreatDoor
