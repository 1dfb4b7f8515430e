/- CheckPeer: what it walks. -/
import Derived.Test.YtcjdjifooaeomaaDoorDSp
import Derived.Test.YtcjdjifooaeomaaDoorVZ
import Derived.Test.YtcjdjifooaeomaaDoorDN
import Derived.Test.YtcjdjifooaeomaaDoorUV
namespace Go.Proofs.YtcjdjifooaeomaaDoor
open Go.RowKit Go.Lib

/-- The link that is wanted, as cells. -/
def wantL : Option LkD → List Value
  | none => [.string ⟨#[]⟩, .int .i64 0, .string ⟨#[]⟩, .string ⟨#[]⟩, .int .i64 0]
  | some l => lkL l
def wantO (f : Option LkD) : Obj := .cells (wantL f).toArray 50 (0, 0)
theorem find_take {l : List LkD} {a : Bs} {k : Nat} {x : LkD} (hx : l[k]? = some x) : (l.take (k + 1)).find? (fun l => decide (l.peer = a)) = ((l.take k).find? (fun l => decide (l.peer = a))).or (if x.peer = a then some x else none) := by
  rw [List.take_add_one, hx, List.find?_append]
  congr 1
  simp only [Option.toList_some, List.find?_singleton, decide_eq_true_eq]
theorem held_small {l : LkD} (h1 : l.peer.length ≤ 10) (h2 : l.imp.length ≤ 10) (h3 : l.exp.length ≤ 10) : l.held := ⟨by omega, by omega, by omega⟩
theorem confS_held (s : ShD) : ∀ r ∈ (confS s).ros, ∀ l ∈ r.lks, l.held := by
  intro r hr l hl
  obtain ⟨k, hk, rfl⟩ := rosS_mem hr
  obtain ⟨i, hi, rfl⟩ := linksS_mem hl
  have hM : ∀ v, (mappedS s v).length ≤ 10 := fun v => by unfold mappedS mapN; split <;> simp
  exact held_small (by show (nameS i).length ≤ 10; unfold nameS; simp) (hM _) (hM _)
theorem peerR_name {r : RoD} {a : Bs} {l : LkD} (h : peerR r a = some l) : l.peer = a := by
  unfold peerR at h
  simpa using List.find?_some h
theorem cff1 (a b : Option Addr) (n m p q : Nat) (W : World) : Sem.run Tryd.prog (Instr.field 33 (.agg #[.slice a n p, .slice b m q]) 1) W = .ok (.slice b m q) W := by kernel_rfl
theorem peer_form (f : Option LkD) : ∃ (pe im ex : ByteArray) (co pl : Int), peerV f = .tuple #[.agg #[.string pe, .int .i64 co, .string im, .string ex, .int .i64 pl], .bool f.isSome] ∧ wantO f = .cells #[.string pe, .int .i64 co, .string im, .string ex, .int .i64 pl] 50 (0, 0) := by
  cases f with
  | none => exact ⟨⟨#[]⟩, ⟨#[]⟩, ⟨#[]⟩, 0, 0, rfl, rfl⟩
  | some l => exact ⟨⟨l.peer.toArray⟩, ⟨l.imp.toArray⟩, ⟨l.exp.toArray⟩, l.cost, l.pl, rfl, rfl⟩
theorem peer_said {r : RoD} {a : Bs} : ∃ (t : Bool) (pe im ex : ByteArray) (co pl : Int), peerV (peerR r a) = .tuple #[.agg #[.string pe, .int .i64 co, .string im, .string ex, .int .i64 pl], .bool t] ∧ (t = true → pe = ⟨a.toArray⟩) ∧ (t = false → pe = ⟨#[]⟩ ∧ im = ⟨#[]⟩ ∧ ex = ⟨#[]⟩ ∧ co = 0 ∧ pl = 0) := by
  cases h : peerR r a with
  | none => exact ⟨false, ⟨#[]⟩, ⟨#[]⟩, ⟨#[]⟩, 0, 0, rfl, (fun h => by cases h), fun _ => ⟨rfl, rfl, rfl, rfl, rfl⟩⟩
  | some l => exact ⟨true, ⟨l.peer.toArray⟩, ⟨l.imp.toArray⟩, ⟨l.exp.toArray⟩, l.cost, l.pl, rfl, (fun _ => by rw [peerR_name h]), fun h => by cases h⟩
set_option maxHeartbeats 16000000 in
set_option maxRecDepth 20000 in
theorem checkPeer_walk (r : RoD) (hr : ∀ l ∈ r.lks, l.held) (v0 : Value) (a : Bs) (s : ShD) (hok : s.ok) (v : Value) (kk : Nat) (hkk : kk < 256) (w : World) (hv0 : RoVal w w.heap.size v0 r) (hv : ShAt w w.heap.size v s) (hl : Laid w) :
    Calls Tryd.prog 6 #[v0, .string ⟨a.toArray⟩, v, .int .u8 kk] w fun e w' => e = .returned (.bool true) ∧ Below w.heap.size w w' := by
  have HV : Hid (ShAt w w.heap.size v s) := hv
  have HRV : Hid (RoVal w w.heap.size v0 r) := hv0
  obtain ⟨lv, mv, nv, tv, wv, rfl, _, _, _, _, _⟩ := hv
  obtain ⟨rnv, rlv, rsv, rfl, ⟨an, cn, rfl, _⟩, ⟨ad, cap, rfl, hn0, hls⟩, ⟨ast, cs, rfl, _⟩⟩ := hv0
  have HL : Hid (Laid w) := hl
  have HOK : Hid (s.ok ∧ ∀ l ∈ r.lks, l.held) := ⟨hok, hr⟩
  obtain ⟨sn, hsn⟩ : ∃ n, n = s.n := ⟨_, rfl⟩
  rw [← hsn] at HV ⊢
  obtain ⟨n, hn⟩ : ∃ n, n = r.lks.length := ⟨_, rfl⟩
  obtain ⟨nn, hnn⟩ : ∃ n, n = r.nets.length := ⟨_, rfl⟩
  obtain ⟨ns, hns⟩ : ∃ n, n = r.sts.length := ⟨_, rfl⟩
  obtain ⟨nm, hnm⟩ : ∃ x : ByteArray, x = ⟨r.name.toArray⟩ := ⟨_, rfl⟩
  rw [← hn] at hn0 HRV ⊢
  rw [← hnn, ← hns, ← hnm] at HRV ⊢
  have HN : Hid (n = r.lks.length) := hn
  have HLS : Hid (∀ i x, r.lks[i]? = some x → ∃ b off, ad = some ⟨b, off, none⟩ ∧ b < w.heap.size ∧ LkAt w b (off + i * 5) x) := hls
  obtain ⟨A, hA⟩ : ∃ x : ByteArray, x = ⟨a.toArray⟩ := ⟨_, rfl⟩
  rw [← hA]
  have HA : Hid (A = ⟨a.toArray⟩) := hA
  have kk0 : (0 : Int) ≤ kk := by omega
  have kk1 : (kk : Int) < 256 := by omega
  obtain ⟨q8, hq8⟩ : ∃ q, q = kk % 8 := ⟨_, rfl⟩
  have fq : ((kk : Int) % 8) = (q8 : Int) := by rw [hq8, Int.natCast_emod]; rfl
  have hq : q8 < 8 := by rw [hq8]; exact Nat.mod_lt _ (by omega)
  have q0 : (0 : Int) ≤ q8 := by omega
  have q1 : (q8 : Int) < 256 := by omega
  clear hl hok hr hsn hn hnn hns hnm hls hA hq8
  go_enter Tryd.func6, Tryd.ntmps6
  go_upto_region 1 with fail
  obtain ⟨b4, hb4⟩ : ∃ b, b = w.heap.size := ⟨_, rfl⟩
  obtain ⟨b6, hb6⟩ : ∃ b, b = w.heap.size + 1 := ⟨_, rfl⟩
  rw [← hb6, ← hb4]
  obtain ⟨U1, hU1⟩ : ∃ U, U = w.alloc (.cells #[.string nm, .slice an nn cn, .slice ad n cap, .slice ast ns cs, .int .i64 r.pl] 48) := ⟨_, rfl⟩
  rw [← hU1]
  obtain ⟨U, hU⟩ : ∃ U, U = U1.alloc (.cells #[.int .u8 sn, lv, mv, nv, tv, wv] 25) := ⟨_, rfl⟩
  rw [← hU]
  obtain ⟨q1', r1, _⟩ := box_at w _ hU1 hb4
  obtain ⟨q2, r2, _⟩ := box_at U1 _ hU (b := b6) (by rw [hU1, hb6]; simp)
  have QU : Hid (Below w.heap.size w U ∧ U.heap[b4]? = some (.cells #[.string nm, .slice an nn cn, .slice ad n cap, .slice ast ns cs, .int .i64 r.pl] 48 (0, 0)) ∧ U.heap[b6]? = some (.cells #[.int .u8 sn, lv, mv, nv, tv, wv] 25 (0, 0))) := ⟨bel_up q1' q2 q1'.size, pf_block q2 r1, r2⟩
  have h1 := awake9_any U (laid_below HL.out QU.out.1)
  clear hU hU1 hb4 hb6 q1' q2 r1 r2
  go_wp2_with fail
  refine h1.mono ?_
  rintro e V0 ⟨rfl, qV⟩
  have QV0 : Hid (Below w.heap.size w V0 ∧ V0.heap[b4]? = some (.cells #[.string nm, .slice an nn cn, .slice ad n cap, .slice ast ns cs, .int .i64 r.pl] 48 (0, 0)) ∧ V0.heap[b6]? = some (.cells #[.int .u8 sn, lv, mv, nv, tv, wv] 25 (0, 0))) := ⟨bel_up QU.out.1 qV QU.out.1.size, pf_block qV QU.out.2.1, pf_block qV QU.out.2.2⟩
  clear h1 qV QU
  go_upto_region 4 with fail
  obtain ⟨b9, hb9⟩ : ∃ b, b = V0.heap.size := ⟨_, rfl⟩
  rw [← hb9]
  obtain ⟨V, hV⟩ : ∃ X, X = V0.alloc (.cells #[.string ⟨#[]⟩, .int .i64 0, .string ⟨#[]⟩, .string ⟨#[]⟩, .int .i64 0] 50) := ⟨_, rfl⟩
  rw [← hV]
  obtain ⟨qV, rV, _⟩ := box_at V0 _ hV hb9
  have QV : Hid (Below w.heap.size w V ∧ V.heap[b4]? = some (.cells #[.string nm, .slice an nn cn, .slice ad n cap, .slice ast ns cs, .int .i64 r.pl] 48 (0, 0)) ∧ V.heap[b6]? = some (.cells #[.int .u8 sn, lv, mv, nv, tv, wv] 25 (0, 0)) ∧ V.heap[b9]? = some (wantO none) ∧ w.heap.size ≤ b9 ∧ b4 ≠ b9 ∧ b6 ≠ b9) := by
    have h4 := (Array.getElem?_eq_some_iff.1 QV0.out.2.1).1
    have h6 := (Array.getElem?_eq_some_iff.1 QV0.out.2.2).1
    have hs := QV0.out.1.size
    exact ⟨bel_up QV0.out.1 qV QV0.out.1.size, pf_block qV QV0.out.2.1, pf_block qV QV0.out.2.2, rV, by omega, by omega, by omega⟩
  obtain ⟨X0, X1, X2, X3, X4⟩ := cells_five QV.out.2.1
  clear hV hb9 qV rV QV0
  go_upto_region 5 with fail
  clear X0 X1 X2 X3 X4
  have H0 : Hid (BelX b9 V V ∧ V.heap[b9]? = some (wantO ((r.lks.take 0).find? (fun l => decide (l.peer = a)))) ∧ false = ((r.lks.take 0).find? (fun l => decide (l.peer = a))).isSome) := ⟨BelX.refl _ _, QV.out.2.2.2.1, rfl⟩
  go_loopg [25, 10] n (fun g i iv wr => ∃ (k : Nat) (is : Bool), k + g = n ∧ i = .int .i64 k ∧ iv = .bool is ∧ Hid (BelX b9 V wr ∧ wr.heap[b9]? = some (wantO ((r.lks.take k).find? (fun l => decide (l.peer = a)))) ∧ is = ((r.lks.take k).find? (fun l => decide (l.peer = a))).isSome))
  case atStart => exact ⟨0, false, Nat.zero_add _, rfl, rfl, H0⟩
  case round =>
    obtain ⟨k, is, hk, rfl, rfl, HW⟩ := hrel
    have HBW : Hid (Below w.heap.size w wr) := HW.out.1.bel QV.out.1 QV.out.2.2.2.2.1
    by_cases hlt : k < n
    · obtain ⟨x, hx⟩ : ∃ x, r.lks[k]? = some x := ⟨r.lks[k]'(by have := HN.out; omega), List.getElem?_eq_getElem _⟩
      obtain ⟨b, off, rfl, hb, hp⟩ := HLS.out k x hx
      obtain ⟨P0, P1, P2, P3, P4⟩ := hp.keep hb (cells_below HBW.out (Nat.le_refl _))
      have d4 : decide ((k : Int) < n) = true := decide_eq_true (by omega)
      have c0 : (0 : Int) ≤ k := by omega
      have e1 := beq_str x.peer a
      rw [← HA.out] at e1
      obtain ⟨t, ht⟩ : ∃ t : Bool, t = decide (x.peer = a) := ⟨_, rfl⟩
      rw [← ht] at e1
      have hft := find_take (a := a) hx
      have HX : Hid ((r.lks.take (k + 1)).find? (fun l => decide (l.peer = a)) = ((r.lks.take k).find? (fun l => decide (l.peer = a))).or (if t = true then some x else none)) := by
        show _ = _
        rw [hft, ht]
        simp only [decide_eq_true_eq]
      obtain ⟨fo, hfo⟩ : ∃ f, f = (r.lks.take k).find? (fun l => decide (l.peer = a)) := ⟨_, rfl⟩
      rw [← hfo] at HX HW
      obtain ⟨pe, hpe⟩ : ∃ p : ByteArray, p = ⟨x.peer.toArray⟩ := ⟨_, rfl⟩
      obtain ⟨im, him⟩ : ∃ p : ByteArray, p = ⟨x.imp.toArray⟩ := ⟨_, rfl⟩
      obtain ⟨ex, hex⟩ : ∃ p : ByteArray, p = ⟨x.exp.toArray⟩ := ⟨_, rfl⟩
      have HPV : Hid (wantL (some x) = [.string pe, .int .i64 x.cost, .string im, .string ex, .int .i64 x.pl]) := by rw [hpe, him, hex]; exact rfl
      rw [← hpe] at P0 e1
      rw [← him] at P2
      rw [← hex] at P3
      clear hx hp ht hpe him hex hft hfo
      go_upto_region 7 with fail
      obtain ⟨b3, hb3⟩ : ∃ b, b = wr.heap.size := ⟨_, rfl⟩
      rw [← hb3]
      obtain ⟨X, hX⟩ : ∃ X, X = wr.alloc (.cells #[.string pe, .int .i64 x.cost, .string im, .string ex, .int .i64 x.pl] 50) := ⟨_, rfl⟩
      rw [← hX]
      obtain ⟨qX, rX, _⟩ := box_at wr _ hX hb3
      obtain ⟨X0, X1, X2, X3, X4⟩ := cells_five rX
      have HQ : Hid (BelX b9 V X ∧ X.heap[b9]? = some (wantO fo)) := ⟨HW.out.1.below qX, pf_block qX HW.out.2.1⟩
      have HIS : Hid (is = fo.isSome) := HW.out.2.2
      clear hX hb3 qX rX P0 P1 P2 P3 P4 HW HBW
      cases t with
      | false =>
        have HZ : Hid (BelX b9 V X ∧ X.heap[b9]? = some (wantO ((r.lks.take (k + 1)).find? (fun l => decide (l.peer = a)))) ∧ is = ((r.lks.take (k + 1)).find? (fun l => decide (l.peer = a))).isSome) := by
          have h := HX.out
          rw [if_neg (by simp), Option.or_none] at h
          rw [h]
          exact ⟨HQ.out.1, HQ.out.2, HIS.out⟩
        clear HX HPV HIS HQ
        go_wp2_with fail
        go_roundg (n - (k + 1))
        case measure => omega
        case rel => exact ⟨k + 1, is, by omega, by go_num, rfl, HZ⟩
      | true =>
        cases fo with
        | some y =>
          have his : is = true := HIS.out
          subst his
          have HZ : Hid (BelX b9 V X ∧ X.heap[b9]? = some (wantO ((r.lks.take (k + 1)).find? (fun l => decide (l.peer = a)))) ∧ true = ((r.lks.take (k + 1)).find? (fun l => decide (l.peer = a))).isSome) := by
            have h := HX.out
            rw [h]
            exact ⟨HQ.out.1, HQ.out.2, rfl⟩
          clear HX HPV HIS HQ
          go_wp2_with fail
          go_roundg (n - (k + 1))
          case measure => omega
          case rel => exact ⟨k + 1, true, by omega, by go_num, rfl, HZ⟩
        | none =>
          have his : is = false := HIS.out
          subst his
          have r9 : X.heap[b9]? = some (.cells #[.string ⟨#[]⟩, .int .i64 0, .string ⟨#[]⟩, .string ⟨#[]⟩, .int .i64 0] 50 (0, 0)) := HQ.out.2
          have HR9 : Hid (X.heap[b9]? = some (.cells #[.string ⟨#[]⟩, .int .i64 0, .string ⟨#[]⟩, .string ⟨#[]⟩, .int .i64 0] 50 (0, 0))) := r9
          obtain ⟨Z0, Z1, Z2, Z3, Z4⟩ := cells_five r9
          have F0 := free_at r9 0
          have F1 := free_at r9 1
          have F2 := free_at r9 2
          have F3 := free_at r9 3
          have F4 := free_at r9 4
          clear r9
          go_upto_region 9 with fail
          obtain ⟨W, hW⟩ : ∃ W, W = put5 X b9 (.string pe) (.int .i64 x.cost) (.string im) (.string ex) (.int .i64 x.pl) := ⟨_, rfl⟩
          unfold put5 at hW
          rw [← hW]
          have hW' : W = put5 X b9 (.string pe) (.int .i64 x.cost) (.string im) (.string ex) (.int .i64 x.pl) := hW
          have HZ : Hid (BelX b9 V W ∧ W.heap[b9]? = some (wantO ((r.lks.take (k + 1)).find? (fun l => decide (l.peer = a)))) ∧ true = ((r.lks.take (k + 1)).find? (fun l => decide (l.peer = a))).isSome) := by
            have h : (r.lks.take (k + 1)).find? (fun l => decide (l.peer = a)) = some x := HX.out
            rw [h, hW']
            refine ⟨?_, ?_, rfl⟩
            · unfold put5
              exact ((((HQ.out.1.set (.inl rfl) _).set (.inl rfl) _).set (.inl rfl) _).set (.inl rfl) _).set (.inl rfl) _
            · unfold wantO
              rw [HPV.out]
              exact put5_at HR9.out _ _ _ _ _
          clear hW hW' HX HPV HIS HQ HR9 Z0 Z1 Z2 Z3 Z4 F0 F1 F2 F3 F4 X0 X1 X2 X3 X4
          go_wp2_with fail
          go_roundg (n - (k + 1))
          case measure => omega
          case rel => exact ⟨k + 1, true, by omega, by go_num, rfl, HZ⟩
    · obtain rfl : k = n := by omega
      have d4 : decide ((k : Int) < k) = false := decide_eq_false (by omega)
      have HF : Hid (BelX b9 V wr ∧ wr.heap[b9]? = some (wantO (peerR r a)) ∧ is = (peerR r a).isSome) := by
        have h1 := HW.out
        rw [HN.out, List.take_length] at h1
        exact h1
      have R4 := HF.out.1.get QV.out.2.1 QV.out.2.2.2.2.2.1
      have R6 := HF.out.1.get QV.out.2.2.1 QV.out.2.2.2.2.2.2
      have HR : Hid (Below w.heap.size w wr ∧ wr.heap[b4]? = some (.cells #[.string nm, .slice an nn cn, .slice ad k cap, .slice ast ns cs, .int .i64 r.pl] 48 (0, 0)) ∧ wr.heap[b6]? = some (.cells #[.int .u8 sn, lv, mv, nv, tv, wv] 25 (0, 0)) ∧ wr.heap[b9]? = some (wantO (peerR r a)) ∧ is = (peerR r a).isSome) := ⟨HBW.out, R4, R6, HF.out.2.1, HF.out.2.2⟩
      obtain ⟨X0, X1, X2, X3, X4⟩ := cells_five R4
      have hp := peer_any HOK.out.2 HBW.out.size (HRV.out.keep (Nat.le_refl _) (cells_below HBW.out (Nat.le_refl _))) a
      rw [← HA.out] at hp
      obtain ⟨pe, im, ex, co, pl, ef, ew⟩ := peer_form (peerR r a)
      rw [ef, ← HF.out.2.2] at hp
      rw [ew] at HR
      obtain ⟨Y, hY⟩ : ∃ Y, Y = wr := ⟨_, rfl⟩
      rw [← hY] at hp HR X0 X1 X2 X3 X4
      rw [← hY]
      clear hY HF R4 R6 HW HBW ef ew
      go_wp2_with fail
      refine hp.mono ?_
      rintro e Z ⟨rfl, qZ⟩
      clear hp X0 X1 X2 X3 X4
      go_upto_region 11 with fail
      obtain ⟨b13, hb13⟩ : ∃ b, b = Z.heap.size := ⟨_, rfl⟩
      rw [← hb13]
      obtain ⟨Z1, hZ1⟩ : ∃ X, X = Z.alloc (.cells #[.string pe, .int .i64 co, .string im, .string ex, .int .i64 pl] 50) := ⟨_, rfl⟩
      rw [← hZ1]
      obtain ⟨qX, rX, _⟩ := box_at Z _ hZ1 hb13
      have HZ : Hid (Below w.heap.size w Z1 ∧ Z1.heap[b6]? = some (.cells #[.int .u8 sn, lv, mv, nv, tv, wv] 25 (0, 0))) := ⟨bel_up HR.out.1 (bel_up qZ qX qZ.size) HR.out.1.size, pf_block (bel_up qZ qX qZ.size) HR.out.2.2.1⟩
      obtain ⟨W0, W1, W2, W3, W4⟩ := cells_five (pf_block (bel_up qZ qX qZ.size) HR.out.2.2.2.1)
      obtain ⟨X0, X1, X2, X3, X4⟩ := cells_five rX
      obtain ⟨C0, C1, C2, C3, C4, C5⟩ := cells_six' HZ.out.2
      clear hZ1 hb13 qX rX qZ HR
      go_upto_region 13 with fail
      clear X0 X1 X2 X3 X4 W0 W1 W2 W3 W4
      have h2 := sconf_any s HOK.out.1 _ Z1 (HV.out.keep HZ.out.1.size (cells_below HZ.out.1 (Nat.le_refl _)))
      go_wp2_with fail
      refine h2.mono ?_
      rintro e Y2 ⟨cv, rfl, hcf, qY⟩
      have QY : Hid (Below w.heap.size w Y2) := bel_up HZ.out.1 qY HZ.out.1.size
      obtain ⟨c, hc⟩ : ∃ c, c = confS s := ⟨_, rfl⟩
      rw [← hc] at hcf
      have HCH : Hid (∀ r ∈ c.ros, ∀ l ∈ r.lks, l.held) := by rw [hc]; exact confS_held s
      obtain ⟨mv2, rv2, rfl, ⟨am, cm, rfl, hm0, hms⟩, ⟨ar, cr, rfl, hr0, hrs⟩⟩ := hcf
      have HRS : Hid (∀ i x, c.ros[i]? = some x → ∃ b off, ar = some ⟨b, off, none⟩ ∧ b < Y2.heap.size ∧ RoAt Y2 Y2.heap.size b (off + i * 5) x) := hrs
      obtain ⟨n1, hn1⟩ : ∃ n, n = c.maps.length := ⟨_, rfl⟩
      obtain ⟨n2, hn2⟩ : ∃ n, n = c.ros.length := ⟨_, rfl⟩
      rw [← hn1] at hm0 ⊢
      rw [← hn2] at hr0 ⊢
      have HN2 : Hid (n2 = c.ros.length) := hn2
      clear h2 qY hms hrs hn1 hn2 hc C0 C1 C2 C3 C4 C5
      have fl1 := cff1 am ar n1 n2 cm cr
      go_upto_region 14 with fail
      clear fl1
      have H2 : Hid (Below Y2.heap.size Y2 Y2) := Below.refl _ _
      go_loopg [57] n2 (fun g i wr => ∃ k : Nat, k + g = n2 ∧ i = .int .i64 k ∧ Hid (Below Y2.heap.size Y2 wr))
      case atStart => exact ⟨0, Nat.zero_add _, rfl, H2⟩
      case round =>
        obtain ⟨j, hj, rfl, HJ⟩ := hrel
        have HBJ : Hid (Below w.heap.size w wr) := bel_up QY.out HJ.out QY.out.size
        by_cases hlt2 : j < n2
        · obtain ⟨x, hx⟩ : ∃ x, c.ros[j]? = some x := ⟨c.ros[j]'(by have := HN2.out; omega), List.getElem?_eq_getElem _⟩
          obtain ⟨b, off, rfl, hb, nv2, lv2, sv2, P0, P1, P2, P3, P4, s1, s2, s3⟩ := HRS.out j x hx
          have hrv : RoVal Y2 Y2.heap.size (.agg #[.string ⟨x.name.toArray⟩, nv2, lv2, sv2, .int .i64 x.pl]) x := ⟨nv2, lv2, sv2, rfl, s1, s2, s3⟩
          have M0 := cells_below HJ.out (Nat.le_refl _) _ _ _ hb P0
          have M1 := cells_below HJ.out (Nat.le_refl _) _ _ _ hb P1
          have M2 := cells_below HJ.out (Nat.le_refl _) _ _ _ hb P2
          have M3 := cells_below HJ.out (Nat.le_refl _) _ _ _ hb P3
          have M4 := cells_below HJ.out (Nat.le_refl _) _ _ _ hb P4
          have hcall := fun (W : World) (q : Below wr.heap.size wr W) => peer_any (B := Y2.heap.size) (HCH.out x (List.mem_of_getElem? hx)) (Nat.le_trans HJ.out.size q.size) (hrv.keep (Nat.le_refl _) (cells_below (bel_up HJ.out q HJ.out.size) (Nat.le_refl _))) (nameS q8)
          obtain ⟨an2, cn2, rfl, _⟩ := s1
          obtain ⟨al2, cl2, rfl, _⟩ := s2
          obtain ⟨ast2, cs2, rfl, _⟩ := s3
          obtain ⟨nn2, hnn⟩ : ∃ n, n = x.nets.length := ⟨_, rfl⟩
          obtain ⟨nl2, hnl⟩ : ∃ n, n = x.lks.length := ⟨_, rfl⟩
          obtain ⟨ns2, hns⟩ : ∃ n, n = x.sts.length := ⟨_, rfl⟩
          obtain ⟨nm2, hnm⟩ : ∃ p : ByteArray, p = ⟨x.name.toArray⟩ := ⟨_, rfl⟩
          rw [← hnn, ← hnl, ← hns, ← hnm] at hcall
          rw [← hnn] at M1
          rw [← hnl] at M2
          rw [← hns] at M3
          rw [← hnm] at M0
          have d5 : decide ((j : Int) < n2) = true := decide_eq_true (by omega)
          have c1 : (0 : Int) ≤ j := by omega
          obtain ⟨NQ, hNQ⟩ : ∃ p : ByteArray, p = ⟨(nameS q8).toArray⟩ := ⟨_, rfl⟩
          have hname := fun W => name7_any q8 (by omega) W
          rw [← hNQ] at hcall hname
          have HNQ : Hid (NQ = ⟨(nameS q8).toArray⟩) := hNQ
          obtain ⟨t, pe2, im2, ex2, co2, pl2, ef2, et, ef⟩ := @peer_said x (nameS q8)
          rw [ef2] at hcall
          rw [← hNQ] at et
          have HFP : Hid ((t = true → pe2 = NQ) ∧ (t = false → pe2 = ⟨#[]⟩ ∧ im2 = ⟨#[]⟩ ∧ ex2 = ⟨#[]⟩ ∧ co2 = 0 ∧ pl2 = 0)) := ⟨et, ef⟩
          clear hx hrv P0 P1 P2 P3 P4 hb hnn hnl hns hnm hNQ ef2 et ef
          go_upto_region 16 with fail
          obtain ⟨b3, hb3⟩ : ∃ b, b = wr.heap.size := ⟨_, rfl⟩
          rw [← hb3]
          obtain ⟨X, hX⟩ : ∃ X, X = wr.alloc (.cells #[.string nm2, .slice an2 nn2 cn2, .slice al2 nl2 cl2, .slice ast2 ns2 cs2, .int .i64 x.pl] 48) := ⟨_, rfl⟩
          rw [← hX]
          obtain ⟨qX, rX, lX⟩ := box_at wr _ hX hb3
          obtain ⟨X0, X1, X2, X3, X4⟩ := cells_five rX
          have E0 := fun p => bel_cell lX X0 p
          have E1 := fun p => bel_cell lX X1 p
          have E2 := fun p => bel_cell lX X2 p
          have E3 := fun p => bel_cell lX X3 p
          have E4 := fun p => bel_cell lX X4 p
          have HQX : Hid (Below wr.heap.size wr X) := qX
          have j1 := fun (p : BelOf X) => hcall p.w (bel_up HQX.out p.h HQX.out.size)
          have hne := bel_ne X
          clear hX hb3 qX rX lX M0 M1 M2 M3 M4 X0 X1 X2 X3 X4 hcall
          obtain ⟨UD, hUD⟩ : ∃ W, W = X.drew := ⟨_, rfl⟩
          have QD : Hid (Below X.heap.size X UD) := by rw [hUD]; exact (Below.refl _ _).drew
          refine wp_region_planF (C := fun w' => ∃ p : BelOf X, w' = p.w) 9 [([0, 1, 2, 3], 4), ([], 5), ([6, 8], 7)] [([], 10)] [11] (by kernel_rfl) (by kernel_rfl) rfl ⟨⟨X.drew, (Below.refl _ _).drew⟩, rfl⟩ (fun _ _ d _ _ h => by cases d <;> exact h) ?_
          rw [← hUD]
          clear hUD
          refine planF_go rfl rfl ?_
          simp only [pickL, List.cons_append, List.nil_append, List.getElem?_cons_zero, List.getElem?_cons_succ]
          repeat (go_big_quiet_step (fail))
          refine wpQuiet_nil ?_
          clear E0 E1 E2 E3 E4
          refine ⟨fun Q2 hQ2 => ?_, fun Q2 hQ2 => ?_⟩
          · go_wp2_with fail
            refine (hname _).mono ?_
            rintro e W9 ⟨rfl, h9⟩
            rw [h9]
            clear h9 W9
            go_wp2_with fail
            refine hQ2 _ _ ⟨⟨UD, QD.out⟩, rfl⟩ ?_
            clear hQ2 Q2
            refine planF_go rfl rfl ?_
            simp only [pickL, List.cons_append, List.nil_append]
            refine wpQuiet_nil ?_
            refine ⟨fun Q2 hQ2 => ?_, fun Q2 hQ2 => ?_⟩
            · go_wp2_with fail
              refine (j1 ⟨UD, QD.out⟩).mono ?_
              rintro e Z ⟨rfl, qZ⟩
              have QZ : Hid (Below X.heap.size X Z) := bel_up QD.out qZ QD.out.size
              clear qZ
              go_wp2_with fail
              refine hQ2 _ _ ⟨⟨Z, QZ.out⟩, rfl⟩ ?_
              clear hQ2 Q2
              refine planF_go rfl rfl ?_
              simp only [pickL, List.nil_append, List.getElem?_cons_zero, List.getElem?_cons_succ]
              repeat (go_big_quiet_step (fail))
              refine wpQuiet_nil ?_
              refine ⟨fun Q2 hQ2 => ?_, fun Q2 hQ2 => ?_⟩
              · go_wp2_with fail
                refine hQ2 _ _ ⟨⟨Z, QZ.out⟩, rfl⟩ ?_
                clear hQ2 Q2
                refine planF_last rfl ?_
                intro Q2 hQ2
                go_wp2_with fail
                obtain ⟨b17, hb17⟩ : ∃ b, b = Z.heap.size := ⟨_, rfl⟩
                rw [← hb17]
                obtain ⟨Y0, hY0⟩ : ∃ Y, Y = Z.alloc (.cells #[.string ⟨#[]⟩, .int .i64 0, .string ⟨#[]⟩, .string ⟨#[]⟩, .int .i64 0] 50) := ⟨_, rfl⟩
                rw [← hY0]
                obtain ⟨qY, rY, lY⟩ := box_at Z _ hY0 hb17
                have HB17 : Hid (X.heap.size ≤ b17) := by have := QZ.out.size; show _ ≤ _; omega
                have QY0 : Hid (Below X.heap.size X Y0) := bel_up QZ.out qY QZ.out.size
                have RY : Hid (Y0.heap[b17]? = some (.cells #[.string ⟨#[]⟩, .int .i64 0, .string ⟨#[]⟩, .string ⟨#[]⟩, .int .i64 0] 50 (0, 0))) := rY
                clear hY0 qY rY lY hb17
                refine hQ2 _ _ ⟨⟨Y0, QY0.out⟩, rfl⟩ ?_
                clear hQ2 Q2
                refine planY_go rfl ?_
                simp only [pickL]
                refine wpQuiet_nil ?_
                intro Q2 hQ2
                obtain ⟨X0, X1, X2, X3, X4⟩ := cells_five RY.out
                have F0 := free_at RY.out 0
                have F1 := free_at RY.out 1
                have F2 := free_at RY.out 2
                have F3 := free_at RY.out 3
                have F4 := free_at RY.out 4
                go_wp2_with fail
                obtain ⟨Wf, hWf⟩ : ∃ W, W = put5 Y0 b17 (.string pe2) (.int .i64 co2) (.string im2) (.string ex2) (.int .i64 pl2) := ⟨_, rfl⟩
                have hWf2 := hWf
                unfold put5 at hWf
                rw [← hWf]
                clear hWf X0 X1 X2 X3 X4 F0 F1 F2 F3 F4
                have QWf : Hid (Below X.heap.size X Wf) := by
                  rw [hWf2]
                  unfold put5
                  exact ((((QY0.out.setCell HB17.out _).setCell HB17.out _).setCell HB17.out _).setCell HB17.out _).setCell HB17.out _
                have RWf : Hid (Wf.heap[b17]? = some (.cells #[.string pe2, .int .i64 co2, .string im2, .string ex2, .int .i64 pl2] 50 (0, 0))) := by
                  rw [hWf2]
                  exact put5_at RY.out _ _ _ _ _
                have HWf : Hid (Below wr.heap.size wr Wf) := bel_up HQX.out QWf.out HQX.out.size
                clear hWf2
                refine hQ2 _ _ ⟨⟨Wf, QWf.out⟩, rfl⟩ ?_
                clear hQ2 Q2
                unfold planYC
                simp only [pickL, List.getElem?_cons_zero, List.getElem?_cons_succ]
                repeat (go_big_quiet_step (fail))
                refine wpQuiet_nil ?_
                clear hne j1
                obtain ⟨X0, X1, X2, X3, X4⟩ := cells_five RWf.out
                cases t
                case false =>
                  obtain ⟨rfl, rfl, rfl, rfl, rfl⟩ := HFP.out.2 rfl
                  go_upto_region 17 with fail
                  go_quiet (first | (go_at_call 16; with_reducible exact Calls.quiet_of_same (hname _)))
                  go_wp2_with fail
                  go_roundg (n2 - (j + 1))
                  case measure => omega
                  case rel => exact ⟨j + 1, by omega, by go_num, bel_up HJ.out (show Below _ _ _ from ⟨HWf.out.os, HWf.out.tape, HWf.out.output, HWf.out.size, HWf.out.block⟩) HJ.out.size⟩
                case true =>
                  obtain rfl := HFP.out.1 rfl
                  go_upto_region 17 with fail
                  go_quiet (first | (go_at_call 16; with_reducible exact Calls.quiet_of_same (hname _)))
                  go_wp2_with fail
                  go_roundg (n2 - (j + 1))
                  case measure => omega
                  case rel => exact ⟨j + 1, by omega, by go_num, bel_up HJ.out (show Below _ _ _ from ⟨HWf.out.os, HWf.out.tape, HWf.out.output, HWf.out.size, HWf.out.block⟩) HJ.out.size⟩
              · go_wp2_with fail
                obtain ⟨b17, hb17⟩ : ∃ b, b = Z.heap.size := ⟨_, rfl⟩
                rw [← hb17]
                obtain ⟨Y0, hY0⟩ : ∃ Y, Y = Z.alloc (.cells #[.string ⟨#[]⟩, .int .i64 0, .string ⟨#[]⟩, .string ⟨#[]⟩, .int .i64 0] 50) := ⟨_, rfl⟩
                rw [← hY0]
                obtain ⟨qY, rY, lY⟩ := box_at Z _ hY0 hb17
                have HB17 : Hid (X.heap.size ≤ b17) := by have := QZ.out.size; show _ ≤ _; omega
                have QY0 : Hid (Below X.heap.size X Y0) := bel_up QZ.out qY QZ.out.size
                have RY : Hid (Y0.heap[b17]? = some (.cells #[.string ⟨#[]⟩, .int .i64 0, .string ⟨#[]⟩, .string ⟨#[]⟩, .int .i64 0] 50 (0, 0))) := rY
                clear hY0 qY rY lY hb17
                refine hQ2 _ _ ⟨⟨Y0, QY0.out⟩, rfl⟩ ?_
                clear hQ2 Q2
                refine planY_go rfl ?_
                simp only [pickL]
                refine wpQuiet_nil ?_
                intro Q2 hQ2
                go_wp2_with fail
                refine hQ2 _ _ ⟨⟨Y0, QY0.out⟩, rfl⟩ ?_
                clear hQ2 Q2
                refine planY_go rfl ?_
                simp only [pickL]
                refine wpQuiet_nil ?_
                intro Q2 hQ2
                obtain ⟨X0, X1, X2, X3, X4⟩ := cells_five RY.out
                have F0 := free_at RY.out 0
                have F1 := free_at RY.out 1
                have F2 := free_at RY.out 2
                have F3 := free_at RY.out 3
                have F4 := free_at RY.out 4
                go_wp2_with fail
                obtain ⟨Wf, hWf⟩ : ∃ W, W = put5 Y0 b17 (.string pe2) (.int .i64 co2) (.string im2) (.string ex2) (.int .i64 pl2) := ⟨_, rfl⟩
                have hWf2 := hWf
                unfold put5 at hWf
                rw [← hWf]
                clear hWf X0 X1 X2 X3 X4 F0 F1 F2 F3 F4
                have QWf : Hid (Below X.heap.size X Wf) := by
                  rw [hWf2]
                  unfold put5
                  exact ((((QY0.out.setCell HB17.out _).setCell HB17.out _).setCell HB17.out _).setCell HB17.out _).setCell HB17.out _
                have RWf : Hid (Wf.heap[b17]? = some (.cells #[.string pe2, .int .i64 co2, .string im2, .string ex2, .int .i64 pl2] 50 (0, 0))) := by
                  rw [hWf2]
                  exact put5_at RY.out _ _ _ _ _
                have HWf : Hid (Below wr.heap.size wr Wf) := bel_up HQX.out QWf.out HQX.out.size
                clear hWf2
                refine hQ2 _ _ ⟨⟨Wf, QWf.out⟩, rfl⟩ ?_
                clear hQ2 Q2
                unfold planYC
                simp only [pickL, List.getElem?_cons_zero, List.getElem?_cons_succ]
                repeat (go_big_quiet_step (fail))
                refine wpQuiet_nil ?_
                clear hne j1
                obtain ⟨X0, X1, X2, X3, X4⟩ := cells_five RWf.out
                cases t
                case false =>
                  obtain ⟨rfl, rfl, rfl, rfl, rfl⟩ := HFP.out.2 rfl
                  go_upto_region 17 with fail
                  go_quiet (first | (go_at_call 16; with_reducible exact Calls.quiet_of_same (hname _)))
                  go_wp2_with fail
                  go_roundg (n2 - (j + 1))
                  case measure => omega
                  case rel => exact ⟨j + 1, by omega, by go_num, bel_up HJ.out (show Below _ _ _ from ⟨HWf.out.os, HWf.out.tape, HWf.out.output, HWf.out.size, HWf.out.block⟩) HJ.out.size⟩
                case true =>
                  obtain rfl := HFP.out.1 rfl
                  go_upto_region 17 with fail
                  go_quiet (first | (go_at_call 16; with_reducible exact Calls.quiet_of_same (hname _)))
                  go_wp2_with fail
                  go_roundg (n2 - (j + 1))
                  case measure => omega
                  case rel => exact ⟨j + 1, by omega, by go_num, bel_up HJ.out (show Below _ _ _ from ⟨HWf.out.os, HWf.out.tape, HWf.out.output, HWf.out.size, HWf.out.block⟩) HJ.out.size⟩
            · go_wp2_with fail
              obtain ⟨b17, hb17⟩ : ∃ b, b = UD.heap.size := ⟨_, rfl⟩
              rw [← hb17]
              obtain ⟨Y0, hY0⟩ : ∃ Y, Y = UD.alloc (.cells #[.string ⟨#[]⟩, .int .i64 0, .string ⟨#[]⟩, .string ⟨#[]⟩, .int .i64 0] 50) := ⟨_, rfl⟩
              rw [← hY0]
              obtain ⟨qY, rY, lY⟩ := box_at UD _ hY0 hb17
              have HB17 : Hid (X.heap.size ≤ b17) := by have := QD.out.size; show _ ≤ _; omega
              have QY0 : Hid (Below X.heap.size X Y0) := bel_up QD.out qY QD.out.size
              have RY : Hid (Y0.heap[b17]? = some (.cells #[.string ⟨#[]⟩, .int .i64 0, .string ⟨#[]⟩, .string ⟨#[]⟩, .int .i64 0] 50 (0, 0))) := rY
              clear hY0 qY rY lY hb17
              refine hQ2 _ _ ⟨⟨Y0, QY0.out⟩, rfl⟩ ?_
              clear hQ2 Q2
              refine planY_go rfl ?_
              simp only [pickL]
              refine wpQuiet_nil ?_
              intro Q2 hQ2
              go_wp2_with fail
              refine (j1 ⟨Y0, QY0.out⟩).mono ?_
              rintro e Z ⟨rfl, qZ⟩
              have QZ : Hid (Below X.heap.size X Z) := bel_up QY0.out qZ QY0.out.size
              replace RY : Hid (Z.heap[b17]? = some (.cells #[.string ⟨#[]⟩, .int .i64 0, .string ⟨#[]⟩, .string ⟨#[]⟩, .int .i64 0] 50 (0, 0))) := pf_block qZ RY.out
              clear qZ
              go_wp2_with fail
              refine hQ2 _ _ ⟨⟨Z, QZ.out⟩, rfl⟩ ?_
              clear hQ2 Q2
              refine planY_go rfl ?_
              simp only [pickL, List.getElem?_cons_zero, List.getElem?_cons_succ]
              repeat (go_big_quiet_step (fail))
              refine wpQuiet_nil ?_
              intro Q2 hQ2
              go_wp2_with fail
              refine hQ2 _ _ ⟨⟨Z, QZ.out⟩, rfl⟩ ?_
              clear hQ2 Q2
              refine planY_go rfl ?_
              simp only [pickL]
              refine wpQuiet_nil ?_
              intro Q2 hQ2
              obtain ⟨X0, X1, X2, X3, X4⟩ := cells_five RY.out
              have F0 := free_at RY.out 0
              have F1 := free_at RY.out 1
              have F2 := free_at RY.out 2
              have F3 := free_at RY.out 3
              have F4 := free_at RY.out 4
              go_wp2_with fail
              obtain ⟨Wf, hWf⟩ : ∃ W, W = put5 Z b17 (.string pe2) (.int .i64 co2) (.string im2) (.string ex2) (.int .i64 pl2) := ⟨_, rfl⟩
              have hWf2 := hWf
              unfold put5 at hWf
              rw [← hWf]
              clear hWf X0 X1 X2 X3 X4 F0 F1 F2 F3 F4
              have QWf : Hid (Below X.heap.size X Wf) := by
                rw [hWf2]
                unfold put5
                exact ((((QZ.out.setCell HB17.out _).setCell HB17.out _).setCell HB17.out _).setCell HB17.out _).setCell HB17.out _
              have RWf : Hid (Wf.heap[b17]? = some (.cells #[.string pe2, .int .i64 co2, .string im2, .string ex2, .int .i64 pl2] 50 (0, 0))) := by
                rw [hWf2]
                exact put5_at RY.out _ _ _ _ _
              have HWf : Hid (Below wr.heap.size wr Wf) := bel_up HQX.out QWf.out HQX.out.size
              clear hWf2
              refine hQ2 _ _ ⟨⟨Wf, QWf.out⟩, rfl⟩ ?_
              clear hQ2 Q2
              unfold planYC
              simp only [pickL, List.getElem?_cons_zero, List.getElem?_cons_succ]
              repeat (go_big_quiet_step (fail))
              refine wpQuiet_nil ?_
              clear hne j1
              obtain ⟨X0, X1, X2, X3, X4⟩ := cells_five RWf.out
              cases t
              case false =>
                obtain ⟨rfl, rfl, rfl, rfl, rfl⟩ := HFP.out.2 rfl
                go_upto_region 17 with fail
                go_quiet (first | (go_at_call 16; with_reducible exact Calls.quiet_of_same (hname _)))
                go_wp2_with fail
                go_roundg (n2 - (j + 1))
                case measure => omega
                case rel => exact ⟨j + 1, by omega, by go_num, bel_up HJ.out (show Below _ _ _ from ⟨HWf.out.os, HWf.out.tape, HWf.out.output, HWf.out.size, HWf.out.block⟩) HJ.out.size⟩
              case true =>
                obtain rfl := HFP.out.1 rfl
                go_upto_region 17 with fail
                go_quiet (first | (go_at_call 16; with_reducible exact Calls.quiet_of_same (hname _)))
                go_wp2_with fail
                go_roundg (n2 - (j + 1))
                case measure => omega
                case rel => exact ⟨j + 1, by omega, by go_num, bel_up HJ.out (show Below _ _ _ from ⟨HWf.out.os, HWf.out.tape, HWf.out.output, HWf.out.size, HWf.out.block⟩) HJ.out.size⟩
          · go_wp2_with fail
            obtain ⟨b17, hb17⟩ : ∃ b, b = UD.heap.size := ⟨_, rfl⟩
            rw [← hb17]
            obtain ⟨Y0, hY0⟩ : ∃ Y, Y = UD.alloc (.cells #[.string ⟨#[]⟩, .int .i64 0, .string ⟨#[]⟩, .string ⟨#[]⟩, .int .i64 0] 50) := ⟨_, rfl⟩
            rw [← hY0]
            obtain ⟨qY, rY, lY⟩ := box_at UD _ hY0 hb17
            have HB17 : Hid (X.heap.size ≤ b17) := by have := QD.out.size; show _ ≤ _; omega
            have QY0 : Hid (Below X.heap.size X Y0) := bel_up QD.out qY QD.out.size
            have RY : Hid (Y0.heap[b17]? = some (.cells #[.string ⟨#[]⟩, .int .i64 0, .string ⟨#[]⟩, .string ⟨#[]⟩, .int .i64 0] 50 (0, 0))) := rY
            clear hY0 qY rY lY hb17
            refine hQ2 _ _ ⟨⟨Y0, QY0.out⟩, rfl⟩ ?_
            clear hQ2 Q2
            refine planY_go rfl ?_
            simp only [pickL]
            refine wpQuiet_nil ?_
            intro Q2 hQ2
            go_wp2_with fail
            refine (hname _).mono ?_
            rintro e W9 ⟨rfl, h9⟩
            rw [h9]
            clear h9 W9
            go_wp2_with fail
            refine hQ2 _ _ ⟨⟨Y0, QY0.out⟩, rfl⟩ ?_
            clear hQ2 Q2
            refine planY_go rfl ?_
            simp only [pickL]
            refine wpQuiet_nil ?_
            intro Q2 hQ2
            go_wp2_with fail
            refine (j1 ⟨Y0, QY0.out⟩).mono ?_
            rintro e Z ⟨rfl, qZ⟩
            have QZ : Hid (Below X.heap.size X Z) := bel_up QY0.out qZ QY0.out.size
            replace RY : Hid (Z.heap[b17]? = some (.cells #[.string ⟨#[]⟩, .int .i64 0, .string ⟨#[]⟩, .string ⟨#[]⟩, .int .i64 0] 50 (0, 0))) := pf_block qZ RY.out
            clear qZ
            go_wp2_with fail
            refine hQ2 _ _ ⟨⟨Z, QZ.out⟩, rfl⟩ ?_
            clear hQ2 Q2
            refine planY_go rfl ?_
            simp only [pickL, List.getElem?_cons_zero, List.getElem?_cons_succ]
            repeat (go_big_quiet_step (fail))
            refine wpQuiet_nil ?_
            intro Q2 hQ2
            go_wp2_with fail
            refine hQ2 _ _ ⟨⟨Z, QZ.out⟩, rfl⟩ ?_
            clear hQ2 Q2
            refine planY_go rfl ?_
            simp only [pickL]
            refine wpQuiet_nil ?_
            intro Q2 hQ2
            obtain ⟨X0, X1, X2, X3, X4⟩ := cells_five RY.out
            have F0 := free_at RY.out 0
            have F1 := free_at RY.out 1
            have F2 := free_at RY.out 2
            have F3 := free_at RY.out 3
            have F4 := free_at RY.out 4
            go_wp2_with fail
            obtain ⟨Wf, hWf⟩ : ∃ W, W = put5 Z b17 (.string pe2) (.int .i64 co2) (.string im2) (.string ex2) (.int .i64 pl2) := ⟨_, rfl⟩
            have hWf2 := hWf
            unfold put5 at hWf
            rw [← hWf]
            clear hWf X0 X1 X2 X3 X4 F0 F1 F2 F3 F4
            have QWf : Hid (Below X.heap.size X Wf) := by
              rw [hWf2]
              unfold put5
              exact ((((QZ.out.setCell HB17.out _).setCell HB17.out _).setCell HB17.out _).setCell HB17.out _).setCell HB17.out _
            have RWf : Hid (Wf.heap[b17]? = some (.cells #[.string pe2, .int .i64 co2, .string im2, .string ex2, .int .i64 pl2] 50 (0, 0))) := by
              rw [hWf2]
              exact put5_at RY.out _ _ _ _ _
            have HWf : Hid (Below wr.heap.size wr Wf) := bel_up HQX.out QWf.out HQX.out.size
            clear hWf2
            refine hQ2 _ _ ⟨⟨Wf, QWf.out⟩, rfl⟩ ?_
            clear hQ2 Q2
            unfold planYC
            simp only [pickL, List.getElem?_cons_zero, List.getElem?_cons_succ]
            repeat (go_big_quiet_step (fail))
            refine wpQuiet_nil ?_
            clear hne j1
            obtain ⟨X0, X1, X2, X3, X4⟩ := cells_five RWf.out
            cases t
            case false =>
              obtain ⟨rfl, rfl, rfl, rfl, rfl⟩ := HFP.out.2 rfl
              go_upto_region 17 with fail
              go_quiet (first | (go_at_call 16; with_reducible exact Calls.quiet_of_same (hname _)))
              go_wp2_with fail
              go_roundg (n2 - (j + 1))
              case measure => omega
              case rel => exact ⟨j + 1, by omega, by go_num, bel_up HJ.out (show Below _ _ _ from ⟨HWf.out.os, HWf.out.tape, HWf.out.output, HWf.out.size, HWf.out.block⟩) HJ.out.size⟩
            case true =>
              obtain rfl := HFP.out.1 rfl
              go_upto_region 17 with fail
              go_quiet (first | (go_at_call 16; with_reducible exact Calls.quiet_of_same (hname _)))
              go_wp2_with fail
              go_roundg (n2 - (j + 1))
              case measure => omega
              case rel => exact ⟨j + 1, by omega, by go_num, bel_up HJ.out (show Below _ _ _ from ⟨HWf.out.os, HWf.out.tape, HWf.out.output, HWf.out.size, HWf.out.block⟩) HJ.out.size⟩
        · obtain rfl : j = n2 := by omega
          have d5 : decide ((j : Int) < j) = false := decide_eq_false (by omega)
          go_wp2_with fail
          go_ret
          exact ⟨rfl, HBJ.out⟩
end Go.Proofs.YtcjdjifooaeomaaDoor
