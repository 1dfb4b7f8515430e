/- What Config does: its maps. -/
import Derived.Test.YtcjdjifooaeomaaDoorUT
namespace Go.Proofs.YtcjdjifooaeomaaDoor
open Go.RowKit Go.Lib

theorem maps_one {l : List (List RlD)} {k : Nat} {rs : List RlD} (h : l[k]? = some rs) (hk : k < 4) : mapsS (l.take (min k 4)) 0 ++ [⟨mapN k, clausesS rs, 0⟩] = mapsS (l.take (min (k + 1) 4)) 0 := by
  have := mapsS_next l 0 k rs h
  rw [show min k 4 = k by omega, show min (k + 1) 4 = k + 1 by omega, ← this, Nat.zero_add]
theorem maps_skip {l : List (List RlD)} {k : Nat} (hk : ¬ k < 4) : mapsS (l.take (min k 4)) 0 = mapsS (l.take (min (k + 1) 4)) 0 := by
  rw [show min k 4 = 4 by omega, show min (k + 1) 4 = 4 by omega]
theorem maps_all (l : List (List RlD)) : mapsS (l.take (min l.length 4)) 0 = mapsS (l.take 4) 0 := by
  rw [Nat.min_comm, ← List.take_take, List.take_length]
theorem own_sl {w : World} {B e z n : Nat} {v : Value} {xs : List Value} (h : w.ownsRow B e z v n xs) : ∃ ad m cap, v = .slice ad m cap := by
  rcases h.2 with ⟨h0, _⟩ | ⟨g, cap, cur, h1, _⟩
  · exact ⟨_, _, _, h0⟩
  · exact ⟨_, _, _, h1⟩
theorem num_below {w W : World} (q : Below w.heap.size w W) {l : List Nat} (hl : ∀ x ∈ l, x < 256) {v : Value} (hv : SliceAt w.heap.size 1 (ByAt w) v l) (k : Nat) :
    Calls Tryd.prog 22 #[v, .int .i64 k] W fun e w' => e = .returned (.int .i64 (numS l k : Nat)) ∧ w' = W := num_any hl (hv.mono (Nat.le_refl _) fun _ _ _ hb h => h.keep hb (cells_below q (Nat.le_refl _))) k
set_option maxHeartbeats 16000000 in
set_option maxRecDepth 20000 in
theorem sconf_own (s : ShD) (hok : s.ok) (v : Value) (w : World) (hv : ShAt w w.heap.size v s) :
    Calls Tryd.prog 10 #[v] w fun e w' => ∃ (mv rv : Value) (lm : List MpV) (lr : List RoV), e = .returned (.agg #[mv, rv]) ∧ ConfOwn w.heap.size w' mv rv lm lr ∧ lm.map (·.1) = (confS s).maps ∧ lr.map (·.1) = (confS s).ros ∧ Below w.heap.size w w' := by
  have hv0 := hv
  obtain ⟨lv, mv, nv, tv, wv, rfl, hlv, ⟨ad, cap, rfl, hn0, hms⟩, hnv, htv, hwv⟩ := hv
  obtain ⟨sn, hsn⟩ : ∃ n, n = s.n := ⟨_, rfl⟩
  obtain ⟨n, hn⟩ : ∃ n, n = s.maps.length := ⟨_, rfl⟩
  rw [← hsn] at hv0
  rw [← hn] at hv0 hn0
  rw [← hsn, ← hn]
  have HMS : Hid (∀ i x, s.maps[i]? = some x → ∃ b off, ad = some ⟨b, off, none⟩ ∧ b < w.heap.size ∧ RsAt w w.heap.size b (off + i * 1) x) := hms
  have HVS : Hid (ShAt w w.heap.size (.agg #[.int .u8 sn, lv, .slice ad n cap, nv, tv, wv]) s) := hv0
  have HNU : Hid (SliceAt w.heap.size 1 (ByAt w) lv s.links ∧ SliceAt w.heap.size 1 (ByAt w) nv s.names ∧ SliceAt w.heap.size 1 (ByAt w) tv s.nets ∧ SliceAt w.heap.size 1 (ByAt w) wv s.ways) := ⟨hlv, hnv, htv, hwv⟩
  have HOK : Hid s.ok := hok
  have HN : Hid (n = s.maps.length ∧ sn = s.n) := ⟨hn, hsn⟩
  have sn0 : (0 : Int) ≤ sn := by omega
  have sn1 : (sn : Int) < 256 := by have := hok.n; omega
  clear hms hv0 hlv hnv htv hwv hok hn hsn
  go_enter Tryd.func10, Tryd.ntmps10
  go_wp2_with fail
  obtain ⟨b1, hb1⟩ : ∃ b, b = w.heap.size := ⟨_, rfl⟩
  obtain ⟨b2, hb2⟩ : ∃ b, b = w.heap.size + 1 := ⟨_, rfl⟩
  obtain ⟨b3, hb3⟩ : ∃ b, b = w.heap.size + 1 + 1 := ⟨_, rfl⟩
  rw [← hb3, ← hb2, ← hb1]
  obtain ⟨U1, hU1⟩ : ∃ U, U = w.alloc (.cells #[.int .u8 sn, lv, .slice ad n cap, nv, tv, wv] 25) := ⟨_, rfl⟩
  rw [← hU1]
  obtain ⟨U2, hU2⟩ : ∃ U, U = U1.alloc (.cells #[.slice none 0 0, .slice none 0 0] 33) := ⟨_, rfl⟩
  rw [← hU2]
  obtain ⟨U, hU⟩ : ∃ U, U = U2.alloc (.cells #[.slice none 0 0, .slice none 0 0] 33) := ⟨_, rfl⟩
  rw [← hU]
  obtain ⟨q1, r1, _⟩ := box_at w _ hU1 hb1
  obtain ⟨q2, r2, _⟩ := box_at U1 _ hU2 (b := b2) (by rw [hU1, hb2]; simp)
  obtain ⟨q3, r3, _⟩ := box_at U2 _ hU (b := b3) (by rw [hU2, hU1, hb3]; simp)
  have HS : Hid (CS w b1 b2 b3 #[.int .u8 sn, lv, .slice ad n cap, nv, tv, wv] (.slice none 0 0) (.slice none 0 0) [] [] U) := by
    have h12 : w.heap.size ≤ U1.heap.size := q1.size
    exact ⟨r3, pf_block q3 (pf_block q2 r1), pf_block q3 r2, World.ownsRow_nil _ _ _ _, (fun p hp => by cases hp), World.ownsRow_nil _ _ _ _, (fun p hp => by cases hp), bel_up (bel_up q1 q2 h12) q3 (Nat.le_trans h12 q2.size)⟩
  have HB : Hid (b1 ≠ b3 ∧ b2 ≠ b3 ∧ w.heap.size ≤ b3 ∧ w.heap.size ≤ b2 ∧ w.heap.size ≤ b1) := ⟨by omega, by omega, by omega, by omega, by omega⟩
  obtain ⟨i0, hi0, hz0, hz1, hz2⟩ := info_parts infoMp
  clear hU hU1 hU2 q1 q2 q3 r1 r2 r3 hb1 hb2 hb3
  go_loopg [17] n (fun g i wr => ∃ (k : Nat) (mv : Value) (lm : List MpV), k + g = n ∧ i = .int .i64 k ∧ Hid (CS w b1 b2 b3 #[.int .u8 sn, lv, .slice ad n cap, nv, tv, wv] mv (.slice none 0 0) lm [] wr ∧ lm.map (·.1) = mapsS (s.maps.take (min k 4)) 0))
  case atStart => exact ⟨0, _, [], Nat.zero_add _, rfl, (⟨HS.out, rfl⟩ : _ ∧ _)⟩
  case round =>
    obtain ⟨k, mv, lm, hk, rfl, HW⟩ := hrel
    by_cases hlt : k < n
    · --(D
      obtain ⟨rs, hrs⟩ : ∃ r, s.maps[k]? = some r := ⟨s.maps[k]'(by have := HN.out.1; omega), List.getElem?_eq_getElem _⟩
      obtain ⟨b, off, rfl, hb, rv, hrc, hrl⟩ := HMS.out k rs hrs
      have R0 : wr.cell? ⟨b, off + k * 1, none⟩ = some rv := by rw [HW.out.1.b.cell (p := ⟨b, off + k * 1, none⟩) hb]; exact hrc
      rw [Nat.mul_one] at R0
      have d4 : decide ((k : Int) < n) = true := decide_eq_true (by omega)
      have c0 : (0 : Int) ≤ k := by omega
      have HRS : Hid (s.maps[k]? = some rs ∧ (∀ r ∈ rs, r.ok) ∧ SliceAt w.heap.size 6 (RlAt w) rv rs) := ⟨hrs, HOK.out.m rs (List.mem_of_getElem? hrs), hrl⟩
      clear hrs hrc hrl hb
      by_cases h4 : k < 4
      · have d5 : decide ((k : Int) < 4) = true := decide_eq_true (by omega)
        have e := enc_at (k := k) (by omega)
        obtain ⟨t, ht⟩ : ∃ t : ByteArray, t = ⟨#[UInt8.ofNat (97 + k)]⟩ := ⟨_, rfl⟩
        rw [← ht] at e
        have z1 := size_one 109
        have zt : t.size = 1 := by rw [ht]; rfl
        have HT : Hid ((⟨#[109]⟩ ++ t : ByteArray) = ⟨(mapN k).toArray⟩) := by
          show _ = _
          have d1 : (⟨#[109]⟩ : ByteArray) = ⟨([109] : List UInt8).toArray⟩ := rfl
          have d2 : (⟨#[UInt8.ofNat (97 + k)]⟩ : ByteArray) = ⟨([UInt8.ofNat (97 + k)] : List UInt8).toArray⟩ := rfl
          rw [ht, d1, d2, str_add]
          rfl
        have k4 : (k : Int) < 4 := by omega
        have E0 : ∀ p : BelOf wr, p.w.cell? ⟨b3, 0, none⟩ = some mv := bel_cell ((Array.getElem?_eq_some_iff.1 HW.out.1.c).1) (cells_two HW.out.1.c).1
        have hne := bel_ne wr
        clear ht
        go_wp2_with fail
        refine wp_region_parts5 (C := fun w' => ∃ p : BelOf wr, w' = p.w) [0, 1, 2, 3, 4, 5, 6, 7] [] [8, 9, 10] [11, 12, 13] (by kernel_rfl) (by kernel_rfl) rfl ⟨⟨wr.drew, (Below.refl _ _).drew⟩, rfl⟩ (fun _ _ d _ _ h => by cases d <;> exact h) ?_
        simp only [pickL, List.append_nil, List.getElem?_cons_zero, List.getElem?_cons_succ]
        repeat (go_big_quiet_step (fail))
        refine wpQuiet_nil ?_
        rintro W ⟨⟨W2, hW⟩, rfl⟩
        clear E0 hne
        refine chain_go rfl fun Q2 hQ2 => ?_
        have hrl : SliceAt w.heap.size 6 (RlAt W) rv rs := HRS.out.2.2.mono (Nat.le_refl _) fun b o x hb h => h.keep hb (cells_below (bel_up HW.out.1.b hW HW.out.1.b.size) (Nat.le_refl _))
        have hcc := clausesS_any HRS.out.2.1 (w := W) (Nat.le_trans HW.out.1.b.size hW.size) hrl
        clear hrl
        go_wp2_with fail
        refine hcc.mono ?_
        rintro e Y ⟨cv, rfl, ho, qY⟩
        obtain ⟨ca, cn, cc, rfl⟩ := own_sl ho
        have QY := bel_up hW qY hW.size
        have HC : Hid (CS w b1 b2 b3 _ mv (.slice none 0 0) lm [] Y) := HW.out.1.below QY
        have HO : Hid (Y.ownsRow w.heap.size 96 10 (.slice ca cn cc) (clausesS rs).length ((clausesS rs).flatMap clW)) := own_le ho (Nat.le_trans HW.out.1.b.size hW.size)
        clear hcc ho qY
        go_wp2_with fail
        refine hQ2 _ _ ⟨⟨Y, QY⟩, rfl⟩ ?_
        clear hQ2 Q2
        refine chain_go rfl fun Q2 hQ2 => ?_
        go_wp2_with fail
        refine hQ2 _ _ ⟨⟨Y, QY⟩, rfl⟩ ?_
        clear hQ2 Q2
        refine chain_go rfl fun Q2 hQ2 => ?_
        go_wp2_with fail
        refine hQ2 _ _ ⟨⟨_, bel_alloc QY _⟩, rfl⟩ (chain_end ?_)
        clear hQ2 Q2
        rw [HT.out]
        obtain ⟨N, hN⟩ : ∃ N : ByteArray, N = ⟨(mapN k).toArray⟩ := ⟨_, rfl⟩
        rw [← hN]
        have HNN : Hid (N = ⟨(mapN k).toArray⟩) := hN
        clear hN HT
        have HM : Hid (lm.length ≤ 4) := by
          have h := congrArg List.length HW.out.2
          rw [List.length_map, mapsS_len] at h
          show _ ≤ _
          rw [h]
          simp
          omega
        have hlen : lm.length ≤ 4 := HM.out
        go_wp2_with (at_builtin; refine wpList_append_lies _ rfl _ _ _ rfl w.heap.size 57 i0 _ 3 48 Tryd.underlying30 hi0 hz0 hz1 hz2 rfl (by omega) mv lm.length _ rfl (HC.out.m.alloc _) ⟨Y.heap.size, 0, none⟩ 1 1 [.string N, .slice ca cn cc, .int .i64 0] rfl rfl (World.news_of_block (cs := #[.string N, .slice ca cn cc, .int .i64 0]) (t := 57) (fr := (0, 0)) (pf_new _ _ _ rfl)) (by simp [Value.oneCell']) (by omega) (by unfold maxLen; omega) (by omega) (by simp; have := HC.out.b.size; omega) _ rfl ?_; intro g1 cap1 W1 hown1 hgrow hat hlt1; have c1 := (KeptT.grown (E := [57]) (L := []) (HC.out.m.alloc _) hgrow (List.mem_singleton.2 rfl)).2 _ _ _ _ (pf_block (bel_alloc (Below.refl _ _) _) HC.out.c) (by decide) (by simp); have g0 := (cells_two c1).1; have f0 := free_at c1 0; clear c1)
        have HX : Hid (CS w b1 b2 b3 #[.int .u8 sn, lv, .slice (some ⟨b, off, none⟩) n cap, nv, tv, wv] (.slice (some ⟨g1, 0, none⟩) (lm.length + 1) cap1) (.slice none 0 0) (lm ++ [((⟨mapN k, clausesS rs, 0⟩ : MpD), .slice ca cn cc)]) [] (W1.setCell ⟨b3, 0, none⟩ (.slice (some ⟨g1, 0, none⟩) (lm.length + 1) cap1))) := by
          refine CS.addMap (p := ((⟨mapN k, clausesS rs, 0⟩ : MpD), .slice ca cn cc)) (HC.out.below (bel_alloc (Below.refl _ _) _)) (HO.out.alloc _) hgrow ?_ ⟨HB.out.1, HB.out.2.1, HB.out.2.2.1⟩
          rw [HNN.out] at hown1
          exact hown1
        have HY : Hid ((lm ++ [((⟨mapN k, clausesS rs, 0⟩ : MpD), .slice ca cn cc)] : List MpV).map (·.1) = mapsS (s.maps.take (min (k + 1) 4)) 0) := by
          show _ = _
          rw [List.map_append, HW.out.2]
          exact maps_one HRS.out.1 h4
        clear hown1 hgrow hat hlt1 g0 f0 hlen QY hW
        go_roundg (n - (k + 1))
        case measure => omega
        case rel => exact ⟨k + 1, _, _, by omega, by go_num, (⟨HX.out, HY.out⟩ : _ ∧ _)⟩
      · have d5 : decide ((k : Int) < 4) = false := decide_eq_false (by omega)
        have HY : Hid (lm.map (·.1) = mapsS (s.maps.take (min (k + 1) 4)) 0) := by show _ = _; rw [HW.out.2, maps_skip h4]
        go_wp2_with fail
        go_roundg (n - (k + 1))
        case measure => omega
        case rel => exact ⟨k + 1, mv, lm, by omega, by go_num, (⟨HW.out.1, HY.out⟩ : _ ∧ _)⟩
    · obtain rfl : n = k := by omega
      have d4 : decide ((n : Int) < n) = false := decide_eq_false (by omega)
      have HM : Hid (lm.map (·.1) = mapsS (s.maps.take 4) 0) := by show _ = _; rw [HW.out.2, HN.out.1, maps_all]
      obtain ⟨S0, S1, S2, S3, S4, S5⟩ := cells_six' HW.out.1.x
      obtain ⟨m, hm⟩ : ∃ m : Nat, m = sn % 8 := ⟨_, rfl⟩
      have hmi : (sn : Int) % 8 = (m : Int) := by omega
      have hm8 : m < 8 := by omega
      have HMM : Hid (m = sn % 8) := hm
      have m0 : (0 : Int) ≤ m := by omega
      have m1 : (m : Int) < 8 := by omega
      clear hm
      go_wp2_with fail
      rw [hmi]
      clear S0 S1 S2 S3 S4 S5
      obtain ⟨j0, hj0, hy0, hy1, hy2⟩ := info_parts infoPf
      go_loopg [7] m (fun g i wr => ∃ (k : Nat) (rv : Value) (lr : List RoV), k + g = m ∧ i = .int .i64 k ∧ Hid (CS w b1 b2 b3 #[.int .u8 sn, lv, .slice ad n cap, nv, tv, wv] mv rv lm lr wr ∧ lr.map (·.1) = rosS s m k))
      case atStart => exact ⟨0, _, [], Nat.zero_add _, rfl, (⟨HW.out.1, rfl⟩ : _ ∧ _)⟩
      case round =>
        obtain ⟨k2, rv, lr, hk2, rfl, HU⟩ := hrel
        by_cases hlt2 : k2 < m
        · have d6 : decide ((k2 : Int) < m) = true := decide_eq_true (by omega)
          have c2 : (0 : Int) ≤ k2 := by omega
          have c3 : (k2 : Int) < 8 := by omega
          have hna := fun W => name7_any k2 (by omega) W
          obtain ⟨N, hN⟩ : ∃ N : ByteArray, N = ⟨(nameS k2).toArray⟩ := ⟨_, rfl⟩
          rw [← hN] at hna
          have HNN : Hid (N = ⟨(nameS k2).toArray⟩) := hN
          obtain ⟨S0, S1, S2, S3, S4, S5⟩ := cells_six' HU.out.1.x
          obtain ⟨x, hx⟩ : ∃ x, x = numS s.nets k2 := ⟨_, rfl⟩
          have hxn := fun W (q : Below w.heap.size w W) => num_below q HOK.out.t HNU.out.2.2.1 k2
          rw [← hx] at hxn
          have x0 : (0 : Int) ≤ x := by omega
          have x1 : (x : Int) < 256 := by have := numS_lt HOK.out.t k2; omega
          have HXX : Hid (x = numS s.nets k2) := hx
          clear hx hN
          go_wp2_with fail
          refine (hna _).mono ?_
          rintro e V ⟨rfl, rfl⟩
          clear hna
          go_upto_region 13 with fail
          obtain ⟨b8, hb8⟩ : ∃ b, b = V.heap.size := ⟨_, rfl⟩
          rw [← hb8]
          obtain ⟨X, hX⟩ : ∃ X, X = V.alloc (.cells #[.string N, .slice none 0 0, .slice none 0 0, .slice none 0 0, .int .i64 0] 48) := ⟨_, rfl⟩
          rw [← hX]
          obtain ⟨qX, hcX, _⟩ := box_at V _ hX hb8
          obtain ⟨T0, T1, T2, T3, T4, T5⟩ := cells_six' (pf_block qX HU.out.1.x)
          have HB8 : Hid (b8 = V.heap.size) := hb8
          clear hX hb8
          go_wp2_with fail
          refine (hxn X (bel_up HU.out.1.b qX HU.out.1.b.size)).mono ?_
          rintro e X ⟨rfl, rfl⟩
          have HR : Hid (RS V b8 N (.slice none 0 0) (.slice none 0 0) (.slice none 0 0) [] [] [] X) := ⟨HB8.out.symm, qX, hcX, World.ownsRow_nil _ _ _ _, World.ownsRow_nil _ _ _ _, World.ownsRow_nil _ _ _ _⟩
          clear hxn qX hcX S0 S1 S2 S3 S4 S5 T0 T1 T2 T3 T4 T5
          go_upto_region 14 with fail
          go_cut [60] from 42 to 174 (fun c wx => c = .bool (decide (k2 = 0 ∨ x % 4 = 0)) ∧ wx = X)
          case first =>
            by_cases h0 : k2 = 0
            · have e1 : ((k2 : Int) == 0) = true := by rw [beq_iff_eq]; omega
              have e2 : decide (k2 = 0 ∨ x % 4 = 0) = true := decide_eq_true (.inl h0)
              go_wp2_with fail
              go_meet
              case rel => exact ⟨by rw [e2], rfl⟩
            · have e1 : ((k2 : Int) == 0) = false := by rw [beq_eq_false_iff_ne]; omega
              by_cases h1 : x % 4 = 0
              · have e3 : ((x : Int) % 4 == 0) = true := by rw [beq_iff_eq]; omega
                have e2 : decide (k2 = 0 ∨ x % 4 = 0) = true := decide_eq_true (.inr h1)
                go_wp2_with fail
                go_meet
                case rel => exact ⟨by rw [e2], rfl⟩
              · have e3 : ((x : Int) % 4 == 0) = false := by rw [beq_eq_false_iff_ne]; omega
                have e2 : decide (k2 = 0 ∨ x % 4 = 0) = false := decide_eq_false (fun h => h.elim h0 h1)
                go_wp2_with fail
                go_meet
                case rel => exact ⟨by rw [e2], rfl⟩
          case rest =>
            obtain ⟨rfl, rfl⟩ := hcut
            go_upto_if 60 with fail
            go_cut [] from 42 to 174 (fun wx => ∃ nv', Hid (RS V b8 N nv' (.slice none 0 0) (.slice none 0 0) (netsS s k2) [] [] wx))
            case first =>
              by_cases hc : k2 = 0 ∨ x % 4 = 0
              · have e2 : decide (k2 = 0 ∨ x % 4 = 0) = true := decide_eq_true hc
                have hmk := fun W => make_any x (by omega) W
                unfold pfV at hmk
                obtain ⟨A, hA⟩ : ∃ A, A = mkA x := ⟨_, rfl⟩
                obtain ⟨Bm, hBm⟩ : ∃ A, A = mkB x := ⟨_, rfl⟩
                rw [← hA, ← hBm] at hmk
                have HX : Hid (netsS s k2 = [] ++ [(A, (Bm : Int))]) := by
                  show _ = _
                  unfold netsS
                  rw [← HXX.out, if_pos hc, hA, hBm]
                  rfl
                clear hA hBm
                obtain ⟨_, E1', _, _, _⟩ := cells_five HR.out.c
                have E1 : ∀ p : BelOf wc, p.w.cell? ⟨b8, 1, none⟩ = some (.slice none 0 0) := bel_cell ((Array.getElem?_eq_some_iff.1 HR.out.c).1) E1'
                have hne := bel_ne wc
                clear E1'
                go_wp2_with fail
                refine wp_region_parts5 (C := fun w' => ∃ p : BelOf wc, w' = p.w) [0, 1] [2, 3, 4] [5] [6, 7, 8] (by kernel_rfl) (by kernel_rfl) rfl ⟨⟨wc.drew, (Below.refl _ _).drew⟩, rfl⟩ (fun _ _ d _ _ h => by cases d <;> exact h) ?_
                simp only [pickL, List.cons_append, List.nil_append, List.getElem?_cons_zero, List.getElem?_cons_succ]
                repeat (go_big_quiet_step ((go_at_call 23; exact bel_of (hmk _))))
                refine wpQuiet_nil ?_
                rintro W ⟨⟨W2, hW⟩, rfl⟩
                clear hmk E1 hne
                refine chain_go rfl fun Q2 hQ2 => ?_
                go_wp2_with fail
                refine hQ2 _ _ ⟨⟨_, bel_alloc hW _⟩, rfl⟩ (chain_end ?_)
                clear hQ2 Q2
                have HC : Hid (RS V b8 N (.slice none 0 0) (.slice none 0 0) (.slice none 0 0) [] [] [] W) := HR.out.below hW
                go_wp2_with (at_builtin; refine wpList_append_lies _ rfl _ _ _ rfl V.heap.size 74 j0 _ 2 16 Tryd.underlying44 hj0 hy0 hy1 hy2 rfl (by omega) (.slice none 0 0) 0 [] rfl (HC.out.n.alloc _) ⟨W.heap.size, 0, none⟩ 1 1 [.int .u32 A, .int .i64 Bm] rfl rfl (World.news_of_block (cs := #[.int .u32 A, .int .i64 Bm]) (t := 74) (fr := (0, 0)) (pf_new _ _ _ rfl)) (by simp [Value.oneCell']) (by omega) (by unfold maxLen; omega) (by omega) (by simp; have := HC.out.b.size; omega) _ rfl ?_; intro g1 cap1 W1 hown1 hgrow hat hlt1; have c1 := (KeptT.grown (E := [74]) (L := []) (HC.out.n.alloc _) hgrow (List.mem_singleton.2 rfl)).2 _ _ _ _ (pf_block (bel_alloc (Below.refl _ _) _) HC.out.c) (by decide) (by simp); obtain ⟨_, g0, _, _, _⟩ := cells_five c1; have f0 := free_at c1 1; clear c1)
                go_meet
                case rel =>
                  have h9 := (HC.out.below (bel_alloc (Below.refl _ _) _)).addNet (p := (A, (Bm : Int))) hgrow hown1
                  rw [← HX.out] at h9
                  exact ⟨_, h9⟩
              · have e2 : decide (k2 = 0 ∨ x % 4 = 0) = false := decide_eq_false hc
                go_wp2_with fail
                go_meet
                case rel =>
                  refine ⟨.slice none 0 0, ?_⟩
                  have : netsS s k2 = [] := by unfold netsS; rw [← HXX.out, if_neg hc]
                  rw [this]
                  exact HR
            case rest =>
              obtain ⟨nv', HR1⟩ := hcut
              obtain ⟨k0, hk0, hl0, hl1, hl2⟩ := info_parts infoLk
              go_wp2_with fail
              go_loopg [10] m (fun g i wx => ∃ (j : Nat) (lv' : Value), j + g = m ∧ i = .int .i64 j ∧ Hid (RS V b8 N nv' lv' (.slice none 0 0) (netsS s k2) (linksS s m k2 j) [] wx))
              case atStart => exact ⟨0, .slice none 0 0, Nat.zero_add _, rfl, HR1⟩
              case round =>
                obtain ⟨j, lv', hj, rfl, HV⟩ := hrel
                by_cases hjl : j < m
                · --(D
                  have d7 : decide ((j : Int) < m) = true := decide_eq_true (by omega)
                  have c4 : (0 : Int) ≤ j := by omega
                  have c5 : (j : Int) < 8 := by omega
                  obtain ⟨mn, hmn⟩ : ∃ q, q = min j k2 := ⟨_, rfl⟩
                  obtain ⟨mx, hmx⟩ : ∃ q, q = max j k2 := ⟨_, rfl⟩
                  obtain ⟨pq, hpq⟩ : ∃ q, q = mn * m := ⟨_, rfl⟩
                  obtain ⟨q, hq⟩ : ∃ q, q = pq + mx := ⟨_, rfl⟩
                  have hpq7 : pq ≤ 49 := by rw [hpq]; exact Nat.mul_le_mul (show mn ≤ 7 by omega) (show m ≤ 7 by omega)
                  have fmn : min (j : Int) (k2 : Int) = (mn : Int) := by omega
                  have fmx : max (j : Int) (k2 : Int) = (mx : Int) := by omega
                  have fpq : (mn : Int) * (m : Int) = (pq : Int) := by rw [hpq, Int.natCast_mul]
                  have fq : (pq : Int) + (mx : Int) = (q : Int) := by omega
                  have b1q : (0 : Int) ≤ pq := by omega
                  have b2q : (pq : Int) ≤ 49 := by omega
                  have b3q : (0 : Int) ≤ mx := by omega
                  have b4q : (mx : Int) < 8 := by omega
                  have b5q : (0 : Int) ≤ q := by omega
                  have b6q : (q : Int) < 57 := by omega
                  obtain ⟨y, hy⟩ : ∃ y, y = numS s.links q := ⟨_, rfl⟩
                  have hyn := fun W (qb : Below w.heap.size w W) => num_below qb HOK.out.l HNU.out.1 q
                  rw [← hy] at hyn
                  have y0 : (0 : Int) ≤ y := by omega
                  have y1 : (y : Int) < 256 := by have := numS_lt HOK.out.l q; omega
                  have HY : Hid (min j k2 * m + max j k2 = q ∧ numS s.links q = y) := ⟨by rw [← hmn, ← hmx, ← hpq, hq], hy.symm⟩
                  have HI : Hid (isLink s m k2 j = (decide (j ≠ k2) && (decide (0 < y % 3) || decide (j = k2 + 1) || decide (k2 = j + 1)))) := by
                    show _ = _
                    unfold isLink
                    rw [HY.out.1, HY.out.2]
                  have HQ : Hid (Below w.heap.size w wr) := bel_up HU.out.1.b HV.out.b HU.out.1.b.size
                  have HX1 : Hid (wr.heap[b1]? = some (.cells #[.int .u8 sn, lv, .slice ad n cap, nv, tv, wv] 25 (0, 0))) := pf_block HV.out.b HU.out.1.x
                  obtain ⟨T0, T1, T2, T3, T4, T5⟩ := cells_six' HX1.out
                  clear hmn hmx hpq hq hpq7 hy
                  go_upto_region 20 with fail
                  go_cut [10, 105] from 69 to 135 (fun v c wx => v = .int .i64 j ∧ c = .bool (isLink s m k2 j) ∧ wx = wr)
                  case first =>
                    by_cases h0 : j = k2
                    · have e1 : ((j : Int) == k2) = true := by rw [beq_iff_eq]; omega
                      have e1' : ((j : Int) != k2) = false := by rw [bne, e1]; rfl
                      have e9 : isLink s m k2 j = false := by rw [HI.out]; simp [h0]
                      go_wp2_with fail
                      go_meet
                      case rel => exact ⟨by first | rfl | (congr 1; omega), by first | (rw [e9]; done) | (rw [e9]; congr 1; rw [bne_iff_ne]; omega), rfl⟩
                    · have e1 : ((j : Int) == k2) = false := by rw [beq_eq_false_iff_ne]; omega
                      have e1' : ((j : Int) != k2) = true := by rw [bne, e1]; rfl
                      by_cases h1 : 0 < y % 3
                      · have e2 : decide (0 < (y : Int) % 3) = true := decide_eq_true (by omega)
                        have e9 : isLink s m k2 j = true := by rw [HI.out]; simp [h0, h1]
                        go_wp2_with fail
                        refine (hyn _ HQ.out).mono ?_
                        rintro e wr ⟨rfl, rfl⟩
                        go_wp2_with fail
                        go_meet
                        case rel => exact ⟨by first | rfl | (congr 1; omega), by first | (rw [e9]; done) | (rw [e9]; congr 1; rw [bne_iff_ne]; omega), rfl⟩
                      · have e2 : decide (0 < (y : Int) % 3) = false := decide_eq_false (by omega)
                        by_cases h2 : j = k2 + 1
                        · have e3 : ((j : Int) == (k2 : Int) + 1) = true := by rw [beq_iff_eq]; omega
                          have e9 : isLink s m k2 j = true := by rw [HI.out]; simp [h2]
                          go_wp2_with fail
                          refine (hyn _ HQ.out).mono ?_
                          rintro e wr ⟨rfl, rfl⟩
                          go_wp2_with fail
                          go_meet
                          case rel => exact ⟨by first | rfl | (congr 1; omega), by first | (rw [e9]; done) | (rw [e9]; congr 1; rw [bne_iff_ne]; omega), rfl⟩
                        · have e3 : ((j : Int) == (k2 : Int) + 1) = false := by rw [beq_eq_false_iff_ne]; omega
                          obtain ⟨B, hB⟩ : ∃ B : Bool, ((k2 : Int) == (j : Int) + 1) = B := ⟨_, rfl⟩
                          have e9 : isLink s m k2 j = B := by
                            rw [HI.out, ← hB]
                            by_cases h3 : k2 = j + 1
                            · have : ((k2 : Int) == (j : Int) + 1) = true := by rw [beq_iff_eq]; omega
                              rw [this]; simp [h3]
                            · have : ((k2 : Int) == (j : Int) + 1) = false := by rw [beq_eq_false_iff_ne]; omega
                              rw [this]; simp [h0, h1, h2, h3]
                          go_wp2_with fail
                          refine (hyn _ HQ.out).mono ?_
                          rintro e wr ⟨rfl, rfl⟩
                          go_wp2_with fail
                          go_meet
                          case rel => exact ⟨by first | rfl | (congr 1; omega), by first | (rw [e9]; done) | (rw [e9]; congr 1; rw [bne_iff_ne]; omega), rfl⟩
                  case rest =>
                    obtain ⟨rfl, rfl, rfl⟩ := hcut
                    clear fmn fmx fpq fq b1q b2q b3q b4q
                    go_upto_if 105 with fail
                    obtain ⟨IL, hIL⟩ : ∃ b, b = isLink s m k2 j := ⟨_, rfl⟩
                    rw [← hIL]
                    have HIL : Hid (IL = isLink s m k2 j) := hIL
                    clear hIL
                    cases IL with
                    | false =>
                      go_wp2_with fail
                      have e8 : linksS s m k2 (j + 1) = linksS s m k2 j := by rw [linksS, ← HIL.out]; simp
                      have HZ9 : Hid (RS V b8 N nv' lv' (.slice none 0 0) (netsS s k2) (linksS s m k2 (j + 1)) [] wc) := by rw [e8]; exact HV
                      go_roundg (m - (j + 1))
                      case measure => omega
                      case rel => exact ⟨j + 1, lv', by omega, by go_num, HZ9⟩
                    | true =>
                      obtain ⟨km, hkm⟩ : ∃ q, q = k2 * m := ⟨_, rfl⟩
                      obtain ⟨vi, hvi⟩ : ∃ q, q = km + j := ⟨_, rfl⟩
                      have hkm7 : km ≤ 49 := by rw [hkm]; exact Nat.mul_le_mul (show k2 ≤ 7 by omega) (show m ≤ 7 by omega)
                      have fkm : (k2 : Int) * (m : Int) = (km : Int) := by rw [hkm, Int.natCast_mul]
                      have fvi : (km : Int) + (j : Int) = (vi : Int) := by omega
                      have g1q : (0 : Int) ≤ km := by omega
                      have g2q : (km : Int) ≤ 49 := by omega
                      have g3q : (0 : Int) ≤ vi := by omega
                      have g4q : (vi : Int) < 57 := by omega
                      obtain ⟨z, hz⟩ : ∃ y, y = numS s.names vi := ⟨_, rfl⟩
                      have hzn := fun W (qb : Below w.heap.size w W) => num_below qb HOK.out.a HNU.out.2.1 vi
                      rw [← hz] at hzn
                      have z0 : (0 : Int) ≤ z := by omega
                      have z1 : (z : Int) < 256 := by have := numS_lt HOK.out.a vi; omega
                      have HZ : Hid (numS s.names (k2 * m + j) = z) := by show _ = _; rw [← hkm, ← hvi, hz]
                      clear hkm hvi hkm7 hz
                      go_wp2_with fail
                      refine (hzn _ HQ.out).mono ?_
                      rintro e wc ⟨rfl, rfl⟩
                      clear hzn fkm fvi g1q g2q g3q g4q
                      obtain ⟨NJ, hNJ⟩ : ∃ N : ByteArray, N = ⟨(nameS j).toArray⟩ := ⟨_, rfl⟩
                      obtain ⟨z2, hz2⟩ : ∃ q, q = z / 12 := ⟨_, rfl⟩
                      have fz2 : (z : Int) / 12 = (z2 : Int) := by omega
                      obtain ⟨M1, hM1⟩ : ∃ N : ByteArray, N = ⟨(mappedS s z).toArray⟩ := ⟨_, rfl⟩
                      obtain ⟨M2, hM2⟩ : ∃ N : ByteArray, N = ⟨(mappedS s z2).toArray⟩ := ⟨_, rfl⟩
                      obtain ⟨cs, hcs⟩ : ∃ q, q = y / 3 % 3 := ⟨_, rfl⟩
                      have fcs : (y : Int) / 3 % 3 = (cs : Int) := by omega
                      have cs0 : (0 : Int) ≤ cs := by omega
                      have cs1 : (cs : Int) < 3 := by omega
                      have hnj := fun W => name7_any j (by omega) W
                      rw [← hNJ] at hnj
                      have hyp := fun p : BelOf wc => hyn p.w (bel_up HQ.out p.h HQ.out.size)
                      have hmp := fun (p : BelOf wc) => mapped_any (HVS.out.keep (Nat.le_refl _) (cells_below (bel_up HQ.out p.h HQ.out.size) (Nat.le_refl _))) z (by omega)
                      have hmq := fun (p : BelOf wc) => mapped_any (HVS.out.keep (Nat.le_refl _) (cells_below (bel_up HQ.out p.h HQ.out.size) (Nat.le_refl _))) z2 (by omega)
                      rw [← hM1] at hmp
                      rw [← hM2] at hmq
                      have HLK : Hid (linkS s m k2 j = ⟨nameS j, 1 + (cs : Int), mappedS s z, mappedS s z2, 0⟩) := by
                        show _ = _
                        unfold linkS
                        rw [HZ.out, HY.out.1, HY.out.2, ← hz2, ← hcs, Int.natCast_add]
                        rfl
                      have HNJ : Hid (NJ = ⟨(nameS j).toArray⟩ ∧ M1 = ⟨(mappedS s z).toArray⟩ ∧ M2 = ⟨(mappedS s z2).toArray⟩) := ⟨hNJ, hM1, hM2⟩
                      obtain ⟨_, _, E2', _, _⟩ := cells_five HV.out.c
                      have hb8l := (Array.getElem?_eq_some_iff.1 HV.out.c).1
                      have hb1l := (Array.getElem?_eq_some_iff.1 HX1.out).1
                      have E2 : ∀ p : BelOf wc, p.w.cell? ⟨b8, 2, none⟩ = some lv' := bel_cell hb8l E2'
                      have X0 : ∀ p : BelOf wc, p.w.cell? ⟨b1, 0, none⟩ = some (.int .u8 sn) := bel_cell hb1l T0
                      have X1 : ∀ p : BelOf wc, p.w.cell? ⟨b1, 1, none⟩ = some lv := bel_cell hb1l T1
                      have X2 : ∀ p : BelOf wc, p.w.cell? ⟨b1, 2, none⟩ = some (.slice ad n cap) := bel_cell hb1l T2
                      have X3 : ∀ p : BelOf wc, p.w.cell? ⟨b1, 3, none⟩ = some nv := bel_cell hb1l T3
                      have X4 : ∀ p : BelOf wc, p.w.cell? ⟨b1, 4, none⟩ = some tv := bel_cell hb1l T4
                      have X5 : ∀ p : BelOf wc, p.w.cell? ⟨b1, 5, none⟩ = some wv := bel_cell hb1l T5
                      have hne := bel_ne wc
                      clear hNJ hz2 hM1 hM2 hcs E2' hb8l hb1l T0 T1 T2 T3 T4 T5 hyn
                      try clear HMS
                      try clear HNU
                      try clear HOK
                      try clear HN
                      try clear HVS
                      try clear HB
                      try clear HW
                      try clear HU
                      try clear HQ
                      try clear HX1
                      try clear HR1
                      try clear HI
                      try clear HY
                      try clear HZ
                      try clear HM
                      try clear HMM
                      try clear HXX
                      try clear HNN
                      try clear sn0
                      try clear sn1
                      try clear hn0
                      try clear hi0
                      try clear hz0
                      try clear hz1
                      try clear hz2
                      try clear i0
                      try clear hj0
                      try clear hy0
                      try clear hy1
                      try clear hy2
                      try clear j0
                      try clear d4
                      try clear d6
                      try clear d7
                      try clear hmi
                      try clear hm8
                      try clear m0
                      try clear m1
                      try clear c2
                      try clear c3
                      try clear x0
                      try clear x1
                      try clear HB8
                      try clear hlt
                      try clear hlt2
                      try clear hk
                      try clear hk2
                      go_wp2_with fail
                      refine wp_region_parts5 (C := fun w' => ∃ p : BelOf wc, w' = p.w) [0, 1] [2, 3, 4, 5, 6, 7, 8, 9, 10, 11, 12, 13, 14, 15, 16, 17, 18] [19] [20, 21, 22] (by kernel_rfl) (by kernel_rfl) rfl ⟨⟨wc.drew, (Below.refl _ _).drew⟩, rfl⟩ (fun _ _ d _ _ h => by cases d <;> exact h) ?_
                      simp only [pickL, List.cons_append, List.nil_append, List.getElem?_cons_zero, List.getElem?_cons_succ]
                      repeat (go_big_quiet_step (first | (go_at_call 16; exact bel_same (hnj _)) | (go_at_call 22; exact bel_same (hyp _)) | (go_at_call 24; first | (with_reducible exact bel_of (hmp _)) | (with_reducible exact bel_of (hmq _)))))
                      refine wpQuiet_nil ?_
                      rintro W ⟨⟨W2, hW⟩, rfl⟩
                      clear hnj hyp hmp hmq E2 X0 X1 X2 X3 X4 X5 hne
                      refine chain_go rfl fun Q2 hQ2 => ?_
                      go_wp2_with fail
                      refine hQ2 _ _ ⟨⟨_, bel_alloc hW _⟩, rfl⟩ (chain_end ?_)
                      clear hQ2 Q2
                      have HC : Hid (RS V b8 N nv' lv' (.slice none 0 0) (netsS s k2) (linksS s m k2 j) [] W) := HV.out.below hW
                      have hlen := linksS_len s m k2 j
                      go_wp2_with (at_builtin; refine wpList_append_lies _ rfl _ _ _ rfl V.heap.size 50 k0 _ 5 64 Tryd.underlying45 hk0 hl0 hl1 hl2 rfl (by omega) lv' (linksS s m k2 j).length _ rfl (HC.out.l.alloc _) ⟨W.heap.size, 0, none⟩ 1 1 [.string NJ, .int .i64 (1 + cs), .string M1, .string M2, .int .i64 0] rfl rfl (World.news_of_block (cs := #[.string NJ, .int .i64 (1 + cs), .string M1, .string M2, .int .i64 0]) (t := 50) (fr := (0, 0)) (pf_new _ _ _ rfl)) (by simp [Value.oneCell']) (by omega) (by unfold maxLen; omega) (by omega) (by simp; have := HC.out.b.size; omega) _ rfl ?_; intro g1 cap1 W1 hown1 hgrow hat hlt1; have c1 := (KeptT.grown (E := [50]) (L := []) (HC.out.l.alloc _) hgrow (List.mem_singleton.2 rfl)).2 _ _ _ _ (pf_block (bel_alloc (Below.refl _ _) _) HC.out.c) (by decide) (by simp); obtain ⟨_, _, g0, _, _⟩ := cells_five c1; have f0 := free_at c1 2; clear c1)
                      have e8 : linksS s m k2 (j + 1) = linksS s m k2 j ++ [linkS s m k2 j] := by rw [linksS, ← HIL.out]; simp
                      have h9 := (HC.out.below (bel_alloc (Below.refl _ _) _)).addLink (p := linkS s m k2 j) hgrow (by rw [HNJ.out.1, HNJ.out.2.1, HNJ.out.2.2] at hown1; rw [HLK.out]; exact hown1)
                      rw [← e8] at h9
                      have HZ9 : Hid (∃ v W', v = Value.slice (some ⟨g1, 0, none⟩) ((linksS s m k2 j).length + 1) cap1 ∧ W' = W1.setCell ⟨b8, 2, none⟩ v ∧ RS V b8 N nv' v (.slice none 0 0) (netsS s k2) (linksS s m k2 (j + 1)) [] W') := ⟨_, _, rfl, rfl, h9⟩
                      clear hown1 hgrow hat hlt1 g0 f0 h9 hlen
                      go_roundg (m - (j + 1))
                      case measure => omega
                      case rel =>
                        obtain ⟨_, _, rfl, rfl, h9⟩ := HZ9.out
                        exact ⟨j + 1, _, by omega, by go_num, h9⟩
                · obtain rfl : m = j := by omega
                  have d7 : decide ((m : Int) < m) = false := decide_eq_false (by omega)
                  obtain ⟨la, lc, rfl⟩ := own_form HV.out.l
                  obtain ⟨na, nc, rfl⟩ := own_form HV.out.n
                  obtain ⟨L, hL⟩ : ∃ L, L = (linksS s m k2 m).length := ⟨_, rfl⟩
                  obtain ⟨NL, hNL⟩ : ∃ L, L = (netsS s k2).length := ⟨_, rfl⟩
                  have HV4 : Hid (RS V b8 N (.slice na NL nc) (.slice la L lc) (.slice none 0 0) (netsS s k2) (linksS s m k2 m) [] wr) := by rw [hL, hNL]; exact HV
                  have HLL : Hid (L = (linksS s m k2 m).length) := hL
                  have L0 : (0 : Int) ≤ L := by omega
                  have L8 : (L : Int) < 8 := by have := linksS_len s m k2 m; omega
                  obtain ⟨z, hz⟩ : ∃ y, y = numS s.ways k2 := ⟨_, rfl⟩
                  have hzn := fun W (qb : Below w.heap.size w W) => num_below qb HOK.out.w HNU.out.2.2.2 k2
                  rw [← hz] at hzn
                  have z0 : (0 : Int) ≤ z := by omega
                  have z1 : (z : Int) < 256 := by have := numS_lt HOK.out.w k2; omega
                  have HZ : Hid (z = numS s.ways k2) := hz
                  have HQ : Hid (Below w.heap.size w wr) := bel_up HU.out.1.b HV.out.b HU.out.1.b.size
                  have HX1 : Hid (wr.heap[b1]? = some (.cells #[.int .u8 sn, lv, .slice ad n cap, nv, tv, wv] 25 (0, 0))) := pf_block HV.out.b HU.out.1.x
                  obtain ⟨T0, T1, T2, T3, T4, T5⟩ := cells_six' HX1.out
                  clear hz hL hNL HV
                  go_wp2_with fail
                  refine (hzn _ HQ.out).mono ?_
                  rintro e wr ⟨rfl, rfl⟩
                  clear hzn T0 T1 T2 T3 T4 T5
                  obtain ⟨_, _, E2, _, _⟩ := cells_five HV4.out.c
                  go_upto_region 24 with fail
                  go_cut [148] from 42 to 174 (fun c wx => c = .bool (decide (z % 5 = 4 ∧ 0 < L)) ∧ wx = wr)
                  case first =>
                    by_cases h0 : z % 5 = 4
                    · have e1 : ((z : Int) % 5 == 4) = true := by rw [beq_iff_eq]; omega
                      by_cases h1 : 0 < L
                      · have e3 : decide ((0 : Int) < L) = true := decide_eq_true (by omega)
                        have e2 : decide (z % 5 = 4 ∧ 0 < L) = true := decide_eq_true ⟨h0, h1⟩
                        go_wp2_with fail
                        go_meet
                        case rel => exact ⟨by rw [e2], rfl⟩
                      · have e3 : decide ((0 : Int) < L) = false := decide_eq_false (by omega)
                        have e2 : decide (z % 5 = 4 ∧ 0 < L) = false := decide_eq_false fun h => h1 h.2
                        go_wp2_with fail
                        go_meet
                        case rel => exact ⟨by rw [e2], rfl⟩
                    · have e1 : ((z : Int) % 5 == 4) = false := by rw [beq_eq_false_iff_ne]; omega
                      have e2 : decide (z % 5 = 4 ∧ 0 < L) = false := decide_eq_false fun h => h0 h.1
                      go_wp2_with fail
                      go_meet
                      case rel => exact ⟨by rw [e2], rfl⟩
                  case rest =>
                    obtain ⟨rfl, rfl⟩ := hcut
                    clear E2
                    go_upto_if 148 with fail
                    go_cut [] from 42 to 174 (fun wx => ∃ sv', Hid (RS V b8 N (.slice na NL nc) (.slice la L lc) sv' (netsS s k2) (linksS s m k2 m) (statS s (linksS s m k2 m) k2) wx))
                    case first =>
                      by_cases hc : z % 5 = 4 ∧ 0 < L
                      · have e2 : decide (z % 5 = 4 ∧ 0 < L) = true := decide_eq_true hc
                        obtain ⟨gl, lc2, he, _, hgl⟩ := HV4.out.l.form (by rw [← HLL.out]; exact hc.2)
                        injection he with he1 he2 he3
                        subst he1
                        clear he2 he3
                        obtain ⟨ix, hix⟩ : ∃ q, q = z / 8 % L := ⟨_, rfl⟩
                        have fix' : ((z : Int) / 8 % (L : Int)) = (ix : Int) := by rw [hix, Int.natCast_emod, Int.natCast_ediv]; rfl
                        have hixL : ix < L := by rw [hix]; exact Nat.mod_lt _ hc.2
                        have ix0 : (0 : Int) ≤ ix := by omega
                        have ixL : (ix : Int) < L := by omega
                        have Lz : ¬ (L : Int) = 0 := by omega
                        obtain ⟨lk, hlk⟩ : ∃ l, (linksS s m k2 m)[ix]? = some l := ⟨_, List.getElem?_eq_getElem (by rw [← HLL.out]; exact hixL)⟩
                        obtain ⟨NP, hNP⟩ : ∃ N : ByteArray, N = ⟨lk.peer.toArray⟩ := ⟨_, rfl⟩
                        have hpc : wc.cell? ⟨gl, ix * 5, none⟩ = some (.string NP) := by
                          have hl := HV4.out.l
                          rw [← HLL.out] at hl
                          have := flat_at lkL 5 (fun _ => rfl) _ ix 0 lk hlk (by omega)
                          rw [Nat.add_zero] at this
                          exact own_cell hl (by rw [this, hNP]; rfl)
                        have hmk := fun W => make_any z (by omega) W
                        unfold pfV at hmk
                        obtain ⟨A, hA⟩ : ∃ A, A = mkA z := ⟨_, rfl⟩
                        obtain ⟨Bm, hBm⟩ : ∃ A, A = mkB z := ⟨_, rfl⟩
                        rw [← hA, ← hBm] at hmk
                        have HX : Hid (statS s (linksS s m k2 m) k2 = [] ++ [(⟨A, (Bm : Int), lk.peer, 0⟩ : StD)]) := by
                          show _ = _
                          unfold statS
                          rw [← HZ.out, ← HLL.out, if_pos hc, ← hix, hlk, hA, hBm]
                          rfl
                        have HNP : Hid (NP = ⟨lk.peer.toArray⟩) := hNP
                        obtain ⟨_, _, E2', E3', _⟩ := cells_five HV4.out.c
                        have hb8l := (Array.getElem?_eq_some_iff.1 HV4.out.c).1
                        have E2 : ∀ p : BelOf wc, p.w.cell? ⟨b8, 2, none⟩ = some (.slice (some ⟨gl, 0, none⟩) L lc) := bel_cell hb8l E2'
                        have E3 : ∀ p : BelOf wc, p.w.cell? ⟨b8, 3, none⟩ = some (.slice none 0 0) := bel_cell hb8l E3'
                        have E4 : ∀ p : BelOf wc, p.w.cell? ⟨gl, ix * 5, none⟩ = some (.string NP) := bel_cell hgl hpc
                        have hne := bel_ne wc
                        have hixd : decide (ix < L) = true := decide_eq_true hixL
                        clear hA hBm hix hlk hNP hpc E2' E3' hb8l hgl
                        go_wp2_with fail
                        refine wp_region_parts5 (C := fun w' => ∃ p : BelOf wc, w' = p.w) [0, 1] [2, 3, 4, 5, 6, 7, 8, 9, 10, 11, 12, 13, 14, 15, 16] [17] [18, 19, 20] (by kernel_rfl) (by kernel_rfl) rfl ⟨⟨wc.drew, (Below.refl _ _).drew⟩, rfl⟩ (fun _ _ d _ _ h => by cases d <;> exact h) ?_
                        simp only [pickL, List.cons_append, List.nil_append, List.getElem?_cons_zero, List.getElem?_cons_succ]
                        repeat (go_big_quiet_step ((go_at_call 23; with_reducible exact bel_of (hmk _))))
                        refine wpQuiet_nil ?_
                        rintro W ⟨⟨W2, hW⟩, rfl⟩
                        clear hmk E2 E3 E4 hne
                        refine chain_go rfl fun Q2 hQ2 => ?_
                        go_wp2_with fail
                        refine hQ2 _ _ ⟨⟨_, bel_alloc hW _⟩, rfl⟩ (chain_end ?_)
                        clear hQ2 Q2
                        obtain ⟨t0, ht0, hu0, hu1, hu2⟩ := info_parts infoSt
                        have HC := HV4.out.below hW
                        have HC' : Hid _ := HC
                        clear HC
                        go_wp2_with (at_builtin; refine wpList_append_lies _ rfl _ _ _ rfl V.heap.size 77 t0 _ 4 40 Tryd.underlying46 ht0 hu0 hu1 hu2 rfl (by omega) (.slice none 0 0) 0 [] rfl (HC'.out.t.alloc _) ⟨W.heap.size, 0, none⟩ 1 1 [.int .u32 A, .int .i64 Bm, .string NP, .int .i64 0] rfl rfl (World.news_of_block (cs := #[.int .u32 A, .int .i64 Bm, .string NP, .int .i64 0]) (t := 77) (fr := (0, 0)) (pf_new _ _ _ rfl)) (by simp [Value.oneCell']) (by omega) (by unfold maxLen; omega) (by omega) (by simp; have := HC'.out.b.size; omega) _ rfl ?_; intro g1 cap1 W1 hown1 hgrow hat hlt1; have c1 := (KeptT.grown (E := [77]) (L := []) (HC'.out.t.alloc _) hgrow (List.mem_singleton.2 rfl)).2 _ _ _ _ (pf_block (bel_alloc (Below.refl _ _) _) HC'.out.c) (by decide) (by simp); obtain ⟨_, _, _, g0, _⟩ := cells_five c1; have f0 := free_at c1 3; clear c1)
                        go_meet
                        case rel =>
                          have h9 := (HC'.out.below (bel_alloc (Below.refl _ _) _)).addStat (p := (⟨A, (Bm : Int), lk.peer, 0⟩ : StD)) hgrow (by rw [HNP.out] at hown1; exact hown1)
                          rw [← HX.out] at h9
                          exact ⟨_, h9⟩
                      · have e2 : decide (z % 5 = 4 ∧ 0 < L) = false := decide_eq_false hc
                        go_wp2_with fail
                        go_meet
                        case rel =>
                          refine ⟨.slice none 0 0, ?_⟩
                          have : statS s (linksS s m k2 m) k2 = [] := by unfold statS; rw [← HZ.out, ← HLL.out, if_neg hc]
                          rw [this]
                          exact HV4
                    case rest =>
                      obtain ⟨sv', HR3⟩ := hcut
                      obtain ⟨sa, sc, rfl⟩ := own_form HR3.out.t
                      obtain ⟨SL, hSL⟩ : ∃ L, L = (statS s (linksS s m k2 m) k2).length := ⟨_, rfl⟩
                      have HR5 : Hid (RS V b8 N (.slice na NL nc) (.slice la L lc) (.slice sa SL sc) (netsS s k2) (linksS s m k2 m) (statS s (linksS s m k2 m) k2) wc) := by rw [hSL]; exact HR3
                      clear hSL HR3
                      have HC3 : Hid (CS w b1 b2 b3 #[.int .u8 sn, lv, .slice ad n cap, nv, tv, wv] mv rv lm lr wc) := HU.out.1.below HR5.out.b
                      obtain ⟨R0, R1, R2, R3, R4⟩ := cells_five HR5.out.c
                      obtain ⟨Y0, Y1⟩ := cells_two HC3.out.c
                      obtain ⟨r0, hr0, hv0, hv1, hv2⟩ := info_parts infoRo
                      have HLR : Hid (lr.length = k2) := by
                        have h := congrArg List.length HU.out.2
                        rw [List.length_map, rosS_len] at h
                        exact h
                      have hlen : lr.length ≤ 8 := by have := HLR.out; omega
                      go_wp2_with (at_builtin; refine wpList_append_lies _ rfl _ _ _ rfl w.heap.size 48 r0 _ 5 96 Tryd.underlying31 hr0 hv0 hv1 hv2 rfl (by omega) rv lr.length _ rfl (HC3.out.r.alloc _) ⟨wc.heap.size, 0, none⟩ 1 1 [.string N, .slice na NL nc, .slice la L lc, .slice sa SL sc, .int .i64 0] rfl rfl (World.news_of_block (cs := #[.string N, .slice na NL nc, .slice la L lc, .slice sa SL sc, .int .i64 0]) (t := 48) (fr := (0, 0)) (pf_new _ _ _ rfl)) (by simp [Value.oneCell']) (by omega) (by unfold maxLen; omega) (by omega) (by simp; have := HC3.out.b.size; omega) _ rfl ?_; intro g1 cap1 W1 hown1 hgrow hat hlt1; have c1 := (KeptT.grown (E := [48]) (L := []) (HC3.out.r.alloc _) hgrow (List.mem_singleton.2 rfl)).2 _ _ _ _ (pf_block (bel_alloc (Below.refl _ _) _) HC3.out.c) (by decide) (by simp); have g0 := (cells_two c1).2; have f0 := free_at c1 1; clear c1)
                      have HX : Hid (∃ v W', v = Value.slice (some ⟨g1, 0, none⟩) (lr.length + 1) cap1 ∧ W' = W1.setCell ⟨b3, 1, none⟩ v ∧ CS w b1 b2 b3 #[.int .u8 sn, lv, .slice ad n cap, nv, tv, wv] mv v lm (lr ++ [(routerS s m k2, .slice na NL nc, .slice la L lc, .slice sa SL sc)]) W') := by
                        refine ⟨_, _, rfl, rfl, ?_⟩
                        refine CS.addRo (p := (routerS s m k2, .slice na NL nc, .slice la L lc, .slice sa SL sc)) (HC3.out.below (bel_alloc (Below.refl _ _) _)) ?_ hgrow ?_ ⟨HB.out.1, HB.out.2.1, HB.out.2.2.1⟩
                        · exact ⟨own_le (HR5.out.n.alloc _) HU.out.1.b.size, own_le (HR5.out.l.alloc _) HU.out.1.b.size, own_le (HR5.out.t.alloc _) HU.out.1.b.size⟩
                        · rw [HNN.out] at hown1
                          exact hown1
                      have HY9 : Hid ((lr ++ [(routerS s m k2, .slice na NL nc, .slice la L lc, .slice sa SL sc)] : List RoV).map (·.1) = rosS s m (k2 + 1)) := by
                        show _ = _
                        rw [List.map_append, HU.out.2]
                        rfl
                      clear hown1 hgrow hat hlt1 g0 f0
                      go_roundg (m - (k2 + 1))
                      case measure => omega
                      case rel =>
                        obtain ⟨_, _, rfl, rfl, h9⟩ := HX.out
                        exact ⟨k2 + 1, _, _, by omega, by go_num, (⟨h9, HY9.out⟩ : _ ∧ _)⟩
        · obtain rfl : m = k2 := by omega
          have d6 : decide ((m : Int) < m) = false := decide_eq_false (by omega)
          obtain ⟨ma, mc, rfl⟩ := own_form HU.out.1.m
          obtain ⟨ra, rc, rfl⟩ := own_form HU.out.1.r
          obtain ⟨Y0, Y1⟩ := cells_two HU.out.1.c
          obtain ⟨Z0, Z1⟩ := cells_two HU.out.1.z
          have f0 := free_at HU.out.1.z 0
          have f1 := free_at HU.out.1.z 1
          have HF : Hid _ := HU.out.1.fin HB.out.2.2.2.1
          have HE : Hid (lm.map (·.1) = (confS s).maps ∧ lr.map (·.1) = (confS s).ros) := by
            refine ⟨HM.out, ?_⟩
            rw [HU.out.2]
            unfold confS
            rw [HMM.out, HN.out.2]
          have rX : ((wr.setCell ⟨b2, 0, none⟩ (.slice ma lm.length mc)).setCell ⟨b2, 1, none⟩ (.slice ra lr.length rc)).heap[b2]? = some (.cells #[.slice ma lm.length mc, .slice ra lr.length rc] 33 (0, 0)) := set_at (i := 1) (set_at (i := 0) HU.out.1.z _) _
          go_wp2_with fail
          show bodyPost _ _ _ _ _ ((wr.setCell ⟨b2, 0, none⟩ (.slice ma lm.length mc)).setCell ⟨b2, 1, none⟩ (.slice ra lr.length rc))
          generalize (wr.setCell ⟨b2, 0, none⟩ (.slice ma lm.length mc)).setCell ⟨b2, 1, none⟩ (.slice ra lr.length rc) = X at *
          obtain ⟨W0, W1⟩ := cells_two rX
          refine bodyPost_ret (v := .agg #[.slice ma lm.length mc, .slice ra lr.length rc]) (by simp [results, Tryd.results10, go_sem, W0, W1]) rfl ?_
          exact ⟨_, _, lm, lr, rfl, HF.out.1, HE.out.1, HE.out.2, HF.out.2⟩
theorem sconf_any (s : ShD) (hok : s.ok) (v : Value) (w : World) (hv : ShAt w w.heap.size v s) :
    Calls Tryd.prog 10 #[v] w fun e w' => ∃ cv, e = .returned cv ∧ CfAt w' w'.heap.size cv (confS s) ∧ Below w.heap.size w w' :=
  (sconf_own s hok v w hv).mono fun _ _ ⟨_, _, _, _, he, ho, h1, h2, q⟩ => ⟨_, he, ho.at h1 h2, q⟩
end Go.Proofs.YtcjdjifooaeomaaDoor
