/- CheckRight: what it walks. -/
import Derived.Test.YtcjdjifooaeomaaDoorDN
import Derived.Test.YtcjdjifooaeomaaDoorUV
namespace Go.Proofs.YtcjdjifooaeomaaDoor
open Go.RowKit Go.Lib

theorem nm_nil : NmOk [] := by unfold NmOk; simp
/-- What numbers make may be keys. -/
theorem confS_fit {s : ShD} (hok : s.ok) : (confS s).fit := by
  have hN : ∀ n, NmOk (nameS n) := fun n => by unfold NmOk nameS; simp
  have hM : ∀ v, NmOk (mappedS s v) := fun v => by unfold mappedS mapN NmOk; split <;> simp
  refine ⟨fun m hm => ?_, fun r hr => ?_⟩
  · obtain ⟨k, rs, _, hk, rfl⟩ := mapsS_mem hm
    unfold NmOk mapN
    simp
  · obtain ⟨k, hk, rfl⟩ := rosS_mem hr
    have key : ∀ j l, l ∈ linksS s (s.n % 8) k j → l.fit := by
      intro j l hl
      obtain ⟨i, hi, rfl⟩ := linksS_mem hl
      exact ⟨hN _, hM _, hM _⟩
    have hpf : ∀ z, z < 256 → PfOk (mkA z, (mkB z : Int)) := fun z hz => ⟨mkA_lt hz, by have := mkB_le z; show (-9223372036854775808 : Int) ≤ (mkB z : Int); omega, by have := mkB_le z; show (mkB z : Int) ≤ 9223372036854775807; omega⟩
    refine ⟨hN _, fun p hp => ?_, fun l hl => key _ l hl, fun x hx => ?_⟩
    · have hp' : p ∈ netsS s k := hp
      unfold netsS at hp'
      split at hp'
      · rw [List.mem_singleton] at hp'
        rw [hp']
        exact hpf _ (numS_lt hok.t k)
      · cases hp'
    · have : x ∈ statS s (linksS s (s.n % 8) k (s.n % 8)) k := hx
      unfold statS at this
      split at this
      · rw [List.mem_singleton] at this
        rw [this]
        refine ⟨hpf _ (numS_lt hok.w k), ?_⟩
        show NmOk (((linksS s (s.n % 8) k (s.n % 8))[numS s.ways k / 8 % (linksS s (s.n % 8) k (s.n % 8)).length]?).map LkD.peer |>.getD [])
        cases hl : (linksS s (s.n % 8) k (s.n % 8))[numS s.ways k / 8 % (linksS s (s.n % 8) k (s.n % 8)).length]? with
        | none => exact nm_nil
        | some l => exact (key _ l (List.mem_of_getElem? hl)).p
      · cases this
set_option maxHeartbeats 4000000 in
set_option maxRecDepth 20000 in
theorem checkRight_walk (s : ShD) (hok : s.ok) (v : Value) (w : World) (hv : ShAt w w.heap.size v s) (hl : Laid w) :
    Calls Tryd.prog 3 #[v] w fun e w' => e = .returned (.bool true) ∧ Below w.heap.size w w' := by
  have HV : Hid (ShAt w w.heap.size v s) := hv
  obtain ⟨lv, mv, nv, tv, wv, rfl, _, _, _, _, _⟩ := hv
  have HL : Hid (Laid w) := hl
  have HOK : Hid s.ok := hok
  obtain ⟨n, hn⟩ : ∃ n, n = s.n := ⟨_, rfl⟩
  rw [← hn] at HV ⊢
  clear hn hl hok
  go_enter Tryd.func3, Tryd.ntmps3
  go_upto_region 1 with fail
  obtain ⟨b1, hb1⟩ : ∃ b, b = w.heap.size := ⟨_, rfl⟩
  rw [← hb1]
  obtain ⟨U, hU⟩ : ∃ U, U = w.alloc (.cells #[.int .u8 n, lv, mv, nv, tv, wv] 25) := ⟨_, rfl⟩
  rw [← hU]
  obtain ⟨q1, r1, _⟩ := box_at w _ hU hb1
  have QU : Hid (Below w.heap.size w U ∧ U.heap[b1]? = some (.cells #[.int .u8 n, lv, mv, nv, tv, wv] 25 (0, 0))) := ⟨q1, r1⟩
  have h1 := awake9_any U (laid_below HL.out q1)
  clear hU hb1 q1 r1
  go_wp2_with fail
  refine h1.mono ?_
  rintro e V ⟨rfl, qV⟩
  have QV : Hid (Below w.heap.size w V) := bel_up QU.out.1 qV QU.out.1.size
  obtain ⟨C0, C1, C2, C3, C4, C5⟩ := cells_six' (pf_block qV QU.out.2)
  have h2 := sconf_any s HOK.out _ V (HV.out.keep QV.out.size (cells_below QV.out (Nat.le_refl _)))
  clear h1 qV
  go_wp2_with fail
  refine h2.mono ?_
  rintro e Y ⟨cv, rfl, hcf, qY⟩
  have QY : Hid (Below w.heap.size w Y) := bel_up QV.out qY QV.out.size
  have h3 := config_any (confS_fit HOK.out) hcf
  rw [confS_right] at h3
  clear h2 qY C0 C1 C2 C3 C4 C5
  go_wp2_with fail
  refine h3.mono ?_
  rintro e Z ⟨rfl, qZ⟩
  have QZ : Hid (Below w.heap.size w Z) := bel_up QY.out qZ QY.out.size
  clear h3 qZ
  unfold errV
  go_wp2_with fail
  go_ret
  exact ⟨rfl, QZ.out⟩
end Go.Proofs.YtcjdjifooaeomaaDoor
