/- truth.Build, whole. -/
import Derived.Test.YtcbpklpehdojnaaYB
namespace Go.Proofs.Ytcbpklpehdojnaa
open Go.RowKit

theorem wrap_two (d : Nat) (hd : d ≤ 10) : wrap64 (2 ^ d) = ((2 ^ d : Nat) : Int) := by
  have : (2 : Nat) ^ d ≤ 2 ^ 10 := Nat.pow_le_pow_right (by decide) hd
  have e : (2 : Nat) ^ 10 = 1024 := rfl
  have e2 : (2 : Int) ^ d = ((2 ^ d : Nat) : Int) := by simp
  rw [e2]
  generalize (2 : Nat) ^ d = n at this
  unfold wrap64
  omega

set_option maxHeartbeats 400000 in
set_option maxRecDepth 20000 in
theorem trbuild_bad (vars : Int) (sl : Option Addr) (n cap : Nat) (hbad : vars < 0 ∨ 10 < vars ∨ (0 ≤ vars ∧ vars ≤ 10 ∧ n ≠ 2 ^ vars.toNat)) {w : World} {p : Nat} :
    Calls Try.prog 10 #[.pointer (some ⟨p, 0, none⟩), .int .i64 vars, .slice sl n cap] w fun e w' => e = .returned (.tuple #[.int .i64 0, .iface 52 (.int .i64 10)]) ∧ Below w.heap.size w w' := by
  rcases hbad with h | h | ⟨h1, h2, h3⟩
  · go_enter Try.func10, Try.ntmps10
    go_wp2_with fail
    go_ret2
    exact ⟨rfl, (Below.refl _ _).alloc (Nat.le_refl _) _⟩
  · go_enter Try.func10, Try.ntmps10
    go_wp2_with fail
    go_ret2
    exact ⟨rfl, (Below.refl _ _).alloc (Nat.le_refl _) _⟩
  · obtain ⟨d, rfl⟩ : ∃ d : Nat, vars = d := ⟨vars.toNat, by omega⟩
    simp only [Int.toNat_natCast] at h3
    have hne : ((n : Int) != wrap64 (2 ^ d)) = true := by
      rw [wrap_two d (by omega), bne_iff_ne]
      exact fun h => h3 (Int.ofNat.inj h)
    clear h3
    go_enter Try.func10, Try.ntmps10
    go_wp2_with fail
    go_ret2
    exact ⟨rfl, (Below.refl _ _).alloc (Nat.le_refl _) _⟩

set_option maxHeartbeats 400000 in
set_option maxRecDepth 20000 in
theorem trbuild_ok (bits d : Nat) (hd : d ≤ 10) {w : World} {p g m cp b off cap : Nat} {most : Int} {ns : List Nd} (h : ArenaAt 51 47 w p g m cp most ns) (hb : b ∉ [p, g, m]) (hroom : (ns.length : Int) + 2 ^ d ≤ most + 1) (hcap : 2 ^ d ≤ cap) (hrow : RowsAt w b off (2 ^ d) (fun i => bits.testBit i)) :
    Calls Try.prog 10 #[.pointer (some ⟨p, 0, none⟩), .int .i64 d, .slice (some ⟨b, off, none⟩) (2 ^ d) cap] w (BPost p m most w g (bld most bits d 0 0 ns).1 (bld most bits d 0 0 ns).2) := by
  have hmf : ∀ (fn : Fn) (first cap : Array Value) (w : World), (Instr.makeFunc fn first cap).run Try.prog w = .ok (.func fn first cap) w := fun _ _ _ _ => rfl
  have hent := enterBld
  have hst : Sem.run Try.prog (store ⟨w.heap.size + 1, 0, none⟩ (bldV (w.heap.size + 1) w.heap.size)) ((w.alloc (.cells #[.pointer (some ⟨p, 0, none⟩)] 24)).alloc (.cells #[.nilFunc] 53)) = .ok () ((w.alloc (.cells #[.pointer (some ⟨p, 0, none⟩)] 24)).alloc (.cells #[bldV (w.heap.size + 1) w.heap.size] 53)) := by
    rw [run_store Try.prog _ _ _ _ (by rfl)]
    simp [go_sem]
  unfold bldV at hst
  have hne : (((2 ^ d : Nat) : Int) != wrap64 (2 ^ d)) = false := by rw [wrap_two d hd]; simp
  have h1 : (0 : Int) ≤ d := by omega
  have h2 : (d : Int) ≤ 10 := by omega
  obtain ⟨n, hn⟩ : ∃ n, n = 2 ^ d := ⟨_, rfl⟩
  have HN : Hid (n = 2 ^ d) := hn
  rw [← hn] at hcap hrow hne ⊢
  have hb1 : Below w.heap.size w ((w.alloc (.cells #[.pointer (some ⟨p, 0, none⟩)] 24)).alloc (.cells #[bldV (w.heap.size + 1) w.heap.size] 53)) := ((Below.refl _ _).alloc (Nat.le_refl _) _).alloc (by simp) _
  have s : BSit ((w.alloc (.cells #[.pointer (some ⟨p, 0, none⟩)] 24)).alloc (.cells #[bldV (w.heap.size + 1) w.heap.size] 53)) p g m cp (w.heap.size + 1) w.heap.size most ns b := by
    have hp := h.ltp
    have hg := h.ltg
    have hm := h.ltm
    have lb : b < w.heap.size := hrow.lt (by rw [hn]; exact Nat.pow_pos (by decide))
    refine ⟨h.below hb1, ⟨?_, ?_, by simp; omega, by simp; omega⟩, hb, by simp; omega⟩
    · exact heap_new_at _ _ _ (by simp)
    · rw [(MapKept.heap_alloc _ _).2 _ (by simp)]
      exact heap_new_at _ _ _ rfl
  have hi := tbuild_any bits (b := b) d 0 0 off cap ns (by omega) (by omega) h.good hroom _ g cp (fun i => bits.testBit i) (fun i _ => by simp) s (by rw [← hn]; exact hrow.below hb1)
  rw [← hn] at hi
  generalize bld most bits d 0 0 ns = R at hi ⊢
  have hk1 := Kept.of_below hb1 [p, g, m]
  unfold bldV at hi hk1
  clear s hb1 hrow hn hroom
  go_enter Try.func10, Try.ntmps10
  go_wp2_with fail
  refine hi.mono ?_
  rintro e w2 ⟨g2, cap2, rfl, a2, k2, e2⟩
  have k12 := Kept.next (g' := g) hk1 (.inl rfl) k2
  have hsz : w.heap.size ≤ ((w.alloc (.cells #[.pointer (some ⟨p, 0, none⟩)] 24)).alloc (.cells #[bldV (w.heap.size + 1) w.heap.size] 53)).heap.size := by simp; omega
  unfold bldV at hsz
  have e12 : g2 = g ∨ w.heap.size ≤ g2 := by omega
  clear hi hk1 k2 e2 hsz
  go_wp2_with fail
  go_ret2
  exact ⟨g2, cap2, rfl, a2, k12, e12⟩
end Go.Proofs.Ytcbpklpehdojnaa
