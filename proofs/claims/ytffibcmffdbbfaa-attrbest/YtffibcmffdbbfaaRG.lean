/- AttrBest: the walk. -/
import Derived.Test.YtffibcmffdbbfaaRE
import Derived.Test.YtffibcmffdbbfaaRF
namespace Go.Proofs.Ytffibcmffdbbfaa
open Go.RowKit

set_option maxHeartbeats 8000000 in
set_option maxRecDepth 20000 in
theorem lbest_walk {v : Value} {l : List At} (w : World) (h : SliceAt w.heap.size 4 (AtAt w) v l) :
    Calls Try.prog 5 #[v] w fun e w' => e = .returned (.bool true) ∧ Below w.heap.size w w' := by
  go_enter Try.func5, Try.ntmps5
  go_wp2_with fail
  refine (awake10_any _).mono ?_
  rintro e W1 ⟨rfl, q1⟩
  have h1 := ats_keep h q1
  have hbest := best_any W1 h1
  have HN := bestP_none l
  obtain ⟨nn, hnn⟩ : ∃ nn, noneP l = nn := ⟨_, rfl⟩
  have HZ : nn = true → bestP l = At.zero := fun e => bestP_zero (by rw [hnn, e])
  have HS : nn = false → (bestP l).ok = true ∧ anyP (bestP l) l = true := fun e => bestP_some (by rw [hnn, e])
  obtain ⟨x, hx⟩ : ∃ x, x = bestP l := ⟨_, rfl⟩
  rw [← hx] at hbest HN HZ HS
  clear hx
  obtain ⟨ad, cap, rfl, hl, hel⟩ := h
  clear h1
  unfold atV at hbest
  go_wp2_with fail
  refine hbest.mono ?_
  rintro e W2 ⟨rfl, q2⟩
  have hw2 := bel_up q1 q2 q1.size
  clear hbest q1 q2
  go_wp2_with fail
  obtain ⟨U, hU⟩ : ∃ U, U = W2.alloc (atB x) := ⟨_, rfl⟩
  have hwU : Below w.heap.size w U := by rw [hU]; exact bel_up hw2 (bel_alloc (Below.refl _ _) _) hw2.size
  obtain ⟨bx, hbx⟩ : ∃ b, b = W2.heap.size := ⟨_, rfl⟩
  have hxU : U.heap[bx]? = some (atB x) := by rw [hU]; exact pf_new _ _ _ hbx
  unfold atB at hU
  rw [← hU, ← hbx]
  clear hU hbx hw2
  have hcell : ∀ (k : Nat) (a : At), l[k]? = some a → ∃ b off, ad = some ⟨b, off, none⟩ ∧ ∀ p : BelOf U, AtAt p.w b (off + k * 4) a := fun k a ha => by
    obtain ⟨b, off, h1, h2, h3⟩ := hel k a ha
    exact ⟨b, off, h1, fun p => h3.keep h2 (cells_below (bel_up hwU p.h hwU.size) (Nat.le_refl _))⟩
  obtain ⟨x0, x1, x2, x3⟩ := at_cells hxU
  clear hel
  go_loopw [4, 16] (fun iv i wr => ∃ k : Nat, k ≤ l.length ∧ i = .int .i64 k ∧ iv = .bool (anyP x (l.take k)) ∧ Below U.heap.size U wr) (fun _ i _ => l.length - (RowKit.intOf i).toNat)
  case atStart => exact ⟨0, Nat.zero_le _, rfl, rfl, Below.refl _ _⟩
  case round =>
    obtain ⟨k, hk, rfl, rfl, hw⟩ := hrel
    obtain ⟨p, rfl⟩ : ∃ p : BelOf U, wr = p.w := ⟨⟨wr, hw⟩, rfl⟩
    clear hw
    by_cases hlt : k < l.length
    · have d4 : decide ((k : Int) < l.length) = true := decide_eq_true (by omega)
      obtain ⟨a, ha⟩ : ∃ a, l[k]? = some a := ⟨l[k], List.getElem?_eq_getElem hlt⟩
      obtain ⟨b, off, rfl, hat⟩ := hcell k a ha
      have HAN : Hid (anyP x (l.take (k + 1)) = (anyP x (l.take k) || eqP a x)) := by
        show _ = _
        rw [take_next ha, any_snoc]
      have HBA := better_any a x
      rw [HN a (List.mem_of_getElem? ha)] at HBA
      unfold atV at HBA
      obtain ⟨c0, c1, c2, c3⟩ := hat p
      obtain ⟨V, hV⟩ : ∃ V, V = p.w.alloc (atB a) := ⟨_, rfl⟩
      have hUV : Below U.heap.size U V := by rw [hV]; exact bel_up p.h (bel_alloc (Below.refl _ _) _) p.h.size
      have htV : V.heap[p.w.heap.size]? = some (atB a) := by rw [hV]; exact pf_new _ _ _ rfl
      obtain ⟨e0, e1, e2, e3⟩ : V.cell? ⟨bx, 0, none⟩ = some (.bool x.ok) ∧ V.cell? ⟨bx, 1, none⟩ = some (.int .i64 x.pref) ∧ V.cell? ⟨bx, 2, none⟩ = some (.int .i64 x.cost) ∧ V.cell? ⟨bx, 3, none⟩ = some (.int .u8 x.tags) := ⟨x0 ⟨V, hUV⟩, x1 ⟨V, hUV⟩, x2 ⟨V, hUV⟩, x3 ⟨V, hUV⟩⟩
      unfold atB at hV
      rw [hV] at e0 e1 e2 e3
      obtain ⟨y, hy⟩ : ∃ y, y = anyP x (l.take k) := ⟨_, rfl⟩
      rw [← hy] at HAN ⊢
      clear HN HZ HS hcell hat ha hy
      go_wp2_with fail
      rw [← hV]
      refine (HBA _).mono ?_
      rintro e W3 ⟨rfl, q3⟩
      have htW := pf_block q3 htV
      obtain ⟨q, rfl⟩ : ∃ q : BelOf U, W3 = q.w := ⟨⟨W3, bel_up hUV q3 hUV.size⟩, rfl⟩
      obtain ⟨bt, hbt⟩ : ∃ bt, bt = p.w.heap.size := ⟨_, rfl⟩
      rw [← hbt] at htW ⊢
      obtain ⟨g0, g1, g2, g3⟩ := at_cell htW
      have hq := q.h
      clear hV e0 e1 e2 e3 c0 c1 c2 c3 HBA htV hUV q3 hbt
      cases y
      all_goals
        go_wp2_with fail
      all_goals
        go_roundw
        case rel => exact ⟨k + 1, by omega, by go_num, by rw [HAN.out]; simp [eqP, *], hq⟩
        case measure => simp [RowKit.intOf]; omega
    · obtain rfl : k = l.length := by omega
      have d4 : decide (((l.length : Nat) : Int) < l.length) = false := decide_eq_false (by omega)
      rw [List.take_length]
      go_wp2_with fail
      obtain ⟨yy, hyy⟩ : ∃ y, y = anyP x l := ⟨_, rfl⟩
      rw [← hyy] at HS ⊢
      clear HN hyy
      go_loopw [7, 32] (fun iv i wr => ∃ k : Nat, k ≤ l.length ∧ i = .int .i64 k ∧ iv = .bool (noneP (l.take k)) ∧ Below U.heap.size U wr) (fun _ i _ => l.length - (RowKit.intOf i).toNat)
      case atStart => exact ⟨0, Nat.zero_le _, rfl, rfl, p.h⟩
      case round =>
        obtain ⟨k, hk, rfl, rfl, hw⟩ := hrel
        clear p
        obtain ⟨p, rfl⟩ : ∃ p : BelOf U, wr = p.w := ⟨⟨wr, hw⟩, rfl⟩
        clear hw
        by_cases hlt : k < l.length
        · have d4 : decide ((k : Int) < l.length) = true := decide_eq_true (by omega)
          obtain ⟨a, ha⟩ : ∃ a, l[k]? = some a := ⟨l[k], List.getElem?_eq_getElem hlt⟩
          obtain ⟨b, off, rfl, hat⟩ := hcell k a ha
          have HAN : Hid (noneP (l.take (k + 1)) = (noneP (l.take k) && !a.ok)) := by
            show _ = _
            rw [take_next ha, none_snoc]
          obtain ⟨c0, c1, c2, c3⟩ := hat p
          have hUV : Below U.heap.size U (p.w.alloc (atB a)) := bel_up p.h (bel_alloc (Below.refl _ _) _) p.h.size
          unfold atB at hUV
          obtain ⟨y, hy⟩ : ∃ y, y = noneP (l.take k) := ⟨_, rfl⟩
          rw [← hy] at HAN ⊢
          clear HZ HS hcell hat ha hy
          cases y
          all_goals
            go_wp2_with fail
          all_goals
            go_roundw
            case rel => exact ⟨k + 1, by omega, by go_num, by rw [HAN.out]; simp, hUV⟩
            case measure => simp [RowKit.intOf]; omega
        · obtain rfl : k = l.length := by omega
          have d5 : decide (((l.length : Nat) : Int) < l.length) = false := decide_eq_false (by omega)
          rw [List.take_length, hnn]
          obtain ⟨c0, c1, c2, c3⟩ : p.w.cell? ⟨bx, 0, none⟩ = some (.bool x.ok) ∧ p.w.cell? ⟨bx, 1, none⟩ = some (.int .i64 x.pref) ∧ p.w.cell? ⟨bx, 2, none⟩ = some (.int .i64 x.cost) ∧ p.w.cell? ⟨bx, 3, none⟩ = some (.int .u8 x.tags) := ⟨x0 p, x1 p, x2 p, x3 p⟩
          have hres := bel_up hwU p.h hwU.size
          clear hcell hnn
          cases nn
          · obtain ⟨s1, s2⟩ := HS rfl
            subst s2
            rw [s1] at c0
            clear HS HZ
            go_wp2_with fail
            go_ret
            exact ⟨rfl, hres⟩
          · have hz := HZ rfl
            subst hz
            unfold At.zero at c0 c1 c2 c3
            clear HS HZ
            go_wp2_with fail
            go_ret
            exact ⟨rfl, hres⟩
end Go.Proofs.Ytffibcmffdbbfaa
