/- TokenLong's walk. -/
import Derived.Test.YtbegdnagegonjaaDoorK2
import Derived.Laws.IdiomStrings
import Derived.Laws.MakeOwn
namespace Go.Proofs.YtbegdnagegonjaaDoor
open Go.RowKit Go.Lib

/-- So many semicolons are as many tokens, and an end. -/
theorem toks_semi : ∀ n i : Nat, ∃ ts, toks (List.replicate n (59 : UInt8)) 0 i = .inr ts ∧ ts.length = n + 1
  | 0, i => ⟨[endT i], rfl, rfl⟩
  | n + 1, i => by
    obtain ⟨ts, h1, h2⟩ := toks_semi n (i + 1)
    refine ⟨[⟨4, [59], 0, 0, 0, i⟩] ++ ts, ?_, ?_⟩
    · rw [List.replicate_succ, toks, if_neg (by decide), if_neg (by decide), if_pos (by decide), h1]
      rfl
    · rw [List.length_append, h2]
      simp
      omega
def rowU (n j : Nat) : Array Value := Array.ofFn (fun i : Fin n => Value.int .u8 (if i.val < j then 59 else 0))
theorem rowU_size (n j : Nat) : (rowU n j).size = n := by simp [rowU]
theorem rowU_get {n j i : Nat} (h : i < n) : (rowU n j)[i]? = some (.int .u8 (if i < j then 59 else 0)) := by simp [rowU, h]
theorem rowU_ext {n j : Nat} {a : Array Value} (hs : a.size = n) (h : ∀ i, i < n → a[i]? = some (.int .u8 (if i < j then 59 else 0))) : a = rowU n j := by
  apply Array.ext_getElem?
  intro i
  by_cases hi : i < n
  · rw [h i hi, rowU_get hi]
  · rw [Array.getElem?_eq_none (by omega), Array.getElem?_eq_none (by rw [rowU_size]; omega)]
theorem rowU_set (n j : Nat) : (rowU n j).setIfInBounds j (.int .u8 59) = rowU n (j + 1) := by
  refine rowU_ext (by simp [rowU_size]) (fun i hi => ?_)
  rw [Array.getElem?_setIfInBounds, rowU_size, rowU_get hi]
  by_cases e : i = j
  · subst e; simp [hi]
  · rw [if_neg (fun h => e h.symm)]
    by_cases h2 : i < j
    · rw [if_pos h2, if_pos (by omega)]
    · rw [if_neg h2, if_neg (by omega)]
theorem infoU : (Tryd.prog.info? 5).map (fun i => (i.zero, i.size, i.bytes)) = some (some (.int .u8 0), 1, 1) := by kernel_rfl
theorem makeU (n : Nat) (hn : n ≤ 131072) (w : World) : Sem.run Tryd.prog (Instr.makeSlice 35 (.int .i64 n) (.int .i64 n)) w = .ok (.slice (some ⟨w.heap.size, 0, none⟩) n n) (w.alloc (.cells (rowU n 0) 5)) := by
  have hI := infoU
  cases h1 : Tryd.prog.info? 5 with
  | none => rw [h1] at hI; cases hI
  | some i =>
    rw [h1] at hI
    simp only [Option.map_some, Option.some.injEq, Prod.mk.injEq] at hI
    obtain ⟨h2, h3, h4⟩ := hI
    have := run_make (P := Tryd.prog) w 35 5 i (.int .u8 0) Tryd.underlying35 h1 h2 .i64 .i64 n n (by omega) (Int.le_refl _) (by rw [h4]; omega) (by omega)
    rw [this]
    simp only [Int.toNat_natCast, h3, Nat.mul_one]
    have e : madeCells (Value.int .u8 0).cells n = rowU n 0 := rowU_ext (size_madeCells _ _) (fun i hi => by simp [madeCells, hi, Value.cells, Nat.mod_one])
    rw [e]
set_option maxHeartbeats 4000000 in
set_option maxRecDepth 20000 in
theorem tokenLong_walk (a : Nat) (_ha : a < 256) (w : World) (hg : Laid w) :
    Calls Tryd.prog 4 #[.int .u8 a] w fun e w' => e = .returned (.bool true) ∧ Below w.heap.size w w' := by
  have h1 := awake6_any w
  obtain ⟨m, hm⟩ : ∃ m : Nat, m = a % 12 := ⟨_, rfl⟩
  have e1 : (a : Int).tmod 12 = m := by rw [hm]; rfl
  have hm12 : m < 12 := by omega
  obtain ⟨n, hn⟩ : ∃ n : Nat, n = 65530 + m := ⟨_, rfl⟩
  have e2 : (65530 : Int) + m = n := by omega
  have hnl : n ≤ 65541 := by omega
  have hmk := makeU n (by omega)
  clear hm
  have HNM : Hid (n = 65530 + m) := hn
  clear hn
  go_enter Tryd.func4, Tryd.ntmps4
  go_wp2_with fail
  refine h1.mono ?_
  rintro e W0 ⟨rfl, q0⟩
  have hmk0 := hmk W0
  go_wp2_with fail
  obtain ⟨W, hW⟩ : ∃ W, W = W0.alloc (.cells (rowU n 0) 5) := ⟨_, rfl⟩
  obtain ⟨b, hb⟩ : ∃ b, b = W0.heap.size := ⟨_, rfl⟩
  rw [← hW, ← hb]
  have qW : Below w.heap.size w W := by rw [hW]; exact bel_alloc q0 _
  have rW : W.heap[b]? = some (.cells (rowU n 0) 5 (0, 0)) := by rw [hW]; exact pf_new _ _ _ hb
  have HBB : Hid (w.heap.size ≤ b) := by have := q0.size; show _ ≤ b; omega
  clear hmk hmk0 h1 hW hb q0
  go_loopw [16] (fun i wr => ∃ j : Nat, j ≤ n ∧ i = .int .i64 j ∧ wr.heap[b]? = some (.cells (rowU n j) 5 (0, 0)) ∧ Below w.heap.size w wr) (fun i _ => n - (RowKit.intOf i).toNat)
  case atStart => exact ⟨0, Nat.zero_le _, rfl, rW, qW⟩
  case round =>
    obtain ⟨j, hj, rfl, rj, qj⟩ := hrel
    clear rW qW
    by_cases hlt : j < n
    · have d1 : decide ((j : Int) < n) = true := decide_eq_true (by omega)
      have b1 : (0 : Int) ≤ j := by omega
      have b2 : (j : Int) < n := by omega
      have Cj : wr.cell? ⟨b, j, none⟩ = some (.int .u8 0) := by simp [World.cell?, rj, rowU_get hlt]
      have Fj : wr.frozen? ⟨b, j, none⟩ = false := by simp [World.frozen?, rj]
      have r2 := pf_set (i := j) rj (.int .u8 59)
      rw [rowU_set] at r2
      have q2 := qj.setCell (p := ⟨b, j, none⟩) HBB.out (.int .u8 59)
      go_wp2_with fail
      go_roundw
      case rel => exact ⟨j + 1, by omega, by go_num, r2, q2⟩
      case measure => simp [RowKit.intOf]; omega
    · obtain rfl : n = j := by omega
      have d1 : decide ((n : Int) < n) = false := decide_eq_false (by omega)
      have hcells : ∀ i (hi : i < (List.replicate n (59 : UInt8)).length), wr.cell? ((⟨b, 0, none⟩ : Addr).add i) = some (.int .u8 (((List.replicate n (59 : UInt8))[i].toNat : Nat) : Int)) := by
        intro i hi
        have hi' : i < n := by simpa using hi
        have ea : ((⟨b, 0, none⟩ : Addr).add i) = ⟨b, i, none⟩ := by
          simp [Addr.add]
          exact fun h => h.symm
        rw [ea]
        unfold World.cell?
        simp only [rj]
        rw [rowU_get hi', if_pos hi']
        simp
      have hbk := run_convert_bytes_back (P := Tryd.prog) wr 35 9 5 ⟨b, 0, none⟩ n (List.replicate n (59 : UInt8)) Tryd.underlying35 Tryd.underlying5 Tryd.underlying9 hcells
      rw [List.length_replicate] at hbk
      obtain ⟨S, hS⟩ : ∃ S : ByteArray, S = ⟨(List.replicate n (59 : UInt8)).toArray⟩ := ⟨_, rfl⟩
      have hSs : S.size = n := by rw [hS, str_size, List.length_replicate]
      have hSl : S.data.toList = List.replicate n (59 : UInt8) := by rw [hS]
      rw [← hS] at hbk
      clear hcells rj hS
      have hgW := laid_bel hg qj
      by_cases hlong : 65536 < n
      · have h2 := cut_long S (by omega)
        unfold faV at h2
        have d2 : decide ((65536 : Int) < n) = true := decide_eq_true (by omega)
        clear hSl hSs
        go_wp2_with fail
        refine (h2 _).mono ?_
        rintro e W1 ⟨rfl, rfl⟩
        have hnu := number_fault 7 0 _ hgW
        go_wp2_with fail
        refine hnu.mono ?_
        rintro e W2 ⟨rfl, q3⟩
        have hg2 := laid_bel hgW q3
        have q4 := bel_up qj q3 qj.size
        go_wp2_with fail
        refine (place_fault 7 0 _ hg2).mono ?_
        rintro e W3 ⟨rfl, q5⟩
        have q6 := bel_up q4 q5 q4.size
        go_wp2_with fail
        go_ret
        exact ⟨rfl, q6⟩
      · have h2 := cut_any S (by omega)
        obtain ⟨ts, ht1, ht2⟩ := toks_semi n 0
        rw [hSl, ht1] at h2
        replace h2 : ∀ w, Calls Tryd.prog 8 #[.string S] w (fun e w' => ∃ g cap, e = .returned (.tuple #[.slice (some ⟨g, 0, none⟩) ts.length cap, .nilIface]) ∧ w'.ownsRow w.heap.size 42 6 (.slice (some ⟨g, 0, none⟩) ts.length cap) ts.length (ts.flatMap tkL) ∧ Below w.heap.size w w') := h2
        rw [ht2] at h2
        obtain ⟨N, hN⟩ : ∃ N, N = n + 1 := ⟨_, rfl⟩
        rw [← hN] at h2
        have d2 : decide ((65536 : Int) < n) = false := decide_eq_false (by omega)
        have e5 : (n : Int) + 1 = N := by omega
        clear hSl hSs ht1 ht2 hN
        go_wp2_with fail
        refine (h2 _).mono ?_
        rintro e W1 ⟨g, cap, rfl, _, q1⟩
        have q2 := bel_up qj q1 qj.size
        go_wp2_with fail
        go_ret
        exact ⟨rfl, q2⟩
end Go.Proofs.YtbegdnagegonjaaDoor
