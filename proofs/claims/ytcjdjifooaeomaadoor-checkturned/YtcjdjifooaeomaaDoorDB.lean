/- What the sets' functions do. -/
import Derived.Test.YtcjdjifooaeomaaDoorDA
namespace Go.Proofs.YtcjdjifooaeomaaDoor
open Go.RowKit Go.Maps Go.Lib

set_option maxHeartbeats 1000000 in
set_option maxRecDepth 20000 in
theorem hasS_at {m : Nat} {b : Bool} {a : Bs} {w : World} (hl : ∀ W, Below w.heap.size w W → (Instr.lookup 60 (.map (some m)) (.string ⟨a.toArray⟩) true).run Tryd.prog W = .ok (.tuple #[.agg #[], .bool b]) W) :
    Calls Tryd.prog 29 #[.map (some m), (.string ⟨a.toArray⟩)] w fun e w' => e = .returned (.bool b) ∧ Below w.heap.size w w' := by
  obtain ⟨x, hx⟩ : ∃ x : ByteArray, x = ⟨a.toArray⟩ := ⟨_, rfl⟩
  rw [← hx] at hl ⊢
  clear hx
  have hl0 := hl w (Below.refl _ _)
  clear hl
  go_enter Tryd.func29, Tryd.ntmps29
  go_wp2_with fail
  go_ret
  exact ⟨rfl, bel_alloc (Below.refl _ _) _⟩
theorem hasS_any {m : Nat} {S : Bs → Prop} {b : Bool} {a : Bs} {w : World} (h : SetS w m S) (ha : NmOk a) (hb : b = true ↔ S a) :
    Calls Tryd.prog 29 #[.map (some m), (.string ⟨a.toArray⟩)] w fun e w' => e = .returned (.bool b) ∧ Below w.heap.size w w' :=
  hasS_at fun _ q => lookS (h.below q) ha hb
set_option maxHeartbeats 1000000 in
/-- What is there is not put in again. -/
theorem addS_there {m : Nat} {a : Bs} {w : World} (h1 : ∀ W, Below w.heap.size w W → Calls Tryd.prog 29 #[.map (some m), (.string ⟨a.toArray⟩)] W fun e w' => e = .returned (.bool true) ∧ Below W.heap.size W w') :
    Calls Tryd.prog 17 #[.map (some m), (.string ⟨a.toArray⟩)] w fun e w' => e = .returned (.bool false) ∧ Below w.heap.size w w' := by
  obtain ⟨x, hx⟩ : ∃ x : ByteArray, x = ⟨a.toArray⟩ := ⟨_, rfl⟩
  rw [← hx] at h1 ⊢
  clear hx
  go_enter Tryd.func17, Tryd.ntmps17
  go_wp2_with fail
  refine (h1 w (Below.refl _ _)).mono ?_
  rintro e V ⟨rfl, qV⟩
  have QV : Hid (Below w.heap.size w V) := qV
  clear h1
  go_wp2_with fail
  go_ret
  exact ⟨rfl, QV.out⟩
set_option maxHeartbeats 1000000 in
set_option maxRecDepth 20000 in
theorem addS_new {m : Nat} {a : Bs} {w : World} {R : World → Prop} (h1 : ∀ W, Below w.heap.size w W → Calls Tryd.prog 29 #[.map (some m), (.string ⟨a.toArray⟩)] W fun e w' => e = .returned (.bool false) ∧ Below W.heap.size W w')
    (h2 : ∀ W, Below w.heap.size w W → ∃ w', (Instr.mapUpdate 60 (.map (some m)) (.string ⟨a.toArray⟩) (.agg #[])).run Tryd.prog W = .ok () w' ∧ R w' ∧ BelX m W w') :
    Calls Tryd.prog 17 #[.map (some m), (.string ⟨a.toArray⟩)] w fun e w' => e = .returned (.bool true) ∧ R w' ∧ BelX m w w' := by
  obtain ⟨x, hx⟩ : ∃ x : ByteArray, x = ⟨a.toArray⟩ := ⟨_, rfl⟩
  rw [← hx] at h1 h2 ⊢
  clear hx
  go_enter Tryd.func17, Tryd.ntmps17
  go_wp2_with fail
  refine (h1 w (Below.refl _ _)).mono ?_
  rintro e V ⟨rfl, qV⟩
  have QV : Hid (Below w.heap.size w V) := qV
  obtain ⟨X, hX, hR, hB⟩ := h2 V QV.out
  have HX : Hid (R X ∧ BelX m w X) := ⟨hR, (BelX.of m QV.out).trans hB⟩
  clear h1 h2 hR hB
  go_wp2_with fail
  go_ret
  exact ⟨rfl, HX.out⟩
theorem addS_any {m : Nat} {S : Bs → Prop} {b : Bool} {a : Bs} {w : World} (h : SetS w m S) (ha : NmOk a) (hb : b = true ↔ S a) :
    Calls Tryd.prog 17 #[.map (some m), (.string ⟨a.toArray⟩)] w fun e w' => e = .returned (.bool (!b)) ∧ SetS w' m (fun x => S x ∨ x = a) ∧ BelX m w w' := by
  cases b with
  | true =>
    refine (addS_there (a := a) fun W q => hasS_any (h.below q) ha hb).mono ?_
    rintro e w' ⟨rfl, q⟩
    exact ⟨rfl, (h.below q).iff fun x => ⟨.inl, fun hx => hx.elim id fun e => e ▸ hb.1 rfl⟩, BelX.of m q⟩
  | false =>
    exact addS_new (a := a) (fun W q => hasS_any (h.below q) ha hb) fun W q => putS (h.below q) ha fun hs => by cases hb.2 hs
set_option maxHeartbeats 1000000 in
set_option maxRecDepth 20000 in
theorem hasP_at {m : Nat} {b : Bool} {a : Bs × Bs} {w : World} (hl : ∀ W, Below w.heap.size w W → (Instr.lookup 62 (.map (some m)) (.agg #[.string ⟨a.1.toArray⟩, .string ⟨a.2.toArray⟩]) true).run Tryd.prog W = .ok (.tuple #[.agg #[], .bool b]) W) :
    Calls Tryd.prog 40 #[.map (some m), (.agg #[.string ⟨a.1.toArray⟩, .string ⟨a.2.toArray⟩])] w fun e w' => e = .returned (.bool b) ∧ Below w.heap.size w w' := by
  obtain ⟨a1, a2⟩ := a
  dsimp only at hl ⊢
  obtain ⟨x, hx⟩ : ∃ x : ByteArray, x = ⟨a1.toArray⟩ := ⟨_, rfl⟩
  obtain ⟨y, hy⟩ : ∃ x : ByteArray, x = ⟨a2.toArray⟩ := ⟨_, rfl⟩
  rw [← hx, ← hy] at hl ⊢
  clear hx hy
  have hl0 := hl (w.alloc (.cells #[.string x, .string y] 91)) (bel_alloc (Below.refl _ _) _)
  clear hl
  go_enter Tryd.func40, Tryd.ntmps40
  go_wp2_with fail
  go_ret
  exact ⟨rfl, bel_alloc (bel_alloc (Below.refl _ _) _) _⟩
theorem hasP_any {m : Nat} {S : Bs × Bs → Prop} {b : Bool} {a : Bs × Bs} {w : World} (h : SetP w m S) (ha : NmOk a.1 ∧ NmOk a.2) (hb : b = true ↔ S a) :
    Calls Tryd.prog 40 #[.map (some m), (.agg #[.string ⟨a.1.toArray⟩, .string ⟨a.2.toArray⟩])] w fun e w' => e = .returned (.bool b) ∧ Below w.heap.size w w' :=
  hasP_at fun _ q => lookP (h.below q) ha hb
set_option maxHeartbeats 1000000 in
/-- What is there is not put in again. -/
theorem addP_there {m : Nat} {a : Bs × Bs} {w : World} (h1 : ∀ W, Below w.heap.size w W → Calls Tryd.prog 40 #[.map (some m), (.agg #[.string ⟨a.1.toArray⟩, .string ⟨a.2.toArray⟩])] W fun e w' => e = .returned (.bool true) ∧ Below W.heap.size W w') :
    Calls Tryd.prog 30 #[.map (some m), (.agg #[.string ⟨a.1.toArray⟩, .string ⟨a.2.toArray⟩])] w fun e w' => e = .returned (.bool false) ∧ Below w.heap.size w w' := by
  obtain ⟨a1, a2⟩ := a
  dsimp only at h1 ⊢
  obtain ⟨x, hx⟩ : ∃ x : ByteArray, x = ⟨a1.toArray⟩ := ⟨_, rfl⟩
  obtain ⟨y, hy⟩ : ∃ x : ByteArray, x = ⟨a2.toArray⟩ := ⟨_, rfl⟩
  rw [← hx, ← hy] at h1 ⊢
  clear hx hy
  go_enter Tryd.func30, Tryd.ntmps30
  go_wp2_with fail
  obtain ⟨b1, hb1⟩ : ∃ b, b = w.heap.size := ⟨_, rfl⟩
  rw [← hb1]
  obtain ⟨U, hU⟩ : ∃ U, U = w.alloc (.cells #[.string x, .string y] 91) := ⟨_, rfl⟩
  rw [← hU]
  obtain ⟨q1, rU, _⟩ := box_at w _ hU hb1
  refine (h1 U q1).mono ?_
  rintro e V ⟨rfl, qV⟩
  have QV : Hid (Below w.heap.size w V) := bel_up q1 qV q1.size
  obtain ⟨B0, B1⟩ := cells_two (pf_block qV rU)
  clear hU hb1
  clear h1
  go_wp2_with fail
  go_ret
  exact ⟨rfl, QV.out⟩
set_option maxHeartbeats 1000000 in
set_option maxRecDepth 20000 in
theorem addP_new {m : Nat} {a : Bs × Bs} {w : World} {R : World → Prop} (h1 : ∀ W, Below w.heap.size w W → Calls Tryd.prog 40 #[.map (some m), (.agg #[.string ⟨a.1.toArray⟩, .string ⟨a.2.toArray⟩])] W fun e w' => e = .returned (.bool false) ∧ Below W.heap.size W w')
    (h2 : ∀ W, Below w.heap.size w W → ∃ w', (Instr.mapUpdate 62 (.map (some m)) (.agg #[.string ⟨a.1.toArray⟩, .string ⟨a.2.toArray⟩]) (.agg #[])).run Tryd.prog W = .ok () w' ∧ R w' ∧ BelX m W w') :
    Calls Tryd.prog 30 #[.map (some m), (.agg #[.string ⟨a.1.toArray⟩, .string ⟨a.2.toArray⟩])] w fun e w' => e = .returned (.bool true) ∧ R w' ∧ BelX m w w' := by
  obtain ⟨a1, a2⟩ := a
  dsimp only at h1 h2 ⊢
  obtain ⟨x, hx⟩ : ∃ x : ByteArray, x = ⟨a1.toArray⟩ := ⟨_, rfl⟩
  obtain ⟨y, hy⟩ : ∃ x : ByteArray, x = ⟨a2.toArray⟩ := ⟨_, rfl⟩
  rw [← hx, ← hy] at h1 h2 ⊢
  clear hx hy
  go_enter Tryd.func30, Tryd.ntmps30
  go_wp2_with fail
  obtain ⟨b1, hb1⟩ : ∃ b, b = w.heap.size := ⟨_, rfl⟩
  rw [← hb1]
  obtain ⟨U, hU⟩ : ∃ U, U = w.alloc (.cells #[.string x, .string y] 91) := ⟨_, rfl⟩
  rw [← hU]
  obtain ⟨q1, rU, _⟩ := box_at w _ hU hb1
  refine (h1 U q1).mono ?_
  rintro e V ⟨rfl, qV⟩
  have QV : Hid (Below w.heap.size w V) := bel_up q1 qV q1.size
  obtain ⟨B0, B1⟩ := cells_two (pf_block qV rU)
  clear hU hb1
  obtain ⟨X, hX, hR, hB⟩ := h2 V QV.out
  have HX : Hid (R X ∧ BelX m w X) := ⟨hR, (BelX.of m QV.out).trans hB⟩
  clear h1 h2 hR hB
  go_wp2_with fail
  go_ret
  exact ⟨rfl, HX.out⟩
theorem addP_any {m : Nat} {S : Bs × Bs → Prop} {b : Bool} {a : Bs × Bs} {w : World} (h : SetP w m S) (ha : NmOk a.1 ∧ NmOk a.2) (hb : b = true ↔ S a) :
    Calls Tryd.prog 30 #[.map (some m), (.agg #[.string ⟨a.1.toArray⟩, .string ⟨a.2.toArray⟩])] w fun e w' => e = .returned (.bool (!b)) ∧ SetP w' m (fun x => S x ∨ x = a) ∧ BelX m w w' := by
  cases b with
  | true =>
    refine (addP_there (a := a) fun W q => hasP_any (h.below q) ha hb).mono ?_
    rintro e w' ⟨rfl, q⟩
    exact ⟨rfl, (h.below q).iff fun x => ⟨.inl, fun hx => hx.elim id fun e => e ▸ hb.1 rfl⟩, BelX.of m q⟩
  | false =>
    exact addP_new (a := a) (fun W q => hasP_any (h.below q) ha hb) fun W q => putP (h.below q) ha fun hs => by cases hb.2 hs
set_option maxHeartbeats 1000000 in
set_option maxRecDepth 20000 in
theorem hasF_at {m : Nat} {b : Bool} {a : Nat × Int} {w : World} (hl : ∀ W, Below w.heap.size w W → (Instr.lookup 115 (.map (some m)) (.agg #[.int .u32 a.1, .int .i64 a.2]) true).run Tryd.prog W = .ok (.tuple #[.agg #[], .bool b]) W) :
    Calls Tryd.prog 47 #[.map (some m), (.agg #[.int .u32 a.1, .int .i64 a.2])] w fun e w' => e = .returned (.bool b) ∧ Below w.heap.size w w' := by
  obtain ⟨a1, a2⟩ := a
  dsimp only at hl ⊢
  have hl0 := hl (w.alloc (.cells #[.int .u32 a1, .int .i64 a2] 74)) (bel_alloc (Below.refl _ _) _)
  clear hl
  go_enter Tryd.func47, Tryd.ntmps47
  go_wp2_with fail
  go_ret
  exact ⟨rfl, bel_alloc (bel_alloc (Below.refl _ _) _) _⟩
theorem hasF_any {m : Nat} {S : Nat × Int → Prop} {b : Bool} {a : Nat × Int} {w : World} (h : SetF w m S) (ha : PfOk a) (hb : b = true ↔ S a) :
    Calls Tryd.prog 47 #[.map (some m), (.agg #[.int .u32 a.1, .int .i64 a.2])] w fun e w' => e = .returned (.bool b) ∧ Below w.heap.size w w' :=
  hasF_at fun _ q => lookF (h.below q) ha hb
set_option maxHeartbeats 1000000 in
/-- What is there is not put in again. -/
theorem addF_there {m : Nat} {a : Nat × Int} {w : World} (h1 : ∀ W, Below w.heap.size w W → Calls Tryd.prog 47 #[.map (some m), (.agg #[.int .u32 a.1, .int .i64 a.2])] W fun e w' => e = .returned (.bool true) ∧ Below W.heap.size W w') :
    Calls Tryd.prog 41 #[.map (some m), (.agg #[.int .u32 a.1, .int .i64 a.2])] w fun e w' => e = .returned (.bool false) ∧ Below w.heap.size w w' := by
  obtain ⟨a1, a2⟩ := a
  dsimp only at h1 ⊢
  go_enter Tryd.func41, Tryd.ntmps41
  go_wp2_with fail
  obtain ⟨b1, hb1⟩ : ∃ b, b = w.heap.size := ⟨_, rfl⟩
  rw [← hb1]
  obtain ⟨U, hU⟩ : ∃ U, U = w.alloc (.cells #[.int .u32 a1, .int .i64 a2] 74) := ⟨_, rfl⟩
  rw [← hU]
  obtain ⟨q1, rU, _⟩ := box_at w _ hU hb1
  refine (h1 U q1).mono ?_
  rintro e V ⟨rfl, qV⟩
  have QV : Hid (Below w.heap.size w V) := bel_up q1 qV q1.size
  obtain ⟨B0, B1⟩ := cells_two (pf_block qV rU)
  clear hU hb1
  clear h1
  go_wp2_with fail
  go_ret
  exact ⟨rfl, QV.out⟩
set_option maxHeartbeats 1000000 in
set_option maxRecDepth 20000 in
theorem addF_new {m : Nat} {a : Nat × Int} {w : World} {R : World → Prop} (h1 : ∀ W, Below w.heap.size w W → Calls Tryd.prog 47 #[.map (some m), (.agg #[.int .u32 a.1, .int .i64 a.2])] W fun e w' => e = .returned (.bool false) ∧ Below W.heap.size W w')
    (h2 : ∀ W, Below w.heap.size w W → ∃ w', (Instr.mapUpdate 115 (.map (some m)) (.agg #[.int .u32 a.1, .int .i64 a.2]) (.agg #[])).run Tryd.prog W = .ok () w' ∧ R w' ∧ BelX m W w') :
    Calls Tryd.prog 41 #[.map (some m), (.agg #[.int .u32 a.1, .int .i64 a.2])] w fun e w' => e = .returned (.bool true) ∧ R w' ∧ BelX m w w' := by
  obtain ⟨a1, a2⟩ := a
  dsimp only at h1 h2 ⊢
  go_enter Tryd.func41, Tryd.ntmps41
  go_wp2_with fail
  obtain ⟨b1, hb1⟩ : ∃ b, b = w.heap.size := ⟨_, rfl⟩
  rw [← hb1]
  obtain ⟨U, hU⟩ : ∃ U, U = w.alloc (.cells #[.int .u32 a1, .int .i64 a2] 74) := ⟨_, rfl⟩
  rw [← hU]
  obtain ⟨q1, rU, _⟩ := box_at w _ hU hb1
  refine (h1 U q1).mono ?_
  rintro e V ⟨rfl, qV⟩
  have QV : Hid (Below w.heap.size w V) := bel_up q1 qV q1.size
  obtain ⟨B0, B1⟩ := cells_two (pf_block qV rU)
  clear hU hb1
  obtain ⟨X, hX, hR, hB⟩ := h2 V QV.out
  have HX : Hid (R X ∧ BelX m w X) := ⟨hR, (BelX.of m QV.out).trans hB⟩
  clear h1 h2 hR hB
  go_wp2_with fail
  go_ret
  exact ⟨rfl, HX.out⟩
theorem addF_any {m : Nat} {S : Nat × Int → Prop} {b : Bool} {a : Nat × Int} {w : World} (h : SetF w m S) (ha : PfOk a) (hb : b = true ↔ S a) :
    Calls Tryd.prog 41 #[.map (some m), (.agg #[.int .u32 a.1, .int .i64 a.2])] w fun e w' => e = .returned (.bool (!b)) ∧ SetF w' m (fun x => S x ∨ x = a) ∧ BelX m w w' := by
  cases b with
  | true =>
    refine (addF_there (a := a) fun W q => hasF_any (h.below q) ha hb).mono ?_
    rintro e w' ⟨rfl, q⟩
    exact ⟨rfl, (h.below q).iff fun x => ⟨.inl, fun hx => hx.elim id fun e => e ▸ hb.1 rfl⟩, BelX.of m q⟩
  | false =>
    exact addF_new (a := a) (fun W q => hasF_any (h.below q) ha hb) fun W q => putF (h.below q) ha fun hs => by cases hb.2 hs
end Go.Proofs.YtcjdjifooaeomaaDoor
