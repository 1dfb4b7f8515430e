/- Blanks put in, byte by byte. No program. -/
import Derived.Test.YtejhgifadohbiaaGreatDoorPW
import Derived.Test.YtejhgifadohbiaaGreatDoorPX
namespace Go.Proofs.YtejhgifadohbiaaGreatDoor
open Go.Lib

/-- The four fillings. -/
def fillB : Nat → Bs
  | 0 => [32, 35, 32, 120, 10]
  | 1 => [10, 10]
  | 2 => [9]
  | _ => [32, 32]
theorem fill_void (j : Nat) : Void (fillB j) := by
  match j with
  | 0 => exact void_rem
  | 1 => exact void_blk (by decide)
  | 2 => exact void_blk (by decide)
  | j + 3 => exact void_blk (by show ∀ c ∈ ([32, 32] : Bs), blkP c = true; decide)
theorem fill_len (j : Nat) : (fillB j).length ≤ 5 := by
  match j with
  | 0 => decide
  | 1 => decide
  | 2 => decide
  | j + 3 => show ([32, 32] : Bs).length ≤ 5; decide
theorem blow_next {W l : Bs} {k : Nat} (hk : k < l.length) : blow W (l.take (k + 1)) = blow W (l.take k) ++ (l.getD k 0 :: if gapP (l.getD k 0) = true then W else []) := by
  have h1 : l[k]? = some (l.getD k 0) := by
    rw [List.getD_eq_getElem?_getD, List.getElem?_eq_getElem hk]
    rfl
  rw [List.take_add_one, h1, blow_app]
  show _ ++ blow W [l.getD k 0] = _
  rw [blow_cons]
  simp [blow]
theorem blow_all (W l : Bs) : blow W (l.take l.length) = blow W l := by rw [List.take_length]
theorem blow_small {W l : Bs} {k : Nat} (hW : W.length ≤ 5) (hl : l.length ≤ 7000) : (W ++ blow W (l.take k)).length ≤ 50000 := by
  have h1 := blow_len W (l.take k)
  have h2 : (l.take k).length ≤ 7000 := by rw [List.length_take]; omega
  have h3 : (1 + W.length) * (l.take k).length ≤ 6 * 7000 := Nat.mul_le_mul (by omega) h2
  rw [List.length_append]
  omega
end Go.Proofs.YtejhgifadohbiaaGreatDoor
