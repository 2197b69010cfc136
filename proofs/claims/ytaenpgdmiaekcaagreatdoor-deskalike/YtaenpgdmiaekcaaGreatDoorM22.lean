/-
  DESKM: numbers alone: an image as text.
-/
import Derived.Test.YtaenpgdmiaekcaaGreatDoorM01
import Derived.Lib.ItoaMem
namespace Go.Proofs.YtaenpgdmiaekcaaGreatDoor
set_option maxRecDepth 100000
open Go.RowKit Im

/-- The text of the first k numbers of an image of W columns, with what stands behind each. -/
def showN (W : Nat) (ps : List Int) : Nat → List UInt8
  | 0 => []
  | k + 1 => showN W ps k ++ (Lib.itoa (ps.getD k 0) ++ [if (k + 1) % W = 0 then 10 else 32])
/-- The text when x numbers of row y are written, and nothing behind the last of them. -/
def lineN (W : Nat) (ps : List Int) (y x : Nat) : List UInt8 := if x = 0 then showN W ps (y * W) else showN W ps (y * W + (x - 1)) ++ Lib.itoa (ps.getD (y * W + (x - 1)) 0)
theorem line_first (W : Nat) (ps : List Int) (y : Nat) : lineN W ps y 1 = lineN W ps y 0 ++ Lib.itoa (ps.getD (y * W) 0) := by
  unfold lineN
  simp
theorem line_next (W : Nat) (ps : List Int) (y x : Nat) (hx : 0 < x) (hW : x < W) : lineN W ps y (x + 1) = lineN W ps y x ++ (32 :: Lib.itoa (ps.getD (y * W + x) 0)) := by
  unfold lineN
  rw [if_neg (by omega), if_neg (by omega)]
  have e : y * W + x = (y * W + (x - 1)) + 1 := by omega
  have hm : ¬ (y * W + (x - 1) + 1) % W = 0 := by
    rw [← e, Nat.add_comm, Nat.add_mul_mod_self_right, Nat.mod_eq_of_lt hW]
    omega
  have e2 : y * W + (x + 1 - 1) = (y * W + (x - 1)) + 1 := by omega
  rw [e2]
  show showN W ps (y * W + (x - 1)) ++ (Lib.itoa (ps.getD (y * W + (x - 1)) 0) ++ [if (y * W + (x - 1) + 1) % W = 0 then 10 else 32]) ++ _ = _
  rw [if_neg hm]
  have e3 : (y * W + (x - 1)) + 1 = y * W + x := e.symm
  rw [e3]
  simp
theorem line_end (W : Nat) (ps : List Int) (y : Nat) (hW : 0 < W) : lineN W ps y W ++ [10] = lineN W ps (y + 1) 0 := by
  unfold lineN
  rw [if_neg (by omega), if_pos rfl]
  have e : (y + 1) * W = (y * W + (W - 1)) + 1 := by rw [Nat.add_mul]; omega
  rw [e]
  show _ = showN W ps (y * W + (W - 1)) ++ (Lib.itoa (ps.getD (y * W + (W - 1)) 0) ++ [if (y * W + (W - 1) + 1) % W = 0 then 10 else 32])
  have hm : (y * W + (W - 1) + 1) % W = 0 := by rw [← e, Nat.mul_mod_left]
  rw [if_pos hm]
  simp
theorem line_all (W H : Nat) (ps : List Int) : lineN W ps H 0 = showN W ps (W * H) := by
  unfold lineN
  rw [if_pos rfl, Nat.mul_comm]
/-- A text's length. -/
theorem show_len (W : Nat) (ps : List Int) (h : ∀ k, (Lib.itoa (ps.getD k 0)).length ≤ 21) : ∀ k, (showN W ps k).length ≤ 22 * k
  | 0 => Nat.le_refl _
  | k + 1 => by
    have ih := show_len W ps h k
    have h1 := h k
    unfold showN
    rw [List.length_append, List.length_append]
    simp only [List.length_cons, List.length_nil]
    omega
end Go.Proofs.YtaenpgdmiaekcaaGreatDoor
