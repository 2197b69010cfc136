/-
  ONEREF: the reference's OneSize and OneError.
-/
import Derived.Test.YtfpkiimlaepnhaaOne3
import Derived.Test.YtfpkiimlaepnhaaAcc
import Derived.Test.YtfpkiimlaepnhaaMeanRef
namespace Go.Proofs.Ytfpkiimlaepnhaa
set_option maxRecDepth 100000
open Go.RowKit Im

theorem Boxed.belowN {w w' : World} {c b off cap W H B : Nat} (h : Boxed w c b off cap W H) (hb : Below B w w') (hlt : c < B) : Boxed w' c b off cap W H :=
  ⟨Nat.lt_of_lt_of_le h.lt hb.size, (hb.cell (p := ⟨c, 0, none⟩) hlt).trans h.c0, (hb.cell (p := ⟨c, 1, none⟩) hlt).trans h.c1, (hb.cell (p := ⟨c, 2, none⟩) hlt).trans h.c2⟩
theorem mean_eq (p : Nat → Nat → Int) (l m t q r b : Nat) (h1 : l + m = r + 1) (h2 : t + q = b + 1) : meanP p l t r b = sumBox p l t m q / ((q : Int) * (m : Int)) := by
  unfold meanP
  rw [show r + 1 - l = m by omega, show b + 1 - t = q by omega, show (r : Int) - l + 1 = m by omega, show (b : Int) - t + 1 = q by omega, Int.mul_comm]
/-- The reference's OneSize. -/
theorem oneSize_any (op : Int) (W H : Nat) (w : World) (hW : W ≤ 16) (hH : H ≤ 16) : Calls Try.prog 66 #[.int .i64 op, .int .i64 W, .int .i64 H] w fun e w' => e = .returned (.tuple #[.int .i64 (oneN op W), .int .i64 (oneN op H)]) ∧ w = w' := by
  by_cases h11 : op = 11
  · subst h11
    have e1 : (oneN 11 W : Int) = (W : Int) / 2 := by simp [oneN]
    have e2 : (oneN 11 H : Int) = (H : Int) / 2 := by simp [oneN]
    rw [e1, e2]; clear e1 e2
    go_enter Try.func66, Try.ntmps66
    go_wp2
    go_ret2
    exact ⟨rfl, rfl⟩
  by_cases h12 : op = 12
  · subst h12
    have e1 : (oneN 12 W : Int) = 2 * (W : Int) := by simp [oneN]
    have e2 : (oneN 12 H : Int) = 2 * (H : Int) := by simp [oneN]
    rw [e1, e2]; clear e1 e2
    go_enter Try.func66, Try.ntmps66
    go_wp2
    go_ret2
    exact ⟨rfl, rfl⟩
  · have g11 : (op == 11) = false := by simpa using h11
    have g12 : (op == 12) = false := by simpa using h12
    have e1 : oneN op W = W := by simp [oneN, h11, h12]
    have e2 : oneN op H = H := by simp [oneN, h11, h12]
    rw [e1, e2]; clear e1 e2
    go_enter Try.func66, Try.ntmps66
    go_wp2
    go_ret2
    exact ⟨rfl, rfl⟩
end Go.Proofs.Ytfpkiimlaepnhaa
