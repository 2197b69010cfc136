/-
  MEAN: image.mean, of a function that tells the number of a place.
-/
import Derived.Test.YtfpkiimlaepnhaaDraw
namespace Go.Proofs.Ytfpkiimlaepnhaa
set_option maxRecDepth 100000
open Go.RowKit Im

set_option maxHeartbeats 1000000 in
theorem mean_any (W H : Nat) (n : Nat) (caps : Array Value) (p : Nat → Nat → Int) (w : World) (l t r b : Nat) (hW : W ≤ 16) (hH : H ≤ 16) (h1 : l ≤ r) (h2 : r < W) (h3 : t ≤ b) (h4 : b < H)
    (hp : ∀ x y, x < W → y < H → 0 ≤ p x y ∧ p x y ≤ 65535) (hf : Tells w n caps W H p) :
    Calls Try.prog 97 #[.func (.func n) #[] caps, .int .i64 l, .int .i64 t, .int .i64 r, .int .i64 b] w fun e w' => e = .returned (.int .i64 (meanP p l t r b)) ∧ Below w.heap.size w w' := by
  have hent := hf.enters
  go_enter Try.func97, Try.ntmps97
  go_wp2
  go_loopw [11, 12] (fun s i wr => ∃ j : Nat, j ≤ b + 1 - t ∧ i = .int .i64 ((t : Int) + (j : Int)) ∧ s = .int .i64 (sumBox p l t (r + 1 - l) j) ∧ Below w.heap.size w wr) (fun _ i _ => b + 1 - (intOf i).toNat)
  case atStart => exact ⟨0, Nat.zero_le _, by simp, rfl, Below.refl _ _⟩
  case round =>
    obtain ⟨j, hj, rfl, rfl, hbr⟩ := hrel
    have sb := sumBox_bd (p := p) (l := l) (t := t) (n := r + 1 - l) (by omega) (m := j) (fun x y _ _ _ _ => hp x y (by omega) (by omega))
    by_cases hlt : j < b + 1 - t
    · have hle : (t : Int) + (j : Int) ≤ b := by omega
      go_wp2
      go_loopw [11, 13] (fun s i wr => ∃ i' : Nat, i' ≤ r + 1 - l ∧ i = .int .i64 ((l : Int) + (i' : Int)) ∧ s = .int .i64 (sumBox p l t (r + 1 - l) j + sumRow p (t + j) l i') ∧ Below w.heap.size w wr) (fun _ i _ => r + 1 - (intOf i).toNat)
      case atStart => exact ⟨0, Nat.zero_le _, by simp, by simp [sumRow], hbr⟩
      case round =>
        obtain ⟨i, hi, rfl, rfl, hbs⟩ := hrel
        have sr := sumRow_bd (p := p) (y := t + j) (l := l) (n := i) (fun x _ _ => hp x (t + j) (by omega) (by omega))
        by_cases hli : i < r + 1 - l
        · have hli2 : (l : Int) + (i : Int) ≤ r := by omega
          have hpp := hp (l + i) (t + j) (by omega) (by omega)
          go_wp2_with (refine (hf.tells (l + i) (t + j) _ (by omega) (by omega) hbs).mono ?_; rintro e w2 ⟨rfl, hb2⟩)
          have hbw := hbs.trans (hb2.mono (by have := hbs.size; omega))
          go_roundw
          case rel => exact ⟨i + 1, by omega, by go_num, by show _ = Value.int .i64 (_ + (sumRow p (t + j) l i + p (l + i) (t + j))); go_num, hbw⟩
          case measure => simp [intOf]; omega
        · have hie : i = r + 1 - l := by omega
          subst hie
          go_wp2
          go_roundw
          case rel => exact ⟨j + 1, by omega, by go_num, rfl, hbs⟩
          case measure => simp [intOf]; omega
    · have hje : j = b + 1 - t := by omega
      subst hje
      have m1 : 1 ≤ ((r : Int) - l + 1) * ((b : Int) - t + 1) := (side_mul (by simp [sideB]; omega) (by simp [sideB]; omega)).1
      have m2 : ((r : Int) - l + 1) * ((b : Int) - t + 1) ≤ 256 := (side_mul (by simp [sideB]; omega) (by simp [sideB]; omega)).2
      go_wp2
      go_ret
      exact ⟨rfl, hbr⟩
end Go.Proofs.Ytfpkiimlaepnhaa
