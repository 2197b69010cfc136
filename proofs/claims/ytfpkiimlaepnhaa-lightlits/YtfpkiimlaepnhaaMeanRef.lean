/-
  MEANREF: the reference's at and mean.
-/
import Derived.Test.YtfpkiimlaepnhaaRules
namespace Go.Proofs.Ytfpkiimlaepnhaa
set_option maxRecDepth 100000
open Go.RowKit Im

/-- The reference's at. -/
theorem at_any {w : World} {b off cap W H : Nat} {ps : List Int} (hF : Fine w b off W H ps) (X Y : Int) (x y : Nat) (hX : X = x) (hY : Y = y) (hx : x < W) (hy : y < H) :
    Calls Try.prog 67 #[.agg #[.int .i64 W, .int .i64 H, .slice (some ⟨b, off, none⟩) (W * H) cap], .int .i64 X, .int .i64 Y] w fun e w' => e = .returned (.int .i64 (px W ps x y)) ∧ Below w.heap.size w w' := by
  subst hX hY
  have hbel := (Below.refl w.heap.size w).alloc (Nat.le_refl _) (.cells #[.int .i64 W, .int .i64 H, .slice (some ⟨b, off, none⟩) (W * H) cap] 24)
  have hc := (hF.below hbel).cell (y * W + x) (place_lt hx hy)
  have hpl := place_lt hx hy
  obtain ⟨hm, hM⟩ := hF.small
  have hb1 := hF.hW
  have hb2 := hF.hH
  have hpi : (y : Int) * (W : Int) + (x : Int) < (W : Int) * (H : Int) := by rw [← Int.natCast_mul, ← Int.natCast_mul]; omega
  have hp0 : 0 ≤ (y : Int) * (W : Int) := Int.mul_nonneg (by omega) (by omega)
  have hpM : (W : Int) * (H : Int) ≤ 256 := by rw [← Int.natCast_mul]; omega
  obtain ⟨v, hv⟩ : ∃ v, v = px W ps x y := ⟨_, rfl⟩
  have hc' : (w.alloc (.cells #[.int .i64 W, .int .i64 H, .slice (some ⟨b, off, none⟩) (W * H) cap] 24)).cell? ⟨b, off + (y * W + x), none⟩ = some (.int .i64 v) := by rw [hv]; exact hc
  rw [← hv]
  clear hc hv hF hpl
  go_enter Try.func67, Try.ntmps67
  go_wp2
  go_ret
  exact ⟨rfl, hbel⟩

set_option maxHeartbeats 1000000 in
/-- The reference's mean, of the m columns from l on and the q rows from t on. -/
theorem meanRef_any {w : World} {b off cap W H : Nat} {ps : List Int} (hF : Fine w b off W H ps) (X Y U V : Int) (l m t q : Nat) (hL : (if X < 0 then 0 else X) = (l : Int)) (hT : (if Y < 0 then 0 else Y) = (t : Int))
    (hR : (if (W : Int) - 1 < U then (W : Int) - 1 else U) = (l : Int) + m - 1) (hV : (if (H : Int) - 1 < V then (H : Int) - 1 else V) = (t : Int) + q - 1) (h1 : 1 ≤ m) (h2 : l + m ≤ W) (h3 : 1 ≤ q) (h4 : t + q ≤ H) :
    Calls Try.prog 68 #[.agg #[.int .i64 W, .int .i64 H, .slice (some ⟨b, off, none⟩) (W * H) cap], .int .i64 X, .int .i64 Y, .int .i64 U, .int .i64 V] w fun e w' =>
      e = .returned (.int .i64 (sumBox (px W ps) l t m q / ((q : Int) * (m : Int)))) ∧ Below w.heap.size w w' := by
  have hbel := (Below.refl w.heap.size w).alloc (Nat.le_refl _) (.cells #[.int .i64 W, .int .i64 H, .slice (some ⟨b, off, none⟩) (W * H) cap] 24)
  have hF1 := hF.below hbel
  have hBx : Boxed (w.alloc (.cells #[.int .i64 W, .int .i64 H, .slice (some ⟨b, off, none⟩) (W * H) cap] 24)) w.heap.size b off cap W H := ⟨by simp, by simp [go_sem], by simp [go_sem], by simp [go_sem]⟩
  obtain ⟨w1, w2⟩ := hF.hW
  obtain ⟨g1, g2⟩ := hF.hH
  have hp := hF.px_bd
  clear hF
  go_enter Try.func68, Try.ntmps68
  go_wp2
  generalize (w.alloc (.cells #[.int .i64 W, .int .i64 H, .slice (some ⟨b, off, none⟩) (W * H) cap] 24)) = wb at hF1 hBx hbel ⊢
  go_loopw [11, 12, 13] (fun s n i wr => ∃ j : Nat, j ≤ q ∧ i = .int .i64 ((t : Int) + (j : Int)) ∧ s = .int .i64 (sumBox (px W ps) l t m j) ∧ n = .int .i64 ((j : Int) * (m : Int)) ∧ Below wb.heap.size wb wr) (fun _ _ i _ => t + q - (intOf i).toNat)
  case atStart => exact ⟨0, Nat.zero_le _, by simp, rfl, by simp, Below.refl _ _⟩
  case round =>
    obtain ⟨j, hj, rfl, rfl, rfl, hbr⟩ := hrel
    have sb := sumBox_bd (p := px W ps) (l := l) (t := t) (n := m) (by omega) (m := j) (fun x y _ _ _ _ => hp x y (by omega) (by omega))
    obtain ⟨_, k0, k1, k2⟩ := hBx.below hbr
    have n0 : 0 ≤ (j : Int) * (m : Int) := Int.mul_nonneg (by omega) (by omega)
    have n1 : (j : Int) * (m : Int) ≤ 16 * 16 := Int.mul_le_mul (by omega) (by omega) (by omega) (by omega)
    by_cases hlt : j < q
    · have hle : (t : Int) + (j : Int) ≤ (t : Int) + (q : Int) - 1 := by omega
      go_wp2
      go_loopw [11, 12, 14] (fun s n i wr => ∃ i' : Nat, i' ≤ m ∧ i = .int .i64 ((l : Int) + (i' : Int)) ∧ s = .int .i64 (sumBox (px W ps) l t m j + sumRow (px W ps) (t + j) l i') ∧ n = .int .i64 ((j : Int) * (m : Int) + (i' : Int)) ∧ Below wb.heap.size wb wr) (fun _ _ i _ => l + m - (intOf i).toNat)
      case atStart => exact ⟨0, Nat.zero_le _, by simp, by simp [sumRow], by simp, hbr⟩
      case round =>
        obtain ⟨i, hi, rfl, rfl, rfl, hbs⟩ := hrel
        have sr := sumRow_bd (p := px W ps) (y := t + j) (l := l) (n := i) (fun x _ _ => hp x (t + j) (by omega) (by omega))
        obtain ⟨_, kk0, kk1, kk2⟩ := hBx.below hbs
        by_cases hli : i < m
        · have hli2 : (l : Int) + (i : Int) ≤ (l : Int) + (m : Int) - 1 := by omega
          have hpp := hp (l + i) (t + j) (by omega) (by omega)
          go_wp2_with (go_at_call 67; refine (at_any (hF1.below hbs) _ _ (l + i) (t + j) (by omega) (by omega) (by omega) (by omega)).mono ?_; rintro e w2 ⟨rfl, hb2⟩)
          have hbw := hbs.trans (hb2.mono hbs.size)
          go_roundw
          case rel => exact ⟨i + 1, by omega, by go_num, by show _ = Value.int .i64 (_ + (sumRow (px W ps) (t + j) l i + px W ps (l + i) (t + j))); go_num, by go_num, hbw⟩
          case measure => simp [intOf]; omega
        · have hie : i = m := by omega
          subst hie
          go_wp2
          go_roundw
          case rel => exact ⟨j + 1, by omega, by go_num, rfl, by congr 1; show _ = ((j + 1 : Nat) : Int) * _; rw [Int.natCast_add, Int.add_mul]; simp, hbs⟩
          case measure => simp [intOf]; omega
    · have hje : j = q := by omega
      subst hje
      have m1 : 1 ≤ (j : Int) * (m : Int) := (side_mul (by simp [sideB]; omega) (by simp [sideB]; omega)).1
      go_wp2
      go_ret
      exact ⟨rfl, hbel.trans (hbr.mono hbel.size)⟩
end Go.Proofs.Ytfpkiimlaepnhaa
