/-
  GIVEN: what a light gives to a place; how far it is from a part.
-/
import Derived.Test.YtfpkiimlaepnhaaLamp
namespace Go.Proofs.Ytfpkiimlaepnhaa
set_option maxRecDepth 100000
open Go.RowKit Im

/-- How far c is from the nearest of n columns (or rows) from f on. -/
def awayP (c f n : Int) : Int := max (max (f - c) (c - (f + n - 1))) 0
theorem away_any (c f n : Int) (w : World) (hc : 0 ≤ c ∧ c < 16) (hf : 0 ≤ f ∧ f < 16) (hn : 1 ≤ n ∧ n ≤ 16) : Calls Try.prog 75 #[.int .i64 c, .int .i64 f, .int .i64 n] w fun e w' => e = .returned (.int .i64 (awayP c f n)) ∧ w' = w := by
  obtain ⟨m, hm⟩ : ∃ m, m = awayP c f n := ⟨_, rfl⟩
  rw [← hm]
  by_cases h1 : f - c < c - (f + n - 1)
  · by_cases h2 : c - (f + n - 1) < 0
    · have e : m = 0 := by rw [hm]; unfold awayP; omega
      subst e
      clear hm
      go_enter Try.func75, Try.ntmps75
      go_wp2
      go_ret
      exact ⟨rfl, rfl⟩
    · have e : m = c - (f + n - 1) := by rw [hm]; unfold awayP; omega
      subst e
      clear hm
      go_enter Try.func75, Try.ntmps75
      go_wp2
      go_ret
      exact ⟨rfl, rfl⟩
  · by_cases h2 : f - c < 0
    · have e : m = 0 := by rw [hm]; unfold awayP; omega
      subst e
      clear hm
      go_enter Try.func75, Try.ntmps75
      go_wp2
      go_ret
      exact ⟨rfl, rfl⟩
    · have e : m = f - c := by rw [hm]; unfold awayP; omega
      subst e
      clear hm
      go_enter Try.func75, Try.ntmps75
      go_wp2
      go_ret
      exact ⟨rfl, rfl⟩
theorem away_bd (c f n : Int) (hc : 0 ≤ c ∧ c < 16) (hf : 0 ≤ f ∧ f < 16) (hn : 1 ≤ n ∧ n ≤ 16) : 0 ≤ awayP c f n ∧ awayP c f n ≤ 15 := by unfold awayP; omega
/-- What a light gives to a place. -/
def givenP (l : Lt) (x y : Int) : Int := l.P * max (l.R - (awayP l.X x 1 + awayP l.Y y 1)) 0 / l.R
theorem given_bd {l : Lt} (hl : rightB l = true) (x y : Int) (hx : 0 ≤ x ∧ x < 16) (hy : 0 ≤ y ∧ y < 16) : 0 ≤ givenP l x y ∧ givenP l x y ≤ 65535 := by
  obtain ⟨hX, hY, hR, hP⟩ := (right_iff l).1 hl
  have a1 := away_bd l.X x 1 hX hx (by omega)
  have a2 := away_bd l.Y y 1 hY hy (by omega)
  unfold givenP
  have hd : 0 ≤ awayP l.X x 1 + awayP l.Y y 1 := by omega
  generalize awayP l.X x 1 + awayP l.Y y 1 = d at hd ⊢
  have h1 : 0 ≤ max (l.R - d) 0 ∧ max (l.R - d) 0 ≤ l.R := by omega
  · have m1 : 0 ≤ l.P * max (l.R - d) 0 := Int.mul_nonneg hP.1 h1.1
    have m2 : l.P * max (l.R - d) 0 ≤ 65535 * l.R := Int.mul_le_mul hP.2 h1.2 h1.1 (by omega)
    refine ⟨Int.ediv_nonneg m1 (by omega), ?_⟩
    have : l.P * max (l.R - d) 0 / l.R < 65536 := Int.ediv_lt_of_lt_mul (by omega) (by omega)
    omega
theorem given_any (l : Lt) (x y : Int) (w : World) (hl : rightB l = true) (hx : 0 ≤ x ∧ x < 16) (hy : 0 ≤ y ∧ y < 16) :
    Calls Try.prog 73 #[.agg #[.int .i64 l.X, .int .i64 l.Y, .int .i64 l.R, .int .i64 l.P], .int .i64 x, .int .i64 y] w fun e w' => e = .returned (.int .i64 (givenP l x y)) ∧ Below w.heap.size w w' := by
  obtain ⟨hX, hY, hR, hP⟩ := (right_iff l).1 hl
  have c1 := fun wx => away_any l.X x 1 wx hX hx (by omega)
  have c2 := fun wx => away_any l.Y y 1 wx hY hy (by omega)
  have a1 := away_bd l.X x 1 hX hx (by omega)
  have a2 := away_bd l.Y y 1 hY hy (by omega)
  have hg : givenP l x y = l.P * max (l.R - (awayP l.X x 1 + awayP l.Y y 1)) 0 / l.R := rfl
  generalize awayP l.X x 1 = d1 at *
  generalize awayP l.Y y 1 = d2 at *
  obtain ⟨X, Y, R, P⟩ := l
  dsimp only at *
  obtain ⟨m, hm⟩ : ∃ m, (if R - (d1 + d2) < 0 then 0 else R - (d1 + d2)) = m := ⟨_, rfl⟩
  have hm' : max (R - (d1 + d2)) 0 = m := by rw [← hm]; split <;> omega
  rw [hg, hm']
  have b1 : 0 ≤ m ∧ m ≤ 32 := by omega
  have m1 : 0 ≤ P * m := Int.mul_nonneg hP.1 b1.1
  have m2 : P * m ≤ 65535 * 32 := Int.mul_le_mul hP.2 b1.2 b1.1 (by omega)
  clear hg hm' hl
  go_enter Try.func73, Try.ntmps73
  go_wp2
  go_quiet ((first | (go_at_call 75; with_reducible exact Calls.quiet_of_same (c1 _)) | (go_at_call 75; with_reducible exact Calls.quiet_of_same (c2 _))))
  clear c1 c2
  go_wp2
  go_ret
  exact ⟨rfl, below_drewN ((Below.refl _ _).alloc (Nat.le_refl _) _) _⟩
theorem given_pos {l : Lt} {x y d : Int} (hd : awayP l.X x 1 + awayP l.Y y 1 = d) (h : d < l.R) : givenP l x y = l.P * (l.R - d) / l.R := by
  unfold givenP; rw [hd, show max (l.R - d) 0 = l.R - d by omega]
theorem given_zero {l : Lt} {x y d : Int} (hd : awayP l.X x 1 + awayP l.Y y 1 = d) (h : ¬ d < l.R) : givenP l x y = 0 := by
  unfold givenP; rw [hd, show max (l.R - d) 0 = 0 by omega]; simp
def stretchB (f n : Int) : Bool := placeB f && decide (1 ≤ n) && decide (n ≤ 16 - f)
theorem isStretch_any (f n : Int) (w : World) : Calls Try.prog 74 #[.int .i64 f, .int .i64 n] w fun e w' => e = .returned (.bool (stretchB f n)) ∧ w = w' := by
  by_cases h1 : placeB f = true
  · have hf := (place_iff f).1 h1
    by_cases h2 : 1 ≤ n
    · by_cases h3 : n ≤ 16 - f
      · rw [show stretchB f n = true by simp [stretchB, h1, h2, h3]]
        go_enter Try.func74, Try.ntmps74
        go_wp2_with (go_at_call 72; refine (isPlace_any _ _).mono ?_; rintro e w' ⟨rfl, rfl⟩)
        go_ret
        exact ⟨by first | rfl | simp [h3], rfl⟩
      · rw [show stretchB f n = false by simp [stretchB, h3]]
        have h3' : decide (n ≤ 16 - f) = false := by simpa using h3
        go_enter Try.func74, Try.ntmps74
        go_wp2_with (go_at_call 72; refine (isPlace_any _ _).mono ?_; rintro e w' ⟨rfl, rfl⟩)
        go_ret
        exact ⟨by first | rfl | simp [h3], rfl⟩
    · rw [show stretchB f n = false by simp [stretchB, h2]]
      go_enter Try.func74, Try.ntmps74
      go_wp2_with (go_at_call 72; refine (isPlace_any _ _).mono ?_; rintro e w' ⟨rfl, rfl⟩)
      go_ret
      exact ⟨rfl, rfl⟩
  · have h1' := eq_false_of_ne_true h1
    rw [show stretchB f n = false by simp [stretchB, h1']]
    go_enter Try.func74, Try.ntmps74
    go_wp2_with (go_at_call 72; refine (isPlace_any _ _).mono ?_; rintro e w' ⟨rfl, rfl⟩)
    go_ret
    exact ⟨rfl, rfl⟩
end Go.Proofs.Ytfpkiimlaepnhaa
