/-
  LAWTELLS: the walk of the law LightTells.
-/
import Derived.Test.YtfpkiimlaepnhaaLightBegun
import Derived.Test.YtfpkiimlaepnhaaNearRef
namespace Go.Proofs.Ytfpkiimlaepnhaa
set_option maxRecDepth 100000
open Go.RowKit Im

set_option maxHeartbeats 1000000 in
theorem tells_error (a : Option Addr) (len cap : Nat) (ls : List Lt) (x y pw ph : Int) (w : World) (h : Lights w a len ls) (hE : ¬ lightsErr ls = 0) :
    Calls Try.prog 7 #[.slice a len cap, .int .i64 x, .int .i64 y, .int .i64 pw, .int .i64 ph] w fun e w' => e = .returned (.bool true) ∧ Below w.heap.size w w' := by
  have hcl := fun wx (hx : Lights wx a len ls) => checkL_any cap hx
  have hcr := fun wx (hx : Lights wx a len ls) => checkR_any cap hx
  have hat := fun wx (hx : Lights wx a len ls) => atL_any cap x y hx
  have hnear := fun wx (hx : Lights wx a len ls) => near_error cap x y pw ph hx hE
  rw [show atV ls x y = 0 by simp [atV, atE, hE], show atE ls x y = lightsErr ls by simp [atE, hE]] at hat
  have hne : (lightsErr ls == 0) = false := by simpa using hE
  generalize lightsErr ls = E at hcl hcr hat hnear hne
  clear hE
  have hb := Below.refl w.heap.size w
  go_enter Try.func7, Try.ntmps7
  go_wp2_with fail
  refine (hat _ h).mono ?_
  rintro e w1 ⟨rfl, b1⟩
  replace h := h.below b1
  replace hb := below_step hb b1
  go_wp2_with fail
  refine (hnear _ h).mono ?_
  rintro e w2 ⟨rfl, b2⟩
  have i2 := Ints.nil 0 w2
  replace h := h.below b2
  replace hb := below_step hb b2
  clear hat hnear
  go_wp2_with fail
  refine (hcr _ h).mono ?_
  rintro e w3 ⟨rfl, b3⟩
  replace h := h.below b3
  replace i2 := i2.below (Nat.le_refl _) b3
  replace hb := below_step hb b3
  go_wp2_with fail
  all_goals
    refine (lightBegun_any _).mono ?_
    rintro e w5 ⟨rfl, b5⟩
    replace h := h.below b5
    replace i2 := i2.below (Nat.le_refl _) b5
    replace hb := below_step hb b5
    go_wp2_with fail
    refine (hcl _ h).mono ?_
    rintro e w6 ⟨rfl, b6⟩
    replace h := h.below b6
    replace i2 := i2.below (Nat.le_refl _) b6
    replace hb := below_step hb b6
    go_wp2_with fail
    refine (hcr _ h).mono ?_
    rintro e w7 ⟨rfl, b7⟩
    replace i2 := i2.below (Nat.le_refl _) b7
    have i3 := Ints.nil 0 w7
    replace hb := below_step hb b7
    go_wp2_with fail
    refine (sameInts_any _ _ i2 i3).mono ?_
    rintro e w8 ⟨rfl, b8⟩
    replace hb := below_step hb b8
    go_wp2
    go_ret
    exact ⟨by simp, hb⟩
set_option maxHeartbeats 1000000 in
theorem tells_x0 (a : Option Addr) (len cap : Nat) (ls : List Lt) (x y pw ph : Int) (w : World) (h : Lights w a len ls) (hE : lightsErr ls = 0) (h1 : x < 0) :
    Calls Try.prog 7 #[.slice a len cap, .int .i64 x, .int .i64 y, .int .i64 pw, .int .i64 ph] w fun e w' => e = .returned (.bool true) ∧ Below w.heap.size w w' := by
  have hp : (placeB x && placeB y) = false := by simp only [placeB, Bool.and_eq_false_iff, decide_eq_false_iff_not]; omega
  have hst : (stretchB x pw && stretchB y ph) = false := by cases h1 : placeB x <;> cases h2 : placeB y <;> simp_all [stretchB]
  have hcl := fun wx (hx : Lights wx a len ls) => checkL_any cap hx
  have hcr := fun wx (hx : Lights wx a len ls) => checkR_any cap hx
  have hat := fun wx (hx : Lights wx a len ls) => atL_any cap x y hx
  have hnear := fun wx (hx : Lights wx a len ls) => near_range cap x y pw ph hx hE hst
  rw [show atV ls x y = 0 by simp [atV, atE, hE, hp, okIf], show atE ls x y = 3 by simp [atE, hE, hp, okIf]] at hat
  rw [hE] at hcl hcr
  clear hE
  clear hst hp
  have g1 : decide (0 ≤ x) = false := by simpa using h1
  have hb := Below.refl w.heap.size w
  go_enter Try.func7, Try.ntmps7
  go_wp2_with fail
  refine (hat _ h).mono ?_
  rintro e w1 ⟨rfl, b1⟩
  replace h := h.below b1
  replace hb := below_step hb b1
  go_wp2_with fail
  refine (hnear _ h).mono ?_
  rintro e w2 ⟨rfl, b2⟩
  have i2 := Ints.nil 0 w2
  replace h := h.below b2
  replace hb := below_step hb b2
  clear hat hnear
  go_wp2_with fail
  refine (hcr _ h).mono ?_
  rintro e w3 ⟨rfl, b3⟩
  replace h := h.below b3
  replace i2 := i2.below (Nat.le_refl _) b3
  replace hb := below_step hb b3
  go_wp2_with fail
  refine (lightBegun_any _).mono ?_
  rintro e w5 ⟨rfl, b5⟩
  replace h := h.below b5
  replace i2 := i2.below (Nat.le_refl _) b5
  replace hb := below_step hb b5
  go_wp2_with fail
  refine (hcl _ h).mono ?_
  rintro e w6 ⟨rfl, b6⟩
  replace h := h.below b6
  replace i2 := i2.below (Nat.le_refl _) b6
  replace hb := below_step hb b6
  go_wp2_with fail
  refine (hcr _ h).mono ?_
  rintro e w7 ⟨rfl, b7⟩
  replace i2 := i2.below (Nat.le_refl _) b7
  have i3 := Ints.nil 0 w7
  replace hb := below_step hb b7
  go_wp2_with fail
  refine (sameInts_any _ _ i2 i3).mono ?_
  rintro e w8 ⟨rfl, b8⟩
  replace hb := below_step hb b8
  go_wp2
  go_ret
  exact ⟨by simp, hb⟩
set_option maxHeartbeats 1000000 in
theorem tells_x1 (a : Option Addr) (len cap : Nat) (ls : List Lt) (x y pw ph : Int) (w : World) (h : Lights w a len ls) (hE : lightsErr ls = 0) (h1 : 0 ≤ x) (h2 : 16 ≤ x) :
    Calls Try.prog 7 #[.slice a len cap, .int .i64 x, .int .i64 y, .int .i64 pw, .int .i64 ph] w fun e w' => e = .returned (.bool true) ∧ Below w.heap.size w w' := by
  have hp : (placeB x && placeB y) = false := by simp only [placeB, Bool.and_eq_false_iff, decide_eq_false_iff_not]; omega
  have hst : (stretchB x pw && stretchB y ph) = false := by cases h1 : placeB x <;> cases h2 : placeB y <;> simp_all [stretchB]
  have hcl := fun wx (hx : Lights wx a len ls) => checkL_any cap hx
  have hcr := fun wx (hx : Lights wx a len ls) => checkR_any cap hx
  have hat := fun wx (hx : Lights wx a len ls) => atL_any cap x y hx
  have hnear := fun wx (hx : Lights wx a len ls) => near_range cap x y pw ph hx hE hst
  rw [show atV ls x y = 0 by simp [atV, atE, hE, hp, okIf], show atE ls x y = 3 by simp [atE, hE, hp, okIf]] at hat
  rw [hE] at hcl hcr
  clear hE
  clear hst hp
  have g1 : decide (x < 16) = false := by simpa using h2
  have hb := Below.refl w.heap.size w
  go_enter Try.func7, Try.ntmps7
  go_wp2_with fail
  refine (hat _ h).mono ?_
  rintro e w1 ⟨rfl, b1⟩
  replace h := h.below b1
  replace hb := below_step hb b1
  go_wp2_with fail
  refine (hnear _ h).mono ?_
  rintro e w2 ⟨rfl, b2⟩
  have i2 := Ints.nil 0 w2
  replace h := h.below b2
  replace hb := below_step hb b2
  clear hat hnear
  go_wp2_with fail
  refine (hcr _ h).mono ?_
  rintro e w3 ⟨rfl, b3⟩
  replace h := h.below b3
  replace i2 := i2.below (Nat.le_refl _) b3
  replace hb := below_step hb b3
  go_wp2_with fail
  refine (lightBegun_any _).mono ?_
  rintro e w5 ⟨rfl, b5⟩
  replace h := h.below b5
  replace i2 := i2.below (Nat.le_refl _) b5
  replace hb := below_step hb b5
  go_wp2_with fail
  refine (hcl _ h).mono ?_
  rintro e w6 ⟨rfl, b6⟩
  replace h := h.below b6
  replace i2 := i2.below (Nat.le_refl _) b6
  replace hb := below_step hb b6
  go_wp2_with fail
  refine (hcr _ h).mono ?_
  rintro e w7 ⟨rfl, b7⟩
  replace i2 := i2.below (Nat.le_refl _) b7
  have i3 := Ints.nil 0 w7
  replace hb := below_step hb b7
  go_wp2_with fail
  refine (sameInts_any _ _ i2 i3).mono ?_
  rintro e w8 ⟨rfl, b8⟩
  replace hb := below_step hb b8
  go_wp2
  go_ret
  exact ⟨by simp, hb⟩
set_option maxHeartbeats 1000000 in
theorem tells_y0 (a : Option Addr) (len cap : Nat) (ls : List Lt) (x y pw ph : Int) (w : World) (h : Lights w a len ls) (hE : lightsErr ls = 0) (h1 : 0 ≤ x) (h2 : x < 16) (h3 : y < 0) :
    Calls Try.prog 7 #[.slice a len cap, .int .i64 x, .int .i64 y, .int .i64 pw, .int .i64 ph] w fun e w' => e = .returned (.bool true) ∧ Below w.heap.size w w' := by
  have hp : (placeB x && placeB y) = false := by simp only [placeB, Bool.and_eq_false_iff, decide_eq_false_iff_not]; omega
  have hst : (stretchB x pw && stretchB y ph) = false := by cases h1 : placeB x <;> cases h2 : placeB y <;> simp_all [stretchB]
  have hcl := fun wx (hx : Lights wx a len ls) => checkL_any cap hx
  have hcr := fun wx (hx : Lights wx a len ls) => checkR_any cap hx
  have hat := fun wx (hx : Lights wx a len ls) => atL_any cap x y hx
  have hnear := fun wx (hx : Lights wx a len ls) => near_range cap x y pw ph hx hE hst
  rw [show atV ls x y = 0 by simp [atV, atE, hE, hp, okIf], show atE ls x y = 3 by simp [atE, hE, hp, okIf]] at hat
  rw [hE] at hcl hcr
  clear hE
  clear hst hp
  have g1 : decide (0 ≤ y) = false := by simpa using h3
  have hb := Below.refl w.heap.size w
  go_enter Try.func7, Try.ntmps7
  go_wp2_with fail
  refine (hat _ h).mono ?_
  rintro e w1 ⟨rfl, b1⟩
  replace h := h.below b1
  replace hb := below_step hb b1
  go_wp2_with fail
  refine (hnear _ h).mono ?_
  rintro e w2 ⟨rfl, b2⟩
  have i2 := Ints.nil 0 w2
  replace h := h.below b2
  replace hb := below_step hb b2
  clear hat hnear
  go_wp2_with fail
  refine (hcr _ h).mono ?_
  rintro e w3 ⟨rfl, b3⟩
  replace h := h.below b3
  replace i2 := i2.below (Nat.le_refl _) b3
  replace hb := below_step hb b3
  go_wp2_with fail
  refine (lightBegun_any _).mono ?_
  rintro e w5 ⟨rfl, b5⟩
  replace h := h.below b5
  replace i2 := i2.below (Nat.le_refl _) b5
  replace hb := below_step hb b5
  go_wp2_with fail
  refine (hcl _ h).mono ?_
  rintro e w6 ⟨rfl, b6⟩
  replace h := h.below b6
  replace i2 := i2.below (Nat.le_refl _) b6
  replace hb := below_step hb b6
  go_wp2_with fail
  refine (hcr _ h).mono ?_
  rintro e w7 ⟨rfl, b7⟩
  replace i2 := i2.below (Nat.le_refl _) b7
  have i3 := Ints.nil 0 w7
  replace hb := below_step hb b7
  go_wp2_with fail
  refine (sameInts_any _ _ i2 i3).mono ?_
  rintro e w8 ⟨rfl, b8⟩
  replace hb := below_step hb b8
  go_wp2
  go_ret
  exact ⟨by simp, hb⟩
set_option maxHeartbeats 1000000 in
theorem tells_y1 (a : Option Addr) (len cap : Nat) (ls : List Lt) (x y pw ph : Int) (w : World) (h : Lights w a len ls) (hE : lightsErr ls = 0) (h1 : 0 ≤ x) (h2 : x < 16) (h3 : 0 ≤ y) (h4 : 16 ≤ y) :
    Calls Try.prog 7 #[.slice a len cap, .int .i64 x, .int .i64 y, .int .i64 pw, .int .i64 ph] w fun e w' => e = .returned (.bool true) ∧ Below w.heap.size w w' := by
  have hp : (placeB x && placeB y) = false := by simp only [placeB, Bool.and_eq_false_iff, decide_eq_false_iff_not]; omega
  have hst : (stretchB x pw && stretchB y ph) = false := by cases h1 : placeB x <;> cases h2 : placeB y <;> simp_all [stretchB]
  have hcl := fun wx (hx : Lights wx a len ls) => checkL_any cap hx
  have hcr := fun wx (hx : Lights wx a len ls) => checkR_any cap hx
  have hat := fun wx (hx : Lights wx a len ls) => atL_any cap x y hx
  have hnear := fun wx (hx : Lights wx a len ls) => near_range cap x y pw ph hx hE hst
  rw [show atV ls x y = 0 by simp [atV, atE, hE, hp, okIf], show atE ls x y = 3 by simp [atE, hE, hp, okIf]] at hat
  rw [hE] at hcl hcr
  clear hE
  clear hst hp
  have g1 : decide (y < 16) = false := by simpa using h4
  have hb := Below.refl w.heap.size w
  go_enter Try.func7, Try.ntmps7
  go_wp2_with fail
  refine (hat _ h).mono ?_
  rintro e w1 ⟨rfl, b1⟩
  replace h := h.below b1
  replace hb := below_step hb b1
  go_wp2_with fail
  refine (hnear _ h).mono ?_
  rintro e w2 ⟨rfl, b2⟩
  have i2 := Ints.nil 0 w2
  replace h := h.below b2
  replace hb := below_step hb b2
  clear hat hnear
  go_wp2_with fail
  refine (hcr _ h).mono ?_
  rintro e w3 ⟨rfl, b3⟩
  replace h := h.below b3
  replace i2 := i2.below (Nat.le_refl _) b3
  replace hb := below_step hb b3
  go_wp2_with fail
  refine (lightBegun_any _).mono ?_
  rintro e w5 ⟨rfl, b5⟩
  replace h := h.below b5
  replace i2 := i2.below (Nat.le_refl _) b5
  replace hb := below_step hb b5
  go_wp2_with fail
  refine (hcl _ h).mono ?_
  rintro e w6 ⟨rfl, b6⟩
  replace h := h.below b6
  replace i2 := i2.below (Nat.le_refl _) b6
  replace hb := below_step hb b6
  go_wp2_with fail
  refine (hcr _ h).mono ?_
  rintro e w7 ⟨rfl, b7⟩
  replace i2 := i2.below (Nat.le_refl _) b7
  have i3 := Ints.nil 0 w7
  replace hb := below_step hb b7
  go_wp2_with fail
  refine (sameInts_any _ _ i2 i3).mono ?_
  rintro e w8 ⟨rfl, b8⟩
  replace hb := below_step hb b8
  go_wp2
  go_ret
  exact ⟨by simp, hb⟩
set_option maxHeartbeats 1000000 in
theorem tells_w0 (a : Option Addr) (len cap : Nat) (ls : List Lt) (x y pw ph : Int) (w : World) (h : Lights w a len ls) (hE : lightsErr ls = 0) (h1 : 0 ≤ x) (h2 : x < 16) (h3 : 0 ≤ y) (h4 : y < 16) (h5 : pw < 1) :
    Calls Try.prog 7 #[.slice a len cap, .int .i64 x, .int .i64 y, .int .i64 pw, .int .i64 ph] w fun e w' => e = .returned (.bool true) ∧ Below w.heap.size w w' := by
  have hst : (stretchB x pw && stretchB y ph) = false := by simp only [stretchB, placeB, Bool.and_eq_false_iff, decide_eq_false_iff_not]; omega
  have h0 := lightsErr_zero hE
  have hla := fun wx (hx : Lights wx a len ls) => lightAt_any cap x y hx h0.1 h0.2 ⟨h1, h2⟩ ⟨h3, h4⟩
  have hpp : (placeB x && placeB y) = true := by simp [placeB, h1, h2, h3, h4]
  have hcl := fun wx (hx : Lights wx a len ls) => checkL_any cap hx
  have hcr := fun wx (hx : Lights wx a len ls) => checkR_any cap hx
  have hat := fun wx (hx : Lights wx a len ls) => atL_any cap x y hx
  have hnear := fun wx (hx : Lights wx a len ls) => near_range cap x y pw ph hx hE hst
  rw [show atV ls x y = sumG x y ls by simp [atV, atE, hE, hpp, okIf], show atE ls x y = 0 by simp [atE, hE, hpp, okIf]] at hat
  rw [hE] at hcl hcr
  clear hE
  clear hst hpp h0
  generalize sumG x y ls = S at hat hla
  have hb := Below.refl w.heap.size w
  go_enter Try.func7, Try.ntmps7
  go_wp2_with fail
  refine (hat _ h).mono ?_
  rintro e w1 ⟨rfl, b1⟩
  replace h := h.below b1
  replace hb := below_step hb b1
  go_wp2_with fail
  refine (hnear _ h).mono ?_
  rintro e w2 ⟨rfl, b2⟩
  have i2 := Ints.nil 0 w2
  replace h := h.below b2
  replace hb := below_step hb b2
  clear hat hnear
  go_wp2_with fail
  refine (hcr _ h).mono ?_
  rintro e w3 ⟨rfl, b3⟩
  replace h := h.below b3
  replace i2 := i2.below (Nat.le_refl _) b3
  replace hb := below_step hb b3
  go_wp2_with fail
  refine (hla _ h).mono ?_
  rintro e w4 ⟨rfl, b4⟩
  replace h := h.below b4
  replace i2 := i2.below (Nat.le_refl _) b4
  replace hb := below_step hb b4
  go_wp2_with fail
  refine (lightBegun_any _).mono ?_
  rintro e w5 ⟨rfl, b5⟩
  replace h := h.below b5
  replace i2 := i2.below (Nat.le_refl _) b5
  replace hb := below_step hb b5
  go_wp2_with fail
  refine (hcl _ h).mono ?_
  rintro e w6 ⟨rfl, b6⟩
  replace h := h.below b6
  replace i2 := i2.below (Nat.le_refl _) b6
  replace hb := below_step hb b6
  go_wp2_with fail
  refine (hcr _ h).mono ?_
  rintro e w7 ⟨rfl, b7⟩
  replace i2 := i2.below (Nat.le_refl _) b7
  have i3 := Ints.nil 0 w7
  replace hb := below_step hb b7
  go_wp2_with fail
  refine (sameInts_any _ _ i2 i3).mono ?_
  rintro e w8 ⟨rfl, b8⟩
  replace hb := below_step hb b8
  go_wp2
  go_ret
  exact ⟨by simp, hb⟩
set_option maxHeartbeats 1000000 in
theorem tells_h0 (a : Option Addr) (len cap : Nat) (ls : List Lt) (x y pw ph : Int) (w : World) (h : Lights w a len ls) (hE : lightsErr ls = 0) (h1 : 0 ≤ x) (h2 : x < 16) (h3 : 0 ≤ y) (h4 : y < 16) (h5 : 1 ≤ pw) (h6 : ph < 1) :
    Calls Try.prog 7 #[.slice a len cap, .int .i64 x, .int .i64 y, .int .i64 pw, .int .i64 ph] w fun e w' => e = .returned (.bool true) ∧ Below w.heap.size w w' := by
  have hst : (stretchB x pw && stretchB y ph) = false := by simp only [stretchB, placeB, Bool.and_eq_false_iff, decide_eq_false_iff_not]; omega
  have h0 := lightsErr_zero hE
  have hla := fun wx (hx : Lights wx a len ls) => lightAt_any cap x y hx h0.1 h0.2 ⟨h1, h2⟩ ⟨h3, h4⟩
  have hpp : (placeB x && placeB y) = true := by simp [placeB, h1, h2, h3, h4]
  have hcl := fun wx (hx : Lights wx a len ls) => checkL_any cap hx
  have hcr := fun wx (hx : Lights wx a len ls) => checkR_any cap hx
  have hat := fun wx (hx : Lights wx a len ls) => atL_any cap x y hx
  have hnear := fun wx (hx : Lights wx a len ls) => near_range cap x y pw ph hx hE hst
  rw [show atV ls x y = sumG x y ls by simp [atV, atE, hE, hpp, okIf], show atE ls x y = 0 by simp [atE, hE, hpp, okIf]] at hat
  rw [hE] at hcl hcr
  clear hE
  clear hst hpp h0
  generalize sumG x y ls = S at hat hla
  have hb := Below.refl w.heap.size w
  go_enter Try.func7, Try.ntmps7
  go_wp2_with fail
  refine (hat _ h).mono ?_
  rintro e w1 ⟨rfl, b1⟩
  replace h := h.below b1
  replace hb := below_step hb b1
  go_wp2_with fail
  refine (hnear _ h).mono ?_
  rintro e w2 ⟨rfl, b2⟩
  have i2 := Ints.nil 0 w2
  replace h := h.below b2
  replace hb := below_step hb b2
  clear hat hnear
  go_wp2_with fail
  refine (hcr _ h).mono ?_
  rintro e w3 ⟨rfl, b3⟩
  replace h := h.below b3
  replace i2 := i2.below (Nat.le_refl _) b3
  replace hb := below_step hb b3
  go_wp2_with fail
  refine (hla _ h).mono ?_
  rintro e w4 ⟨rfl, b4⟩
  replace h := h.below b4
  replace i2 := i2.below (Nat.le_refl _) b4
  replace hb := below_step hb b4
  go_wp2_with fail
  refine (lightBegun_any _).mono ?_
  rintro e w5 ⟨rfl, b5⟩
  replace h := h.below b5
  replace i2 := i2.below (Nat.le_refl _) b5
  replace hb := below_step hb b5
  go_wp2_with fail
  refine (hcl _ h).mono ?_
  rintro e w6 ⟨rfl, b6⟩
  replace h := h.below b6
  replace i2 := i2.below (Nat.le_refl _) b6
  replace hb := below_step hb b6
  go_wp2_with fail
  refine (hcr _ h).mono ?_
  rintro e w7 ⟨rfl, b7⟩
  replace i2 := i2.below (Nat.le_refl _) b7
  have i3 := Ints.nil 0 w7
  replace hb := below_step hb b7
  go_wp2_with fail
  refine (sameInts_any _ _ i2 i3).mono ?_
  rintro e w8 ⟨rfl, b8⟩
  replace hb := below_step hb b8
  go_wp2
  go_ret
  exact ⟨by simp, hb⟩
set_option maxHeartbeats 1000000 in
theorem tells_w1 (a : Option Addr) (len cap : Nat) (ls : List Lt) (x y pw ph : Int) (w : World) (h : Lights w a len ls) (hE : lightsErr ls = 0) (h1 : 0 ≤ x) (h2 : x < 16) (h3 : 0 ≤ y) (h4 : y < 16) (h5 : 1 ≤ pw) (h6 : 1 ≤ ph) (h7 : 16 - x < pw) :
    Calls Try.prog 7 #[.slice a len cap, .int .i64 x, .int .i64 y, .int .i64 pw, .int .i64 ph] w fun e w' => e = .returned (.bool true) ∧ Below w.heap.size w w' := by
  have hst : (stretchB x pw && stretchB y ph) = false := by simp only [stretchB, placeB, Bool.and_eq_false_iff, decide_eq_false_iff_not]; omega
  have h0 := lightsErr_zero hE
  have hla := fun wx (hx : Lights wx a len ls) => lightAt_any cap x y hx h0.1 h0.2 ⟨h1, h2⟩ ⟨h3, h4⟩
  have hpp : (placeB x && placeB y) = true := by simp [placeB, h1, h2, h3, h4]
  have hcl := fun wx (hx : Lights wx a len ls) => checkL_any cap hx
  have hcr := fun wx (hx : Lights wx a len ls) => checkR_any cap hx
  have hat := fun wx (hx : Lights wx a len ls) => atL_any cap x y hx
  have hnear := fun wx (hx : Lights wx a len ls) => near_range cap x y pw ph hx hE hst
  rw [show atV ls x y = sumG x y ls by simp [atV, atE, hE, hpp, okIf], show atE ls x y = 0 by simp [atE, hE, hpp, okIf]] at hat
  rw [hE] at hcl hcr
  clear hE
  clear hst hpp h0
  generalize sumG x y ls = S at hat hla
  have hb := Below.refl w.heap.size w
  go_enter Try.func7, Try.ntmps7
  go_wp2_with fail
  refine (hat _ h).mono ?_
  rintro e w1 ⟨rfl, b1⟩
  replace h := h.below b1
  replace hb := below_step hb b1
  go_wp2_with fail
  refine (hnear _ h).mono ?_
  rintro e w2 ⟨rfl, b2⟩
  have i2 := Ints.nil 0 w2
  replace h := h.below b2
  replace hb := below_step hb b2
  clear hat hnear
  go_wp2_with fail
  refine (hcr _ h).mono ?_
  rintro e w3 ⟨rfl, b3⟩
  replace h := h.below b3
  replace i2 := i2.below (Nat.le_refl _) b3
  replace hb := below_step hb b3
  go_wp2_with fail
  refine (hla _ h).mono ?_
  rintro e w4 ⟨rfl, b4⟩
  replace h := h.below b4
  replace i2 := i2.below (Nat.le_refl _) b4
  replace hb := below_step hb b4
  go_wp2_with fail
  refine (lightBegun_any _).mono ?_
  rintro e w5 ⟨rfl, b5⟩
  replace h := h.below b5
  replace i2 := i2.below (Nat.le_refl _) b5
  replace hb := below_step hb b5
  go_wp2_with fail
  refine (hcl _ h).mono ?_
  rintro e w6 ⟨rfl, b6⟩
  replace h := h.below b6
  replace i2 := i2.below (Nat.le_refl _) b6
  replace hb := below_step hb b6
  go_wp2_with fail
  refine (hcr _ h).mono ?_
  rintro e w7 ⟨rfl, b7⟩
  replace i2 := i2.below (Nat.le_refl _) b7
  have i3 := Ints.nil 0 w7
  replace hb := below_step hb b7
  go_wp2_with fail
  refine (sameInts_any _ _ i2 i3).mono ?_
  rintro e w8 ⟨rfl, b8⟩
  replace hb := below_step hb b8
  go_wp2
  go_ret
  exact ⟨by simp, hb⟩
set_option maxHeartbeats 1000000 in
theorem tells_h1 (a : Option Addr) (len cap : Nat) (ls : List Lt) (x y pw ph : Int) (w : World) (h : Lights w a len ls) (hE : lightsErr ls = 0) (h1 : 0 ≤ x) (h2 : x < 16) (h3 : 0 ≤ y) (h4 : y < 16) (h5 : 1 ≤ pw) (h6 : 1 ≤ ph) (h7 : pw ≤ 16 - x) (h8 : 16 - y < ph) :
    Calls Try.prog 7 #[.slice a len cap, .int .i64 x, .int .i64 y, .int .i64 pw, .int .i64 ph] w fun e w' => e = .returned (.bool true) ∧ Below w.heap.size w w' := by
  have hst : (stretchB x pw && stretchB y ph) = false := by simp only [stretchB, placeB, Bool.and_eq_false_iff, decide_eq_false_iff_not]; omega
  have h0 := lightsErr_zero hE
  have hla := fun wx (hx : Lights wx a len ls) => lightAt_any cap x y hx h0.1 h0.2 ⟨h1, h2⟩ ⟨h3, h4⟩
  have hpp : (placeB x && placeB y) = true := by simp [placeB, h1, h2, h3, h4]
  have hcl := fun wx (hx : Lights wx a len ls) => checkL_any cap hx
  have hcr := fun wx (hx : Lights wx a len ls) => checkR_any cap hx
  have hat := fun wx (hx : Lights wx a len ls) => atL_any cap x y hx
  have hnear := fun wx (hx : Lights wx a len ls) => near_range cap x y pw ph hx hE hst
  rw [show atV ls x y = sumG x y ls by simp [atV, atE, hE, hpp, okIf], show atE ls x y = 0 by simp [atE, hE, hpp, okIf]] at hat
  rw [hE] at hcl hcr
  clear hE
  clear hst hpp h0
  generalize sumG x y ls = S at hat hla
  have hb := Below.refl w.heap.size w
  go_enter Try.func7, Try.ntmps7
  go_wp2_with fail
  refine (hat _ h).mono ?_
  rintro e w1 ⟨rfl, b1⟩
  replace h := h.below b1
  replace hb := below_step hb b1
  go_wp2_with fail
  refine (hnear _ h).mono ?_
  rintro e w2 ⟨rfl, b2⟩
  have i2 := Ints.nil 0 w2
  replace h := h.below b2
  replace hb := below_step hb b2
  clear hat hnear
  go_wp2_with fail
  refine (hcr _ h).mono ?_
  rintro e w3 ⟨rfl, b3⟩
  replace h := h.below b3
  replace i2 := i2.below (Nat.le_refl _) b3
  replace hb := below_step hb b3
  go_wp2_with fail
  refine (hla _ h).mono ?_
  rintro e w4 ⟨rfl, b4⟩
  replace h := h.below b4
  replace i2 := i2.below (Nat.le_refl _) b4
  replace hb := below_step hb b4
  go_wp2_with fail
  refine (lightBegun_any _).mono ?_
  rintro e w5 ⟨rfl, b5⟩
  replace h := h.below b5
  replace i2 := i2.below (Nat.le_refl _) b5
  replace hb := below_step hb b5
  go_wp2_with fail
  refine (hcl _ h).mono ?_
  rintro e w6 ⟨rfl, b6⟩
  replace h := h.below b6
  replace i2 := i2.below (Nat.le_refl _) b6
  replace hb := below_step hb b6
  go_wp2_with fail
  refine (hcr _ h).mono ?_
  rintro e w7 ⟨rfl, b7⟩
  replace i2 := i2.below (Nat.le_refl _) b7
  have i3 := Ints.nil 0 w7
  replace hb := below_step hb b7
  go_wp2_with fail
  refine (sameInts_any _ _ i2 i3).mono ?_
  rintro e w8 ⟨rfl, b8⟩
  replace hb := below_step hb b8
  go_wp2
  go_ret
  exact ⟨by simp, hb⟩
set_option maxHeartbeats 1000000 in
theorem tells_ok (a : Option Addr) (len cap : Nat) (ls : List Lt) (x y : Int) (pw ph : Nat) (w : World) (h : Lights w a len ls) (hE : lightsErr ls = 0) (h1 : 0 ≤ x) (h2 : x < 16) (h3 : 0 ≤ y) (h4 : y < 16) (h5 : 1 ≤ (pw : Int)) (h6 : 1 ≤ (ph : Int)) (h7 : (pw : Int) ≤ 16 - x) (h8 : (ph : Int) ≤ 16 - y) :
    Calls Try.prog 7 #[.slice a len cap, .int .i64 x, .int .i64 y, .int .i64 pw, .int .i64 ph] w fun e w' => e = .returned (.bool true) ∧ Below w.heap.size w w' := by
  have hs1 : stretchB x pw = true := by simp [stretchB, placeB, h1, h2, h5, h7]
  have hs2 : stretchB y ph = true := by simp [stretchB, placeB, h3, h4, h6, h8]
  have h0 := lightsErr_zero hE
  have hla := fun wx (hx : Lights wx a len ls) => lightAt_any cap x y hx h0.1 h0.2 ⟨h1, h2⟩ ⟨h3, h4⟩
  have hpp : (placeB x && placeB y) = true := by simp [placeB, h1, h2, h3, h4]
  have hcl := fun wx (hx : Lights wx a len ls) => checkL_any cap hx
  have hcr := fun wx (hx : Lights wx a len ls) => checkR_any cap hx
  have hat := fun wx (hx : Lights wx a len ls) => atL_any cap x y hx
  have hnear := fun wx (hx : Lights wx a len ls) => near_ok cap x y pw ph hx h0.1 h0.2 hs1 hs2
  have hno := fun wx (hx : Lights wx a len ls) => nearOf_any cap x y pw ph hx h0.1 h0.2 hs1 hs2
  rw [show atV ls x y = sumG x y ls by simp [atV, atE, hE, hpp, okIf], show atE ls x y = 0 by simp [atE, hE, hpp, okIf]] at hat
  rw [hE] at hcl hcr
  clear hE
  clear hs1 hs2 hpp h0
  generalize sumG x y ls = S at hat hla
  generalize pickL (nearB x y pw ph) ls len = qs at hnear hno
  have hb := Below.refl w.heap.size w
  go_enter Try.func7, Try.ntmps7
  go_wp2_with fail
  refine (hat _ h).mono ?_
  rintro e w1 ⟨rfl, b1⟩
  replace h := h.below b1
  replace hb := below_step hb b1
  go_wp2_with fail
  refine (hnear _ h).mono ?_
  rintro e w2 ⟨a2, cap2, rfl, i2, b2⟩
  replace i2 := i2.mono (Nat.zero_le _)
  replace h := h.below b2
  replace hb := below_step hb b2
  clear hat hnear
  go_wp2_with fail
  refine (hcr _ h).mono ?_
  rintro e w3 ⟨rfl, b3⟩
  replace h := h.below b3
  replace i2 := i2.below (Nat.le_refl _) b3
  replace hb := below_step hb b3
  go_wp2_with fail
  refine (hla _ h).mono ?_
  rintro e w4 ⟨rfl, b4⟩
  replace h := h.below b4
  replace i2 := i2.below (Nat.le_refl _) b4
  replace hb := below_step hb b4
  go_wp2_with fail
  refine (hno _ h).mono ?_
  rintro e wN ⟨a3, cap3, rfl, i3, bN⟩
  replace h := h.below bN
  replace i2 := i2.below (Nat.le_refl _) bN
  replace i3 := i3.mono (Nat.zero_le _)
  replace hb := below_step hb bN
  go_wp2_with fail
  refine (lightBegun_any _).mono ?_
  rintro e w5 ⟨rfl, b5⟩
  replace h := h.below b5
  replace i2 := i2.below (Nat.le_refl _) b5
  replace i3 := i3.below (Nat.le_refl _) b5
  replace hb := below_step hb b5
  go_wp2_with fail
  refine (hcl _ h).mono ?_
  rintro e w6 ⟨rfl, b6⟩
  replace h := h.below b6
  replace i2 := i2.below (Nat.le_refl _) b6
  replace i3 := i3.below (Nat.le_refl _) b6
  replace hb := below_step hb b6
  go_wp2_with fail
  refine (hcr _ h).mono ?_
  rintro e w7 ⟨rfl, b7⟩
  replace i2 := i2.below (Nat.le_refl _) b7
  replace i3 := i3.below (Nat.le_refl _) b7
  replace hb := below_step hb b7
  go_wp2_with fail
  refine (sameInts_any _ _ i2 i3).mono ?_
  rintro e w8 ⟨rfl, b8⟩
  replace hb := below_step hb b8
  go_wp2
  go_ret
  exact ⟨by simp, hb⟩
/-- The law LightTells. -/
theorem lightTells_any (a : Option Addr) (len cap : Nat) (ls : List Lt) (x y pw ph : Int) (w : World) (h : Lights w a len ls) :
    Calls Try.prog 7 #[.slice a len cap, .int .i64 x, .int .i64 y, .int .i64 pw, .int .i64 ph] w fun e w' => e = .returned (.bool true) ∧ Below w.heap.size w w' := by
  by_cases hE : lightsErr ls = 0
  · by_cases h1 : 0 ≤ x
    · by_cases h2 : x < 16
      · by_cases h3 : 0 ≤ y
        · by_cases h4 : y < 16
          · by_cases h5 : 1 ≤ pw
            · by_cases h6 : 1 ≤ ph
              · by_cases h7 : pw ≤ 16 - x
                · by_cases h8 : ph ≤ 16 - y
                  · obtain ⟨pn, rfl⟩ := Int.eq_ofNat_of_zero_le (show 0 ≤ pw by omega)
                    obtain ⟨hn, rfl⟩ := Int.eq_ofNat_of_zero_le (show 0 ≤ ph by omega)
                    exact tells_ok a len cap ls x y pn hn w h hE h1 h2 h3 h4 h5 h6 h7 h8
                  · exact tells_h1 a len cap ls x y pw ph w h hE h1 h2 h3 h4 h5 h6 h7 (by omega)
                · exact tells_w1 a len cap ls x y pw ph w h hE h1 h2 h3 h4 h5 h6 (by omega)
              · exact tells_h0 a len cap ls x y pw ph w h hE h1 h2 h3 h4 h5 (by omega)
            · exact tells_w0 a len cap ls x y pw ph w h hE h1 h2 h3 h4 (by omega)
          · exact tells_y1 a len cap ls x y pw ph w h hE h1 h2 h3 (by omega)
        · exact tells_y0 a len cap ls x y pw ph w h hE h1 h2 (by omega)
      · exact tells_x1 a len cap ls x y pw ph w h hE h1 (by omega)
    · exact tells_x0 a len cap ls x y pw ph w h hE (by omega)
  · exact tells_error a len cap ls x y pw ph w h hE
end Go.Proofs.Ytfpkiimlaepnhaa
