/-
  LIGHTBEGUN: the law's lightBegun answers true.
-/
import Derived.Test.YtfpkiimlaepnhaaLit
import Derived.Test.YtfpkiimlaepnhaaBegun2
namespace Go.Proofs.Ytfpkiimlaepnhaa
set_option maxRecDepth 100000
open Go.RowKit Im

abbrev lampL : List Lt := [⟨1, 1, 2, 1000⟩]
theorem Lights.alloc {w : World} {a : Option Addr} {len : Nat} {ls : List Lt} (h : Lights w a len ls) (o : Obj) : Lights (w.alloc o) a len ls := h.below ((Below.refl _ _).alloc (Nat.le_refl _) _)
theorem lamp_any (w : World) : Calls Try.prog 77 #[] w fun e w' => ∃ a, e = .returned (.slice a 1 1) ∧ Lights w' a 1 lampL ∧ Below w.heap.size w w' := by
  go_enter Try.func77, Try.ntmps77
  go_wp2
  refine bodyPost_ret (v := .slice (some ⟨w.heap.size, 0, none⟩) 1 1) (by simp [results, Try.results77, go_sem]) rfl ⟨_, rfl, ⟨rfl, by decide, .inr ⟨w.heap.size, 0, rfl, by simp, fun j hj => ?_⟩⟩, ?_⟩
  · have : j = 0 := by omega
    subst this
    refine ⟨?_, ?_, ?_, ?_⟩ <;> simp [go_sem]
  · exact (Below.refl _ _).alloc (Nat.le_refl _) _
theorem lampErr : lightsErr lampL = 0 := by decide
theorem begun_at {w : World} {a : Option Addr} (h : Lights w a 1 lampL) : Calls Try.prog 29 #[.slice a 1 1, .int .i64 1, .int .i64 0] w fun e w' => e = .returned (.tuple #[.int .i64 500, .int .i64 0]) ∧ Below w.heap.size w w' := by
  have h' := atL_any 1 1 0 h
  rw [show atV lampL 1 0 = 500 by decide, show atE lampL 1 0 = 0 by decide] at h'
  exact h'
theorem begun_near3 {w : World} {a : Option Addr} (h : Lights w a 1 lampL) : Calls Try.prog 30 #[.slice a 1 1, .int .i64 3, .int .i64 0, .int .i64 2, .int .i64 2] w fun e w' => ∃ a cap, e = .returned (.tuple #[.slice a 0 cap, .int .i64 0]) ∧ Below w.heap.size w w' :=
  (near_ok 1 3 0 2 2 h (by decide) (by decide) (by decide) (by decide)).mono fun e w' ⟨a, cap, he, hi, hb⟩ => ⟨a, cap, by rw [he]; rfl, hb⟩
theorem begun_near2 {w : World} {a : Option Addr} (h : Lights w a 1 lampL) : Calls Try.prog 30 #[.slice a 1 1, .int .i64 2, .int .i64 0, .int .i64 2, .int .i64 2] w fun e w' => ∃ a cap, e = .returned (.tuple #[.slice a 1 cap, .int .i64 0]) ∧ Ints 0 w' a 1 [0] ∧ Below w.heap.size w w' :=
  (near_ok 1 2 0 2 2 h (by decide) (by decide) (by decide) (by decide)).mono fun e w' ⟨a, cap, he, hi, hb⟩ => ⟨a, cap, by rw [he]; rfl, by
    have e : pickL (nearB 2 0 2 2) lampL 1 = [0] := by decide
    rw [e] at hi
    exact hi.mono (Nat.zero_le _), hb⟩
theorem begun_lit {w : World} {b : Nat} {a : Option Addr} (hF : Fine w b 0 2 2 [4, 8, 65535, 0]) (h : Lights w a 1 lampL) : Calls Try.prog 37 #[.agg #[.int .i64 2, .int .i64 2, .slice (some ⟨b, 0, none⟩) 4 4], .slice a 1 1, .int .i64 1] w fun e w' =>
    ∃ a cap, e = .returned (.tuple #[.agg #[.int .i64 2, .int .i64 2, .slice a 4 cap], .int .i64 0]) ∧ Ints 0 w' a 4 [4, 508, 65535, 1000] ∧ Below w.heap.size w w' :=
  (lit_ok 4 1 1 hF h lampErr (by decide)).mono fun e w' ⟨a, cap, he, hi, hb⟩ => ⟨a, cap, he, by
    have e : pix 2 (litG 2 [4, 8, 65535, 0] lampL) (2 * 2) = [4, 508, 65535, 1000] := by decide
    rw [e] at hi
    exact hi.mono (Nat.zero_le _), hb⟩

set_option maxHeartbeats 2000000 in
theorem lightBegun_any (w : World) : Calls Try.prog 34 #[] w fun e w' => e = .returned (.bool true) ∧ Below w.heap.size w w' := by
  have hb := Below.refl w.heap.size w
  go_enter Try.func34, Try.ntmps34
  go_wp2_with fail
  refine (lamp_any _).mono ?_
  rintro e w1 ⟨a1, rfl, l1, b1⟩
  replace hb := below_step hb b1
  go_wp2_with fail
  refine (begun_at l1).mono ?_
  rintro e w2 ⟨rfl, b2⟩
  replace hb := below_step hb b2
  clear l1
  go_wp2_with fail
  refine (lamp_any _).mono ?_
  rintro e w3 ⟨a3, rfl, l3, b3⟩
  replace hb := below_step hb b3
  go_wp2_with fail
  refine (begun_near3 l3).mono ?_
  rintro e w4 ⟨a4, cap4, rfl, b4⟩
  replace hb := below_step hb b4
  clear l3
  go_wp2_with fail
  refine (lamp_any _).mono ?_
  rintro e w5 ⟨a5, rfl, l5, b5⟩
  replace hb := below_step hb b5
  go_wp2_with fail
  refine (begun_near2 l5).mono ?_
  rintro e w6 ⟨a6, cap6, rfl, i6, b6⟩
  replace hb := below_step hb b6
  clear l5
  go_wp2_with fail
  refine (four_some _).mono ?_
  rintro e w7 ⟨fb7, rfl, f7, b7⟩
  replace i6 := i6.below (Nat.le_refl _) b7
  replace hb := below_step hb b7
  go_wp2_with fail
  refine (lamp_any _).mono ?_
  rintro e w8 ⟨a8, rfl, l8, b8⟩
  replace i6 := i6.below (Nat.le_refl _) b8
  replace f7 := f7.below b8
  replace hb := below_step hb b8
  go_wp2_with fail
  refine (begun_lit f7 l8).mono ?_
  rintro e w9 ⟨a9, cap9, rfl, i9, b9⟩
  replace i6 := i6.below (Nat.le_refl _) b9
  replace hb := below_step hb b9
  have p9 := Pic.new (W := 2) (H := 2) cap9 i9
  replace i6 := i6.alloc (.cells #[.int .i64 2, .int .i64 2, .slice a9 4 cap9] 24)
  replace hb := below_box hb (.cells #[.int .i64 2, .int .i64 2, .slice a9 4 cap9] 24)
  clear i9 f7 l8
  go_wp2_with fail
  refine (lamp_any _).mono ?_
  rintro e w10 ⟨a10, rfl, l10, b10⟩
  replace p9 := p9.below b10
  replace i6 := i6.below (Nat.le_refl _) b10
  replace hb := below_step hb b10
  go_wp2_with fail
  refine (checkL_any 1 l10).mono ?_
  rw [lampErr]
  rintro e w11 ⟨rfl, b11⟩
  replace p9 := p9.below b11
  replace i6 := i6.below (Nat.le_refl _) b11
  replace hb := below_step hb b11
  clear l10
  go_wp2_with fail
  have l12 := ints_lit w11 [0] (by simp)
  replace i6 := i6.alloc (.cells #[.int .i64 0] 3)
  replace p9 := p9.alloc (.cells #[.int .i64 0] 3)
  replace hb := below_box hb (.cells #[.int .i64 0] 3)
  refine (sameInts_any _ _ i6 l12).mono ?_
  rintro e w12 ⟨rfl, b12⟩
  replace p9 := p9.below b12
  replace hb := below_step hb b12
  clear l12 i6
  obtain ⟨_, k0, _, k2, _⟩ := id p9
  go_wp2_with fail
  clear k0 k2
  have l13 := ints_lit w12 [4, 508, 65535, 1000] (by simp)
  replace p9 := p9.alloc (.cells #[.int .i64 4, .int .i64 508, .int .i64 65535, .int .i64 1000] 3)
  replace hb := below_box hb (.cells #[.int .i64 4, .int .i64 508, .int .i64 65535, .int .i64 1000] 3)
  refine (sameInts_any _ _ p9.ints l13).mono ?_
  rintro e w13 ⟨rfl, b13⟩
  replace hb := below_step hb b13
  clear l13 p9
  go_wp2
  go_ret
  exact ⟨rfl, hb⟩
end Go.Proofs.Ytfpkiimlaepnhaa
