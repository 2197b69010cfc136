/-
  BEGUN2: the law's imageBegun answers true.
-/
import Derived.Test.YtfpkiimlaepnhaaBegun
namespace Go.Proofs.Ytfpkiimlaepnhaa
set_option maxRecDepth 100000
open Go.RowKit Im

theorem below_step {w a b : World} (h : Below w.heap.size w a) (k : Below a.heap.size a b) : Below w.heap.size w b := h.trans (k.mono h.size)
theorem below_box {w a : World} (h : Below w.heap.size w a) (o : Obj) : Below w.heap.size w (a.alloc o) := h.alloc h.size o

set_option maxHeartbeats 2000000 in
theorem imageBegun_any (w : World) : Calls Try.prog 18 #[] w fun e w' => e = .returned (.bool true) ∧ Below w.heap.size w w' := by
  have hb := Below.refl w.heap.size w
  go_enter Try.func18, Try.ntmps18
  go_wp2_with fail
  refine (begun_make _).mono ?_
  rintro e w1 ⟨a1, cap1, rfl, i1, b1⟩
  replace hb := below_step hb b1
  have p1 := Pic.new (W := 3) (H := 1) cap1 i1
  replace hb := below_box hb (.cells #[.int .i64 3, .int .i64 1, .slice a1 3 cap1] 24)
  clear i1
  go_wp2_with fail
  refine (four_some _).mono ?_
  rintro e w2 ⟨fb2, rfl, f2, b2⟩
  replace p1 := p1.below b2
  replace hb := below_step hb b2
  go_wp2_with fail
  refine (begun_shift f2).mono ?_
  rintro e w3 ⟨a3, cap3, rfl, i3, b3⟩
  replace p1 := p1.below b3
  replace hb := below_step hb b3
  replace p1 := p1.alloc (.cells #[.int .i64 2, .int .i64 2, .slice a3 4 cap3] 24)
  have p3 := Pic.new (W := 2) (H := 2) cap3 i3
  replace hb := below_box hb (.cells #[.int .i64 2, .int .i64 2, .slice a3 4 cap3] 24)
  clear i3 f2
  go_wp2_with fail
  refine (four_some _).mono ?_
  rintro e w4 ⟨fb4, rfl, f4, b4⟩
  replace p1 := p1.below b4
  replace p3 := p3.below b4
  replace hb := below_step hb b4
  go_wp2_with fail
  refine (begun_down f4).mono ?_
  rintro e w5 ⟨bb, off, cap5, rfl, f5, b5⟩
  replace p1 := p1.below b5
  replace p3 := p3.below b5
  replace hb := below_step hb b5
  replace p1 := p1.alloc (.cells #[.int .i64 1, .int .i64 1, .slice (some ⟨bb, off, none⟩) 1 cap5] 24)
  replace p3 := p3.alloc (.cells #[.int .i64 1, .int .i64 1, .slice (some ⟨bb, off, none⟩) 1 cap5] 24)
  have p5 := Pic.new (W := 1) (H := 1) cap5 f5.ints
  replace hb := below_box hb (.cells #[.int .i64 1, .int .i64 1, .slice (some ⟨bb, off, none⟩) 1 cap5] 24)
  replace f5 := f5.below ((Below.refl _ _).alloc (Nat.le_refl _) (.cells #[.int .i64 1, .int .i64 1, .slice (some ⟨bb, off, none⟩) 1 cap5] 24))
  clear f4
  go_wp2_with fail
  refine (four_some _).mono ?_
  rintro e w6 ⟨fb6, rfl, f6, b6⟩
  replace p1 := p1.below b6
  replace p3 := p3.below b6
  replace p5 := p5.below b6
  replace hb := below_step hb b6
  replace f5 := f5.below b6
  go_wp2_with fail
  refine (four_some _).mono ?_
  rintro e w7 ⟨fb7, rfl, f7, b7⟩
  replace p1 := p1.below b7
  replace p3 := p3.below b7
  replace p5 := p5.below b7
  replace hb := below_step hb b7
  replace f5 := f5.below b7
  replace f6 := f6.below b7
  go_wp2_with fail
  refine (begun_add f6 f7).mono ?_
  rintro e w8 ⟨a8, cap8, rfl, i8, b8⟩
  replace p1 := p1.below b8
  replace p3 := p3.below b8
  replace p5 := p5.below b8
  replace hb := below_step hb b8
  replace f5 := f5.below b8
  replace p1 := p1.alloc (.cells #[.int .i64 2, .int .i64 2, .slice a8 4 cap8] 24)
  replace p3 := p3.alloc (.cells #[.int .i64 2, .int .i64 2, .slice a8 4 cap8] 24)
  replace p5 := p5.alloc (.cells #[.int .i64 2, .int .i64 2, .slice a8 4 cap8] 24)
  have p8 := Pic.new (W := 2) (H := 2) cap8 i8
  replace hb := below_box hb (.cells #[.int .i64 2, .int .i64 2, .slice a8 4 cap8] 24)
  replace f5 := f5.below ((Below.refl _ _).alloc (Nat.le_refl _) (.cells #[.int .i64 2, .int .i64 2, .slice a8 4 cap8] 24))
  clear f6 f7 i8
  obtain ⟨_, k0, k1, k2, _⟩ := id p5
  go_wp2_with fail
  clear k0 k1 k2
  refine (begun_up f5).mono ?_
  rintro e w9 ⟨a9, cap9, rfl, i9, b9⟩
  replace p1 := p1.below b9
  replace p3 := p3.below b9
  replace p5 := p5.below b9
  replace p8 := p8.below b9
  replace hb := below_step hb b9
  replace p1 := p1.alloc (.cells #[.int .i64 2, .int .i64 2, .slice a9 4 cap9] 24)
  replace p3 := p3.alloc (.cells #[.int .i64 2, .int .i64 2, .slice a9 4 cap9] 24)
  replace p5 := p5.alloc (.cells #[.int .i64 2, .int .i64 2, .slice a9 4 cap9] 24)
  replace p8 := p8.alloc (.cells #[.int .i64 2, .int .i64 2, .slice a9 4 cap9] 24)
  have p9 := Pic.new (W := 2) (H := 2) cap9 i9
  replace hb := below_box hb (.cells #[.int .i64 2, .int .i64 2, .slice a9 4 cap9] 24)
  clear f5 i9
  go_wp2_with fail
  refine (four_some _).mono ?_
  rintro e w10 ⟨fb10, rfl, f10, b10⟩
  replace p1 := p1.below b10
  replace p3 := p3.below b10
  replace p5 := p5.below b10
  replace p8 := p8.below b10
  replace p9 := p9.below b10
  replace hb := below_step hb b10
  go_wp2_with fail
  refine (check_fine _ f10.ints (by decide)).mono ?_
  rintro e w11 ⟨rfl, b11⟩
  replace p1 := p1.below b11
  replace p3 := p3.below b11
  replace p5 := p5.below b11
  replace p8 := p8.below b11
  replace p9 := p9.below b11
  replace hb := below_step hb b11
  clear f10
  obtain ⟨_, k0, _, k2, _⟩ := id p1
  go_wp2_with fail
  clear k0 k2
  have l12 := ints_lit w11 [0, 40000, 14464] (by simp)
  replace p1 := p1.alloc (.cells #[.int .i64 0, .int .i64 40000, .int .i64 14464] 3)
  replace p3 := p3.alloc (.cells #[.int .i64 0, .int .i64 40000, .int .i64 14464] 3)
  replace p5 := p5.alloc (.cells #[.int .i64 0, .int .i64 40000, .int .i64 14464] 3)
  replace p8 := p8.alloc (.cells #[.int .i64 0, .int .i64 40000, .int .i64 14464] 3)
  replace p9 := p9.alloc (.cells #[.int .i64 0, .int .i64 40000, .int .i64 14464] 3)
  replace hb := below_box hb (.cells #[.int .i64 0, .int .i64 40000, .int .i64 14464] 3)
  refine (sameInts_any _ _ p1.ints l12).mono ?_
  rintro e w12 ⟨rfl, b12⟩
  replace p1 := p1.below b12
  replace p3 := p3.below b12
  replace p5 := p5.below b12
  replace p8 := p8.below b12
  replace p9 := p9.below b12
  replace hb := below_step hb b12
  clear l12
  obtain ⟨_, k0, _, k2, _⟩ := id p3
  go_wp2_with fail
  clear k0 k2
  have l13 := ints_lit w12 [4, 4, 65535, 65535] (by simp)
  replace p1 := p1.alloc (.cells #[.int .i64 4, .int .i64 4, .int .i64 65535, .int .i64 65535] 3)
  replace p3 := p3.alloc (.cells #[.int .i64 4, .int .i64 4, .int .i64 65535, .int .i64 65535] 3)
  replace p5 := p5.alloc (.cells #[.int .i64 4, .int .i64 4, .int .i64 65535, .int .i64 65535] 3)
  replace p8 := p8.alloc (.cells #[.int .i64 4, .int .i64 4, .int .i64 65535, .int .i64 65535] 3)
  replace p9 := p9.alloc (.cells #[.int .i64 4, .int .i64 4, .int .i64 65535, .int .i64 65535] 3)
  replace hb := below_box hb (.cells #[.int .i64 4, .int .i64 4, .int .i64 65535, .int .i64 65535] 3)
  refine (sameInts_any _ _ p3.ints l13).mono ?_
  rintro e w13 ⟨rfl, b13⟩
  replace p1 := p1.below b13
  replace p3 := p3.below b13
  replace p5 := p5.below b13
  replace p8 := p8.below b13
  replace p9 := p9.below b13
  replace hb := below_step hb b13
  clear l13
  obtain ⟨_, k0, _, k2, _⟩ := id p5
  go_wp2_with fail
  clear k0 k2
  have l14 := ints_lit w13 [16386] (by simp)
  replace p1 := p1.alloc (.cells #[.int .i64 16386] 3)
  replace p3 := p3.alloc (.cells #[.int .i64 16386] 3)
  replace p5 := p5.alloc (.cells #[.int .i64 16386] 3)
  replace p8 := p8.alloc (.cells #[.int .i64 16386] 3)
  replace p9 := p9.alloc (.cells #[.int .i64 16386] 3)
  replace hb := below_box hb (.cells #[.int .i64 16386] 3)
  refine (sameInts_any _ _ p5.ints l14).mono ?_
  rintro e w14 ⟨rfl, b14⟩
  replace p1 := p1.below b14
  replace p3 := p3.below b14
  replace p5 := p5.below b14
  replace p8 := p8.below b14
  replace p9 := p9.below b14
  replace hb := below_step hb b14
  clear l14
  obtain ⟨_, k0, _, k2, _⟩ := id p8
  go_wp2_with fail
  clear k0 k2
  have l15 := ints_lit w14 [8, 16, 65535, 0] (by simp)
  replace p1 := p1.alloc (.cells #[.int .i64 8, .int .i64 16, .int .i64 65535, .int .i64 0] 3)
  replace p3 := p3.alloc (.cells #[.int .i64 8, .int .i64 16, .int .i64 65535, .int .i64 0] 3)
  replace p5 := p5.alloc (.cells #[.int .i64 8, .int .i64 16, .int .i64 65535, .int .i64 0] 3)
  replace p8 := p8.alloc (.cells #[.int .i64 8, .int .i64 16, .int .i64 65535, .int .i64 0] 3)
  replace p9 := p9.alloc (.cells #[.int .i64 8, .int .i64 16, .int .i64 65535, .int .i64 0] 3)
  replace hb := below_box hb (.cells #[.int .i64 8, .int .i64 16, .int .i64 65535, .int .i64 0] 3)
  refine (sameInts_any _ _ p8.ints l15).mono ?_
  rintro e w15 ⟨rfl, b15⟩
  replace p1 := p1.below b15
  replace p3 := p3.below b15
  replace p5 := p5.below b15
  replace p8 := p8.below b15
  replace p9 := p9.below b15
  replace hb := below_step hb b15
  clear l15
  obtain ⟨_, k0, _, k2, _⟩ := id p9
  go_wp2_with fail
  clear k0 k2
  have l16 := ints_lit w15 [16386, 16386, 16386, 16386] (by simp)
  replace p1 := p1.alloc (.cells #[.int .i64 16386, .int .i64 16386, .int .i64 16386, .int .i64 16386] 3)
  replace p3 := p3.alloc (.cells #[.int .i64 16386, .int .i64 16386, .int .i64 16386, .int .i64 16386] 3)
  replace p5 := p5.alloc (.cells #[.int .i64 16386, .int .i64 16386, .int .i64 16386, .int .i64 16386] 3)
  replace p8 := p8.alloc (.cells #[.int .i64 16386, .int .i64 16386, .int .i64 16386, .int .i64 16386] 3)
  replace p9 := p9.alloc (.cells #[.int .i64 16386, .int .i64 16386, .int .i64 16386, .int .i64 16386] 3)
  replace hb := below_box hb (.cells #[.int .i64 16386, .int .i64 16386, .int .i64 16386, .int .i64 16386] 3)
  refine (sameInts_any _ _ p9.ints l16).mono ?_
  rintro e w16 ⟨rfl, b16⟩
  replace p1 := p1.below b16
  replace p3 := p3.below b16
  replace p5 := p5.below b16
  replace p8 := p8.below b16
  replace p9 := p9.below b16
  replace hb := below_step hb b16
  clear l16
  go_wp2
  go_ret
  exact ⟨rfl, hb⟩
end Go.Proofs.Ytfpkiimlaepnhaa
