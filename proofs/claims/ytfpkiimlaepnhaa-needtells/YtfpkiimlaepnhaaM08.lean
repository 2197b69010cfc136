/- Begun, Begun2: joined, in this order. -/
import Derived.Test.YtfpkiimlaepnhaaM07
/-
  BEGUN: the closed calls of the law's imageBegun, each by its contract.
-/
namespace Go.Proofs.Ytfpkiimlaepnhaa
set_option maxRecDepth 100000
open Go.RowKit Im

/-- The image that lies in block b: its columns, rows and slice, and the slice's numbers. -/
structure Pic (w : World) (b : Nat) (W H : Int) (a : Option Addr) (len cap : Nat) (ps : List Int) : Prop where
  lt : b < w.heap.size
  c0 : w.cell? ⟨b, 0, none⟩ = some (.int .i64 W)
  c1 : w.cell? ⟨b, 1, none⟩ = some (.int .i64 H)
  c2 : w.cell? ⟨b, 2, none⟩ = some (.slice a len cap)
  ints : Ints 0 w a len ps
theorem Pic.below {w w' : World} {b : Nat} {W H : Int} {a : Option Addr} {len cap : Nat} {ps : List Int} (h : Pic w b W H a len cap ps) (hb : Below w.heap.size w w') : Pic w' b W H a len cap ps :=
  ⟨Nat.lt_of_lt_of_le h.lt hb.size, (hb.cell (p := ⟨b, 0, none⟩) h.lt).trans h.c0, (hb.cell (p := ⟨b, 1, none⟩) h.lt).trans h.c1, (hb.cell (p := ⟨b, 2, none⟩) h.lt).trans h.c2, h.ints.below (Nat.le_refl _) hb⟩
theorem Pic.alloc {w : World} {b : Nat} {W H : Int} {a : Option Addr} {len cap : Nat} {ps : List Int} (h : Pic w b W H a len cap ps) (o : Obj) : Pic (w.alloc o) b W H a len cap ps :=
  h.below ((Below.refl _ _).alloc (Nat.le_refl _) _)
theorem Pic.new {w : World} {W H : Int} {a : Option Addr} {len : Nat} (cap : Nat) {ps : List Int} (h : Ints 0 w a len ps) : Pic (w.alloc (.cells #[.int .i64 W, .int .i64 H, .slice a len cap] 24)) w.heap.size W H a len cap ps :=
  ⟨by simp, by simp [go_sem], by simp [go_sem], by simp [go_sem], h.below (Nat.le_refl _) ((Below.refl _ _).alloc (Nat.le_refl _) _)⟩
theorem Ints.alloc {base : Nat} {w : World} {a : Option Addr} {len : Nat} {ps : List Int} (h : Ints base w a len ps) (o : Obj) : Ints base (w.alloc o) a len ps := h.below (Nat.le_refl _) ((Below.refl _ _).alloc (Nat.le_refl _) _)
/-- A literal of numbers. -/
theorem ints_lit (w : World) (ps : List Int) (h : ps.length ≤ 9223372036854775807) : Ints 0 (w.alloc (.cells (ps.map (Value.int .i64)).toArray 3)) (some ⟨w.heap.size, 0, none⟩) ps.length ps := by
  refine ⟨rfl, h, .inr ⟨w.heap.size, 0, rfl, Nat.zero_le _, by simp, fun j hj => ?_⟩⟩
  have : (w.alloc (.cells (ps.map (Value.int .i64)).toArray 3)).heap[w.heap.size]? = some (.cells (ps.map (Value.int .i64)).toArray 3 (0, 0)) := (MapKept.heap_alloc w _).1
  unfold World.cell?
  rw [this]
  simp [hj]

theorem four_any (w : World) : Calls Try.prog 62 #[] w fun e w' => e = .returned (.agg #[.int .i64 2, .int .i64 2, .slice (some ⟨w.heap.size + 1, 0, none⟩) 4 4]) ∧ Fine w' (w.heap.size + 1) 0 2 2 [4, 8, 65535, 0] ∧ Below w.heap.size w w' := by
  go_enter Try.func62, Try.ntmps62
  go_wp2
  refine bodyPost_ret (v := .agg #[.int .i64 2, .int .i64 2, .slice (some ⟨w.heap.size + 1, 0, none⟩) 4 4]) (by simp [results, Try.results62, go_sem]) rfl ⟨rfl, ⟨by decide, by decide, by simp, rfl, ?_, by decide⟩, ?_⟩
  · intro j hj
    have hi := (ints_lit (w.alloc (.cells #[.int .i64 2, .int .i64 2, .slice (some ⟨w.heap.size + 1, 0, none⟩) 4 4] 24)) [4, 8, 65535, 0] (by simp)).cells
    rcases hi with e | ⟨b, off, hb, _, _, hc⟩
    · cases e
    · simp at hb
      obtain ⟨rfl, rfl⟩ := hb
      exact hc j hj
  · exact ((Below.refl _ _).alloc (Nat.le_refl _) _).alloc (by simp) _

theorem four_some (w : World) : Calls Try.prog 62 #[] w fun e w' => ∃ b, e = .returned (.agg #[.int .i64 2, .int .i64 2, .slice (some ⟨b, 0, none⟩) 4 4]) ∧ Fine w' b 0 2 2 [4, 8, 65535, 0] ∧ Below w.heap.size w w' :=
  (four_any w).mono fun _ _ ⟨he, hf, hb⟩ => ⟨_, he, hf, hb⟩
theorem begun_make (w : World) : Calls Try.prog 15 #[.int .i64 2, .int .i64 3, .int .i64 1, .int .i64 40000] w fun e w' =>
    ∃ a cap, e = .returned (.tuple #[.agg #[.int .i64 3, .int .i64 1, .slice a 3 cap], .int .i64 0]) ∧ Ints 0 w' a 3 [0, 40000, 14464] ∧ Below w.heap.size w w' :=
  (make_ok 2 3 1 40000 w (.inr rfl) (by decide) (by decide) (by decide)).mono fun e w' ⟨a, cap, he, hi, hb⟩ => ⟨a, cap, he, by
    have e : pix 3 (makeG 2 40000) (3 * 1) = [0, 40000, 14464] := by decide
    rw [e] at hi
    exact hi.mono (Nat.zero_le _), hb⟩
theorem begun_shift {w : World} {b : Nat} (hF : Fine w b 0 2 2 [4, 8, 65535, 0]) : Calls Try.prog 22 #[.int .i64 9, .agg #[.int .i64 2, .int .i64 2, .slice (some ⟨b, 0, none⟩) 4 4], .int .i64 1] w fun e w' =>
    ∃ a cap, e = .returned (.tuple #[.agg #[.int .i64 2, .int .i64 2, .slice a 4 cap], .int .i64 0]) ∧ Ints 0 w' a 4 [4, 4, 65535, 65535] ∧ Below w.heap.size w w' :=
  (one_ok 9 4 1 hF (by decide)).mono fun e w' ⟨a, cap, he, hi, hb⟩ => ⟨a, cap, he, by
    have e : pix (oneN 9 2) (oneG 9 2 2 1 [4, 8, 65535, 0]) (oneN 9 2 * oneN 9 2) = [4, 4, 65535, 65535] := by decide
    rw [e] at hi
    exact hi.mono (Nat.zero_le _), hb⟩
theorem begun_down {w : World} {b : Nat} (hF : Fine w b 0 2 2 [4, 8, 65535, 0]) : Calls Try.prog 22 #[.int .i64 11, .agg #[.int .i64 2, .int .i64 2, .slice (some ⟨b, 0, none⟩) 4 4], .int .i64 0] w fun e w' =>
    ∃ b off cap, e = .returned (.tuple #[.agg #[.int .i64 1, .int .i64 1, .slice (some ⟨b, off, none⟩) 1 cap], .int .i64 0]) ∧ Fine w' b off 1 1 [16386] ∧ Below w.heap.size w w' :=
  (one_ok 11 4 0 hF (by decide)).mono fun e w' ⟨a, cap, he, hi, hb⟩ => by
    have e : pix (oneN 11 2) (oneG 11 2 2 0 [4, 8, 65535, 0]) (oneN 11 2 * oneN 11 2) = [16386] := by decide
    rw [e] at hi
    obtain ⟨W', H', b', off', hw, hh, ha, hl, hF'⟩ := fine_of (W := 1) (H := 1) (hi.mono (Nat.zero_le _)) (by decide)
    have hw' : W' = 1 := by omega
    have hh' : H' = 1 := by omega
    subst hw' hh' ha
    exact ⟨b', off', cap, he, hF', hb⟩
theorem begun_add {w : World} {b b' : Nat} (hF : Fine w b 0 2 2 [4, 8, 65535, 0]) (hG : Fine w b' 0 2 2 [4, 8, 65535, 0]) : Calls Try.prog 25 #[.int .i64 4, .agg #[.int .i64 2, .int .i64 2, .slice (some ⟨b, 0, none⟩) 4 4], .agg #[.int .i64 2, .int .i64 2, .slice (some ⟨b', 0, none⟩) 4 4]] w fun e w' =>
    ∃ a cap, e = .returned (.tuple #[.agg #[.int .i64 2, .int .i64 2, .slice a 4 cap], .int .i64 0]) ∧ Ints 0 w' a 4 [8, 16, 65535, 0] ∧ Below w.heap.size w w' :=
  (two_ok 4 4 hF hG (.inl rfl)).mono fun e w' ⟨a, cap, he, hi, hb⟩ => ⟨a, cap, he, by
    have e : pix 2 (fun x y => twoG 4 (px 2 [4, 8, 65535, 0] x y) (px 2 [4, 8, 65535, 0] x y)) (2 * 2) = [8, 16, 65535, 0] := by decide
    rw [e] at hi
    exact hi.mono (Nat.zero_le _), hb⟩
theorem begun_up {w : World} {b off cap : Nat} (hF : Fine w b off 1 1 [16386]) : Calls Try.prog 22 #[.int .i64 12, .agg #[.int .i64 1, .int .i64 1, .slice (some ⟨b, off, none⟩) 1 cap], .int .i64 0] w fun e w' =>
    ∃ a cap, e = .returned (.tuple #[.agg #[.int .i64 2, .int .i64 2, .slice a 4 cap], .int .i64 0]) ∧ Ints 0 w' a 4 [16386, 16386, 16386, 16386] ∧ Below w.heap.size w w' :=
  (one_ok 12 cap 0 hF (by decide)).mono fun e w' ⟨a, cap, he, hi, hb⟩ => ⟨a, cap, he, by
    have e : pix (oneN 12 1) (oneG 12 1 1 0 [16386]) (oneN 12 1 * oneN 12 1) = [16386, 16386, 16386, 16386] := by decide
    rw [e] at hi
    exact hi.mono (Nat.zero_le _), hb⟩
end Go.Proofs.Ytfpkiimlaepnhaa
/-
  BEGUN2: the law's imageBegun answers true.
-/
namespace Go.Proofs.Ytfpkiimlaepnhaa
set_option maxRecDepth 100000
open Go.RowKit Im

theorem below_step {w a b : World} (h : Below w.heap.size w a) (k : Below a.heap.size a b) : Below w.heap.size w b := h.trans (k.mono h.size)
theorem below_box {w a : World} (h : Below w.heap.size w a) (o : Obj) : Below w.heap.size w (a.alloc o) := h.alloc h.size o

set_option maxHeartbeats 2000000 in
theorem imageBegun_any (w : World) : Calls Try.prog 18 #[] w fun e w' => e = .returned (.bool true) ∧ Below w.heap.size w w' := by
  have hb := Below.refl w.heap.size w
  go_enter Try.func18, Try.ntmps18
  go_wp2_with fail
  refine (begun_make _).mono ?_
  rintro e w1 ⟨a1, cap1, rfl, i1, b1⟩
  replace hb := below_step hb b1
  have p1 := Pic.new (W := 3) (H := 1) cap1 i1
  replace hb := below_box hb (.cells #[.int .i64 3, .int .i64 1, .slice a1 3 cap1] 24)
  clear i1
  go_wp2_with fail
  refine (four_some _).mono ?_
  rintro e w2 ⟨fb2, rfl, f2, b2⟩
  replace p1 := p1.below b2
  replace hb := below_step hb b2
  go_wp2_with fail
  refine (begun_shift f2).mono ?_
  rintro e w3 ⟨a3, cap3, rfl, i3, b3⟩
  replace p1 := p1.below b3
  replace hb := below_step hb b3
  replace p1 := p1.alloc (.cells #[.int .i64 2, .int .i64 2, .slice a3 4 cap3] 24)
  have p3 := Pic.new (W := 2) (H := 2) cap3 i3
  replace hb := below_box hb (.cells #[.int .i64 2, .int .i64 2, .slice a3 4 cap3] 24)
  clear i3 f2
  go_wp2_with fail
  refine (four_some _).mono ?_
  rintro e w4 ⟨fb4, rfl, f4, b4⟩
  replace p1 := p1.below b4
  replace p3 := p3.below b4
  replace hb := below_step hb b4
  go_wp2_with fail
  refine (begun_down f4).mono ?_
  rintro e w5 ⟨bb, off, cap5, rfl, f5, b5⟩
  replace p1 := p1.below b5
  replace p3 := p3.below b5
  replace hb := below_step hb b5
  replace p1 := p1.alloc (.cells #[.int .i64 1, .int .i64 1, .slice (some ⟨bb, off, none⟩) 1 cap5] 24)
  replace p3 := p3.alloc (.cells #[.int .i64 1, .int .i64 1, .slice (some ⟨bb, off, none⟩) 1 cap5] 24)
  have p5 := Pic.new (W := 1) (H := 1) cap5 f5.ints
  replace hb := below_box hb (.cells #[.int .i64 1, .int .i64 1, .slice (some ⟨bb, off, none⟩) 1 cap5] 24)
  replace f5 := f5.below ((Below.refl _ _).alloc (Nat.le_refl _) (.cells #[.int .i64 1, .int .i64 1, .slice (some ⟨bb, off, none⟩) 1 cap5] 24))
  clear f4
  go_wp2_with fail
  refine (four_some _).mono ?_
  rintro e w6 ⟨fb6, rfl, f6, b6⟩
  replace p1 := p1.below b6
  replace p3 := p3.below b6
  replace p5 := p5.below b6
  replace hb := below_step hb b6
  replace f5 := f5.below b6
  go_wp2_with fail
  refine (four_some _).mono ?_
  rintro e w7 ⟨fb7, rfl, f7, b7⟩
  replace p1 := p1.below b7
  replace p3 := p3.below b7
  replace p5 := p5.below b7
  replace hb := below_step hb b7
  replace f5 := f5.below b7
  replace f6 := f6.below b7
  go_wp2_with fail
  refine (begun_add f6 f7).mono ?_
  rintro e w8 ⟨a8, cap8, rfl, i8, b8⟩
  replace p1 := p1.below b8
  replace p3 := p3.below b8
  replace p5 := p5.below b8
  replace hb := below_step hb b8
  replace f5 := f5.below b8
  replace p1 := p1.alloc (.cells #[.int .i64 2, .int .i64 2, .slice a8 4 cap8] 24)
  replace p3 := p3.alloc (.cells #[.int .i64 2, .int .i64 2, .slice a8 4 cap8] 24)
  replace p5 := p5.alloc (.cells #[.int .i64 2, .int .i64 2, .slice a8 4 cap8] 24)
  have p8 := Pic.new (W := 2) (H := 2) cap8 i8
  replace hb := below_box hb (.cells #[.int .i64 2, .int .i64 2, .slice a8 4 cap8] 24)
  replace f5 := f5.below ((Below.refl _ _).alloc (Nat.le_refl _) (.cells #[.int .i64 2, .int .i64 2, .slice a8 4 cap8] 24))
  clear f6 f7 i8
  obtain ⟨_, k0, k1, k2, _⟩ := id p5
  go_wp2_with fail
  clear k0 k1 k2
  refine (begun_up f5).mono ?_
  rintro e w9 ⟨a9, cap9, rfl, i9, b9⟩
  replace p1 := p1.below b9
  replace p3 := p3.below b9
  replace p5 := p5.below b9
  replace p8 := p8.below b9
  replace hb := below_step hb b9
  replace p1 := p1.alloc (.cells #[.int .i64 2, .int .i64 2, .slice a9 4 cap9] 24)
  replace p3 := p3.alloc (.cells #[.int .i64 2, .int .i64 2, .slice a9 4 cap9] 24)
  replace p5 := p5.alloc (.cells #[.int .i64 2, .int .i64 2, .slice a9 4 cap9] 24)
  replace p8 := p8.alloc (.cells #[.int .i64 2, .int .i64 2, .slice a9 4 cap9] 24)
  have p9 := Pic.new (W := 2) (H := 2) cap9 i9
  replace hb := below_box hb (.cells #[.int .i64 2, .int .i64 2, .slice a9 4 cap9] 24)
  clear f5 i9
  go_wp2_with fail
  refine (four_some _).mono ?_
  rintro e w10 ⟨fb10, rfl, f10, b10⟩
  replace p1 := p1.below b10
  replace p3 := p3.below b10
  replace p5 := p5.below b10
  replace p8 := p8.below b10
  replace p9 := p9.below b10
  replace hb := below_step hb b10
  go_wp2_with fail
  refine (check_fine _ f10.ints (by decide)).mono ?_
  rintro e w11 ⟨rfl, b11⟩
  replace p1 := p1.below b11
  replace p3 := p3.below b11
  replace p5 := p5.below b11
  replace p8 := p8.below b11
  replace p9 := p9.below b11
  replace hb := below_step hb b11
  clear f10
  obtain ⟨_, k0, _, k2, _⟩ := id p1
  go_wp2_with fail
  clear k0 k2
  have l12 := ints_lit w11 [0, 40000, 14464] (by simp)
  replace p1 := p1.alloc (.cells #[.int .i64 0, .int .i64 40000, .int .i64 14464] 3)
  replace p3 := p3.alloc (.cells #[.int .i64 0, .int .i64 40000, .int .i64 14464] 3)
  replace p5 := p5.alloc (.cells #[.int .i64 0, .int .i64 40000, .int .i64 14464] 3)
  replace p8 := p8.alloc (.cells #[.int .i64 0, .int .i64 40000, .int .i64 14464] 3)
  replace p9 := p9.alloc (.cells #[.int .i64 0, .int .i64 40000, .int .i64 14464] 3)
  replace hb := below_box hb (.cells #[.int .i64 0, .int .i64 40000, .int .i64 14464] 3)
  refine (sameInts_any _ _ p1.ints l12).mono ?_
  rintro e w12 ⟨rfl, b12⟩
  replace p1 := p1.below b12
  replace p3 := p3.below b12
  replace p5 := p5.below b12
  replace p8 := p8.below b12
  replace p9 := p9.below b12
  replace hb := below_step hb b12
  clear l12
  obtain ⟨_, k0, _, k2, _⟩ := id p3
  go_wp2_with fail
  clear k0 k2
  have l13 := ints_lit w12 [4, 4, 65535, 65535] (by simp)
  replace p1 := p1.alloc (.cells #[.int .i64 4, .int .i64 4, .int .i64 65535, .int .i64 65535] 3)
  replace p3 := p3.alloc (.cells #[.int .i64 4, .int .i64 4, .int .i64 65535, .int .i64 65535] 3)
  replace p5 := p5.alloc (.cells #[.int .i64 4, .int .i64 4, .int .i64 65535, .int .i64 65535] 3)
  replace p8 := p8.alloc (.cells #[.int .i64 4, .int .i64 4, .int .i64 65535, .int .i64 65535] 3)
  replace p9 := p9.alloc (.cells #[.int .i64 4, .int .i64 4, .int .i64 65535, .int .i64 65535] 3)
  replace hb := below_box hb (.cells #[.int .i64 4, .int .i64 4, .int .i64 65535, .int .i64 65535] 3)
  refine (sameInts_any _ _ p3.ints l13).mono ?_
  rintro e w13 ⟨rfl, b13⟩
  replace p1 := p1.below b13
  replace p3 := p3.below b13
  replace p5 := p5.below b13
  replace p8 := p8.below b13
  replace p9 := p9.below b13
  replace hb := below_step hb b13
  clear l13
  obtain ⟨_, k0, _, k2, _⟩ := id p5
  go_wp2_with fail
  clear k0 k2
  have l14 := ints_lit w13 [16386] (by simp)
  replace p1 := p1.alloc (.cells #[.int .i64 16386] 3)
  replace p3 := p3.alloc (.cells #[.int .i64 16386] 3)
  replace p5 := p5.alloc (.cells #[.int .i64 16386] 3)
  replace p8 := p8.alloc (.cells #[.int .i64 16386] 3)
  replace p9 := p9.alloc (.cells #[.int .i64 16386] 3)
  replace hb := below_box hb (.cells #[.int .i64 16386] 3)
  refine (sameInts_any _ _ p5.ints l14).mono ?_
  rintro e w14 ⟨rfl, b14⟩
  replace p1 := p1.below b14
  replace p3 := p3.below b14
  replace p5 := p5.below b14
  replace p8 := p8.below b14
  replace p9 := p9.below b14
  replace hb := below_step hb b14
  clear l14
  obtain ⟨_, k0, _, k2, _⟩ := id p8
  go_wp2_with fail
  clear k0 k2
  have l15 := ints_lit w14 [8, 16, 65535, 0] (by simp)
  replace p1 := p1.alloc (.cells #[.int .i64 8, .int .i64 16, .int .i64 65535, .int .i64 0] 3)
  replace p3 := p3.alloc (.cells #[.int .i64 8, .int .i64 16, .int .i64 65535, .int .i64 0] 3)
  replace p5 := p5.alloc (.cells #[.int .i64 8, .int .i64 16, .int .i64 65535, .int .i64 0] 3)
  replace p8 := p8.alloc (.cells #[.int .i64 8, .int .i64 16, .int .i64 65535, .int .i64 0] 3)
  replace p9 := p9.alloc (.cells #[.int .i64 8, .int .i64 16, .int .i64 65535, .int .i64 0] 3)
  replace hb := below_box hb (.cells #[.int .i64 8, .int .i64 16, .int .i64 65535, .int .i64 0] 3)
  refine (sameInts_any _ _ p8.ints l15).mono ?_
  rintro e w15 ⟨rfl, b15⟩
  replace p1 := p1.below b15
  replace p3 := p3.below b15
  replace p5 := p5.below b15
  replace p8 := p8.below b15
  replace p9 := p9.below b15
  replace hb := below_step hb b15
  clear l15
  obtain ⟨_, k0, _, k2, _⟩ := id p9
  go_wp2_with fail
  clear k0 k2
  have l16 := ints_lit w15 [16386, 16386, 16386, 16386] (by simp)
  replace p1 := p1.alloc (.cells #[.int .i64 16386, .int .i64 16386, .int .i64 16386, .int .i64 16386] 3)
  replace p3 := p3.alloc (.cells #[.int .i64 16386, .int .i64 16386, .int .i64 16386, .int .i64 16386] 3)
  replace p5 := p5.alloc (.cells #[.int .i64 16386, .int .i64 16386, .int .i64 16386, .int .i64 16386] 3)
  replace p8 := p8.alloc (.cells #[.int .i64 16386, .int .i64 16386, .int .i64 16386, .int .i64 16386] 3)
  replace p9 := p9.alloc (.cells #[.int .i64 16386, .int .i64 16386, .int .i64 16386, .int .i64 16386] 3)
  replace hb := below_box hb (.cells #[.int .i64 16386, .int .i64 16386, .int .i64 16386, .int .i64 16386] 3)
  refine (sameInts_any _ _ p9.ints l16).mono ?_
  rintro e w16 ⟨rfl, b16⟩
  replace p1 := p1.below b16
  replace p3 := p3.below b16
  replace p5 := p5.below b16
  replace p8 := p8.below b16
  replace p9 := p9.below b16
  replace hb := below_step hb b16
  clear l16
  go_wp2
  go_ret
  exact ⟨rfl, hb⟩
end Go.Proofs.Ytfpkiimlaepnhaa
