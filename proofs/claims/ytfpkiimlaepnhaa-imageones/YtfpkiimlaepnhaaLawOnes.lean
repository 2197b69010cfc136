/-
  LAWONES: the walk of the law ImageOnes.
-/
import Derived.Test.YtfpkiimlaepnhaaOneErr
import Derived.Test.YtfpkiimlaepnhaaLawMakes
namespace Go.Proofs.Ytfpkiimlaepnhaa
set_option maxRecDepth 100000
open Go.RowKit Im

set_option maxHeartbeats 1000000 in
theorem imageOnes_not (op : Int) (W H : Int) (a : Option Addr) (len cap : Nat) (ps : List Int) (k : Int) (w : World) (h : Ints 0 w a len ps) (hf : fineB W H ps = false) :
    Calls Try.prog 4 #[.int .i64 op, .agg #[.int .i64 W, .int .i64 H, .slice a len cap], .int .i64 k] w fun e w' => e = .returned (.bool true) ∧ Below w.heap.size w w' := by
  have hP := Pic.new (W := W) (H := H) cap h
  have hb := below_box (Below.refl w.heap.size w) (.cells #[.int .i64 W, .int .i64 H, .slice a len cap] 24)
  go_enter Try.func4, Try.ntmps4
  go_wp2_with fail
  refine (one_not op cap k hP.ints hf).mono ?_
  rintro e wA ⟨rfl, b1⟩
  replace hP := ((hP.below b1).alloc (.cells #[.int .i64 0, .int .i64 0, .slice none 0 0] 24)).alloc (.cells #[.int .i64 0, .int .i64 0, .slice none 0 0] 24)
  replace hb := below_box (below_box (below_step hb b1) (.cells #[.int .i64 0, .int .i64 0, .slice none 0 0] 24)) (.cells #[.int .i64 0, .int .i64 0, .slice none 0 0] 24)
  have hq := (Pic.new (W := 0) (H := 0) 0 (Ints.nil 0 wA)).alloc (.cells #[.int .i64 0, .int .i64 0, .slice none 0 0] 24)
  have hr := Pic.new (W := 0) (H := 0) 0 (Ints.nil 0 (wA.alloc (.cells #[.int .i64 0, .int .i64 0, .slice none 0 0] 24)))
  rw [show (wA.alloc (.cells #[.int .i64 0, .int .i64 0, .slice none 0 0] 24)).heap.size = wA.heap.size + 1 by simp] at hr
  obtain ⟨_, k0, k1, k2, _⟩ := id hP
  go_wp2_with fail
  have hfi := isfine_any W H cap hP.ints
  rw [hf] at hfi
  refine hfi.mono ?_
  rintro e wB ⟨rfl, b2⟩
  clear k0 k1 k2 hfi
  replace hq := hq.below b2
  replace hr := hr.below b2
  replace hb := below_step hb b2
  go_wp2_with fail
  refine (imageBegun_any _).mono ?_
  rintro e wY ⟨rfl, bY⟩
  replace hq := hq.below bY
  replace hr := hr.below bY
  replace hb := below_step hb bY
  obtain ⟨_, m0, m1, m2, _⟩ := id hq
  obtain ⟨_, o0, o1, o2, _⟩ := id hr
  go_wp2_with fail
  refine (sameImages_any 0 0 0 0 0 0 hq.ints hr.ints).mono ?_
  rintro e wZ ⟨rfl, bZ⟩
  go_wp2
  go_ret
  exact ⟨rfl, below_step hb bZ⟩
set_option maxHeartbeats 1000000 in
theorem imageOnes_err (op : Int) (W H b off cap : Nat) (ps : List Int) (k : Int) (w : World) (hF : Fine w b off W H ps) (hE : ¬ oneErr op W H k = 0) :
    Calls Try.prog 4 #[.int .i64 op, .agg #[.int .i64 W, .int .i64 H, .slice (some ⟨b, off, none⟩) (W * H) cap], .int .i64 k] w fun e w' => e = .returned (.bool true) ∧ Below w.heap.size w w' := by
  have hP := Pic.new (W := W) (H := H) cap hF.ints
  have hb := below_box (Below.refl w.heap.size w) (.cells #[.int .i64 W, .int .i64 H, .slice (some ⟨b, off, none⟩) (W * H) cap] 24)
  obtain ⟨E, hEq⟩ : ∃ E, oneErr op W H k = E := ⟨_, rfl⟩
  have hee := fun wx => oneError_any op W H k (some ⟨b, off, none⟩) (W * H) cap wx hF.hW.2 hF.hH.2
  have hone := fun wx (hx : Fine wx b off W H ps) => one_err op cap k hx E hEq (by rw [← hEq]; exact hE)
  rw [hEq] at hee hE
  have hne : (E == 0) = false := by simpa using hE
  have hFa := hF.below hb
  clear hE hEq
  go_enter Try.func4, Try.ntmps4
  go_wp2_with fail
  refine (hone _ hFa).mono ?_
  rintro e wA ⟨rfl, b1⟩
  replace hP := ((hP.below b1).alloc (.cells #[.int .i64 0, .int .i64 0, .slice none 0 0] 24)).alloc (.cells #[.int .i64 0, .int .i64 0, .slice none 0 0] 24)
  replace hb := below_box (below_box (below_step hb b1) (.cells #[.int .i64 0, .int .i64 0, .slice none 0 0] 24)) (.cells #[.int .i64 0, .int .i64 0, .slice none 0 0] 24)
  have hq := (Pic.new (W := 0) (H := 0) 0 (Ints.nil 0 wA)).alloc (.cells #[.int .i64 0, .int .i64 0, .slice none 0 0] 24)
  have hr := Pic.new (W := 0) (H := 0) 0 (Ints.nil 0 (wA.alloc (.cells #[.int .i64 0, .int .i64 0, .slice none 0 0] 24)))
  rw [show (wA.alloc (.cells #[.int .i64 0, .int .i64 0, .slice none 0 0] 24)).heap.size = wA.heap.size + 1 by simp] at hr
  obtain ⟨_, k0, k1, k2, _⟩ := id hP
  go_wp2_with fail
  have hfi := isfine_any W H cap hP.ints
  rw [hF.fineB] at hfi
  refine hfi.mono ?_
  rintro e wB ⟨rfl, b2⟩
  clear k0 k1 k2 hfi
  replace hP := hP.below b2
  replace hq := hq.below b2
  replace hr := hr.below b2
  replace hb := below_step hb b2
  obtain ⟨_, k0, k1, k2, _⟩ := id hP
  go_wp2_with fail
  refine (hee _).mono ?_
  rintro e wC ⟨rfl, b3⟩
  clear k0 k1 k2 hone hee
  replace hq := hq.below b3
  replace hr := hr.below b3
  replace hb := below_step hb b3
  go_wp2_with fail
  refine (imageBegun_any _).mono ?_
  rintro e wY ⟨rfl, bY⟩
  replace hq := hq.below bY
  replace hr := hr.below bY
  replace hb := below_step hb bY
  obtain ⟨_, m0, m1, m2, _⟩ := id hq
  obtain ⟨_, o0, o1, o2, _⟩ := id hr
  go_wp2_with fail
  refine (sameImages_any 0 0 0 0 0 0 hq.ints hr.ints).mono ?_
  rintro e wZ ⟨rfl, bZ⟩
  go_wp2
  go_ret
  exact ⟨rfl, below_step hb bZ⟩
set_option maxHeartbeats 1000000 in
theorem imageOnes_ok (op : Int) (W H b off cap : Nat) (ps : List Int) (k : Int) (w : World) (hF : Fine w b off W H ps) (hE : oneErr op W H k = 0) :
    Calls Try.prog 4 #[.int .i64 op, .agg #[.int .i64 W, .int .i64 H, .slice (some ⟨b, off, none⟩) (W * H) cap], .int .i64 k] w fun e w' => e = .returned (.bool true) ∧ Below w.heap.size w w' := by
  have hP := Pic.new (W := W) (H := H) cap hF.ints
  have hb := below_box (Below.refl w.heap.size w) (.cells #[.int .i64 W, .int .i64 H, .slice (some ⟨b, off, none⟩) (W * H) cap] 24)
  have hee := fun wx => oneError_any op W H k (some ⟨b, off, none⟩) (W * H) cap wx hF.hW.2 hF.hH.2
  have hone := fun wx (hx : Fine wx b off W H ps) => one_ok op cap k hx hE
  have hof := fun wx (hx : Fine wx b off W H ps) => oneOf_any op cap k hx hE
  rw [hE] at hee
  generalize pix (oneN op W) (oneG op W H k ps) (oneN op W * oneN op H) = qs at hone hof
  have hFa := hF.below hb
  clear hE
  go_enter Try.func4, Try.ntmps4
  go_wp2_with fail
  refine (hone _ hFa).mono ?_
  rintro e wA ⟨a2, cap2, rfl, i2, b1⟩
  replace hP := ((hP.below b1).alloc (.cells #[.int .i64 (oneN op W), .int .i64 (oneN op H), .slice a2 (oneN op W * oneN op H) cap2] 24)).alloc (.cells #[.int .i64 0, .int .i64 0, .slice none 0 0] 24)
  have hq := (Pic.new (W := oneN op W) (H := oneN op H) cap2 (i2.mono (Nat.zero_le _)))
  have hq0 := hq
  have hb0 := below_box (below_step hb b1) (.cells #[.int .i64 (oneN op W), .int .i64 (oneN op H), .slice a2 (oneN op W * oneN op H) cap2] 24)
  replace hq := hq.alloc (.cells #[.int .i64 0, .int .i64 0, .slice none 0 0] 24)
  have s1 : (wA.alloc (.cells #[.int .i64 (oneN op W), .int .i64 (oneN op H), .slice a2 (oneN op W * oneN op H) cap2] 24)).heap.size = wA.heap.size + 1 := by simp
  replace hb := below_box hb0 (.cells #[.int .i64 0, .int .i64 0, .slice none 0 0] 24)
  obtain ⟨_, k0, k1, k2, _⟩ := id hP
  go_wp2_with fail
  have hfi := isfine_any W H cap hP.ints
  rw [hF.fineB] at hfi
  refine hfi.mono ?_
  rintro e wB ⟨rfl, b2⟩
  clear k0 k1 k2 hfi
  replace hP := hP.below b2
  obtain ⟨_, k0, k1, k2, _⟩ := id hP
  go_wp2_with fail
  refine (hee _).mono ?_
  rintro e wC ⟨rfl, b3⟩
  have b23 := below_step b2 b3
  clear k0 k1 k2 hone hee
  replace hP := hP.below b3
  obtain ⟨_, k0, k1, k2, _⟩ := id hP
  go_wp2_with fail
  refine (hof _ (hF.below (below_step hb b23))).mono ?_
  rintro e wD ⟨a3, cap3, rfl, i3, b4⟩
  have b5 := below_step b23 b4
  have sB : wA.heap.size + 1 < wD.heap.size := by have := b5.size; simp at this; omega
  have l0 : wD.cell? ⟨wA.heap.size + 1, 0, none⟩ = some (.int .i64 0) := by rw [b5.cell (by simp)]; simp [go_sem]
  have l1 : wD.cell? ⟨wA.heap.size + 1, 1, none⟩ = some (.int .i64 0) := by rw [b5.cell (by simp)]; simp [go_sem]
  have l2 : wD.cell? ⟨wA.heap.size + 1, 2, none⟩ = some (.slice none 0 0) := by rw [b5.cell (by simp)]; simp [go_sem]
  have f0 : wD.frozen? ⟨wA.heap.size + 1, 0, none⟩ = false := by rw [b5.frozen (by simp)]; simp [go_sem]
  have f1 : wD.frozen? ⟨wA.heap.size + 1, 1, none⟩ = false := by rw [b5.frozen (by simp)]; simp [go_sem]
  have f2 : wD.frozen? ⟨wA.heap.size + 1, 2, none⟩ = false := by rw [b5.frozen (by simp)]; simp [go_sem]
  clear k0 k1 k2 hP hof
  go_wp2_with fail
  have s2 : ((wA.alloc (.cells #[.int .i64 (oneN op W), .int .i64 (oneN op H), .slice a2 (oneN op W * oneN op H) cap2] 24)).alloc (.cells #[.int .i64 0, .int .i64 0, .slice none 0 0] 24)).heap.size = wA.heap.size + 1 + 1 := by simp
  have i3' : Ints (wA.heap.size + 1 + 1) wD a3 (oneN op W * oneN op H) qs := i3.mono (by have := b23.size; omega)
  rw [s2, ← s1] at b5
  rw [← s1] at l0 l1 l2 sB i3'
  have hr := wx_pic (W := oneN op W) (H := oneN op H) cap3 sB l0 l1 l2 i3'
  have hbx := wx_below b5 (.int .i64 (oneN op W)) (.int .i64 (oneN op H)) (.slice a3 (oneN op W * oneN op H) cap3)
  replace hq := hq0.below hbx
  replace hb := below_step hb0 hbx
  rw [s1] at hr hq hb
  generalize ((wD.setCell ⟨wA.heap.size + 1, 0, none⟩ (.int .i64 (oneN op W))).setCell ⟨wA.heap.size + 1, 1, none⟩ (.int .i64 (oneN op H))).setCell ⟨wA.heap.size + 1, 2, none⟩ (.slice a3 (oneN op W * oneN op H) cap3) = wX at hq hr hb ⊢
  clear b1 b2 b3 b4 b5 b23 i2 i3 i3' l0 l1 l2 f0 f1 f2 sB s1 s2 hbx hq0 hb0
  refine (imageBegun_any _).mono ?_
  rintro e wY ⟨rfl, bY⟩
  replace hq := hq.below bY
  replace hr := hr.below bY
  replace hb := below_step hb bY
  obtain ⟨_, m0, m1, m2, _⟩ := id hq
  obtain ⟨_, o0, o1, o2, _⟩ := id hr
  go_wp2_with fail
  refine (sameImages_any (oneN op W) (oneN op H) (oneN op W) (oneN op H) cap2 cap3 hq.ints hr.ints).mono ?_
  rintro e wZ ⟨rfl, bZ⟩
  go_wp2
  go_ret
  exact ⟨rfl, below_step hb bZ⟩
theorem imageOnes_any (op : Int) (W H : Int) (a : Option Addr) (len cap : Nat) (ps : List Int) (k : Int) (w : World) (h : Ints 0 w a len ps) :
    Calls Try.prog 4 #[.int .i64 op, .agg #[.int .i64 W, .int .i64 H, .slice a len cap], .int .i64 k] w fun e w' => e = .returned (.bool true) ∧ Below w.heap.size w w' := by
  by_cases hf : fineB W H ps = true
  · obtain ⟨W', H', b, off, rfl, rfl, rfl, rfl, hF⟩ := fine_of h hf
    by_cases hE : oneErr op W' H' k = 0
    · exact imageOnes_ok op W' H' b off cap ps k w hF hE
    · exact imageOnes_err op W' H' b off cap ps k w hF hE
  · exact imageOnes_not op W H a len cap ps k w h (eq_false_of_ne_true hf)
end Go.Proofs.Ytfpkiimlaepnhaa
