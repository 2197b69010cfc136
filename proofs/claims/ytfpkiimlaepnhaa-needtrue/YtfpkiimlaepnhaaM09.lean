/- LawOnes, TwoRef: joined, in this order. -/
import Derived.Test.YtfpkiimlaepnhaaM08
import Derived.Test.YtfpkiimlaepnhaaM07
import Derived.Test.YtfpkiimlaepnhaaM03
/-
  LAWONES: the walk of the law ImageOnes.
-/
namespace Go.Proofs.Ytfpkiimlaepnhaa
set_option maxRecDepth 100000
open Go.RowKit Im

set_option maxHeartbeats 1000000 in
theorem imageOnes_not (op : Int) (W H : Int) (a : Option Addr) (len cap : Nat) (ps : List Int) (k : Int) (w : World) (h : Ints 0 w a len ps) (hf : fineB W H ps = false) :
    Calls Try.prog 4 #[.int .i64 op, .agg #[.int .i64 W, .int .i64 H, .slice a len cap], .int .i64 k] w fun e w' => e = .returned (.bool true) ∧ Below w.heap.size w w' := by
  have hP := Pic.new (W := W) (H := H) cap h
  have hb := below_box (Below.refl w.heap.size w) (.cells #[.int .i64 W, .int .i64 H, .slice a len cap] 24)
  go_enter Try.func4, Try.ntmps4
  go_wp2_with fail
  refine (one_not op cap k hP.ints hf).mono ?_
  rintro e wA ⟨rfl, b1⟩
  replace hP := ((hP.below b1).alloc (.cells #[.int .i64 0, .int .i64 0, .slice none 0 0] 24)).alloc (.cells #[.int .i64 0, .int .i64 0, .slice none 0 0] 24)
  replace hb := below_box (below_box (below_step hb b1) (.cells #[.int .i64 0, .int .i64 0, .slice none 0 0] 24)) (.cells #[.int .i64 0, .int .i64 0, .slice none 0 0] 24)
  have hq := (Pic.new (W := 0) (H := 0) 0 (Ints.nil 0 wA)).alloc (.cells #[.int .i64 0, .int .i64 0, .slice none 0 0] 24)
  have hr := Pic.new (W := 0) (H := 0) 0 (Ints.nil 0 (wA.alloc (.cells #[.int .i64 0, .int .i64 0, .slice none 0 0] 24)))
  rw [show (wA.alloc (.cells #[.int .i64 0, .int .i64 0, .slice none 0 0] 24)).heap.size = wA.heap.size + 1 by simp] at hr
  obtain ⟨_, k0, k1, k2, _⟩ := id hP
  go_wp2_with fail
  have hfi := isfine_any W H cap hP.ints
  rw [hf] at hfi
  refine hfi.mono ?_
  rintro e wB ⟨rfl, b2⟩
  clear k0 k1 k2 hfi
  replace hq := hq.below b2
  replace hr := hr.below b2
  replace hb := below_step hb b2
  go_wp2_with fail
  refine (imageBegun_any _).mono ?_
  rintro e wY ⟨rfl, bY⟩
  replace hq := hq.below bY
  replace hr := hr.below bY
  replace hb := below_step hb bY
  obtain ⟨_, m0, m1, m2, _⟩ := id hq
  obtain ⟨_, o0, o1, o2, _⟩ := id hr
  go_wp2_with fail
  refine (sameImages_any 0 0 0 0 0 0 hq.ints hr.ints).mono ?_
  rintro e wZ ⟨rfl, bZ⟩
  go_wp2
  go_ret
  exact ⟨rfl, below_step hb bZ⟩
set_option maxHeartbeats 1000000 in
theorem imageOnes_err (op : Int) (W H b off cap : Nat) (ps : List Int) (k : Int) (w : World) (hF : Fine w b off W H ps) (hE : ¬ oneErr op W H k = 0) :
    Calls Try.prog 4 #[.int .i64 op, .agg #[.int .i64 W, .int .i64 H, .slice (some ⟨b, off, none⟩) (W * H) cap], .int .i64 k] w fun e w' => e = .returned (.bool true) ∧ Below w.heap.size w w' := by
  have hP := Pic.new (W := W) (H := H) cap hF.ints
  have hb := below_box (Below.refl w.heap.size w) (.cells #[.int .i64 W, .int .i64 H, .slice (some ⟨b, off, none⟩) (W * H) cap] 24)
  obtain ⟨E, hEq⟩ : ∃ E, oneErr op W H k = E := ⟨_, rfl⟩
  have hee := fun wx => oneError_any op W H k (some ⟨b, off, none⟩) (W * H) cap wx hF.hW.2 hF.hH.2
  have hone := fun wx (hx : Fine wx b off W H ps) => one_err op cap k hx E hEq (by rw [← hEq]; exact hE)
  rw [hEq] at hee hE
  have hne : (E == 0) = false := by simpa using hE
  have hFa := hF.below hb
  clear hE hEq
  go_enter Try.func4, Try.ntmps4
  go_wp2_with fail
  refine (hone _ hFa).mono ?_
  rintro e wA ⟨rfl, b1⟩
  replace hP := ((hP.below b1).alloc (.cells #[.int .i64 0, .int .i64 0, .slice none 0 0] 24)).alloc (.cells #[.int .i64 0, .int .i64 0, .slice none 0 0] 24)
  replace hb := below_box (below_box (below_step hb b1) (.cells #[.int .i64 0, .int .i64 0, .slice none 0 0] 24)) (.cells #[.int .i64 0, .int .i64 0, .slice none 0 0] 24)
  have hq := (Pic.new (W := 0) (H := 0) 0 (Ints.nil 0 wA)).alloc (.cells #[.int .i64 0, .int .i64 0, .slice none 0 0] 24)
  have hr := Pic.new (W := 0) (H := 0) 0 (Ints.nil 0 (wA.alloc (.cells #[.int .i64 0, .int .i64 0, .slice none 0 0] 24)))
  rw [show (wA.alloc (.cells #[.int .i64 0, .int .i64 0, .slice none 0 0] 24)).heap.size = wA.heap.size + 1 by simp] at hr
  obtain ⟨_, k0, k1, k2, _⟩ := id hP
  go_wp2_with fail
  have hfi := isfine_any W H cap hP.ints
  rw [hF.fineB] at hfi
  refine hfi.mono ?_
  rintro e wB ⟨rfl, b2⟩
  clear k0 k1 k2 hfi
  replace hP := hP.below b2
  replace hq := hq.below b2
  replace hr := hr.below b2
  replace hb := below_step hb b2
  obtain ⟨_, k0, k1, k2, _⟩ := id hP
  go_wp2_with fail
  refine (hee _).mono ?_
  rintro e wC ⟨rfl, b3⟩
  clear k0 k1 k2 hone hee
  replace hq := hq.below b3
  replace hr := hr.below b3
  replace hb := below_step hb b3
  go_wp2_with fail
  refine (imageBegun_any _).mono ?_
  rintro e wY ⟨rfl, bY⟩
  replace hq := hq.below bY
  replace hr := hr.below bY
  replace hb := below_step hb bY
  obtain ⟨_, m0, m1, m2, _⟩ := id hq
  obtain ⟨_, o0, o1, o2, _⟩ := id hr
  go_wp2_with fail
  refine (sameImages_any 0 0 0 0 0 0 hq.ints hr.ints).mono ?_
  rintro e wZ ⟨rfl, bZ⟩
  go_wp2
  go_ret
  exact ⟨rfl, below_step hb bZ⟩
set_option maxHeartbeats 1000000 in
theorem imageOnes_ok (op : Int) (W H b off cap : Nat) (ps : List Int) (k : Int) (w : World) (hF : Fine w b off W H ps) (hE : oneErr op W H k = 0) :
    Calls Try.prog 4 #[.int .i64 op, .agg #[.int .i64 W, .int .i64 H, .slice (some ⟨b, off, none⟩) (W * H) cap], .int .i64 k] w fun e w' => e = .returned (.bool true) ∧ Below w.heap.size w w' := by
  have hP := Pic.new (W := W) (H := H) cap hF.ints
  have hb := below_box (Below.refl w.heap.size w) (.cells #[.int .i64 W, .int .i64 H, .slice (some ⟨b, off, none⟩) (W * H) cap] 24)
  have hee := fun wx => oneError_any op W H k (some ⟨b, off, none⟩) (W * H) cap wx hF.hW.2 hF.hH.2
  have hone := fun wx (hx : Fine wx b off W H ps) => one_ok op cap k hx hE
  have hof := fun wx (hx : Fine wx b off W H ps) => oneOf_any op cap k hx hE
  rw [hE] at hee
  generalize pix (oneN op W) (oneG op W H k ps) (oneN op W * oneN op H) = qs at hone hof
  have hFa := hF.below hb
  clear hE
  go_enter Try.func4, Try.ntmps4
  go_wp2_with fail
  refine (hone _ hFa).mono ?_
  rintro e wA ⟨a2, cap2, rfl, i2, b1⟩
  replace hP := ((hP.below b1).alloc (.cells #[.int .i64 (oneN op W), .int .i64 (oneN op H), .slice a2 (oneN op W * oneN op H) cap2] 24)).alloc (.cells #[.int .i64 0, .int .i64 0, .slice none 0 0] 24)
  have hq := (Pic.new (W := oneN op W) (H := oneN op H) cap2 (i2.mono (Nat.zero_le _)))
  have hq0 := hq
  have hb0 := below_box (below_step hb b1) (.cells #[.int .i64 (oneN op W), .int .i64 (oneN op H), .slice a2 (oneN op W * oneN op H) cap2] 24)
  replace hq := hq.alloc (.cells #[.int .i64 0, .int .i64 0, .slice none 0 0] 24)
  have s1 : (wA.alloc (.cells #[.int .i64 (oneN op W), .int .i64 (oneN op H), .slice a2 (oneN op W * oneN op H) cap2] 24)).heap.size = wA.heap.size + 1 := by simp
  replace hb := below_box hb0 (.cells #[.int .i64 0, .int .i64 0, .slice none 0 0] 24)
  obtain ⟨_, k0, k1, k2, _⟩ := id hP
  go_wp2_with fail
  have hfi := isfine_any W H cap hP.ints
  rw [hF.fineB] at hfi
  refine hfi.mono ?_
  rintro e wB ⟨rfl, b2⟩
  clear k0 k1 k2 hfi
  replace hP := hP.below b2
  obtain ⟨_, k0, k1, k2, _⟩ := id hP
  go_wp2_with fail
  refine (hee _).mono ?_
  rintro e wC ⟨rfl, b3⟩
  have b23 := below_step b2 b3
  clear k0 k1 k2 hone hee
  replace hP := hP.below b3
  obtain ⟨_, k0, k1, k2, _⟩ := id hP
  go_wp2_with fail
  refine (hof _ (hF.below (below_step hb b23))).mono ?_
  rintro e wD ⟨a3, cap3, rfl, i3, b4⟩
  have b5 := below_step b23 b4
  have sB : wA.heap.size + 1 < wD.heap.size := by have := b5.size; simp at this; omega
  have l0 : wD.cell? ⟨wA.heap.size + 1, 0, none⟩ = some (.int .i64 0) := by rw [b5.cell (by simp)]; simp [go_sem]
  have l1 : wD.cell? ⟨wA.heap.size + 1, 1, none⟩ = some (.int .i64 0) := by rw [b5.cell (by simp)]; simp [go_sem]
  have l2 : wD.cell? ⟨wA.heap.size + 1, 2, none⟩ = some (.slice none 0 0) := by rw [b5.cell (by simp)]; simp [go_sem]
  have f0 : wD.frozen? ⟨wA.heap.size + 1, 0, none⟩ = false := by rw [b5.frozen (by simp)]; simp [go_sem]
  have f1 : wD.frozen? ⟨wA.heap.size + 1, 1, none⟩ = false := by rw [b5.frozen (by simp)]; simp [go_sem]
  have f2 : wD.frozen? ⟨wA.heap.size + 1, 2, none⟩ = false := by rw [b5.frozen (by simp)]; simp [go_sem]
  clear k0 k1 k2 hP hof
  go_wp2_with fail
  have s2 : ((wA.alloc (.cells #[.int .i64 (oneN op W), .int .i64 (oneN op H), .slice a2 (oneN op W * oneN op H) cap2] 24)).alloc (.cells #[.int .i64 0, .int .i64 0, .slice none 0 0] 24)).heap.size = wA.heap.size + 1 + 1 := by simp
  have i3' : Ints (wA.heap.size + 1 + 1) wD a3 (oneN op W * oneN op H) qs := i3.mono (by have := b23.size; omega)
  rw [s2, ← s1] at b5
  rw [← s1] at l0 l1 l2 sB i3'
  have hr := wx_pic (W := oneN op W) (H := oneN op H) cap3 sB l0 l1 l2 i3'
  have hbx := wx_below b5 (.int .i64 (oneN op W)) (.int .i64 (oneN op H)) (.slice a3 (oneN op W * oneN op H) cap3)
  replace hq := hq0.below hbx
  replace hb := below_step hb0 hbx
  rw [s1] at hr hq hb
  generalize ((wD.setCell ⟨wA.heap.size + 1, 0, none⟩ (.int .i64 (oneN op W))).setCell ⟨wA.heap.size + 1, 1, none⟩ (.int .i64 (oneN op H))).setCell ⟨wA.heap.size + 1, 2, none⟩ (.slice a3 (oneN op W * oneN op H) cap3) = wX at hq hr hb ⊢
  clear b1 b2 b3 b4 b5 b23 i2 i3 i3' l0 l1 l2 f0 f1 f2 sB s1 s2 hbx hq0 hb0
  refine (imageBegun_any _).mono ?_
  rintro e wY ⟨rfl, bY⟩
  replace hq := hq.below bY
  replace hr := hr.below bY
  replace hb := below_step hb bY
  obtain ⟨_, m0, m1, m2, _⟩ := id hq
  obtain ⟨_, o0, o1, o2, _⟩ := id hr
  go_wp2_with fail
  refine (sameImages_any (oneN op W) (oneN op H) (oneN op W) (oneN op H) cap2 cap3 hq.ints hr.ints).mono ?_
  rintro e wZ ⟨rfl, bZ⟩
  go_wp2
  go_ret
  exact ⟨rfl, below_step hb bZ⟩
theorem imageOnes_any (op : Int) (W H : Int) (a : Option Addr) (len cap : Nat) (ps : List Int) (k : Int) (w : World) (h : Ints 0 w a len ps) :
    Calls Try.prog 4 #[.int .i64 op, .agg #[.int .i64 W, .int .i64 H, .slice a len cap], .int .i64 k] w fun e w' => e = .returned (.bool true) ∧ Below w.heap.size w w' := by
  by_cases hf : fineB W H ps = true
  · obtain ⟨W', H', b, off, rfl, rfl, rfl, rfl, hF⟩ := fine_of h hf
    by_cases hE : oneErr op W' H' k = 0
    · exact imageOnes_ok op W' H' b off cap ps k w hF hE
    · exact imageOnes_err op W' H' b off cap ps k w hF hE
  · exact imageOnes_not op W H a len cap ps k w h (eq_false_of_ne_true hf)
end Go.Proofs.Ytfpkiimlaepnhaa
/-
  TWOREF: the reference's IsTwo and TwoOf.
-/
namespace Go.Proofs.Ytfpkiimlaepnhaa
set_option maxRecDepth 100000
open Go.RowKit Im

theorem isTwo_any (op : Int) (w : World) : Calls Try.prog 26 #[.int .i64 op] w fun e w' => e = .returned (.bool (withinB op 4 7)) ∧ w = w' := by
  go_enter Try.func26, Try.ntmps26
  go_wp2_with (go_at_call 61; refine (within_any _ _ _ _).mono ?_; rintro e w' ⟨rfl, rfl⟩)
  go_ret
  exact ⟨rfl, rfl⟩
/-- The first n numbers of what is made of two lists. -/
def lin (op : Int) (ps qs : List Int) (n : Nat) : List Int := (List.range n).map fun i => twoG op (ps.getD i 0) (qs.getD i 0)
theorem lin_length (op : Int) (ps qs : List Int) (n : Nat) : (lin op ps qs n).length = n := by simp [lin]
theorem lin_succ (op : Int) (ps qs : List Int) (n : Nat) : lin op ps qs (n + 1) = lin op ps qs n ++ [twoG op (ps.getD n 0) (qs.getD n 0)] := by simp [lin, List.range_succ]
theorem lin_pix (op : Int) (ps qs : List Int) (W n : Nat) : lin op ps qs n = pix W (fun x y => twoG op (px W ps x y) (px W qs x y)) n := by
  unfold lin pix px
  apply List.map_congr_left
  intro i _
  have e : i / W * W + i % W = i := by rw [Nat.mul_comm]; exact Nat.div_add_mod i W
  simp only [e]
set_option maxRecDepth 100000 in
set_option maxHeartbeats 1000000 in
theorem twoOf_4 {w : World} {b off cap b' off' cap' W H L : Nat} {ps qs : List Int} (hb : b < w.heap.size) (hb' : b' < w.heap.size) (hL : L ≤ 256) (hc : ∀ j, j < L → w.cell? ⟨b, off + j, none⟩ = some (.int .i64 (ps.getD j 0))) (hc' : ∀ j, j < L → w.cell? ⟨b', off' + j, none⟩ = some (.int .i64 (qs.getD j 0)))
    (hp : ∀ j, j < L → 0 ≤ ps.getD j 0 ∧ ps.getD j 0 ≤ 65535) (hq : ∀ j, j < L → 0 ≤ qs.getD j 0 ∧ qs.getD j 0 ≤ 65535) :
    Calls Try.prog 27 #[.int .i64 4, .agg #[.int .i64 W, .int .i64 H, .slice (some ⟨b, off, none⟩) L cap], .agg #[.int .i64 W, .int .i64 H, .slice (some ⟨b', off', none⟩) L cap']] w fun e w' =>
      ∃ a cap', e = .returned (.agg #[.int .i64 W, .int .i64 H, .slice a L cap']) ∧ Ints w.heap.size w' a L (lin 4 ps qs L) ∧ Below w.heap.size w w' := by
  obtain ⟨i0, hi, hz0, hz1, hz2⟩ := info_parts Try.info3
  have hB0 : Below w.heap.size w ((((w.alloc (.cells #[.int .i64 W, .int .i64 H, .slice (some ⟨b, off, none⟩) L cap] 24)).alloc (.cells #[.int .i64 W, .int .i64 H, .slice (some ⟨b', off', none⟩) L cap'] 24)).alloc (.cells #[.int .i64 0, .int .i64 0, .slice none 0 0] 24)).alloc (.cells #[.int .i64 W, .int .i64 H, .slice none 0 0] 24)) := ((((Below.refl _ _).alloc (Nat.le_refl _) _).alloc (by simp) _).alloc (by simp; omega) _).alloc (by simp; omega) _
  have hst := Acc.start (((w.alloc (.cells #[.int .i64 W, .int .i64 H, .slice (some ⟨b, off, none⟩) L cap] 24)).alloc (.cells #[.int .i64 W, .int .i64 H, .slice (some ⟨b', off', none⟩) L cap'] 24)).alloc (.cells #[.int .i64 0, .int .i64 0, .slice none 0 0] 24)) (w.heap.size + 1 + 1 + 1) W H (by simp)
  have p2 : ((((w.alloc (.cells #[.int .i64 W, .int .i64 H, .slice (some ⟨b, off, none⟩) L cap] 24)).alloc (.cells #[.int .i64 W, .int .i64 H, .slice (some ⟨b', off', none⟩) L cap'] 24)).alloc (.cells #[.int .i64 0, .int .i64 0, .slice none 0 0] 24)).alloc (.cells #[.int .i64 W, .int .i64 H, .slice none 0 0] 24)).cell? ⟨w.heap.size, 2, none⟩ = some (.slice (some ⟨b, off, none⟩) L cap) := by simp [go_sem]
  have q2 : ((((w.alloc (.cells #[.int .i64 W, .int .i64 H, .slice (some ⟨b, off, none⟩) L cap] 24)).alloc (.cells #[.int .i64 W, .int .i64 H, .slice (some ⟨b', off', none⟩) L cap'] 24)).alloc (.cells #[.int .i64 0, .int .i64 0, .slice none 0 0] 24)).alloc (.cells #[.int .i64 W, .int .i64 H, .slice none 0 0] 24)).cell? ⟨w.heap.size + 1, 2, none⟩ = some (.slice (some ⟨b', off', none⟩) L cap') := by simp [go_sem]
  have z0 : ((((w.alloc (.cells #[.int .i64 W, .int .i64 H, .slice (some ⟨b, off, none⟩) L cap] 24)).alloc (.cells #[.int .i64 W, .int .i64 H, .slice (some ⟨b', off', none⟩) L cap'] 24)).alloc (.cells #[.int .i64 0, .int .i64 0, .slice none 0 0] 24)).alloc (.cells #[.int .i64 W, .int .i64 H, .slice none 0 0] 24)).cell? ⟨w.heap.size + 1 + 1, 0, none⟩ = some (.int .i64 0) := by simp [go_sem]
  have z1 : ((((w.alloc (.cells #[.int .i64 W, .int .i64 H, .slice (some ⟨b, off, none⟩) L cap] 24)).alloc (.cells #[.int .i64 W, .int .i64 H, .slice (some ⟨b', off', none⟩) L cap'] 24)).alloc (.cells #[.int .i64 0, .int .i64 0, .slice none 0 0] 24)).alloc (.cells #[.int .i64 W, .int .i64 H, .slice none 0 0] 24)).cell? ⟨w.heap.size + 1 + 1, 1, none⟩ = some (.int .i64 0) := by simp [go_sem]
  have z2 : ((((w.alloc (.cells #[.int .i64 W, .int .i64 H, .slice (some ⟨b, off, none⟩) L cap] 24)).alloc (.cells #[.int .i64 W, .int .i64 H, .slice (some ⟨b', off', none⟩) L cap'] 24)).alloc (.cells #[.int .i64 0, .int .i64 0, .slice none 0 0] 24)).alloc (.cells #[.int .i64 W, .int .i64 H, .slice none 0 0] 24)).cell? ⟨w.heap.size + 1 + 1, 2, none⟩ = some (.slice none 0 0) := by simp [go_sem]
  have y0 : ∀ o, ((((w.alloc (.cells #[.int .i64 W, .int .i64 H, .slice (some ⟨b, off, none⟩) L cap] 24)).alloc (.cells #[.int .i64 W, .int .i64 H, .slice (some ⟨b', off', none⟩) L cap'] 24)).alloc (.cells #[.int .i64 0, .int .i64 0, .slice none 0 0] 24)).alloc (.cells #[.int .i64 W, .int .i64 H, .slice none 0 0] 24)).frozen? ⟨w.heap.size + 1 + 1, o, none⟩ = false := fun o => by simp [go_sem]
  go_enter Try.func27, Try.ntmps27
  go_wp2
  generalize hw0 : ((((w.alloc (.cells #[.int .i64 W, .int .i64 H, .slice (some ⟨b, off, none⟩) L cap] 24)).alloc (.cells #[.int .i64 W, .int .i64 H, .slice (some ⟨b', off', none⟩) L cap'] 24)).alloc (.cells #[.int .i64 0, .int .i64 0, .slice none 0 0] 24)).alloc (.cells #[.int .i64 W, .int .i64 H, .slice none 0 0] 24)) = w0 at hB0 hst p2 q2 z0 z1 z2 y0 ⊢
  clear hw0
  go_loopw [8] (fun i wr => ∃ (n : Nat) (v : Value), n ≤ L ∧ i = .int .i64 n ∧ Acc (w.heap.size + 1 + 1 + 1) w0 wr W H v (lin 4 ps qs n)) (fun i _ => L - (intOf i).toNat)
  case atStart => exact ⟨0, .slice none 0 0, Nat.zero_le _, rfl, hst⟩
  case round =>
    obtain ⟨n, v, hn, rfl, hacc⟩ := hrel
    obtain ⟨q0, q1, qv, qf⟩ := hacc.cells
    have hsz := hacc.siz
    have hbW : Below w.heap.size w wr := hB0.trans (hacc.bel.mono (by omega))
    have k2 : wr.cell? ⟨w.heap.size, 2, none⟩ = some (.slice (some ⟨b, off, none⟩) L cap) := (hacc.bel.cell (by simp; omega)).trans p2
    have k3 : wr.cell? ⟨w.heap.size + 1, 2, none⟩ = some (.slice (some ⟨b', off', none⟩) L cap') := (hacc.bel.cell (by simp)).trans q2
    by_cases hlt : n < L
    · have hcn := (hbW.cell (p := ⟨b, off + n, none⟩) hb).trans (hc n hlt)
      have hcn' := (hbW.cell (p := ⟨b', off' + n, none⟩) hb').trans (hc' n hlt)
      obtain ⟨hx0, hx1⟩ := hp n hlt
      obtain ⟨hy0, hy1⟩ := hq n hlt
      have hlen : (lin 4 ps qs n).length = n := lin_length _ _ _ _
      have hsuc := lin_succ 4 ps qs n
      generalize ps.getD n 0 = x at hcn hx0 hx1 hsuc
      generalize qs.getD n 0 = y at hcn' hy0 hy1 hsuc
      obtain ⟨gx, hgx⟩ : ∃ gx, gx = twoG 4 x y := ⟨_, rfl⟩
      have hgv : (if x + y < 65535 then x + y else 65535) = gx := by rw [hgx]; simp only [twoG]; simp ; split <;> omega
      rw [← hgx] at hsuc
      have HS : Hid (lin 4 ps qs (n + 1) = lin 4 ps qs n ++ [gx]) := hsuc
      clear hsuc hgx hc hc' hp hq
      go_wp2
      go_quiet (fail)
      have hac2 := hacc.below (below_drewN (Below.refl _ _) nq)
      go_wp2_with (at_builtin; refine wpList_append_own _ rfl _ _ 22 rfl (w.heap.size + 1 + 1 + 1 + 1) 3 i0 (.int .i64 0) 1 8 Try.underlying22 hi hz0 hz1 hz2 rfl (by decide) _ _ _ rfl (World.ownsRow.alloc hac2.own _) ⟨_, 0, none⟩ 1 1 [.int .i64 gx] rfl rfl (cell_one_new _ _ _) (by intro u hu; simp at hu; subst hu; rfl) (by rw [hlen]; unfold maxLen; omega) (by rw [hlen]; omega) (by simp; omega) ?_; intro v' w9 hown9 hgrow9 _; obtain ⟨hm, m2, m3⟩ := hac2.mid hgrow9; obtain ⟨a', cap', hv'⟩ := owns_slice hown9; subst hv')
      have R := hac2.push hgrow9 hown9
      rw [hlen] at R
      go_roundw
      case rel => exact ⟨n + 1, _, by omega, by go_num, by rw [HS.out]; exact R⟩
      case measure => simp [intOf]; omega
    · have hnL : n = L := by omega
      subst hnL
      have hlen : (lin 4 ps qs n).length = n := lin_length _ _ _ _
      obtain ⟨a, cap', rfl, hints⟩ := hacc.ints (by rw [hlen]; omega)
      have d0 : wr.cell? ⟨w.heap.size + 1 + 1, 0, none⟩ = some (.int .i64 0) := (hacc.bel.cell (by simp)).trans z0
      have d1 : wr.cell? ⟨w.heap.size + 1 + 1, 1, none⟩ = some (.int .i64 0) := (hacc.bel.cell (by simp)).trans z1
      have d2 : wr.cell? ⟨w.heap.size + 1 + 1, 2, none⟩ = some (.slice none 0 0) := (hacc.bel.cell (by simp)).trans z2
      have f0 : wr.frozen? ⟨w.heap.size + 1 + 1, 0, none⟩ = false := (hacc.bel.frozen (by simp)).trans (y0 0)
      have f1 : wr.frozen? ⟨w.heap.size + 1 + 1, 1, none⟩ = false := (hacc.bel.frozen (by simp)).trans (y0 1)
      have f2 : wr.frozen? ⟨w.heap.size + 1 + 1, 2, none⟩ = false := (hacc.bel.frozen (by simp)).trans (y0 2)
      rw [hlen] at hints qv
      go_wp2
      refine bodyPost_ret (v := .agg #[.int .i64 W, .int .i64 H, .slice a n cap']) (by simp [results, Try.results27, go_sem, d0, d1, d2]) rfl ⟨a, cap', rfl, ?_, ?_⟩
      · exact (((hints.setCell (by simp) _).setCell (by simp) _).setCell (by simp) _).mono (by omega)
      · exact (((hB0.trans (hacc.bel.mono (by omega))).setCell (by simp; omega) _).setCell (by simp; omega) _).setCell (by simp; omega) _
set_option maxRecDepth 100000 in
set_option maxHeartbeats 1000000 in
theorem twoOf_5 {w : World} {b off cap b' off' cap' W H L : Nat} {ps qs : List Int} (hb : b < w.heap.size) (hb' : b' < w.heap.size) (hL : L ≤ 256) (hc : ∀ j, j < L → w.cell? ⟨b, off + j, none⟩ = some (.int .i64 (ps.getD j 0))) (hc' : ∀ j, j < L → w.cell? ⟨b', off' + j, none⟩ = some (.int .i64 (qs.getD j 0)))
    (hp : ∀ j, j < L → 0 ≤ ps.getD j 0 ∧ ps.getD j 0 ≤ 65535) (hq : ∀ j, j < L → 0 ≤ qs.getD j 0 ∧ qs.getD j 0 ≤ 65535) :
    Calls Try.prog 27 #[.int .i64 5, .agg #[.int .i64 W, .int .i64 H, .slice (some ⟨b, off, none⟩) L cap], .agg #[.int .i64 W, .int .i64 H, .slice (some ⟨b', off', none⟩) L cap']] w fun e w' =>
      ∃ a cap', e = .returned (.agg #[.int .i64 W, .int .i64 H, .slice a L cap']) ∧ Ints w.heap.size w' a L (lin 5 ps qs L) ∧ Below w.heap.size w w' := by
  obtain ⟨i0, hi, hz0, hz1, hz2⟩ := info_parts Try.info3
  have hB0 : Below w.heap.size w ((((w.alloc (.cells #[.int .i64 W, .int .i64 H, .slice (some ⟨b, off, none⟩) L cap] 24)).alloc (.cells #[.int .i64 W, .int .i64 H, .slice (some ⟨b', off', none⟩) L cap'] 24)).alloc (.cells #[.int .i64 0, .int .i64 0, .slice none 0 0] 24)).alloc (.cells #[.int .i64 W, .int .i64 H, .slice none 0 0] 24)) := ((((Below.refl _ _).alloc (Nat.le_refl _) _).alloc (by simp) _).alloc (by simp; omega) _).alloc (by simp; omega) _
  have hst := Acc.start (((w.alloc (.cells #[.int .i64 W, .int .i64 H, .slice (some ⟨b, off, none⟩) L cap] 24)).alloc (.cells #[.int .i64 W, .int .i64 H, .slice (some ⟨b', off', none⟩) L cap'] 24)).alloc (.cells #[.int .i64 0, .int .i64 0, .slice none 0 0] 24)) (w.heap.size + 1 + 1 + 1) W H (by simp)
  have p2 : ((((w.alloc (.cells #[.int .i64 W, .int .i64 H, .slice (some ⟨b, off, none⟩) L cap] 24)).alloc (.cells #[.int .i64 W, .int .i64 H, .slice (some ⟨b', off', none⟩) L cap'] 24)).alloc (.cells #[.int .i64 0, .int .i64 0, .slice none 0 0] 24)).alloc (.cells #[.int .i64 W, .int .i64 H, .slice none 0 0] 24)).cell? ⟨w.heap.size, 2, none⟩ = some (.slice (some ⟨b, off, none⟩) L cap) := by simp [go_sem]
  have q2 : ((((w.alloc (.cells #[.int .i64 W, .int .i64 H, .slice (some ⟨b, off, none⟩) L cap] 24)).alloc (.cells #[.int .i64 W, .int .i64 H, .slice (some ⟨b', off', none⟩) L cap'] 24)).alloc (.cells #[.int .i64 0, .int .i64 0, .slice none 0 0] 24)).alloc (.cells #[.int .i64 W, .int .i64 H, .slice none 0 0] 24)).cell? ⟨w.heap.size + 1, 2, none⟩ = some (.slice (some ⟨b', off', none⟩) L cap') := by simp [go_sem]
  have z0 : ((((w.alloc (.cells #[.int .i64 W, .int .i64 H, .slice (some ⟨b, off, none⟩) L cap] 24)).alloc (.cells #[.int .i64 W, .int .i64 H, .slice (some ⟨b', off', none⟩) L cap'] 24)).alloc (.cells #[.int .i64 0, .int .i64 0, .slice none 0 0] 24)).alloc (.cells #[.int .i64 W, .int .i64 H, .slice none 0 0] 24)).cell? ⟨w.heap.size + 1 + 1, 0, none⟩ = some (.int .i64 0) := by simp [go_sem]
  have z1 : ((((w.alloc (.cells #[.int .i64 W, .int .i64 H, .slice (some ⟨b, off, none⟩) L cap] 24)).alloc (.cells #[.int .i64 W, .int .i64 H, .slice (some ⟨b', off', none⟩) L cap'] 24)).alloc (.cells #[.int .i64 0, .int .i64 0, .slice none 0 0] 24)).alloc (.cells #[.int .i64 W, .int .i64 H, .slice none 0 0] 24)).cell? ⟨w.heap.size + 1 + 1, 1, none⟩ = some (.int .i64 0) := by simp [go_sem]
  have z2 : ((((w.alloc (.cells #[.int .i64 W, .int .i64 H, .slice (some ⟨b, off, none⟩) L cap] 24)).alloc (.cells #[.int .i64 W, .int .i64 H, .slice (some ⟨b', off', none⟩) L cap'] 24)).alloc (.cells #[.int .i64 0, .int .i64 0, .slice none 0 0] 24)).alloc (.cells #[.int .i64 W, .int .i64 H, .slice none 0 0] 24)).cell? ⟨w.heap.size + 1 + 1, 2, none⟩ = some (.slice none 0 0) := by simp [go_sem]
  have y0 : ∀ o, ((((w.alloc (.cells #[.int .i64 W, .int .i64 H, .slice (some ⟨b, off, none⟩) L cap] 24)).alloc (.cells #[.int .i64 W, .int .i64 H, .slice (some ⟨b', off', none⟩) L cap'] 24)).alloc (.cells #[.int .i64 0, .int .i64 0, .slice none 0 0] 24)).alloc (.cells #[.int .i64 W, .int .i64 H, .slice none 0 0] 24)).frozen? ⟨w.heap.size + 1 + 1, o, none⟩ = false := fun o => by simp [go_sem]
  go_enter Try.func27, Try.ntmps27
  go_wp2
  generalize hw0 : ((((w.alloc (.cells #[.int .i64 W, .int .i64 H, .slice (some ⟨b, off, none⟩) L cap] 24)).alloc (.cells #[.int .i64 W, .int .i64 H, .slice (some ⟨b', off', none⟩) L cap'] 24)).alloc (.cells #[.int .i64 0, .int .i64 0, .slice none 0 0] 24)).alloc (.cells #[.int .i64 W, .int .i64 H, .slice none 0 0] 24)) = w0 at hB0 hst p2 q2 z0 z1 z2 y0 ⊢
  clear hw0
  go_loopw [8] (fun i wr => ∃ (n : Nat) (v : Value), n ≤ L ∧ i = .int .i64 n ∧ Acc (w.heap.size + 1 + 1 + 1) w0 wr W H v (lin 5 ps qs n)) (fun i _ => L - (intOf i).toNat)
  case atStart => exact ⟨0, .slice none 0 0, Nat.zero_le _, rfl, hst⟩
  case round =>
    obtain ⟨n, v, hn, rfl, hacc⟩ := hrel
    obtain ⟨q0, q1, qv, qf⟩ := hacc.cells
    have hsz := hacc.siz
    have hbW : Below w.heap.size w wr := hB0.trans (hacc.bel.mono (by omega))
    have k2 : wr.cell? ⟨w.heap.size, 2, none⟩ = some (.slice (some ⟨b, off, none⟩) L cap) := (hacc.bel.cell (by simp; omega)).trans p2
    have k3 : wr.cell? ⟨w.heap.size + 1, 2, none⟩ = some (.slice (some ⟨b', off', none⟩) L cap') := (hacc.bel.cell (by simp)).trans q2
    by_cases hlt : n < L
    · have hcn := (hbW.cell (p := ⟨b, off + n, none⟩) hb).trans (hc n hlt)
      have hcn' := (hbW.cell (p := ⟨b', off' + n, none⟩) hb').trans (hc' n hlt)
      obtain ⟨hx0, hx1⟩ := hp n hlt
      obtain ⟨hy0, hy1⟩ := hq n hlt
      have hlen : (lin 5 ps qs n).length = n := lin_length _ _ _ _
      have hsuc := lin_succ 5 ps qs n
      generalize ps.getD n 0 = x at hcn hx0 hx1 hsuc
      generalize qs.getD n 0 = y at hcn' hy0 hy1 hsuc
      obtain ⟨gx, hgx⟩ : ∃ gx, gx = twoG 5 x y := ⟨_, rfl⟩
      have hgv : (if 0 < x - y then x - y else 0) = gx := by rw [hgx]; simp only [twoG]; simp ; split <;> omega
      have hgv2 : (if y < x then x - y else 0) = gx := by rw [hgx]; simp only [twoG]; simp ; split <;> omega
      rw [← hgx] at hsuc
      have HS : Hid (lin 5 ps qs (n + 1) = lin 5 ps qs n ++ [gx]) := hsuc
      clear hsuc hgx hc hc' hp hq
      go_wp2
      go_quiet (fail)
      have hac2 := hacc.below (below_drewN (Below.refl _ _) nq)
      go_wp2_with (at_builtin; refine wpList_append_own _ rfl _ _ 22 rfl (w.heap.size + 1 + 1 + 1 + 1) 3 i0 (.int .i64 0) 1 8 Try.underlying22 hi hz0 hz1 hz2 rfl (by decide) _ _ _ rfl (World.ownsRow.alloc hac2.own _) ⟨_, 0, none⟩ 1 1 [.int .i64 gx] rfl rfl (cell_one_new _ _ _) (by intro u hu; simp at hu; subst hu; rfl) (by rw [hlen]; unfold maxLen; omega) (by rw [hlen]; omega) (by simp; omega) ?_; intro v' w9 hown9 hgrow9 _; obtain ⟨hm, m2, m3⟩ := hac2.mid hgrow9; obtain ⟨a', cap', hv'⟩ := owns_slice hown9; subst hv')
      have R := hac2.push hgrow9 hown9
      rw [hlen] at R
      go_roundw
      case rel => exact ⟨n + 1, _, by omega, by go_num, by rw [HS.out]; exact R⟩
      case measure => simp [intOf]; omega
    · have hnL : n = L := by omega
      subst hnL
      have hlen : (lin 5 ps qs n).length = n := lin_length _ _ _ _
      obtain ⟨a, cap', rfl, hints⟩ := hacc.ints (by rw [hlen]; omega)
      have d0 : wr.cell? ⟨w.heap.size + 1 + 1, 0, none⟩ = some (.int .i64 0) := (hacc.bel.cell (by simp)).trans z0
      have d1 : wr.cell? ⟨w.heap.size + 1 + 1, 1, none⟩ = some (.int .i64 0) := (hacc.bel.cell (by simp)).trans z1
      have d2 : wr.cell? ⟨w.heap.size + 1 + 1, 2, none⟩ = some (.slice none 0 0) := (hacc.bel.cell (by simp)).trans z2
      have f0 : wr.frozen? ⟨w.heap.size + 1 + 1, 0, none⟩ = false := (hacc.bel.frozen (by simp)).trans (y0 0)
      have f1 : wr.frozen? ⟨w.heap.size + 1 + 1, 1, none⟩ = false := (hacc.bel.frozen (by simp)).trans (y0 1)
      have f2 : wr.frozen? ⟨w.heap.size + 1 + 1, 2, none⟩ = false := (hacc.bel.frozen (by simp)).trans (y0 2)
      rw [hlen] at hints qv
      go_wp2
      refine bodyPost_ret (v := .agg #[.int .i64 W, .int .i64 H, .slice a n cap']) (by simp [results, Try.results27, go_sem, d0, d1, d2]) rfl ⟨a, cap', rfl, ?_, ?_⟩
      · exact (((hints.setCell (by simp) _).setCell (by simp) _).setCell (by simp) _).mono (by omega)
      · exact (((hB0.trans (hacc.bel.mono (by omega))).setCell (by simp; omega) _).setCell (by simp; omega) _).setCell (by simp; omega) _
set_option maxRecDepth 100000 in
set_option maxHeartbeats 1000000 in
theorem twoOf_6 {w : World} {b off cap b' off' cap' W H L : Nat} {ps qs : List Int} (hb : b < w.heap.size) (hb' : b' < w.heap.size) (hL : L ≤ 256) (hc : ∀ j, j < L → w.cell? ⟨b, off + j, none⟩ = some (.int .i64 (ps.getD j 0))) (hc' : ∀ j, j < L → w.cell? ⟨b', off' + j, none⟩ = some (.int .i64 (qs.getD j 0)))
    (hp : ∀ j, j < L → 0 ≤ ps.getD j 0 ∧ ps.getD j 0 ≤ 65535) (hq : ∀ j, j < L → 0 ≤ qs.getD j 0 ∧ qs.getD j 0 ≤ 65535) :
    Calls Try.prog 27 #[.int .i64 6, .agg #[.int .i64 W, .int .i64 H, .slice (some ⟨b, off, none⟩) L cap], .agg #[.int .i64 W, .int .i64 H, .slice (some ⟨b', off', none⟩) L cap']] w fun e w' =>
      ∃ a cap', e = .returned (.agg #[.int .i64 W, .int .i64 H, .slice a L cap']) ∧ Ints w.heap.size w' a L (lin 6 ps qs L) ∧ Below w.heap.size w w' := by
  obtain ⟨i0, hi, hz0, hz1, hz2⟩ := info_parts Try.info3
  have hB0 : Below w.heap.size w ((((w.alloc (.cells #[.int .i64 W, .int .i64 H, .slice (some ⟨b, off, none⟩) L cap] 24)).alloc (.cells #[.int .i64 W, .int .i64 H, .slice (some ⟨b', off', none⟩) L cap'] 24)).alloc (.cells #[.int .i64 0, .int .i64 0, .slice none 0 0] 24)).alloc (.cells #[.int .i64 W, .int .i64 H, .slice none 0 0] 24)) := ((((Below.refl _ _).alloc (Nat.le_refl _) _).alloc (by simp) _).alloc (by simp; omega) _).alloc (by simp; omega) _
  have hst := Acc.start (((w.alloc (.cells #[.int .i64 W, .int .i64 H, .slice (some ⟨b, off, none⟩) L cap] 24)).alloc (.cells #[.int .i64 W, .int .i64 H, .slice (some ⟨b', off', none⟩) L cap'] 24)).alloc (.cells #[.int .i64 0, .int .i64 0, .slice none 0 0] 24)) (w.heap.size + 1 + 1 + 1) W H (by simp)
  have p2 : ((((w.alloc (.cells #[.int .i64 W, .int .i64 H, .slice (some ⟨b, off, none⟩) L cap] 24)).alloc (.cells #[.int .i64 W, .int .i64 H, .slice (some ⟨b', off', none⟩) L cap'] 24)).alloc (.cells #[.int .i64 0, .int .i64 0, .slice none 0 0] 24)).alloc (.cells #[.int .i64 W, .int .i64 H, .slice none 0 0] 24)).cell? ⟨w.heap.size, 2, none⟩ = some (.slice (some ⟨b, off, none⟩) L cap) := by simp [go_sem]
  have q2 : ((((w.alloc (.cells #[.int .i64 W, .int .i64 H, .slice (some ⟨b, off, none⟩) L cap] 24)).alloc (.cells #[.int .i64 W, .int .i64 H, .slice (some ⟨b', off', none⟩) L cap'] 24)).alloc (.cells #[.int .i64 0, .int .i64 0, .slice none 0 0] 24)).alloc (.cells #[.int .i64 W, .int .i64 H, .slice none 0 0] 24)).cell? ⟨w.heap.size + 1, 2, none⟩ = some (.slice (some ⟨b', off', none⟩) L cap') := by simp [go_sem]
  have z0 : ((((w.alloc (.cells #[.int .i64 W, .int .i64 H, .slice (some ⟨b, off, none⟩) L cap] 24)).alloc (.cells #[.int .i64 W, .int .i64 H, .slice (some ⟨b', off', none⟩) L cap'] 24)).alloc (.cells #[.int .i64 0, .int .i64 0, .slice none 0 0] 24)).alloc (.cells #[.int .i64 W, .int .i64 H, .slice none 0 0] 24)).cell? ⟨w.heap.size + 1 + 1, 0, none⟩ = some (.int .i64 0) := by simp [go_sem]
  have z1 : ((((w.alloc (.cells #[.int .i64 W, .int .i64 H, .slice (some ⟨b, off, none⟩) L cap] 24)).alloc (.cells #[.int .i64 W, .int .i64 H, .slice (some ⟨b', off', none⟩) L cap'] 24)).alloc (.cells #[.int .i64 0, .int .i64 0, .slice none 0 0] 24)).alloc (.cells #[.int .i64 W, .int .i64 H, .slice none 0 0] 24)).cell? ⟨w.heap.size + 1 + 1, 1, none⟩ = some (.int .i64 0) := by simp [go_sem]
  have z2 : ((((w.alloc (.cells #[.int .i64 W, .int .i64 H, .slice (some ⟨b, off, none⟩) L cap] 24)).alloc (.cells #[.int .i64 W, .int .i64 H, .slice (some ⟨b', off', none⟩) L cap'] 24)).alloc (.cells #[.int .i64 0, .int .i64 0, .slice none 0 0] 24)).alloc (.cells #[.int .i64 W, .int .i64 H, .slice none 0 0] 24)).cell? ⟨w.heap.size + 1 + 1, 2, none⟩ = some (.slice none 0 0) := by simp [go_sem]
  have y0 : ∀ o, ((((w.alloc (.cells #[.int .i64 W, .int .i64 H, .slice (some ⟨b, off, none⟩) L cap] 24)).alloc (.cells #[.int .i64 W, .int .i64 H, .slice (some ⟨b', off', none⟩) L cap'] 24)).alloc (.cells #[.int .i64 0, .int .i64 0, .slice none 0 0] 24)).alloc (.cells #[.int .i64 W, .int .i64 H, .slice none 0 0] 24)).frozen? ⟨w.heap.size + 1 + 1, o, none⟩ = false := fun o => by simp [go_sem]
  go_enter Try.func27, Try.ntmps27
  go_wp2
  generalize hw0 : ((((w.alloc (.cells #[.int .i64 W, .int .i64 H, .slice (some ⟨b, off, none⟩) L cap] 24)).alloc (.cells #[.int .i64 W, .int .i64 H, .slice (some ⟨b', off', none⟩) L cap'] 24)).alloc (.cells #[.int .i64 0, .int .i64 0, .slice none 0 0] 24)).alloc (.cells #[.int .i64 W, .int .i64 H, .slice none 0 0] 24)) = w0 at hB0 hst p2 q2 z0 z1 z2 y0 ⊢
  clear hw0
  go_loopw [8] (fun i wr => ∃ (n : Nat) (v : Value), n ≤ L ∧ i = .int .i64 n ∧ Acc (w.heap.size + 1 + 1 + 1) w0 wr W H v (lin 6 ps qs n)) (fun i _ => L - (intOf i).toNat)
  case atStart => exact ⟨0, .slice none 0 0, Nat.zero_le _, rfl, hst⟩
  case round =>
    obtain ⟨n, v, hn, rfl, hacc⟩ := hrel
    obtain ⟨q0, q1, qv, qf⟩ := hacc.cells
    have hsz := hacc.siz
    have hbW : Below w.heap.size w wr := hB0.trans (hacc.bel.mono (by omega))
    have k2 : wr.cell? ⟨w.heap.size, 2, none⟩ = some (.slice (some ⟨b, off, none⟩) L cap) := (hacc.bel.cell (by simp; omega)).trans p2
    have k3 : wr.cell? ⟨w.heap.size + 1, 2, none⟩ = some (.slice (some ⟨b', off', none⟩) L cap') := (hacc.bel.cell (by simp)).trans q2
    by_cases hlt : n < L
    · have hcn := (hbW.cell (p := ⟨b, off + n, none⟩) hb).trans (hc n hlt)
      have hcn' := (hbW.cell (p := ⟨b', off' + n, none⟩) hb').trans (hc' n hlt)
      obtain ⟨hx0, hx1⟩ := hp n hlt
      obtain ⟨hy0, hy1⟩ := hq n hlt
      have hlen : (lin 6 ps qs n).length = n := lin_length _ _ _ _
      have hsuc := lin_succ 6 ps qs n
      generalize ps.getD n 0 = x at hcn hx0 hx1 hsuc
      generalize qs.getD n 0 = y at hcn' hy0 hy1 hsuc
      have h1 : 0 ≤ x * y := Int.mul_nonneg hx0 hy0
      have h2 : x * y ≤ 65535 * 65535 := Int.mul_le_mul hx1 hy1 hy0 (by omega)
      obtain ⟨gx, hgx⟩ : ∃ gx, gx = twoG 6 x y := ⟨_, rfl⟩
      have hgv : x * y / 65535 = gx := by rw [hgx]; simp [twoG]
      rw [← hgx] at hsuc
      have HS : Hid (lin 6 ps qs (n + 1) = lin 6 ps qs n ++ [gx]) := hsuc
      clear hsuc hgx hc hc' hp hq
      go_wp2
      go_quiet (fail)
      have hac2 := hacc.below (below_drewN (Below.refl _ _) nq)
      go_wp2_with (at_builtin; refine wpList_append_own _ rfl _ _ 22 rfl (w.heap.size + 1 + 1 + 1 + 1) 3 i0 (.int .i64 0) 1 8 Try.underlying22 hi hz0 hz1 hz2 rfl (by decide) _ _ _ rfl (World.ownsRow.alloc hac2.own _) ⟨_, 0, none⟩ 1 1 [.int .i64 gx] rfl rfl (cell_one_new _ _ _) (by intro u hu; simp at hu; subst hu; rfl) (by rw [hlen]; unfold maxLen; omega) (by rw [hlen]; omega) (by simp; omega) ?_; intro v' w9 hown9 hgrow9 _; obtain ⟨hm, m2, m3⟩ := hac2.mid hgrow9; obtain ⟨a', cap', hv'⟩ := owns_slice hown9; subst hv')
      have R := hac2.push hgrow9 hown9
      rw [hlen] at R
      go_roundw
      case rel => exact ⟨n + 1, _, by omega, by go_num, by rw [HS.out]; exact R⟩
      case measure => simp [intOf]; omega
    · have hnL : n = L := by omega
      subst hnL
      have hlen : (lin 6 ps qs n).length = n := lin_length _ _ _ _
      obtain ⟨a, cap', rfl, hints⟩ := hacc.ints (by rw [hlen]; omega)
      have d0 : wr.cell? ⟨w.heap.size + 1 + 1, 0, none⟩ = some (.int .i64 0) := (hacc.bel.cell (by simp)).trans z0
      have d1 : wr.cell? ⟨w.heap.size + 1 + 1, 1, none⟩ = some (.int .i64 0) := (hacc.bel.cell (by simp)).trans z1
      have d2 : wr.cell? ⟨w.heap.size + 1 + 1, 2, none⟩ = some (.slice none 0 0) := (hacc.bel.cell (by simp)).trans z2
      have f0 : wr.frozen? ⟨w.heap.size + 1 + 1, 0, none⟩ = false := (hacc.bel.frozen (by simp)).trans (y0 0)
      have f1 : wr.frozen? ⟨w.heap.size + 1 + 1, 1, none⟩ = false := (hacc.bel.frozen (by simp)).trans (y0 1)
      have f2 : wr.frozen? ⟨w.heap.size + 1 + 1, 2, none⟩ = false := (hacc.bel.frozen (by simp)).trans (y0 2)
      rw [hlen] at hints qv
      go_wp2
      refine bodyPost_ret (v := .agg #[.int .i64 W, .int .i64 H, .slice a n cap']) (by simp [results, Try.results27, go_sem, d0, d1, d2]) rfl ⟨a, cap', rfl, ?_, ?_⟩
      · exact (((hints.setCell (by simp) _).setCell (by simp) _).setCell (by simp) _).mono (by omega)
      · exact (((hB0.trans (hacc.bel.mono (by omega))).setCell (by simp; omega) _).setCell (by simp; omega) _).setCell (by simp; omega) _
set_option maxRecDepth 100000 in
set_option maxHeartbeats 1000000 in
theorem twoOf_7 {w : World} {b off cap b' off' cap' W H L : Nat} {ps qs : List Int} (hb : b < w.heap.size) (hb' : b' < w.heap.size) (hL : L ≤ 256) (hc : ∀ j, j < L → w.cell? ⟨b, off + j, none⟩ = some (.int .i64 (ps.getD j 0))) (hc' : ∀ j, j < L → w.cell? ⟨b', off' + j, none⟩ = some (.int .i64 (qs.getD j 0)))
    (hp : ∀ j, j < L → 0 ≤ ps.getD j 0 ∧ ps.getD j 0 ≤ 65535) (hq : ∀ j, j < L → 0 ≤ qs.getD j 0 ∧ qs.getD j 0 ≤ 65535) :
    Calls Try.prog 27 #[.int .i64 7, .agg #[.int .i64 W, .int .i64 H, .slice (some ⟨b, off, none⟩) L cap], .agg #[.int .i64 W, .int .i64 H, .slice (some ⟨b', off', none⟩) L cap']] w fun e w' =>
      ∃ a cap', e = .returned (.agg #[.int .i64 W, .int .i64 H, .slice a L cap']) ∧ Ints w.heap.size w' a L (lin 7 ps qs L) ∧ Below w.heap.size w w' := by
  obtain ⟨i0, hi, hz0, hz1, hz2⟩ := info_parts Try.info3
  have hB0 : Below w.heap.size w ((((w.alloc (.cells #[.int .i64 W, .int .i64 H, .slice (some ⟨b, off, none⟩) L cap] 24)).alloc (.cells #[.int .i64 W, .int .i64 H, .slice (some ⟨b', off', none⟩) L cap'] 24)).alloc (.cells #[.int .i64 0, .int .i64 0, .slice none 0 0] 24)).alloc (.cells #[.int .i64 W, .int .i64 H, .slice none 0 0] 24)) := ((((Below.refl _ _).alloc (Nat.le_refl _) _).alloc (by simp) _).alloc (by simp; omega) _).alloc (by simp; omega) _
  have hst := Acc.start (((w.alloc (.cells #[.int .i64 W, .int .i64 H, .slice (some ⟨b, off, none⟩) L cap] 24)).alloc (.cells #[.int .i64 W, .int .i64 H, .slice (some ⟨b', off', none⟩) L cap'] 24)).alloc (.cells #[.int .i64 0, .int .i64 0, .slice none 0 0] 24)) (w.heap.size + 1 + 1 + 1) W H (by simp)
  have p2 : ((((w.alloc (.cells #[.int .i64 W, .int .i64 H, .slice (some ⟨b, off, none⟩) L cap] 24)).alloc (.cells #[.int .i64 W, .int .i64 H, .slice (some ⟨b', off', none⟩) L cap'] 24)).alloc (.cells #[.int .i64 0, .int .i64 0, .slice none 0 0] 24)).alloc (.cells #[.int .i64 W, .int .i64 H, .slice none 0 0] 24)).cell? ⟨w.heap.size, 2, none⟩ = some (.slice (some ⟨b, off, none⟩) L cap) := by simp [go_sem]
  have q2 : ((((w.alloc (.cells #[.int .i64 W, .int .i64 H, .slice (some ⟨b, off, none⟩) L cap] 24)).alloc (.cells #[.int .i64 W, .int .i64 H, .slice (some ⟨b', off', none⟩) L cap'] 24)).alloc (.cells #[.int .i64 0, .int .i64 0, .slice none 0 0] 24)).alloc (.cells #[.int .i64 W, .int .i64 H, .slice none 0 0] 24)).cell? ⟨w.heap.size + 1, 2, none⟩ = some (.slice (some ⟨b', off', none⟩) L cap') := by simp [go_sem]
  have z0 : ((((w.alloc (.cells #[.int .i64 W, .int .i64 H, .slice (some ⟨b, off, none⟩) L cap] 24)).alloc (.cells #[.int .i64 W, .int .i64 H, .slice (some ⟨b', off', none⟩) L cap'] 24)).alloc (.cells #[.int .i64 0, .int .i64 0, .slice none 0 0] 24)).alloc (.cells #[.int .i64 W, .int .i64 H, .slice none 0 0] 24)).cell? ⟨w.heap.size + 1 + 1, 0, none⟩ = some (.int .i64 0) := by simp [go_sem]
  have z1 : ((((w.alloc (.cells #[.int .i64 W, .int .i64 H, .slice (some ⟨b, off, none⟩) L cap] 24)).alloc (.cells #[.int .i64 W, .int .i64 H, .slice (some ⟨b', off', none⟩) L cap'] 24)).alloc (.cells #[.int .i64 0, .int .i64 0, .slice none 0 0] 24)).alloc (.cells #[.int .i64 W, .int .i64 H, .slice none 0 0] 24)).cell? ⟨w.heap.size + 1 + 1, 1, none⟩ = some (.int .i64 0) := by simp [go_sem]
  have z2 : ((((w.alloc (.cells #[.int .i64 W, .int .i64 H, .slice (some ⟨b, off, none⟩) L cap] 24)).alloc (.cells #[.int .i64 W, .int .i64 H, .slice (some ⟨b', off', none⟩) L cap'] 24)).alloc (.cells #[.int .i64 0, .int .i64 0, .slice none 0 0] 24)).alloc (.cells #[.int .i64 W, .int .i64 H, .slice none 0 0] 24)).cell? ⟨w.heap.size + 1 + 1, 2, none⟩ = some (.slice none 0 0) := by simp [go_sem]
  have y0 : ∀ o, ((((w.alloc (.cells #[.int .i64 W, .int .i64 H, .slice (some ⟨b, off, none⟩) L cap] 24)).alloc (.cells #[.int .i64 W, .int .i64 H, .slice (some ⟨b', off', none⟩) L cap'] 24)).alloc (.cells #[.int .i64 0, .int .i64 0, .slice none 0 0] 24)).alloc (.cells #[.int .i64 W, .int .i64 H, .slice none 0 0] 24)).frozen? ⟨w.heap.size + 1 + 1, o, none⟩ = false := fun o => by simp [go_sem]
  go_enter Try.func27, Try.ntmps27
  go_wp2
  generalize hw0 : ((((w.alloc (.cells #[.int .i64 W, .int .i64 H, .slice (some ⟨b, off, none⟩) L cap] 24)).alloc (.cells #[.int .i64 W, .int .i64 H, .slice (some ⟨b', off', none⟩) L cap'] 24)).alloc (.cells #[.int .i64 0, .int .i64 0, .slice none 0 0] 24)).alloc (.cells #[.int .i64 W, .int .i64 H, .slice none 0 0] 24)) = w0 at hB0 hst p2 q2 z0 z1 z2 y0 ⊢
  clear hw0
  go_loopw [8] (fun i wr => ∃ (n : Nat) (v : Value), n ≤ L ∧ i = .int .i64 n ∧ Acc (w.heap.size + 1 + 1 + 1) w0 wr W H v (lin 7 ps qs n)) (fun i _ => L - (intOf i).toNat)
  case atStart => exact ⟨0, .slice none 0 0, Nat.zero_le _, rfl, hst⟩
  case round =>
    obtain ⟨n, v, hn, rfl, hacc⟩ := hrel
    obtain ⟨q0, q1, qv, qf⟩ := hacc.cells
    have hsz := hacc.siz
    have hbW : Below w.heap.size w wr := hB0.trans (hacc.bel.mono (by omega))
    have k2 : wr.cell? ⟨w.heap.size, 2, none⟩ = some (.slice (some ⟨b, off, none⟩) L cap) := (hacc.bel.cell (by simp; omega)).trans p2
    have k3 : wr.cell? ⟨w.heap.size + 1, 2, none⟩ = some (.slice (some ⟨b', off', none⟩) L cap') := (hacc.bel.cell (by simp)).trans q2
    by_cases hlt : n < L
    · have hcn := (hbW.cell (p := ⟨b, off + n, none⟩) hb).trans (hc n hlt)
      have hcn' := (hbW.cell (p := ⟨b', off' + n, none⟩) hb').trans (hc' n hlt)
      obtain ⟨hx0, hx1⟩ := hp n hlt
      obtain ⟨hy0, hy1⟩ := hq n hlt
      have hlen : (lin 7 ps qs n).length = n := lin_length _ _ _ _
      have hsuc := lin_succ 7 ps qs n
      generalize ps.getD n 0 = x at hcn hx0 hx1 hsuc
      generalize qs.getD n 0 = y at hcn' hy0 hy1 hsuc
      obtain ⟨gx, hgx⟩ : ∃ gx, gx = twoG 7 x y := ⟨_, rfl⟩
      have hgv : (if x < y then y else x) = gx := by rw [hgx]; simp only [twoG]; simp ; split <;> omega
      rw [← hgx] at hsuc
      have HS : Hid (lin 7 ps qs (n + 1) = lin 7 ps qs n ++ [gx]) := hsuc
      clear hsuc hgx hc hc' hp hq
      go_wp2
      go_quiet (fail)
      have hac2 := hacc.below (below_drewN (Below.refl _ _) nq)
      go_wp2_with (at_builtin; refine wpList_append_own _ rfl _ _ 22 rfl (w.heap.size + 1 + 1 + 1 + 1) 3 i0 (.int .i64 0) 1 8 Try.underlying22 hi hz0 hz1 hz2 rfl (by decide) _ _ _ rfl (World.ownsRow.alloc hac2.own _) ⟨_, 0, none⟩ 1 1 [.int .i64 gx] rfl rfl (cell_one_new _ _ _) (by intro u hu; simp at hu; subst hu; rfl) (by rw [hlen]; unfold maxLen; omega) (by rw [hlen]; omega) (by simp; omega) ?_; intro v' w9 hown9 hgrow9 _; obtain ⟨hm, m2, m3⟩ := hac2.mid hgrow9; obtain ⟨a', cap', hv'⟩ := owns_slice hown9; subst hv')
      have R := hac2.push hgrow9 hown9
      rw [hlen] at R
      go_roundw
      case rel => exact ⟨n + 1, _, by omega, by go_num, by rw [HS.out]; exact R⟩
      case measure => simp [intOf]; omega
    · have hnL : n = L := by omega
      subst hnL
      have hlen : (lin 7 ps qs n).length = n := lin_length _ _ _ _
      obtain ⟨a, cap', rfl, hints⟩ := hacc.ints (by rw [hlen]; omega)
      have d0 : wr.cell? ⟨w.heap.size + 1 + 1, 0, none⟩ = some (.int .i64 0) := (hacc.bel.cell (by simp)).trans z0
      have d1 : wr.cell? ⟨w.heap.size + 1 + 1, 1, none⟩ = some (.int .i64 0) := (hacc.bel.cell (by simp)).trans z1
      have d2 : wr.cell? ⟨w.heap.size + 1 + 1, 2, none⟩ = some (.slice none 0 0) := (hacc.bel.cell (by simp)).trans z2
      have f0 : wr.frozen? ⟨w.heap.size + 1 + 1, 0, none⟩ = false := (hacc.bel.frozen (by simp)).trans (y0 0)
      have f1 : wr.frozen? ⟨w.heap.size + 1 + 1, 1, none⟩ = false := (hacc.bel.frozen (by simp)).trans (y0 1)
      have f2 : wr.frozen? ⟨w.heap.size + 1 + 1, 2, none⟩ = false := (hacc.bel.frozen (by simp)).trans (y0 2)
      rw [hlen] at hints qv
      go_wp2
      refine bodyPost_ret (v := .agg #[.int .i64 W, .int .i64 H, .slice a n cap']) (by simp [results, Try.results27, go_sem, d0, d1, d2]) rfl ⟨a, cap', rfl, ?_, ?_⟩
      · exact (((hints.setCell (by simp) _).setCell (by simp) _).setCell (by simp) _).mono (by omega)
      · exact (((hB0.trans (hacc.bel.mono (by omega))).setCell (by simp; omega) _).setCell (by simp; omega) _).setCell (by simp; omega) _
/-- The reference's TwoOf, of right images of one size. -/
theorem twoOf_any {W H b off b' off' : Nat} (op : Int) (cap cap' : Nat) {ps qs : List Int} {w : World} (hF : Fine w b off W H ps) (hG : Fine w b' off' W H qs) (hop : op = 4 ∨ op = 5 ∨ op = 6 ∨ op = 7) :
    Calls Try.prog 27 #[.int .i64 op, .agg #[.int .i64 W, .int .i64 H, .slice (some ⟨b, off, none⟩) (W * H) cap], .agg #[.int .i64 W, .int .i64 H, .slice (some ⟨b', off', none⟩) (W * H) cap']] w fun e w' =>
      ∃ a cap', e = .returned (.agg #[.int .i64 W, .int .i64 H, .slice a (W * H) cap']) ∧ Ints w.heap.size w' a (W * H) (pix W (fun x y => twoG op (px W ps x y) (px W qs x y)) (W * H)) ∧ Below w.heap.size w w' := by
  rw [← lin_pix op ps qs W (W * H)]
  have hL := hF.small.2
  have hp : ∀ j, j < W * H → 0 ≤ ps.getD j 0 ∧ ps.getD j 0 ≤ 65535 := fun j hj => by
    have hl : j < ps.length := by rw [hF.len]; exact hj
    rw [List.getD_eq_getElem?_getD, List.getElem?_eq_getElem hl]
    exact hF.num _ (List.getElem_mem hl)
  have hq : ∀ j, j < W * H → 0 ≤ qs.getD j 0 ∧ qs.getD j 0 ≤ 65535 := fun j hj => by
    have hl : j < qs.length := by rw [hG.len]; exact hj
    rw [List.getD_eq_getElem?_getD, List.getElem?_eq_getElem hl]
    exact hG.num _ (List.getElem_mem hl)
  rcases hop with rfl | rfl | rfl | rfl
  · exact twoOf_4 hF.hb hG.hb hL hF.cell hG.cell hp hq
  · exact twoOf_5 hF.hb hG.hb hL hF.cell hG.cell hp hq
  · exact twoOf_6 hF.hb hG.hb hL hF.cell hG.cell hp hq
  · exact twoOf_7 hF.hb hG.hb hL hF.cell hG.cell hp hq
end Go.Proofs.Ytfpkiimlaepnhaa
