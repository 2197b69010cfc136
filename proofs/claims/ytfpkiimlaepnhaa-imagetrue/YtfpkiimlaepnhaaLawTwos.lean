/-
  LAWTWOS: the walk of the law ImageTwos.
-/
import Derived.Test.YtfpkiimlaepnhaaTwoRef
import Derived.Test.YtfpkiimlaepnhaaLawMakes
namespace Go.Proofs.Ytfpkiimlaepnhaa
set_option maxRecDepth 100000
open Go.RowKit Im

set_option maxHeartbeats 1000000 in
theorem imageTwos_na (op : Int) (W H : Int) (a : Option Addr) (len cap : Nat) (ps : List Int) (W' H' : Int) (a' : Option Addr) (len' cap' : Nat) (qs : List Int) (w : World) (h : Ints 0 w a len ps) (h' : Ints 0 w a' len' qs) (hf : fineB W H ps = false) :
    Calls Try.prog 5 #[.int .i64 op, .agg #[.int .i64 W, .int .i64 H, .slice a len cap], .agg #[.int .i64 W', .int .i64 H', .slice a' len' cap']] w fun e w' => e = .returned (.bool true) ∧ Below w.heap.size w w' := by
  have hP := (Pic.new (W := W) (H := H) cap h).alloc (.cells #[.int .i64 W', .int .i64 H', .slice a' len' cap'] 24)
  have hQ := Pic.new (W := W') (H := H') cap' (h'.alloc (.cells #[.int .i64 W, .int .i64 H, .slice a len cap] 24))
  rw [show (w.alloc (.cells #[.int .i64 W, .int .i64 H, .slice a len cap] 24)).heap.size = w.heap.size + 1 by simp] at hQ
  have hb := below_box (below_box (Below.refl w.heap.size w) (.cells #[.int .i64 W, .int .i64 H, .slice a len cap] 24)) (.cells #[.int .i64 W', .int .i64 H', .slice a' len' cap'] 24)
  have htwo := two_form (W := W) (H := H) (W' := W') (H' := H') op cap cap' hP.ints hQ.ints (by rw [hf]; rfl)
  go_enter Try.func5, Try.ntmps5
  go_wp2_with fail
  refine htwo.mono ?_
  rintro e wA ⟨rfl, b1⟩
  clear htwo
  replace hP := ((hP.below b1).alloc (.cells #[.int .i64 0, .int .i64 0, .slice none 0 0] 24)).alloc (.cells #[.int .i64 0, .int .i64 0, .slice none 0 0] 24)
  replace hQ := ((hQ.below b1).alloc (.cells #[.int .i64 0, .int .i64 0, .slice none 0 0] 24)).alloc (.cells #[.int .i64 0, .int .i64 0, .slice none 0 0] 24)
  replace hb := below_box (below_box (below_step hb b1) (.cells #[.int .i64 0, .int .i64 0, .slice none 0 0] 24)) (.cells #[.int .i64 0, .int .i64 0, .slice none 0 0] 24)
  have hq := (Pic.new (W := 0) (H := 0) 0 (Ints.nil 0 wA)).alloc (.cells #[.int .i64 0, .int .i64 0, .slice none 0 0] 24)
  have hr := Pic.new (W := 0) (H := 0) 0 (Ints.nil 0 (wA.alloc (.cells #[.int .i64 0, .int .i64 0, .slice none 0 0] 24)))
  rw [show (wA.alloc (.cells #[.int .i64 0, .int .i64 0, .slice none 0 0] 24)).heap.size = wA.heap.size + 1 by simp] at hr
  obtain ⟨_, k0, k1, k2, _⟩ := id hP
  obtain ⟨_, j0, j1, j2, _⟩ := id hQ
  go_wp2_with fail
  clear k0 k1 k2 j0 j1 j2
  have hfiwB := isfine_any W H cap hP.ints
  rw [hf] at hfiwB
  refine hfiwB.mono ?_
  rintro e wB ⟨rfl, b2⟩
  clear hfiwB
  replace hP := hP.below b2
  replace hQ := hQ.below b2
  replace hq := hq.below b2
  replace hr := hr.below b2
  replace hb := below_step hb b2
  go_wp2_with fail
  refine (imageBegun_any _).mono ?_
  rintro e wY ⟨rfl, bY⟩
  replace hq := hq.below bY
  replace hr := hr.below bY
  replace hb := below_step hb bY
  obtain ⟨_, m0, m1, m2, _⟩ := id hq
  obtain ⟨_, o0, o1, o2, _⟩ := id hr
  go_wp2_with fail
  refine (sameImages_any 0 0 0 0 0 0 hq.ints hr.ints).mono ?_
  rintro e wZ ⟨rfl, bZ⟩
  go_wp2
  go_ret
  exact ⟨rfl, below_step hb bZ⟩
set_option maxHeartbeats 1000000 in
theorem imageTwos_nb (op : Int) (W H : Int) (a : Option Addr) (len cap : Nat) (ps : List Int) (W' H' : Int) (a' : Option Addr) (len' cap' : Nat) (qs : List Int) (w : World) (h : Ints 0 w a len ps) (h' : Ints 0 w a' len' qs) (hf : fineB W H ps = true) (hg : fineB W' H' qs = false) :
    Calls Try.prog 5 #[.int .i64 op, .agg #[.int .i64 W, .int .i64 H, .slice a len cap], .agg #[.int .i64 W', .int .i64 H', .slice a' len' cap']] w fun e w' => e = .returned (.bool true) ∧ Below w.heap.size w w' := by
  have hP := (Pic.new (W := W) (H := H) cap h).alloc (.cells #[.int .i64 W', .int .i64 H', .slice a' len' cap'] 24)
  have hQ := Pic.new (W := W') (H := H') cap' (h'.alloc (.cells #[.int .i64 W, .int .i64 H, .slice a len cap] 24))
  rw [show (w.alloc (.cells #[.int .i64 W, .int .i64 H, .slice a len cap] 24)).heap.size = w.heap.size + 1 by simp] at hQ
  have hb := below_box (below_box (Below.refl w.heap.size w) (.cells #[.int .i64 W, .int .i64 H, .slice a len cap] 24)) (.cells #[.int .i64 W', .int .i64 H', .slice a' len' cap'] 24)
  have htwo := two_form (W := W) (H := H) (W' := W') (H' := H') op cap cap' hP.ints hQ.ints (by rw [hf, hg]; rfl)
  go_enter Try.func5, Try.ntmps5
  go_wp2_with fail
  refine htwo.mono ?_
  rintro e wA ⟨rfl, b1⟩
  clear htwo
  replace hP := ((hP.below b1).alloc (.cells #[.int .i64 0, .int .i64 0, .slice none 0 0] 24)).alloc (.cells #[.int .i64 0, .int .i64 0, .slice none 0 0] 24)
  replace hQ := ((hQ.below b1).alloc (.cells #[.int .i64 0, .int .i64 0, .slice none 0 0] 24)).alloc (.cells #[.int .i64 0, .int .i64 0, .slice none 0 0] 24)
  replace hb := below_box (below_box (below_step hb b1) (.cells #[.int .i64 0, .int .i64 0, .slice none 0 0] 24)) (.cells #[.int .i64 0, .int .i64 0, .slice none 0 0] 24)
  have hq := (Pic.new (W := 0) (H := 0) 0 (Ints.nil 0 wA)).alloc (.cells #[.int .i64 0, .int .i64 0, .slice none 0 0] 24)
  have hr := Pic.new (W := 0) (H := 0) 0 (Ints.nil 0 (wA.alloc (.cells #[.int .i64 0, .int .i64 0, .slice none 0 0] 24)))
  rw [show (wA.alloc (.cells #[.int .i64 0, .int .i64 0, .slice none 0 0] 24)).heap.size = wA.heap.size + 1 by simp] at hr
  obtain ⟨_, k0, k1, k2, _⟩ := id hP
  obtain ⟨_, j0, j1, j2, _⟩ := id hQ
  go_wp2_with fail
  clear k0 k1 k2 j0 j1 j2
  have hfiwB := isfine_any W H cap hP.ints
  rw [hf] at hfiwB
  refine hfiwB.mono ?_
  rintro e wB ⟨rfl, b2⟩
  clear hfiwB
  replace hP := hP.below b2
  replace hQ := hQ.below b2
  replace hq := hq.below b2
  replace hr := hr.below b2
  replace hb := below_step hb b2
  obtain ⟨_, k0, k1, k2, _⟩ := id hP
  obtain ⟨_, j0, j1, j2, _⟩ := id hQ
  go_wp2_with fail
  clear k0 k1 k2 j0 j1 j2
  have hfiwC := isfine_any W' H' cap' hQ.ints
  rw [hg] at hfiwC
  refine hfiwC.mono ?_
  rintro e wC ⟨rfl, b3⟩
  clear hfiwC
  replace hP := hP.below b3
  replace hQ := hQ.below b3
  replace hq := hq.below b3
  replace hr := hr.below b3
  replace hb := below_step hb b3
  go_wp2_with fail
  refine (imageBegun_any _).mono ?_
  rintro e wY ⟨rfl, bY⟩
  replace hq := hq.below bY
  replace hr := hr.below bY
  replace hb := below_step hb bY
  obtain ⟨_, m0, m1, m2, _⟩ := id hq
  obtain ⟨_, o0, o1, o2, _⟩ := id hr
  go_wp2_with fail
  refine (sameImages_any 0 0 0 0 0 0 hq.ints hr.ints).mono ?_
  rintro e wZ ⟨rfl, bZ⟩
  go_wp2
  go_ret
  exact ⟨rfl, below_step hb bZ⟩
set_option maxHeartbeats 1000000 in
theorem imageTwos_kind (op : Int) (W H b off cap : Nat) (ps : List Int) (W' H' b' off' cap' : Nat) (qs : List Int) (w : World) (hF : Fine w b off W H ps) (hG : Fine w b' off' W' H' qs) (hw : withinB op 4 7 = false) :
    Calls Try.prog 5 #[.int .i64 op, .agg #[.int .i64 W, .int .i64 H, .slice (some ⟨b, off, none⟩) (W * H) cap], .agg #[.int .i64 W', .int .i64 H', .slice (some ⟨b', off', none⟩) (W' * H') cap']] w fun e w' => e = .returned (.bool true) ∧ Below w.heap.size w w' := by
  have hP := (Pic.new (W := W) (H := H) cap hF.ints).alloc (.cells #[.int .i64 W', .int .i64 H', .slice (some ⟨b', off', none⟩) (W' * H') cap'] 24)
  have hQ := Pic.new (W := W') (H := H') cap' (hG.ints.alloc (.cells #[.int .i64 W, .int .i64 H, .slice (some ⟨b, off, none⟩) (W * H) cap] 24))
  rw [show (w.alloc (.cells #[.int .i64 W, .int .i64 H, .slice (some ⟨b, off, none⟩) (W * H) cap] 24)).heap.size = w.heap.size + 1 by simp] at hQ
  have hb := below_box (below_box (Below.refl w.heap.size w) (.cells #[.int .i64 W, .int .i64 H, .slice (some ⟨b, off, none⟩) (W * H) cap] 24)) (.cells #[.int .i64 W', .int .i64 H', .slice (some ⟨b', off', none⟩) (W' * H') cap'] 24)
  have htwo := two_kind (op := op) cap cap' (hF.below hb) (hG.below hb) (by rintro rfl; cases hw) (by rintro rfl; cases hw) (by rintro rfl; cases hw) (by rintro rfl; cases hw)
  go_enter Try.func5, Try.ntmps5
  go_wp2_with fail
  refine htwo.mono ?_
  rintro e wA ⟨rfl, b1⟩
  clear htwo
  replace hP := ((hP.below b1).alloc (.cells #[.int .i64 0, .int .i64 0, .slice none 0 0] 24)).alloc (.cells #[.int .i64 0, .int .i64 0, .slice none 0 0] 24)
  replace hQ := ((hQ.below b1).alloc (.cells #[.int .i64 0, .int .i64 0, .slice none 0 0] 24)).alloc (.cells #[.int .i64 0, .int .i64 0, .slice none 0 0] 24)
  replace hb := below_box (below_box (below_step hb b1) (.cells #[.int .i64 0, .int .i64 0, .slice none 0 0] 24)) (.cells #[.int .i64 0, .int .i64 0, .slice none 0 0] 24)
  have hq := (Pic.new (W := 0) (H := 0) 0 (Ints.nil 0 wA)).alloc (.cells #[.int .i64 0, .int .i64 0, .slice none 0 0] 24)
  have hr := Pic.new (W := 0) (H := 0) 0 (Ints.nil 0 (wA.alloc (.cells #[.int .i64 0, .int .i64 0, .slice none 0 0] 24)))
  rw [show (wA.alloc (.cells #[.int .i64 0, .int .i64 0, .slice none 0 0] 24)).heap.size = wA.heap.size + 1 by simp] at hr
  obtain ⟨_, k0, k1, k2, _⟩ := id hP
  obtain ⟨_, j0, j1, j2, _⟩ := id hQ
  go_wp2_with fail
  clear k0 k1 k2 j0 j1 j2
  have hfiwB := isfine_any W H cap hP.ints
  rw [hF.fineB] at hfiwB
  refine hfiwB.mono ?_
  rintro e wB ⟨rfl, b2⟩
  clear hfiwB
  replace hP := hP.below b2
  replace hQ := hQ.below b2
  replace hq := hq.below b2
  replace hr := hr.below b2
  replace hb := below_step hb b2
  obtain ⟨_, k0, k1, k2, _⟩ := id hP
  obtain ⟨_, j0, j1, j2, _⟩ := id hQ
  go_wp2_with fail
  clear k0 k1 k2 j0 j1 j2
  have hfiwC := isfine_any W' H' cap' hQ.ints
  rw [hG.fineB] at hfiwC
  refine hfiwC.mono ?_
  rintro e wC ⟨rfl, b3⟩
  clear hfiwC
  replace hP := hP.below b3
  replace hQ := hQ.below b3
  replace hq := hq.below b3
  replace hr := hr.below b3
  replace hb := below_step hb b3
  go_wp2_with fail
  have hit := fun wx => isTwo_any op wx
  rw [hw] at hit
  refine (hit _).mono ?_
  rintro e w' ⟨rfl, rfl⟩
  clear hit
  go_wp2_with fail
  refine (imageBegun_any _).mono ?_
  rintro e wY ⟨rfl, bY⟩
  replace hq := hq.below bY
  replace hr := hr.below bY
  replace hb := below_step hb bY
  obtain ⟨_, m0, m1, m2, _⟩ := id hq
  obtain ⟨_, o0, o1, o2, _⟩ := id hr
  go_wp2_with fail
  refine (sameImages_any 0 0 0 0 0 0 hq.ints hr.ints).mono ?_
  rintro e wZ ⟨rfl, bZ⟩
  go_wp2
  go_ret
  exact ⟨rfl, below_step hb bZ⟩
set_option maxHeartbeats 1000000 in
theorem imageTwos_w (op : Int) (W H b off cap : Nat) (ps : List Int) (W' H' b' off' cap' : Nat) (qs : List Int) (w : World) (hF : Fine w b off W H ps) (hG : Fine w b' off' W' H' qs) (hw : withinB op 4 7 = true) (hne : ¬ W = W') :
    Calls Try.prog 5 #[.int .i64 op, .agg #[.int .i64 W, .int .i64 H, .slice (some ⟨b, off, none⟩) (W * H) cap], .agg #[.int .i64 W', .int .i64 H', .slice (some ⟨b', off', none⟩) (W' * H') cap']] w fun e w' => e = .returned (.bool true) ∧ Below w.heap.size w w' := by
  have hP := (Pic.new (W := W) (H := H) cap hF.ints).alloc (.cells #[.int .i64 W', .int .i64 H', .slice (some ⟨b', off', none⟩) (W' * H') cap'] 24)
  have hQ := Pic.new (W := W') (H := H') cap' (hG.ints.alloc (.cells #[.int .i64 W, .int .i64 H, .slice (some ⟨b, off, none⟩) (W * H) cap] 24))
  rw [show (w.alloc (.cells #[.int .i64 W, .int .i64 H, .slice (some ⟨b, off, none⟩) (W * H) cap] 24)).heap.size = w.heap.size + 1 by simp] at hQ
  have hb := below_box (below_box (Below.refl w.heap.size w) (.cells #[.int .i64 W, .int .i64 H, .slice (some ⟨b, off, none⟩) (W * H) cap] 24)) (.cells #[.int .i64 W', .int .i64 H', .slice (some ⟨b', off', none⟩) (W' * H') cap'] 24)
  have htwo := two_size (op := op) cap cap' (hF.below hb) (hG.below hb) (by simp [withinB] at hw; omega) (by omega)
  have g1 : ((W : Int) != (W' : Int)) = true := by simp; omega
  clear hne
  go_enter Try.func5, Try.ntmps5
  go_wp2_with fail
  refine htwo.mono ?_
  rintro e wA ⟨rfl, b1⟩
  clear htwo
  replace hP := ((hP.below b1).alloc (.cells #[.int .i64 0, .int .i64 0, .slice none 0 0] 24)).alloc (.cells #[.int .i64 0, .int .i64 0, .slice none 0 0] 24)
  replace hQ := ((hQ.below b1).alloc (.cells #[.int .i64 0, .int .i64 0, .slice none 0 0] 24)).alloc (.cells #[.int .i64 0, .int .i64 0, .slice none 0 0] 24)
  replace hb := below_box (below_box (below_step hb b1) (.cells #[.int .i64 0, .int .i64 0, .slice none 0 0] 24)) (.cells #[.int .i64 0, .int .i64 0, .slice none 0 0] 24)
  have hq := (Pic.new (W := 0) (H := 0) 0 (Ints.nil 0 wA)).alloc (.cells #[.int .i64 0, .int .i64 0, .slice none 0 0] 24)
  have hr := Pic.new (W := 0) (H := 0) 0 (Ints.nil 0 (wA.alloc (.cells #[.int .i64 0, .int .i64 0, .slice none 0 0] 24)))
  rw [show (wA.alloc (.cells #[.int .i64 0, .int .i64 0, .slice none 0 0] 24)).heap.size = wA.heap.size + 1 by simp] at hr
  obtain ⟨_, k0, k1, k2, _⟩ := id hP
  obtain ⟨_, j0, j1, j2, _⟩ := id hQ
  go_wp2_with fail
  clear k0 k1 k2 j0 j1 j2
  have hfiwB := isfine_any W H cap hP.ints
  rw [hF.fineB] at hfiwB
  refine hfiwB.mono ?_
  rintro e wB ⟨rfl, b2⟩
  clear hfiwB
  replace hP := hP.below b2
  replace hQ := hQ.below b2
  replace hq := hq.below b2
  replace hr := hr.below b2
  replace hb := below_step hb b2
  obtain ⟨_, k0, k1, k2, _⟩ := id hP
  obtain ⟨_, j0, j1, j2, _⟩ := id hQ
  go_wp2_with fail
  clear k0 k1 k2 j0 j1 j2
  have hfiwC := isfine_any W' H' cap' hQ.ints
  rw [hG.fineB] at hfiwC
  refine hfiwC.mono ?_
  rintro e wC ⟨rfl, b3⟩
  clear hfiwC
  replace hP := hP.below b3
  replace hQ := hQ.below b3
  replace hq := hq.below b3
  replace hr := hr.below b3
  replace hb := below_step hb b3
  go_wp2_with fail
  have hit := fun wx => isTwo_any op wx
  rw [hw] at hit
  refine (hit _).mono ?_
  rintro e w' ⟨rfl, rfl⟩
  clear hit
  obtain ⟨_, k0, k1, k2, _⟩ := id hP
  obtain ⟨_, j0, j1, j2, _⟩ := id hQ
  go_wp2_with fail
  clear k0 k1 k2 j0 j1 j2
  refine (imageBegun_any _).mono ?_
  rintro e wY ⟨rfl, bY⟩
  replace hq := hq.below bY
  replace hr := hr.below bY
  replace hb := below_step hb bY
  obtain ⟨_, m0, m1, m2, _⟩ := id hq
  obtain ⟨_, o0, o1, o2, _⟩ := id hr
  go_wp2_with fail
  refine (sameImages_any 0 0 0 0 0 0 hq.ints hr.ints).mono ?_
  rintro e wZ ⟨rfl, bZ⟩
  go_wp2
  go_ret
  exact ⟨rfl, below_step hb bZ⟩
set_option maxHeartbeats 1000000 in
theorem imageTwos_h (op : Int) (W H b off cap : Nat) (ps : List Int) (W' H' b' off' cap' : Nat) (qs : List Int) (w : World) (hF : Fine w b off W H ps) (hG : Fine w b' off' W' H' qs) (hw : withinB op 4 7 = true) (he : W = W') (hne : ¬ H = H') :
    Calls Try.prog 5 #[.int .i64 op, .agg #[.int .i64 W, .int .i64 H, .slice (some ⟨b, off, none⟩) (W * H) cap], .agg #[.int .i64 W', .int .i64 H', .slice (some ⟨b', off', none⟩) (W' * H') cap']] w fun e w' => e = .returned (.bool true) ∧ Below w.heap.size w w' := by
  have hP := (Pic.new (W := W) (H := H) cap hF.ints).alloc (.cells #[.int .i64 W', .int .i64 H', .slice (some ⟨b', off', none⟩) (W' * H') cap'] 24)
  have hQ := Pic.new (W := W') (H := H') cap' (hG.ints.alloc (.cells #[.int .i64 W, .int .i64 H, .slice (some ⟨b, off, none⟩) (W * H) cap] 24))
  rw [show (w.alloc (.cells #[.int .i64 W, .int .i64 H, .slice (some ⟨b, off, none⟩) (W * H) cap] 24)).heap.size = w.heap.size + 1 by simp] at hQ
  have hb := below_box (below_box (Below.refl w.heap.size w) (.cells #[.int .i64 W, .int .i64 H, .slice (some ⟨b, off, none⟩) (W * H) cap] 24)) (.cells #[.int .i64 W', .int .i64 H', .slice (some ⟨b', off', none⟩) (W' * H') cap'] 24)
  have htwo := two_size (op := op) cap cap' (hF.below hb) (hG.below hb) (by simp [withinB] at hw; omega) (by omega)
  have g1 : ((W : Int) != (W' : Int)) = false := by simp [he]
  have g2 : ((H : Int) != (H' : Int)) = true := by simp; omega
  clear hne he
  go_enter Try.func5, Try.ntmps5
  go_wp2_with fail
  refine htwo.mono ?_
  rintro e wA ⟨rfl, b1⟩
  clear htwo
  replace hP := ((hP.below b1).alloc (.cells #[.int .i64 0, .int .i64 0, .slice none 0 0] 24)).alloc (.cells #[.int .i64 0, .int .i64 0, .slice none 0 0] 24)
  replace hQ := ((hQ.below b1).alloc (.cells #[.int .i64 0, .int .i64 0, .slice none 0 0] 24)).alloc (.cells #[.int .i64 0, .int .i64 0, .slice none 0 0] 24)
  replace hb := below_box (below_box (below_step hb b1) (.cells #[.int .i64 0, .int .i64 0, .slice none 0 0] 24)) (.cells #[.int .i64 0, .int .i64 0, .slice none 0 0] 24)
  have hq := (Pic.new (W := 0) (H := 0) 0 (Ints.nil 0 wA)).alloc (.cells #[.int .i64 0, .int .i64 0, .slice none 0 0] 24)
  have hr := Pic.new (W := 0) (H := 0) 0 (Ints.nil 0 (wA.alloc (.cells #[.int .i64 0, .int .i64 0, .slice none 0 0] 24)))
  rw [show (wA.alloc (.cells #[.int .i64 0, .int .i64 0, .slice none 0 0] 24)).heap.size = wA.heap.size + 1 by simp] at hr
  obtain ⟨_, k0, k1, k2, _⟩ := id hP
  obtain ⟨_, j0, j1, j2, _⟩ := id hQ
  go_wp2_with fail
  clear k0 k1 k2 j0 j1 j2
  have hfiwB := isfine_any W H cap hP.ints
  rw [hF.fineB] at hfiwB
  refine hfiwB.mono ?_
  rintro e wB ⟨rfl, b2⟩
  clear hfiwB
  replace hP := hP.below b2
  replace hQ := hQ.below b2
  replace hq := hq.below b2
  replace hr := hr.below b2
  replace hb := below_step hb b2
  obtain ⟨_, k0, k1, k2, _⟩ := id hP
  obtain ⟨_, j0, j1, j2, _⟩ := id hQ
  go_wp2_with fail
  clear k0 k1 k2 j0 j1 j2
  have hfiwC := isfine_any W' H' cap' hQ.ints
  rw [hG.fineB] at hfiwC
  refine hfiwC.mono ?_
  rintro e wC ⟨rfl, b3⟩
  clear hfiwC
  replace hP := hP.below b3
  replace hQ := hQ.below b3
  replace hq := hq.below b3
  replace hr := hr.below b3
  replace hb := below_step hb b3
  go_wp2_with fail
  have hit := fun wx => isTwo_any op wx
  rw [hw] at hit
  refine (hit _).mono ?_
  rintro e w' ⟨rfl, rfl⟩
  clear hit
  obtain ⟨_, k0, k1, k2, _⟩ := id hP
  obtain ⟨_, j0, j1, j2, _⟩ := id hQ
  go_wp2_with fail
  clear k0 k1 k2 j0 j1 j2
  refine (imageBegun_any _).mono ?_
  rintro e wY ⟨rfl, bY⟩
  replace hq := hq.below bY
  replace hr := hr.below bY
  replace hb := below_step hb bY
  obtain ⟨_, m0, m1, m2, _⟩ := id hq
  obtain ⟨_, o0, o1, o2, _⟩ := id hr
  go_wp2_with fail
  refine (sameImages_any 0 0 0 0 0 0 hq.ints hr.ints).mono ?_
  rintro e wZ ⟨rfl, bZ⟩
  go_wp2
  go_ret
  exact ⟨rfl, below_step hb bZ⟩
set_option maxHeartbeats 1000000 in
theorem imageTwos_ok (op : Int) (W H b off cap : Nat) (ps : List Int) (b' off' cap' : Nat) (qs : List Int) (w : World) (hF : Fine w b off W H ps) (hG : Fine w b' off' W H qs) (hw : withinB op 4 7 = true) :
    Calls Try.prog 5 #[.int .i64 op, .agg #[.int .i64 W, .int .i64 H, .slice (some ⟨b, off, none⟩) (W * H) cap], .agg #[.int .i64 W, .int .i64 H, .slice (some ⟨b', off', none⟩) (W * H) cap']] w fun e w' => e = .returned (.bool true) ∧ Below w.heap.size w w' := by
  have hP := (Pic.new (W := W) (H := H) cap hF.ints).alloc (.cells #[.int .i64 W, .int .i64 H, .slice (some ⟨b', off', none⟩) (W * H) cap'] 24)
  have hQ := Pic.new (W := W) (H := H) cap' (hG.ints.alloc (.cells #[.int .i64 W, .int .i64 H, .slice (some ⟨b, off, none⟩) (W * H) cap] 24))
  rw [show (w.alloc (.cells #[.int .i64 W, .int .i64 H, .slice (some ⟨b, off, none⟩) (W * H) cap] 24)).heap.size = w.heap.size + 1 by simp] at hQ
  have hb := below_box (below_box (Below.refl w.heap.size w) (.cells #[.int .i64 W, .int .i64 H, .slice (some ⟨b, off, none⟩) (W * H) cap] 24)) (.cells #[.int .i64 W, .int .i64 H, .slice (some ⟨b', off', none⟩) (W * H) cap'] 24)
  have hop : op = 4 ∨ op = 5 ∨ op = 6 ∨ op = 7 := by simp [withinB] at hw; omega
  have htwo := two_ok (op := op) cap cap' (hF.below hb) (hG.below hb) hop
  have hof := fun wx (hx : Below w.heap.size w wx) => twoOf_any op cap cap' (hF.below hx) (hG.below hx) hop
  generalize pix W (fun x y => twoG op (px W ps x y) (px W qs x y)) (W * H) = rs at htwo hof
  clear hop
  go_enter Try.func5, Try.ntmps5
  go_wp2_with fail
  refine htwo.mono ?_
  rintro e wA ⟨a2, cap2, rfl, i2, b1⟩
  clear htwo
  replace hP := ((hP.below b1).alloc (.cells #[.int .i64 W, .int .i64 H, .slice a2 (W * H) cap2] 24)).alloc (.cells #[.int .i64 0, .int .i64 0, .slice none 0 0] 24)
  replace hQ := ((hQ.below b1).alloc (.cells #[.int .i64 W, .int .i64 H, .slice a2 (W * H) cap2] 24)).alloc (.cells #[.int .i64 0, .int .i64 0, .slice none 0 0] 24)
  have hq0 := (Pic.new (W := W) (H := H) cap2 (i2.mono (Nat.zero_le _)))
  have hb0 := below_box (below_step hb b1) (.cells #[.int .i64 W, .int .i64 H, .slice a2 (W * H) cap2] 24)
  have s1 : (wA.alloc (.cells #[.int .i64 W, .int .i64 H, .slice a2 (W * H) cap2] 24)).heap.size = wA.heap.size + 1 := by simp
  replace hb := below_box hb0 (.cells #[.int .i64 0, .int .i64 0, .slice none 0 0] 24)
  obtain ⟨_, k0, k1, k2, _⟩ := id hP
  obtain ⟨_, j0, j1, j2, _⟩ := id hQ
  go_wp2_with fail
  clear k0 k1 k2 j0 j1 j2
  have hfiwB := isfine_any W H cap hP.ints
  rw [hF.fineB] at hfiwB
  refine hfiwB.mono ?_
  rintro e wB ⟨rfl, b2⟩
  clear hfiwB
  replace hP := hP.below b2
  replace hQ := hQ.below b2
  obtain ⟨_, k0, k1, k2, _⟩ := id hP
  obtain ⟨_, j0, j1, j2, _⟩ := id hQ
  go_wp2_with fail
  clear k0 k1 k2 j0 j1 j2
  have hfiwC := isfine_any W H cap' hQ.ints
  rw [hG.fineB] at hfiwC
  refine hfiwC.mono ?_
  rintro e wC ⟨rfl, b3⟩
  clear hfiwC
  replace hP := hP.below b3
  replace hQ := hQ.below b3
  have b23 := below_step b2 b3
  go_wp2_with fail
  have hit := fun wx => isTwo_any op wx
  rw [hw] at hit
  refine (hit _).mono ?_
  rintro e w' ⟨rfl, rfl⟩
  clear hit
  obtain ⟨_, k0, k1, k2, _⟩ := id hP
  obtain ⟨_, j0, j1, j2, _⟩ := id hQ
  go_wp2_with fail
  clear k0 k1 k2 j0 j1 j2
  refine (hof _ (below_step hb b23)).mono ?_
  rintro e wD ⟨a3, cap3, rfl, i3, b4⟩
  have b5 := below_step b23 b4
  have sB : wA.heap.size + 1 < wD.heap.size := by have := b5.size; simp at this; omega
  have l0 : wD.cell? ⟨wA.heap.size + 1, 0, none⟩ = some (.int .i64 0) := by rw [b5.cell (by simp)]; simp [go_sem]
  have l1 : wD.cell? ⟨wA.heap.size + 1, 1, none⟩ = some (.int .i64 0) := by rw [b5.cell (by simp)]; simp [go_sem]
  have l2 : wD.cell? ⟨wA.heap.size + 1, 2, none⟩ = some (.slice none 0 0) := by rw [b5.cell (by simp)]; simp [go_sem]
  have f0 : wD.frozen? ⟨wA.heap.size + 1, 0, none⟩ = false := by rw [b5.frozen (by simp)]; simp [go_sem]
  have f1 : wD.frozen? ⟨wA.heap.size + 1, 1, none⟩ = false := by rw [b5.frozen (by simp)]; simp [go_sem]
  have f2 : wD.frozen? ⟨wA.heap.size + 1, 2, none⟩ = false := by rw [b5.frozen (by simp)]; simp [go_sem]
  clear hP hQ hof
  go_wp2_with fail
  have s2 : ((wA.alloc (.cells #[.int .i64 W, .int .i64 H, .slice a2 (W * H) cap2] 24)).alloc (.cells #[.int .i64 0, .int .i64 0, .slice none 0 0] 24)).heap.size = wA.heap.size + 1 + 1 := by simp
  have i3' : Ints (wA.heap.size + 1 + 1) wD a3 (W * H) rs := i3.mono (by have := b23.size; omega)
  rw [s2, ← s1] at b5
  rw [← s1] at l0 l1 l2 sB i3'
  have hr := wx_pic (W := W) (H := H) cap3 sB l0 l1 l2 i3'
  have hbx := wx_below b5 (.int .i64 W) (.int .i64 H) (.slice a3 (W * H) cap3)
  have hq := hq0.below hbx
  replace hb := below_step hb0 hbx
  rw [s1] at hr hq hb
  generalize ((wD.setCell ⟨wA.heap.size + 1, 0, none⟩ (.int .i64 W)).setCell ⟨wA.heap.size + 1, 1, none⟩ (.int .i64 H)).setCell ⟨wA.heap.size + 1, 2, none⟩ (.slice a3 (W * H) cap3) = wX at hq hr hb ⊢
  clear b1 b2 b3 b4 b5 b23 i2 i3 i3' l0 l1 l2 f0 f1 f2 sB s1 s2 hbx hq0 hb0
  refine (imageBegun_any _).mono ?_
  rintro e wY ⟨rfl, bY⟩
  replace hq := hq.below bY
  replace hr := hr.below bY
  replace hb := below_step hb bY
  obtain ⟨_, m0, m1, m2, _⟩ := id hq
  obtain ⟨_, o0, o1, o2, _⟩ := id hr
  go_wp2_with fail
  refine (sameImages_any W H W H cap2 cap3 hq.ints hr.ints).mono ?_
  rintro e wZ ⟨rfl, bZ⟩
  go_wp2
  go_ret
  exact ⟨rfl, below_step hb bZ⟩
theorem imageTwos_any (op : Int) (W H : Int) (a : Option Addr) (len cap : Nat) (ps : List Int) (W' H' : Int) (a' : Option Addr) (len' cap' : Nat) (qs : List Int) (w : World) (h : Ints 0 w a len ps) (h' : Ints 0 w a' len' qs) :
    Calls Try.prog 5 #[.int .i64 op, .agg #[.int .i64 W, .int .i64 H, .slice a len cap], .agg #[.int .i64 W', .int .i64 H', .slice a' len' cap']] w fun e w' => e = .returned (.bool true) ∧ Below w.heap.size w w' := by
  by_cases hf : fineB W H ps = true
  · by_cases hg : fineB W' H' qs = true
    · obtain ⟨W1, H1, b, off, rfl, rfl, rfl, rfl, hF⟩ := fine_of h hf
      obtain ⟨W2, H2, b', off', rfl, rfl, rfl, rfl, hG⟩ := fine_of h' hg
      by_cases hw : withinB op 4 7 = true
      · by_cases h1 : W1 = W2
        · by_cases h2 : H1 = H2
          · subst h1 h2
            exact imageTwos_ok op W1 H1 b off cap ps b' off' cap' qs w hF hG hw
          · exact imageTwos_h op W1 H1 b off cap ps W2 H2 b' off' cap' qs w hF hG hw h1 h2
        · exact imageTwos_w op W1 H1 b off cap ps W2 H2 b' off' cap' qs w hF hG hw h1
      · exact imageTwos_kind op W1 H1 b off cap ps W2 H2 b' off' cap' qs w hF hG (eq_false_of_ne_true hw)
    · exact imageTwos_nb op W H a len cap ps W' H' a' len' cap' qs w h h' hf (eq_false_of_ne_true hg)
  · exact imageTwos_na op W H a len cap ps W' H' a' len' cap' qs w h h' (eq_false_of_ne_true hf)
end Go.Proofs.Ytfpkiimlaepnhaa
