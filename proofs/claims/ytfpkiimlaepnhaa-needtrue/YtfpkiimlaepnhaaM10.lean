/- LawTwos, TrueMath, Res, TilesMath: joined, in this order. -/
import Derived.Test.YtfpkiimlaepnhaaM09
import Derived.Test.YtfpkiimlaepnhaaM08
import Derived.Test.YtfpkiimlaepnhaaM07
/-
  LAWTWOS: the walk of the law ImageTwos.
-/
namespace Go.Proofs.Ytfpkiimlaepnhaa
set_option maxRecDepth 100000
open Go.RowKit Im

set_option maxHeartbeats 1000000 in
theorem imageTwos_na (op : Int) (W H : Int) (a : Option Addr) (len cap : Nat) (ps : List Int) (W' H' : Int) (a' : Option Addr) (len' cap' : Nat) (qs : List Int) (w : World) (h : Ints 0 w a len ps) (h' : Ints 0 w a' len' qs) (hf : fineB W H ps = false) :
    Calls Try.prog 5 #[.int .i64 op, .agg #[.int .i64 W, .int .i64 H, .slice a len cap], .agg #[.int .i64 W', .int .i64 H', .slice a' len' cap']] w fun e w' => e = .returned (.bool true) ∧ Below w.heap.size w w' := by
  have hP := (Pic.new (W := W) (H := H) cap h).alloc (.cells #[.int .i64 W', .int .i64 H', .slice a' len' cap'] 24)
  have hQ := Pic.new (W := W') (H := H') cap' (h'.alloc (.cells #[.int .i64 W, .int .i64 H, .slice a len cap] 24))
  rw [show (w.alloc (.cells #[.int .i64 W, .int .i64 H, .slice a len cap] 24)).heap.size = w.heap.size + 1 by simp] at hQ
  have hb := below_box (below_box (Below.refl w.heap.size w) (.cells #[.int .i64 W, .int .i64 H, .slice a len cap] 24)) (.cells #[.int .i64 W', .int .i64 H', .slice a' len' cap'] 24)
  have htwo := two_form (W := W) (H := H) (W' := W') (H' := H') op cap cap' hP.ints hQ.ints (by rw [hf]; rfl)
  go_enter Try.func5, Try.ntmps5
  go_wp2_with fail
  refine htwo.mono ?_
  rintro e wA ⟨rfl, b1⟩
  clear htwo
  replace hP := ((hP.below b1).alloc (.cells #[.int .i64 0, .int .i64 0, .slice none 0 0] 24)).alloc (.cells #[.int .i64 0, .int .i64 0, .slice none 0 0] 24)
  replace hQ := ((hQ.below b1).alloc (.cells #[.int .i64 0, .int .i64 0, .slice none 0 0] 24)).alloc (.cells #[.int .i64 0, .int .i64 0, .slice none 0 0] 24)
  replace hb := below_box (below_box (below_step hb b1) (.cells #[.int .i64 0, .int .i64 0, .slice none 0 0] 24)) (.cells #[.int .i64 0, .int .i64 0, .slice none 0 0] 24)
  have hq := (Pic.new (W := 0) (H := 0) 0 (Ints.nil 0 wA)).alloc (.cells #[.int .i64 0, .int .i64 0, .slice none 0 0] 24)
  have hr := Pic.new (W := 0) (H := 0) 0 (Ints.nil 0 (wA.alloc (.cells #[.int .i64 0, .int .i64 0, .slice none 0 0] 24)))
  rw [show (wA.alloc (.cells #[.int .i64 0, .int .i64 0, .slice none 0 0] 24)).heap.size = wA.heap.size + 1 by simp] at hr
  obtain ⟨_, k0, k1, k2, _⟩ := id hP
  obtain ⟨_, j0, j1, j2, _⟩ := id hQ
  go_wp2_with fail
  clear k0 k1 k2 j0 j1 j2
  have hfiwB := isfine_any W H cap hP.ints
  rw [hf] at hfiwB
  refine hfiwB.mono ?_
  rintro e wB ⟨rfl, b2⟩
  clear hfiwB
  replace hP := hP.below b2
  replace hQ := hQ.below b2
  replace hq := hq.below b2
  replace hr := hr.below b2
  replace hb := below_step hb b2
  go_wp2_with fail
  refine (imageBegun_any _).mono ?_
  rintro e wY ⟨rfl, bY⟩
  replace hq := hq.below bY
  replace hr := hr.below bY
  replace hb := below_step hb bY
  obtain ⟨_, m0, m1, m2, _⟩ := id hq
  obtain ⟨_, o0, o1, o2, _⟩ := id hr
  go_wp2_with fail
  refine (sameImages_any 0 0 0 0 0 0 hq.ints hr.ints).mono ?_
  rintro e wZ ⟨rfl, bZ⟩
  go_wp2
  go_ret
  exact ⟨rfl, below_step hb bZ⟩
set_option maxHeartbeats 1000000 in
theorem imageTwos_nb (op : Int) (W H : Int) (a : Option Addr) (len cap : Nat) (ps : List Int) (W' H' : Int) (a' : Option Addr) (len' cap' : Nat) (qs : List Int) (w : World) (h : Ints 0 w a len ps) (h' : Ints 0 w a' len' qs) (hf : fineB W H ps = true) (hg : fineB W' H' qs = false) :
    Calls Try.prog 5 #[.int .i64 op, .agg #[.int .i64 W, .int .i64 H, .slice a len cap], .agg #[.int .i64 W', .int .i64 H', .slice a' len' cap']] w fun e w' => e = .returned (.bool true) ∧ Below w.heap.size w w' := by
  have hP := (Pic.new (W := W) (H := H) cap h).alloc (.cells #[.int .i64 W', .int .i64 H', .slice a' len' cap'] 24)
  have hQ := Pic.new (W := W') (H := H') cap' (h'.alloc (.cells #[.int .i64 W, .int .i64 H, .slice a len cap] 24))
  rw [show (w.alloc (.cells #[.int .i64 W, .int .i64 H, .slice a len cap] 24)).heap.size = w.heap.size + 1 by simp] at hQ
  have hb := below_box (below_box (Below.refl w.heap.size w) (.cells #[.int .i64 W, .int .i64 H, .slice a len cap] 24)) (.cells #[.int .i64 W', .int .i64 H', .slice a' len' cap'] 24)
  have htwo := two_form (W := W) (H := H) (W' := W') (H' := H') op cap cap' hP.ints hQ.ints (by rw [hf, hg]; rfl)
  go_enter Try.func5, Try.ntmps5
  go_wp2_with fail
  refine htwo.mono ?_
  rintro e wA ⟨rfl, b1⟩
  clear htwo
  replace hP := ((hP.below b1).alloc (.cells #[.int .i64 0, .int .i64 0, .slice none 0 0] 24)).alloc (.cells #[.int .i64 0, .int .i64 0, .slice none 0 0] 24)
  replace hQ := ((hQ.below b1).alloc (.cells #[.int .i64 0, .int .i64 0, .slice none 0 0] 24)).alloc (.cells #[.int .i64 0, .int .i64 0, .slice none 0 0] 24)
  replace hb := below_box (below_box (below_step hb b1) (.cells #[.int .i64 0, .int .i64 0, .slice none 0 0] 24)) (.cells #[.int .i64 0, .int .i64 0, .slice none 0 0] 24)
  have hq := (Pic.new (W := 0) (H := 0) 0 (Ints.nil 0 wA)).alloc (.cells #[.int .i64 0, .int .i64 0, .slice none 0 0] 24)
  have hr := Pic.new (W := 0) (H := 0) 0 (Ints.nil 0 (wA.alloc (.cells #[.int .i64 0, .int .i64 0, .slice none 0 0] 24)))
  rw [show (wA.alloc (.cells #[.int .i64 0, .int .i64 0, .slice none 0 0] 24)).heap.size = wA.heap.size + 1 by simp] at hr
  obtain ⟨_, k0, k1, k2, _⟩ := id hP
  obtain ⟨_, j0, j1, j2, _⟩ := id hQ
  go_wp2_with fail
  clear k0 k1 k2 j0 j1 j2
  have hfiwB := isfine_any W H cap hP.ints
  rw [hf] at hfiwB
  refine hfiwB.mono ?_
  rintro e wB ⟨rfl, b2⟩
  clear hfiwB
  replace hP := hP.below b2
  replace hQ := hQ.below b2
  replace hq := hq.below b2
  replace hr := hr.below b2
  replace hb := below_step hb b2
  obtain ⟨_, k0, k1, k2, _⟩ := id hP
  obtain ⟨_, j0, j1, j2, _⟩ := id hQ
  go_wp2_with fail
  clear k0 k1 k2 j0 j1 j2
  have hfiwC := isfine_any W' H' cap' hQ.ints
  rw [hg] at hfiwC
  refine hfiwC.mono ?_
  rintro e wC ⟨rfl, b3⟩
  clear hfiwC
  replace hP := hP.below b3
  replace hQ := hQ.below b3
  replace hq := hq.below b3
  replace hr := hr.below b3
  replace hb := below_step hb b3
  go_wp2_with fail
  refine (imageBegun_any _).mono ?_
  rintro e wY ⟨rfl, bY⟩
  replace hq := hq.below bY
  replace hr := hr.below bY
  replace hb := below_step hb bY
  obtain ⟨_, m0, m1, m2, _⟩ := id hq
  obtain ⟨_, o0, o1, o2, _⟩ := id hr
  go_wp2_with fail
  refine (sameImages_any 0 0 0 0 0 0 hq.ints hr.ints).mono ?_
  rintro e wZ ⟨rfl, bZ⟩
  go_wp2
  go_ret
  exact ⟨rfl, below_step hb bZ⟩
set_option maxHeartbeats 1000000 in
theorem imageTwos_kind (op : Int) (W H b off cap : Nat) (ps : List Int) (W' H' b' off' cap' : Nat) (qs : List Int) (w : World) (hF : Fine w b off W H ps) (hG : Fine w b' off' W' H' qs) (hw : withinB op 4 7 = false) :
    Calls Try.prog 5 #[.int .i64 op, .agg #[.int .i64 W, .int .i64 H, .slice (some ⟨b, off, none⟩) (W * H) cap], .agg #[.int .i64 W', .int .i64 H', .slice (some ⟨b', off', none⟩) (W' * H') cap']] w fun e w' => e = .returned (.bool true) ∧ Below w.heap.size w w' := by
  have hP := (Pic.new (W := W) (H := H) cap hF.ints).alloc (.cells #[.int .i64 W', .int .i64 H', .slice (some ⟨b', off', none⟩) (W' * H') cap'] 24)
  have hQ := Pic.new (W := W') (H := H') cap' (hG.ints.alloc (.cells #[.int .i64 W, .int .i64 H, .slice (some ⟨b, off, none⟩) (W * H) cap] 24))
  rw [show (w.alloc (.cells #[.int .i64 W, .int .i64 H, .slice (some ⟨b, off, none⟩) (W * H) cap] 24)).heap.size = w.heap.size + 1 by simp] at hQ
  have hb := below_box (below_box (Below.refl w.heap.size w) (.cells #[.int .i64 W, .int .i64 H, .slice (some ⟨b, off, none⟩) (W * H) cap] 24)) (.cells #[.int .i64 W', .int .i64 H', .slice (some ⟨b', off', none⟩) (W' * H') cap'] 24)
  have htwo := two_kind (op := op) cap cap' (hF.below hb) (hG.below hb) (by rintro rfl; cases hw) (by rintro rfl; cases hw) (by rintro rfl; cases hw) (by rintro rfl; cases hw)
  go_enter Try.func5, Try.ntmps5
  go_wp2_with fail
  refine htwo.mono ?_
  rintro e wA ⟨rfl, b1⟩
  clear htwo
  replace hP := ((hP.below b1).alloc (.cells #[.int .i64 0, .int .i64 0, .slice none 0 0] 24)).alloc (.cells #[.int .i64 0, .int .i64 0, .slice none 0 0] 24)
  replace hQ := ((hQ.below b1).alloc (.cells #[.int .i64 0, .int .i64 0, .slice none 0 0] 24)).alloc (.cells #[.int .i64 0, .int .i64 0, .slice none 0 0] 24)
  replace hb := below_box (below_box (below_step hb b1) (.cells #[.int .i64 0, .int .i64 0, .slice none 0 0] 24)) (.cells #[.int .i64 0, .int .i64 0, .slice none 0 0] 24)
  have hq := (Pic.new (W := 0) (H := 0) 0 (Ints.nil 0 wA)).alloc (.cells #[.int .i64 0, .int .i64 0, .slice none 0 0] 24)
  have hr := Pic.new (W := 0) (H := 0) 0 (Ints.nil 0 (wA.alloc (.cells #[.int .i64 0, .int .i64 0, .slice none 0 0] 24)))
  rw [show (wA.alloc (.cells #[.int .i64 0, .int .i64 0, .slice none 0 0] 24)).heap.size = wA.heap.size + 1 by simp] at hr
  obtain ⟨_, k0, k1, k2, _⟩ := id hP
  obtain ⟨_, j0, j1, j2, _⟩ := id hQ
  go_wp2_with fail
  clear k0 k1 k2 j0 j1 j2
  have hfiwB := isfine_any W H cap hP.ints
  rw [hF.fineB] at hfiwB
  refine hfiwB.mono ?_
  rintro e wB ⟨rfl, b2⟩
  clear hfiwB
  replace hP := hP.below b2
  replace hQ := hQ.below b2
  replace hq := hq.below b2
  replace hr := hr.below b2
  replace hb := below_step hb b2
  obtain ⟨_, k0, k1, k2, _⟩ := id hP
  obtain ⟨_, j0, j1, j2, _⟩ := id hQ
  go_wp2_with fail
  clear k0 k1 k2 j0 j1 j2
  have hfiwC := isfine_any W' H' cap' hQ.ints
  rw [hG.fineB] at hfiwC
  refine hfiwC.mono ?_
  rintro e wC ⟨rfl, b3⟩
  clear hfiwC
  replace hP := hP.below b3
  replace hQ := hQ.below b3
  replace hq := hq.below b3
  replace hr := hr.below b3
  replace hb := below_step hb b3
  go_wp2_with fail
  have hit := fun wx => isTwo_any op wx
  rw [hw] at hit
  refine (hit _).mono ?_
  rintro e w' ⟨rfl, rfl⟩
  clear hit
  go_wp2_with fail
  refine (imageBegun_any _).mono ?_
  rintro e wY ⟨rfl, bY⟩
  replace hq := hq.below bY
  replace hr := hr.below bY
  replace hb := below_step hb bY
  obtain ⟨_, m0, m1, m2, _⟩ := id hq
  obtain ⟨_, o0, o1, o2, _⟩ := id hr
  go_wp2_with fail
  refine (sameImages_any 0 0 0 0 0 0 hq.ints hr.ints).mono ?_
  rintro e wZ ⟨rfl, bZ⟩
  go_wp2
  go_ret
  exact ⟨rfl, below_step hb bZ⟩
set_option maxHeartbeats 1000000 in
theorem imageTwos_w (op : Int) (W H b off cap : Nat) (ps : List Int) (W' H' b' off' cap' : Nat) (qs : List Int) (w : World) (hF : Fine w b off W H ps) (hG : Fine w b' off' W' H' qs) (hw : withinB op 4 7 = true) (hne : ¬ W = W') :
    Calls Try.prog 5 #[.int .i64 op, .agg #[.int .i64 W, .int .i64 H, .slice (some ⟨b, off, none⟩) (W * H) cap], .agg #[.int .i64 W', .int .i64 H', .slice (some ⟨b', off', none⟩) (W' * H') cap']] w fun e w' => e = .returned (.bool true) ∧ Below w.heap.size w w' := by
  have hP := (Pic.new (W := W) (H := H) cap hF.ints).alloc (.cells #[.int .i64 W', .int .i64 H', .slice (some ⟨b', off', none⟩) (W' * H') cap'] 24)
  have hQ := Pic.new (W := W') (H := H') cap' (hG.ints.alloc (.cells #[.int .i64 W, .int .i64 H, .slice (some ⟨b, off, none⟩) (W * H) cap] 24))
  rw [show (w.alloc (.cells #[.int .i64 W, .int .i64 H, .slice (some ⟨b, off, none⟩) (W * H) cap] 24)).heap.size = w.heap.size + 1 by simp] at hQ
  have hb := below_box (below_box (Below.refl w.heap.size w) (.cells #[.int .i64 W, .int .i64 H, .slice (some ⟨b, off, none⟩) (W * H) cap] 24)) (.cells #[.int .i64 W', .int .i64 H', .slice (some ⟨b', off', none⟩) (W' * H') cap'] 24)
  have htwo := two_size (op := op) cap cap' (hF.below hb) (hG.below hb) (by simp [withinB] at hw; omega) (by omega)
  have g1 : ((W : Int) != (W' : Int)) = true := by simp; omega
  clear hne
  go_enter Try.func5, Try.ntmps5
  go_wp2_with fail
  refine htwo.mono ?_
  rintro e wA ⟨rfl, b1⟩
  clear htwo
  replace hP := ((hP.below b1).alloc (.cells #[.int .i64 0, .int .i64 0, .slice none 0 0] 24)).alloc (.cells #[.int .i64 0, .int .i64 0, .slice none 0 0] 24)
  replace hQ := ((hQ.below b1).alloc (.cells #[.int .i64 0, .int .i64 0, .slice none 0 0] 24)).alloc (.cells #[.int .i64 0, .int .i64 0, .slice none 0 0] 24)
  replace hb := below_box (below_box (below_step hb b1) (.cells #[.int .i64 0, .int .i64 0, .slice none 0 0] 24)) (.cells #[.int .i64 0, .int .i64 0, .slice none 0 0] 24)
  have hq := (Pic.new (W := 0) (H := 0) 0 (Ints.nil 0 wA)).alloc (.cells #[.int .i64 0, .int .i64 0, .slice none 0 0] 24)
  have hr := Pic.new (W := 0) (H := 0) 0 (Ints.nil 0 (wA.alloc (.cells #[.int .i64 0, .int .i64 0, .slice none 0 0] 24)))
  rw [show (wA.alloc (.cells #[.int .i64 0, .int .i64 0, .slice none 0 0] 24)).heap.size = wA.heap.size + 1 by simp] at hr
  obtain ⟨_, k0, k1, k2, _⟩ := id hP
  obtain ⟨_, j0, j1, j2, _⟩ := id hQ
  go_wp2_with fail
  clear k0 k1 k2 j0 j1 j2
  have hfiwB := isfine_any W H cap hP.ints
  rw [hF.fineB] at hfiwB
  refine hfiwB.mono ?_
  rintro e wB ⟨rfl, b2⟩
  clear hfiwB
  replace hP := hP.below b2
  replace hQ := hQ.below b2
  replace hq := hq.below b2
  replace hr := hr.below b2
  replace hb := below_step hb b2
  obtain ⟨_, k0, k1, k2, _⟩ := id hP
  obtain ⟨_, j0, j1, j2, _⟩ := id hQ
  go_wp2_with fail
  clear k0 k1 k2 j0 j1 j2
  have hfiwC := isfine_any W' H' cap' hQ.ints
  rw [hG.fineB] at hfiwC
  refine hfiwC.mono ?_
  rintro e wC ⟨rfl, b3⟩
  clear hfiwC
  replace hP := hP.below b3
  replace hQ := hQ.below b3
  replace hq := hq.below b3
  replace hr := hr.below b3
  replace hb := below_step hb b3
  go_wp2_with fail
  have hit := fun wx => isTwo_any op wx
  rw [hw] at hit
  refine (hit _).mono ?_
  rintro e w' ⟨rfl, rfl⟩
  clear hit
  obtain ⟨_, k0, k1, k2, _⟩ := id hP
  obtain ⟨_, j0, j1, j2, _⟩ := id hQ
  go_wp2_with fail
  clear k0 k1 k2 j0 j1 j2
  refine (imageBegun_any _).mono ?_
  rintro e wY ⟨rfl, bY⟩
  replace hq := hq.below bY
  replace hr := hr.below bY
  replace hb := below_step hb bY
  obtain ⟨_, m0, m1, m2, _⟩ := id hq
  obtain ⟨_, o0, o1, o2, _⟩ := id hr
  go_wp2_with fail
  refine (sameImages_any 0 0 0 0 0 0 hq.ints hr.ints).mono ?_
  rintro e wZ ⟨rfl, bZ⟩
  go_wp2
  go_ret
  exact ⟨rfl, below_step hb bZ⟩
set_option maxHeartbeats 1000000 in
theorem imageTwos_h (op : Int) (W H b off cap : Nat) (ps : List Int) (W' H' b' off' cap' : Nat) (qs : List Int) (w : World) (hF : Fine w b off W H ps) (hG : Fine w b' off' W' H' qs) (hw : withinB op 4 7 = true) (he : W = W') (hne : ¬ H = H') :
    Calls Try.prog 5 #[.int .i64 op, .agg #[.int .i64 W, .int .i64 H, .slice (some ⟨b, off, none⟩) (W * H) cap], .agg #[.int .i64 W', .int .i64 H', .slice (some ⟨b', off', none⟩) (W' * H') cap']] w fun e w' => e = .returned (.bool true) ∧ Below w.heap.size w w' := by
  have hP := (Pic.new (W := W) (H := H) cap hF.ints).alloc (.cells #[.int .i64 W', .int .i64 H', .slice (some ⟨b', off', none⟩) (W' * H') cap'] 24)
  have hQ := Pic.new (W := W') (H := H') cap' (hG.ints.alloc (.cells #[.int .i64 W, .int .i64 H, .slice (some ⟨b, off, none⟩) (W * H) cap] 24))
  rw [show (w.alloc (.cells #[.int .i64 W, .int .i64 H, .slice (some ⟨b, off, none⟩) (W * H) cap] 24)).heap.size = w.heap.size + 1 by simp] at hQ
  have hb := below_box (below_box (Below.refl w.heap.size w) (.cells #[.int .i64 W, .int .i64 H, .slice (some ⟨b, off, none⟩) (W * H) cap] 24)) (.cells #[.int .i64 W', .int .i64 H', .slice (some ⟨b', off', none⟩) (W' * H') cap'] 24)
  have htwo := two_size (op := op) cap cap' (hF.below hb) (hG.below hb) (by simp [withinB] at hw; omega) (by omega)
  have g1 : ((W : Int) != (W' : Int)) = false := by simp [he]
  have g2 : ((H : Int) != (H' : Int)) = true := by simp; omega
  clear hne he
  go_enter Try.func5, Try.ntmps5
  go_wp2_with fail
  refine htwo.mono ?_
  rintro e wA ⟨rfl, b1⟩
  clear htwo
  replace hP := ((hP.below b1).alloc (.cells #[.int .i64 0, .int .i64 0, .slice none 0 0] 24)).alloc (.cells #[.int .i64 0, .int .i64 0, .slice none 0 0] 24)
  replace hQ := ((hQ.below b1).alloc (.cells #[.int .i64 0, .int .i64 0, .slice none 0 0] 24)).alloc (.cells #[.int .i64 0, .int .i64 0, .slice none 0 0] 24)
  replace hb := below_box (below_box (below_step hb b1) (.cells #[.int .i64 0, .int .i64 0, .slice none 0 0] 24)) (.cells #[.int .i64 0, .int .i64 0, .slice none 0 0] 24)
  have hq := (Pic.new (W := 0) (H := 0) 0 (Ints.nil 0 wA)).alloc (.cells #[.int .i64 0, .int .i64 0, .slice none 0 0] 24)
  have hr := Pic.new (W := 0) (H := 0) 0 (Ints.nil 0 (wA.alloc (.cells #[.int .i64 0, .int .i64 0, .slice none 0 0] 24)))
  rw [show (wA.alloc (.cells #[.int .i64 0, .int .i64 0, .slice none 0 0] 24)).heap.size = wA.heap.size + 1 by simp] at hr
  obtain ⟨_, k0, k1, k2, _⟩ := id hP
  obtain ⟨_, j0, j1, j2, _⟩ := id hQ
  go_wp2_with fail
  clear k0 k1 k2 j0 j1 j2
  have hfiwB := isfine_any W H cap hP.ints
  rw [hF.fineB] at hfiwB
  refine hfiwB.mono ?_
  rintro e wB ⟨rfl, b2⟩
  clear hfiwB
  replace hP := hP.below b2
  replace hQ := hQ.below b2
  replace hq := hq.below b2
  replace hr := hr.below b2
  replace hb := below_step hb b2
  obtain ⟨_, k0, k1, k2, _⟩ := id hP
  obtain ⟨_, j0, j1, j2, _⟩ := id hQ
  go_wp2_with fail
  clear k0 k1 k2 j0 j1 j2
  have hfiwC := isfine_any W' H' cap' hQ.ints
  rw [hG.fineB] at hfiwC
  refine hfiwC.mono ?_
  rintro e wC ⟨rfl, b3⟩
  clear hfiwC
  replace hP := hP.below b3
  replace hQ := hQ.below b3
  replace hq := hq.below b3
  replace hr := hr.below b3
  replace hb := below_step hb b3
  go_wp2_with fail
  have hit := fun wx => isTwo_any op wx
  rw [hw] at hit
  refine (hit _).mono ?_
  rintro e w' ⟨rfl, rfl⟩
  clear hit
  obtain ⟨_, k0, k1, k2, _⟩ := id hP
  obtain ⟨_, j0, j1, j2, _⟩ := id hQ
  go_wp2_with fail
  clear k0 k1 k2 j0 j1 j2
  refine (imageBegun_any _).mono ?_
  rintro e wY ⟨rfl, bY⟩
  replace hq := hq.below bY
  replace hr := hr.below bY
  replace hb := below_step hb bY
  obtain ⟨_, m0, m1, m2, _⟩ := id hq
  obtain ⟨_, o0, o1, o2, _⟩ := id hr
  go_wp2_with fail
  refine (sameImages_any 0 0 0 0 0 0 hq.ints hr.ints).mono ?_
  rintro e wZ ⟨rfl, bZ⟩
  go_wp2
  go_ret
  exact ⟨rfl, below_step hb bZ⟩
set_option maxHeartbeats 1000000 in
theorem imageTwos_ok (op : Int) (W H b off cap : Nat) (ps : List Int) (b' off' cap' : Nat) (qs : List Int) (w : World) (hF : Fine w b off W H ps) (hG : Fine w b' off' W H qs) (hw : withinB op 4 7 = true) :
    Calls Try.prog 5 #[.int .i64 op, .agg #[.int .i64 W, .int .i64 H, .slice (some ⟨b, off, none⟩) (W * H) cap], .agg #[.int .i64 W, .int .i64 H, .slice (some ⟨b', off', none⟩) (W * H) cap']] w fun e w' => e = .returned (.bool true) ∧ Below w.heap.size w w' := by
  have hP := (Pic.new (W := W) (H := H) cap hF.ints).alloc (.cells #[.int .i64 W, .int .i64 H, .slice (some ⟨b', off', none⟩) (W * H) cap'] 24)
  have hQ := Pic.new (W := W) (H := H) cap' (hG.ints.alloc (.cells #[.int .i64 W, .int .i64 H, .slice (some ⟨b, off, none⟩) (W * H) cap] 24))
  rw [show (w.alloc (.cells #[.int .i64 W, .int .i64 H, .slice (some ⟨b, off, none⟩) (W * H) cap] 24)).heap.size = w.heap.size + 1 by simp] at hQ
  have hb := below_box (below_box (Below.refl w.heap.size w) (.cells #[.int .i64 W, .int .i64 H, .slice (some ⟨b, off, none⟩) (W * H) cap] 24)) (.cells #[.int .i64 W, .int .i64 H, .slice (some ⟨b', off', none⟩) (W * H) cap'] 24)
  have hop : op = 4 ∨ op = 5 ∨ op = 6 ∨ op = 7 := by simp [withinB] at hw; omega
  have htwo := two_ok (op := op) cap cap' (hF.below hb) (hG.below hb) hop
  have hof := fun wx (hx : Below w.heap.size w wx) => twoOf_any op cap cap' (hF.below hx) (hG.below hx) hop
  generalize pix W (fun x y => twoG op (px W ps x y) (px W qs x y)) (W * H) = rs at htwo hof
  clear hop
  go_enter Try.func5, Try.ntmps5
  go_wp2_with fail
  refine htwo.mono ?_
  rintro e wA ⟨a2, cap2, rfl, i2, b1⟩
  clear htwo
  replace hP := ((hP.below b1).alloc (.cells #[.int .i64 W, .int .i64 H, .slice a2 (W * H) cap2] 24)).alloc (.cells #[.int .i64 0, .int .i64 0, .slice none 0 0] 24)
  replace hQ := ((hQ.below b1).alloc (.cells #[.int .i64 W, .int .i64 H, .slice a2 (W * H) cap2] 24)).alloc (.cells #[.int .i64 0, .int .i64 0, .slice none 0 0] 24)
  have hq0 := (Pic.new (W := W) (H := H) cap2 (i2.mono (Nat.zero_le _)))
  have hb0 := below_box (below_step hb b1) (.cells #[.int .i64 W, .int .i64 H, .slice a2 (W * H) cap2] 24)
  have s1 : (wA.alloc (.cells #[.int .i64 W, .int .i64 H, .slice a2 (W * H) cap2] 24)).heap.size = wA.heap.size + 1 := by simp
  replace hb := below_box hb0 (.cells #[.int .i64 0, .int .i64 0, .slice none 0 0] 24)
  obtain ⟨_, k0, k1, k2, _⟩ := id hP
  obtain ⟨_, j0, j1, j2, _⟩ := id hQ
  go_wp2_with fail
  clear k0 k1 k2 j0 j1 j2
  have hfiwB := isfine_any W H cap hP.ints
  rw [hF.fineB] at hfiwB
  refine hfiwB.mono ?_
  rintro e wB ⟨rfl, b2⟩
  clear hfiwB
  replace hP := hP.below b2
  replace hQ := hQ.below b2
  obtain ⟨_, k0, k1, k2, _⟩ := id hP
  obtain ⟨_, j0, j1, j2, _⟩ := id hQ
  go_wp2_with fail
  clear k0 k1 k2 j0 j1 j2
  have hfiwC := isfine_any W H cap' hQ.ints
  rw [hG.fineB] at hfiwC
  refine hfiwC.mono ?_
  rintro e wC ⟨rfl, b3⟩
  clear hfiwC
  replace hP := hP.below b3
  replace hQ := hQ.below b3
  have b23 := below_step b2 b3
  go_wp2_with fail
  have hit := fun wx => isTwo_any op wx
  rw [hw] at hit
  refine (hit _).mono ?_
  rintro e w' ⟨rfl, rfl⟩
  clear hit
  obtain ⟨_, k0, k1, k2, _⟩ := id hP
  obtain ⟨_, j0, j1, j2, _⟩ := id hQ
  go_wp2_with fail
  clear k0 k1 k2 j0 j1 j2
  refine (hof _ (below_step hb b23)).mono ?_
  rintro e wD ⟨a3, cap3, rfl, i3, b4⟩
  have b5 := below_step b23 b4
  have sB : wA.heap.size + 1 < wD.heap.size := by have := b5.size; simp at this; omega
  have l0 : wD.cell? ⟨wA.heap.size + 1, 0, none⟩ = some (.int .i64 0) := by rw [b5.cell (by simp)]; simp [go_sem]
  have l1 : wD.cell? ⟨wA.heap.size + 1, 1, none⟩ = some (.int .i64 0) := by rw [b5.cell (by simp)]; simp [go_sem]
  have l2 : wD.cell? ⟨wA.heap.size + 1, 2, none⟩ = some (.slice none 0 0) := by rw [b5.cell (by simp)]; simp [go_sem]
  have f0 : wD.frozen? ⟨wA.heap.size + 1, 0, none⟩ = false := by rw [b5.frozen (by simp)]; simp [go_sem]
  have f1 : wD.frozen? ⟨wA.heap.size + 1, 1, none⟩ = false := by rw [b5.frozen (by simp)]; simp [go_sem]
  have f2 : wD.frozen? ⟨wA.heap.size + 1, 2, none⟩ = false := by rw [b5.frozen (by simp)]; simp [go_sem]
  clear hP hQ hof
  go_wp2_with fail
  have s2 : ((wA.alloc (.cells #[.int .i64 W, .int .i64 H, .slice a2 (W * H) cap2] 24)).alloc (.cells #[.int .i64 0, .int .i64 0, .slice none 0 0] 24)).heap.size = wA.heap.size + 1 + 1 := by simp
  have i3' : Ints (wA.heap.size + 1 + 1) wD a3 (W * H) rs := i3.mono (by have := b23.size; omega)
  rw [s2, ← s1] at b5
  rw [← s1] at l0 l1 l2 sB i3'
  have hr := wx_pic (W := W) (H := H) cap3 sB l0 l1 l2 i3'
  have hbx := wx_below b5 (.int .i64 W) (.int .i64 H) (.slice a3 (W * H) cap3)
  have hq := hq0.below hbx
  replace hb := below_step hb0 hbx
  rw [s1] at hr hq hb
  generalize ((wD.setCell ⟨wA.heap.size + 1, 0, none⟩ (.int .i64 W)).setCell ⟨wA.heap.size + 1, 1, none⟩ (.int .i64 H)).setCell ⟨wA.heap.size + 1, 2, none⟩ (.slice a3 (W * H) cap3) = wX at hq hr hb ⊢
  clear b1 b2 b3 b4 b5 b23 i2 i3 i3' l0 l1 l2 f0 f1 f2 sB s1 s2 hbx hq0 hb0
  refine (imageBegun_any _).mono ?_
  rintro e wY ⟨rfl, bY⟩
  replace hq := hq.below bY
  replace hr := hr.below bY
  replace hb := below_step hb bY
  obtain ⟨_, m0, m1, m2, _⟩ := id hq
  obtain ⟨_, o0, o1, o2, _⟩ := id hr
  go_wp2_with fail
  refine (sameImages_any W H W H cap2 cap3 hq.ints hr.ints).mono ?_
  rintro e wZ ⟨rfl, bZ⟩
  go_wp2
  go_ret
  exact ⟨rfl, below_step hb bZ⟩
theorem imageTwos_any (op : Int) (W H : Int) (a : Option Addr) (len cap : Nat) (ps : List Int) (W' H' : Int) (a' : Option Addr) (len' cap' : Nat) (qs : List Int) (w : World) (h : Ints 0 w a len ps) (h' : Ints 0 w a' len' qs) :
    Calls Try.prog 5 #[.int .i64 op, .agg #[.int .i64 W, .int .i64 H, .slice a len cap], .agg #[.int .i64 W', .int .i64 H', .slice a' len' cap']] w fun e w' => e = .returned (.bool true) ∧ Below w.heap.size w w' := by
  by_cases hf : fineB W H ps = true
  · by_cases hg : fineB W' H' qs = true
    · obtain ⟨W1, H1, b, off, rfl, rfl, rfl, rfl, hF⟩ := fine_of h hf
      obtain ⟨W2, H2, b', off', rfl, rfl, rfl, rfl, hG⟩ := fine_of h' hg
      by_cases hw : withinB op 4 7 = true
      · by_cases h1 : W1 = W2
        · by_cases h2 : H1 = H2
          · subst h1 h2
            exact imageTwos_ok op W1 H1 b off cap ps b' off' cap' qs w hF hG hw
          · exact imageTwos_h op W1 H1 b off cap ps W2 H2 b' off' cap' qs w hF hG hw h1 h2
        · exact imageTwos_w op W1 H1 b off cap ps W2 H2 b' off' cap' qs w hF hG hw h1
      · exact imageTwos_kind op W1 H1 b off cap ps W2 H2 b' off' cap' qs w hF hG (eq_false_of_ne_true hw)
    · exact imageTwos_nb op W H a len cap ps W' H' a' len' cap' qs w h h' hf (eq_false_of_ne_true hg)
  · exact imageTwos_na op W H a len cap ps W' H' a' len' cap' qs w h h' (eq_false_of_ne_true hf)
end Go.Proofs.Ytfpkiimlaepnhaa
/-
  TRUEMATH: plain facts on what One, Two and Make make: right images; Up and then Down; one number; either order; less itself.
-/
namespace Go.Proofs.Ytfpkiimlaepnhaa
set_option maxRecDepth 100000
open Go.RowKit Im

theorem sumBox_le {p : Nat → Nat → Int} {l t n : Nat} : ∀ {m : Nat}, (∀ x y, l ≤ x → x < l + n → t ≤ y → y < t + m → 0 ≤ p x y ∧ p x y ≤ 65535) → 0 ≤ sumBox p l t n m ∧ sumBox p l t n m ≤ 65535 * ((n : Int) * (m : Int))
  | 0, _ => by simp [sumBox]
  | m + 1, h => by
    have h1 := sumBox_le (p := p) (l := l) (t := t) (n := n) (m := m) (fun x y h1 h2 h3 h4 => h x y h1 h2 h3 (by omega))
    have h2 := sumRow_bd (p := p) (y := t + m) (l := l) (n := n) (fun x h1 h2 => h x (t + m) h1 h2 (by omega) (by omega))
    unfold sumBox
    have e : (n : Int) * ((m + 1 : Nat) : Int) = (n : Int) * (m : Int) + n := by rw [Int.natCast_add, Int.mul_add]; simp
    rw [e]
    generalize (n : Int) * (m : Int) = z at h1 ⊢
    omega
theorem meanP_bd {p : Nat → Nat → Int} {l t r b : Nat} (h1 : l ≤ r) (h2 : t ≤ b) (h : ∀ x y, x ≤ r → y ≤ b → 0 ≤ p x y ∧ p x y ≤ 65535) : 0 ≤ meanP p l t r b ∧ meanP p l t r b ≤ 65535 := by
  rw [mean_eq p l (r + 1 - l) t (b + 1 - t) r b (by omega) (by omega)]
  have hb := sumBox_le (p := p) (l := l) (t := t) (n := r + 1 - l) (m := b + 1 - t) (fun x y _ _ _ _ => h x y (by omega) (by omega))
  have hpos : 0 < ((b + 1 - t : Nat) : Int) * ((r + 1 - l : Nat) : Int) := Int.mul_pos (by omega) (by omega)
  rw [Int.mul_comm ((r + 1 - l : Nat) : Int)] at hb
  generalize ((b + 1 - t : Nat) : Int) * ((r + 1 - l : Nat) : Int) = c at hb hpos ⊢
  refine ⟨Int.ediv_nonneg hb.1 (by omega), ?_⟩
  have : sumBox p l t (r + 1 - l) (b + 1 - t) / c < 65536 := Int.ediv_lt_of_lt_mul hpos (by omega)
  omega
theorem sumRow_const {p : Nat → Nat → Int} {y l : Nat} (k : Int) : ∀ {n : Nat}, (∀ x, l ≤ x → x < l + n → p x y = k) → sumRow p y l n = k * n
  | 0, _ => by simp [sumRow]
  | n + 1, h => by
    have h1 := sumRow_const (p := p) (y := y) (l := l) k (n := n) (fun x h1 h2 => h x h1 (by omega))
    have h2 := h (l + n) (by omega) (by omega)
    unfold sumRow
    rw [h1, h2, Int.natCast_add, Int.mul_add]; simp
theorem sumBox_const {p : Nat → Nat → Int} {l t n : Nat} (k : Int) : ∀ {m : Nat}, (∀ x y, l ≤ x → x < l + n → t ≤ y → y < t + m → p x y = k) → sumBox p l t n m = k * ((m : Int) * n)
  | 0, _ => by simp [sumBox]
  | m + 1, h => by
    have h1 := sumBox_const (p := p) (l := l) (t := t) (n := n) k (m := m) (fun x y h1 h2 h3 h4 => h x y h1 h2 h3 (by omega))
    have h2 := sumRow_const (p := p) (y := t + m) (l := l) k (n := n) (fun x h1 h2 => h x (t + m) h1 h2 (by omega) (by omega))
    unfold sumBox
    rw [h1, h2, Int.natCast_add, Int.add_mul, Int.mul_add]; simp
theorem meanP_const {p : Nat → Nat → Int} {l t r b : Nat} (k : Int) (h1 : l ≤ r) (h2 : t ≤ b) (h : ∀ x y, l ≤ x → x ≤ r → t ≤ y → y ≤ b → p x y = k) : meanP p l t r b = k := by
  rw [mean_eq p l (r + 1 - l) t (b + 1 - t) r b (by omega) (by omega), sumBox_const k (fun x y _ _ _ _ => h x y (by omega) (by omega) (by omega) (by omega))]
  have hpos : 0 < ((b + 1 - t : Nat) : Int) * ((r + 1 - l : Nat) : Int) := Int.mul_pos (by omega) (by omega)
  exact Int.mul_ediv_cancel _ (by omega)

/-- The numbers of a right image, by places. -/
theorem px_bd' {W H : Nat} {ps : List Int} (hl : ps.length = W * H) (hn : ∀ n ∈ ps, 0 ≤ n ∧ n ≤ 65535) (x y : Nat) (hx : x < W) (hy : y < H) : 0 ≤ px W ps x y ∧ px W ps x y ≤ 65535 := by
  have h : y * W + x < ps.length := by rw [hl]; exact place_lt hx hy
  unfold px
  rw [List.getD_eq_getElem?_getD, List.getElem?_eq_getElem h]
  exact hn _ (List.getElem_mem h)
theorem fine_pix {W H : Nat} {g : Nat → Nat → Int} (hW : 1 ≤ W ∧ W ≤ 16) (hH : 1 ≤ H ∧ H ≤ 16) (h : ∀ x y, x < W → y < H → 0 ≤ g x y ∧ g x y ≤ 65535) : fineB W H (pix W g (W * H)) = true := by
  rw [fine_iff]
  refine ⟨by omega, by omega, by rw [pix_length, Int.natCast_mul], pix_all W (W * H) g (by omega) (fun x y hx hy => h x y hx ?_)⟩
  rcases Nat.lt_or_ge y H with hh | hh
  · exact hh
  · have : H * W ≤ y * W := Nat.mul_le_mul_right _ hh
    rw [Nat.mul_comm] at this; omega
/-- What One makes is right. -/
theorem oneG_bd {op : Int} {W H : Nat} {k : Int} {ps : List Int} (hW : 1 ≤ W ∧ W ≤ 16) (hH : 1 ≤ H ∧ H ≤ 16) (hp : ∀ x y, x < W → y < H → 0 ≤ px W ps x y ∧ px W ps x y ≤ 65535) (hE : oneErr op W H k = 0) (x y : Nat) (hx : x < oneN op W) (hy : y < oneN op H) :
    0 ≤ oneG op W H k ps x y ∧ oneG op W H k ps x y ≤ 65535 := by
  rcases ones_cases op with (rfl | rfl) | rfl | rfl | rfl | rfl | ⟨h3, h10, h8, h9, h11, h12⟩
  · exact hp x y hx hy
  · have hx' : x < W := hx
    have hy' : y < H := hy
    exact meanP_bd (p := px W ps) (by omega) (by omega) (fun a b _ _ => hp a b (by omega) (by omega))
  · have := hp x y hx hy
    show 0 ≤ (if k ≤ px W ps x y then px W ps x y else 0) ∧ (if k ≤ px W ps x y then px W ps x y else 0) ≤ 65535
    split
    · exact this
    · omega
  · exact hp _ y (colX_lt x k W hW.1) hy
  · have hx' : x < W / 2 := hx
    have hy' : y < H / 2 := hy
    exact meanP_bd (p := px W ps) (by omega) (by omega) (fun a b _ _ => hp a b (by omega) (by omega))
  · have hx' : x < 2 * W := hx
    have hy' : y < 2 * H := hy
    exact hp _ _ (by omega) (by omega)
  · rw [oneErr_none W H k h3 h10 h8 h9 h11 h12] at hE; omega
theorem one_fine {op : Int} {W H : Nat} {k : Int} {ps : List Int} (hf : fineB W H ps = true) (hE : oneErr op W H k = 0) : fineB (oneN op W) (oneN op H) (pix (oneN op W) (oneG op W H k ps) (oneN op W * oneN op H)) = true := by
  obtain ⟨h1, h2, h3, h4⟩ := (fine_iff _ _ _).1 hf
  have hs := oneN_side (W := W) (H := H) (by omega) (by omega) hE
  exact fine_pix hs.1 hs.2 (fun x y hx hy => oneG_bd (by omega) (by omega) (px_bd' (by rw [← Int.natCast_mul] at h3; omega) h4) hE x y hx hy)
theorem two_fine {op : Int} {W H : Nat} {ps qs : List Int} (hop : op = 4 ∨ op = 5 ∨ op = 6 ∨ op = 7) (hf : fineB W H ps = true) (hg : fineB W H qs = true) : fineB W H (pix W (fun x y => twoG op (px W ps x y) (px W qs x y)) (W * H)) = true := by
  obtain ⟨h1, h2, h3, h4⟩ := (fine_iff _ _ _).1 hf
  obtain ⟨_, _, g3, g4⟩ := (fine_iff _ _ _).1 hg
  refine fine_pix (by omega) (by omega) (fun x y hx hy => ?_)
  have a := px_bd' (W := W) (H := H) (by rw [← Int.natCast_mul] at h3; omega) h4 x y hx hy
  have b := px_bd' (W := W) (H := H) (by rw [← Int.natCast_mul] at g3; omega) g4 x y hx hy
  generalize px W ps x y = m at a
  generalize px W qs x y = n at b
  rcases hop with rfl | rfl | rfl | rfl
  · show 0 ≤ min (m + n) 65535 ∧ min (m + n) 65535 ≤ 65535
    omega
  · show 0 ≤ max (m - n) 0 ∧ max (m - n) 0 ≤ 65535
    omega
  · show 0 ≤ m * n / 65535 ∧ m * n / 65535 ≤ 65535
    have e1 : 0 ≤ m * n := Int.mul_nonneg a.1 b.1
    have e2 : m * n ≤ 65535 * 65535 := Int.mul_le_mul a.2 b.2 b.1 (by omega)
    omega
  · show 0 ≤ max m n ∧ max m n ≤ 65535
    omega
theorem twoG_comm {op : Int} (h : op = 4 ∨ op = 6 ∨ op = 7) (m n : Int) : twoG op m n = twoG op n m := by
  rcases h with rfl | rfl | rfl
  · show min (m + n) 65535 = min (n + m) 65535
    rw [Int.add_comm]
  · show m * n / 65535 = n * m / 65535
    rw [Int.mul_comm]
  · show max m n = max n m
    omega
theorem pix_px {W H : Nat} {ps : List Int} (hl : ps.length = W * H) : pix W (px W ps) (W * H) = ps := by
  apply List.ext_getElem
  · rw [pix_length, hl]
  · intro i h1 h2
    have e : i / W * W + i % W = i := by rw [Nat.mul_comm]; exact Nat.div_add_mod i W
    simp [pix, px, e, h2]
/-- Up, and then Down. -/
theorem up_down {W H : Nat} {ps : List Int} (hl : ps.length = W * H) : pix W (oneG 11 (2 * W) (2 * H) 0 (pix (2 * W) (oneG 12 W H 0 ps) (2 * W * (2 * H)))) (W * H) = ps := by
  rw [show pix W (oneG 11 (2 * W) (2 * H) 0 (pix (2 * W) (oneG 12 W H 0 ps) (2 * W * (2 * H)))) (W * H) = pix W (px W ps) (W * H) from pix_congr W H _ _ (fun x y hx hy => ?_)]
  · exact pix_px hl
  · show meanP (px (2 * W) (pix (2 * W) (oneG 12 W H 0 ps) (2 * W * (2 * H)))) (2 * x) (2 * y) (2 * x + 1) (2 * y + 1) = px W ps x y
    refine meanP_const _ (by omega) (by omega) (fun a b h1 h2 h3 h4 => ?_)
    show (pix (2 * W) (oneG 12 W H 0 ps) (2 * W * (2 * H))).getD (b * (2 * W) + a) 0 = _
    rw [pix_at (2 * W) (2 * H) _ a b (by omega) (by omega)]
    show px W ps (a / 2) (b / 2) = px W ps x y
    rw [show a / 2 = x by omega, show b / 2 = y by omega]
theorem fill_blur {W H : Nat} (k : Int) (hW : 1 ≤ W) (hH : 1 ≤ H) : pix W (oneG 10 W H 0 (pix W (makeG 1 k) (W * H))) (W * H) = pix W (makeG 1 k) (W * H) :=
  pix_congr W H _ _ (fun x y hx hy => by
    show meanP (px W (pix W (makeG 1 k) (W * H))) (x - 1) (y - 1) (min (x + 1) (W - 1)) (min (y + 1) (H - 1)) = k
    refine meanP_const _ (by omega) (by omega) (fun a b _ _ _ _ => ?_)
    show (pix W (makeG 1 k) (W * H)).getD (b * W + a) 0 = k
    rw [pix_at W H _ a b (by omega) (by omega)]; rfl)
theorem fill_shift {W H : Nat} (k j : Int) (hW : 1 ≤ W) : pix W (oneG 9 W H j (pix W (makeG 1 k) (W * H))) (W * H) = pix W (makeG 1 k) (W * H) :=
  pix_congr W H _ _ (fun x y hx hy => by
    show (pix W (makeG 1 k) (W * H)).getD (y * W + colX x j W) 0 = k
    rw [pix_at W H _ _ y (colX_lt x j W hW) hy]; rfl)
theorem sub_self {W H : Nat} (ps : List Int) : ∀ n ∈ pix W (fun x y => twoG 5 (px W ps x y) (px W ps x y)) (W * H), n = 0 := by
  intro n hn
  simp [pix] at hn
  obtain ⟨i, _, rfl⟩ := hn
  show max (px W ps (i % W) (i / W) - px W ps (i % W) (i / W)) 0 = 0
  omega
end Go.Proofs.Ytfpkiimlaepnhaa
/-
  RES: One, Two and Make, each told by one answer.
-/
namespace Go.Proofs.Ytfpkiimlaepnhaa
set_option maxRecDepth 100000
open Go.RowKit Im

/-- An answer: the error's number, and the image. -/
structure Res where
  E : Int
  W : Int
  H : Int
  ps : List Int
def noRes (E : Int) : Res := ⟨E, 0, 0, []⟩
/-- The call's end tells the answer r; its numbers lie in memory. -/
def Told (w : World) (r : Res) (e : Ending) (w' : World) : Prop :=
  ∃ a cap, e = .returned (.tuple #[.agg #[.int .i64 r.W, .int .i64 r.H, .slice a r.ps.length cap], .int .i64 r.E]) ∧ Ints w.heap.size w' a r.ps.length r.ps ∧ Below w.heap.size w w'
theorem told_no {w : World} {E : Int} {e : Ending} {w' : World} (h : e = .returned (.tuple #[noImage, .int .i64 E]) ∧ Below w.heap.size w w') : Told w (noRes E) e w' :=
  ⟨none, 0, h.1, Ints.nil _ w', h.2⟩

def oneRes (op W H : Int) (ps : List Int) (k : Int) : Res :=
  if fineB W H ps = true then
    if oneErr op W.toNat H.toNat k = 0 then ⟨0, oneN op W.toNat, oneN op H.toNat, pix (oneN op W.toNat) (oneG op W.toNat H.toNat k ps) (oneN op W.toNat * oneN op H.toNat)⟩ else noRes (oneErr op W.toNat H.toNat k)
  else noRes 1
theorem one_told {op W H : Int} {a : Option Addr} {len : Nat} (cap : Nat) {k : Int} {ps : List Int} {w : World} (h : Ints 0 w a len ps) {r : Res} (hr : oneRes op W H ps k = r) :
    Calls Try.prog 22 #[.int .i64 op, .agg #[.int .i64 W, .int .i64 H, .slice a len cap], .int .i64 k] w (Told w r) := by
  subst hr
  unfold oneRes
  by_cases hf : fineB W H ps = true
  · rw [if_pos hf]
    obtain ⟨W', H', b, off, rfl, rfl, rfl, rfl, hF⟩ := fine_of h hf
    simp only [Int.toNat_natCast]
    by_cases hE : oneErr op W' H' k = 0
    · rw [if_pos hE]
      refine (one_ok op cap k hF hE).mono fun e w' ⟨a, cap', he, hi, hb⟩ => ⟨a, cap', ?_, ?_, hb⟩
      · simp only [pix_length]; exact he
      · simp only [pix_length]; exact hi
    · rw [if_neg hE]
      exact (one_err op cap k hF _ rfl hE).mono fun e w' h => told_no h
  · rw [if_neg hf]
    exact (one_not op cap k h (eq_false_of_ne_true hf)).mono fun e w' h => told_no h
theorem oneRes_fine {op W H : Int} {ps : List Int} {k : Int} (h : (oneRes op W H ps k).E = 0) : fineB (oneRes op W H ps k).W (oneRes op W H ps k).H (oneRes op W H ps k).ps = true := by
  unfold oneRes at h ⊢
  by_cases hf : fineB W H ps = true
  · rw [if_pos hf] at h ⊢
    have hb := (fine_iff _ _ _).1 hf
    obtain ⟨W', rfl⟩ := Int.eq_ofNat_of_zero_le (show 0 ≤ W by omega)
    obtain ⟨H', rfl⟩ := Int.eq_ofNat_of_zero_le (show 0 ≤ H by omega)
    simp only [Int.toNat_natCast] at h ⊢
    by_cases hE : oneErr op W' H' k = 0
    · rw [if_pos hE]; exact one_fine hf hE
    · rw [if_neg hE] at h; exact absurd h hE
  · rw [if_neg hf] at h; cases h

def twoRes (op W H : Int) (ps : List Int) (W' H' : Int) (qs : List Int) : Res :=
  if (fineB W H ps && fineB W' H' qs) = true then
    if withinB op 4 7 = true then
      if W = W' ∧ H = H' then ⟨0, W, H, pix W.toNat (fun x y => twoG op (px W.toNat ps x y) (px W.toNat qs x y)) (W.toNat * H.toNat)⟩ else noRes 6
    else noRes 4
  else noRes 1
theorem two_told {op W H W' H' : Int} {a a' : Option Addr} {len len' : Nat} (cap cap' : Nat) {ps qs : List Int} {w : World} (h : Ints 0 w a len ps) (h' : Ints 0 w a' len' qs) {r : Res} (hr : twoRes op W H ps W' H' qs = r) :
    Calls Try.prog 25 #[.int .i64 op, .agg #[.int .i64 W, .int .i64 H, .slice a len cap], .agg #[.int .i64 W', .int .i64 H', .slice a' len' cap']] w (Told w r) := by
  subst hr
  unfold twoRes
  by_cases hf : (fineB W H ps && fineB W' H' qs) = true
  · rw [if_pos hf]
    rw [Bool.and_eq_true] at hf
    obtain ⟨W1, H1, b, off, rfl, rfl, rfl, rfl, hF⟩ := fine_of h hf.1
    obtain ⟨W2, H2, b', off', rfl, rfl, rfl, rfl, hG⟩ := fine_of h' hf.2
    by_cases hw : withinB op 4 7 = true
    · rw [if_pos hw]
      have hop : op = 4 ∨ op = 5 ∨ op = 6 ∨ op = 7 := by simp [withinB] at hw; omega
      by_cases hs : (W1 : Int) = W2 ∧ (H1 : Int) = H2
      · rw [if_pos hs]
        obtain rfl : W1 = W2 := by omega
        obtain rfl : H1 = H2 := by omega
        simp only [Int.toNat_natCast]
        refine (two_ok cap cap' hF hG hop).mono fun e w' ⟨a, cap', he, hi, hb⟩ => ⟨a, cap', ?_, ?_, hb⟩
        · simp only [pix_length]; exact he
        · simp only [pix_length]; exact hi
      · rw [if_neg hs]
        exact (two_size cap cap' hF hG hop (by omega)).mono fun e w' h => told_no h
    · rw [if_neg hw]
      have hn : ¬ (op = 4 ∨ op = 5 ∨ op = 6 ∨ op = 7) := fun h => hw (by simp [withinB]; omega)
      exact (two_kind cap cap' hF hG (by omega) (by omega) (by omega) (by omega)).mono fun e w' h => told_no h
  · rw [if_neg hf]
    exact (two_form op cap cap' h h' (eq_false_of_ne_true hf)).mono fun e w' h => told_no h
theorem twoRes_fine {op W H : Int} {ps : List Int} {W' H' : Int} {qs : List Int} (h : (twoRes op W H ps W' H' qs).E = 0) : fineB (twoRes op W H ps W' H' qs).W (twoRes op W H ps W' H' qs).H (twoRes op W H ps W' H' qs).ps = true := by
  unfold twoRes at h ⊢
  by_cases hf : (fineB W H ps && fineB W' H' qs) = true
  · rw [if_pos hf] at h ⊢
    rw [Bool.and_eq_true] at hf
    by_cases hw : withinB op 4 7 = true
    · rw [if_pos hw] at h ⊢
      have hop : op = 4 ∨ op = 5 ∨ op = 6 ∨ op = 7 := by simp [withinB] at hw; omega
      by_cases hs : W = W' ∧ H = H'
      · rw [if_pos hs]
        obtain ⟨rfl, rfl⟩ := hs
        have hb := (fine_iff _ _ _).1 hf.1
        obtain ⟨W', rfl⟩ := Int.eq_ofNat_of_zero_le (show 0 ≤ W by omega)
        obtain ⟨H', rfl⟩ := Int.eq_ofNat_of_zero_le (show 0 ≤ H by omega)
        exact two_fine hop hf.1 hf.2
      · rw [if_neg hs] at h; cases h
    · rw [if_neg hw] at h; cases h
  · rw [if_neg hf] at h; cases h
theorem twoRes_comm {op W H : Int} {ps : List Int} {W' H' : Int} {qs : List Int} (hop : op = 4 ∨ op = 6 ∨ op = 7) : twoRes op W H ps W' H' qs = twoRes op W' H' qs W H ps := by
  unfold twoRes
  rw [Bool.and_comm]
  by_cases hs : W = W' ∧ H = H'
  · obtain ⟨rfl, rfl⟩ := hs
    simp only [twoG_comm hop]
  · have hs' : ¬ (W' = W ∧ H' = H) := fun h => hs ⟨h.1.symm, h.2.symm⟩
    rw [if_neg hs, if_neg hs']
/-- Up, and then Down, is as it was. -/
theorem up_then_down {W H : Int} {ps : List Int} {r : Res} (hr : oneRes 12 W H ps 0 = r) (h : r.E = 0) : oneRes 11 r.W r.H r.ps 0 = ⟨0, W, H, ps⟩ := by
  have hfr := oneRes_fine (by rw [hr]; exact h)
  rw [hr] at hfr
  subst hr
  unfold oneRes at h hfr
  by_cases hf : fineB W H ps = true
  · rw [if_pos hf] at h hfr
    have hb := (fine_iff _ _ _).1 hf
    obtain ⟨W', rfl⟩ := Int.eq_ofNat_of_zero_le (show 0 ≤ W by omega)
    obtain ⟨H', rfl⟩ := Int.eq_ofNat_of_zero_le (show 0 ≤ H by omega)
    simp only [Int.toNat_natCast] at h hfr
    by_cases hE : oneErr 12 W' H' 0 = 0
    · have hl : ps.length = W' * H' := by have := hb.2.2.1; rw [← Int.natCast_mul] at this; omega
      have e1 : oneRes 12 (W' : Int) (H' : Int) ps 0 = ⟨0, (2 * W' : Nat), (2 * H' : Nat), pix (2 * W') (oneG 12 W' H' 0 ps) (2 * W' * (2 * H'))⟩ := by
        unfold oneRes; rw [if_pos hf]; simp only [Int.toNat_natCast]; rw [if_pos hE]; rfl
      rw [if_pos hE] at hfr
      have hfr' : fineB ((2 * W' : Nat) : Int) ((2 * H' : Nat) : Int) (pix (2 * W') (oneG 12 W' H' 0 ps) (2 * W' * (2 * H'))) = true := hfr
      rw [e1]
      unfold oneRes
      rw [if_pos hfr']
      simp only [Int.toNat_natCast]
      have e2 : oneErr 11 (2 * W') (2 * H') 0 = 0 := by
        show okIf (decide (2 * W' % 2 = 0) && decide (2 * H' % 2 = 0)) 6 = 0
        simp [okIf]
      rw [if_pos e2]
      have n1 : oneN 11 (2 * W') = W' := by show 2 * W' / 2 = W'; omega
      have n2 : oneN 11 (2 * H') = H' := by show 2 * H' / 2 = H'; omega
      rw [n1, n2, up_down hl]
    · rw [if_neg hE] at h; exact absurd h hE
  · rw [if_neg hf] at h; cases h
/-- Less itself an image is 0. -/
theorem less_itself {W H : Int} {ps : List Int} {r : Res} (hr : twoRes 5 W H ps W H ps = r) : ∀ n ∈ r.ps, n = 0 := by
  subst hr
  unfold twoRes
  by_cases hf : (fineB W H ps && fineB W H ps) = true
  · rw [if_pos hf, if_pos (by decide), if_pos ⟨rfl, rfl⟩]
    exact sub_self ps
  · rw [if_neg hf]; intro n hn; cases hn
def makeRes (op W H k : Int) : Res :=
  if makeErr op W H k = 0 then ⟨0, W, H, pix W.toNat (makeG op k) (W.toNat * H.toNat)⟩ else noRes (makeErr op W H k)
theorem make_told {op W H k : Int} (w : World) {r : Res} (hr : makeRes op W H k = r) : Calls Try.prog 15 #[.int .i64 op, .int .i64 W, .int .i64 H, .int .i64 k] w (Told w r) := by
  subst hr
  unfold makeRes
  by_cases hE : makeErr op W H k = 0
  · rw [if_pos hE]
    obtain ⟨W1, H1, rfl, rfl, hop, h1, h2, h3⟩ := makeErr_zero hE
    simp only [Int.toNat_natCast]
    refine (make_ok op W1 H1 k w hop h1 h2 h3).mono fun e w' ⟨a, cap', he, hi, hb⟩ => ⟨a, cap', ?_, ?_, hb⟩
    · simp only [pix_length]; exact he
    · simp only [pix_length]; exact hi
  · rw [if_neg hE]
    exact (make_error op W H k w hE).mono fun e w' h => told_no h
/-- An image of one number stays one under Blur and Shift. -/
theorem plain_stays {W H k : Int} {r : Res} (hr : makeRes 1 W H k = r) (h : r.E = 0) (j : Int) (hj : -16 ≤ j ∧ j ≤ 16) : oneRes 10 r.W r.H r.ps 0 = r ∧ oneRes 9 r.W r.H r.ps j = r := by
  subst hr
  unfold makeRes at h ⊢
  by_cases hE : makeErr 1 W H k = 0
  · rw [if_pos hE]
    obtain ⟨W1, H1, rfl, rfl, hop, h1, h2, h3⟩ := makeErr_zero hE
    have b1 := (side_iff _).1 h1
    have b2 := (side_iff _).1 h2
    have b3 := (num_iff _).1 h3
    simp only [Int.toNat_natCast]
    have hf : fineB (W1 : Int) (H1 : Int) (pix W1 (makeG 1 k) (W1 * H1)) = true := fine_pix (by omega) (by omega) (fun x y _ _ => b3)
    unfold oneRes
    rw [if_pos hf, if_pos hf]
    simp only [Int.toNat_natCast]
    have e9 : oneErr 9 W1 H1 j = 0 := by
      show okIf (withinB j (-16) 16) 3 = 0
      rw [show withinB j (-16) 16 = true by simp [withinB]; omega]; rfl
    rw [if_pos (show oneErr 10 W1 H1 0 = 0 from rfl), if_pos e9]
    exact ⟨by rw [show oneN 10 W1 = W1 from rfl, show oneN 10 H1 = H1 from rfl, fill_blur k (by omega) (by omega)], by rw [show oneN 9 W1 = W1 from rfl, show oneN 9 H1 = H1 from rfl, fill_shift k j (by omega)]⟩
  · rw [if_neg hE] at h; exact absurd h hE
end Go.Proofs.Ytfpkiimlaepnhaa
/-
  TILESMATH: Lit and Near, each told by one answer; lights picked out of a list; what choose answers.
-/
namespace Go.Proofs.Ytfpkiimlaepnhaa
set_option maxRecDepth 100000
open Go.RowKit Im

def litRes (W H : Int) (ps : List Int) (ls : List Lt) (tile : Int) : Res :=
  if fineB W H ps = true then
    if lightsErr ls = 0 then
      if 1 ≤ tile ∧ tile ≤ 16 then ⟨0, W, H, pix W.toNat (litG W.toNat ps ls) (W.toNat * H.toNat)⟩ else noRes 3
    else noRes (lightsErr ls)
  else noRes 1
theorem lit_told {W H : Int} {a : Option Addr} {len : Nat} (cap : Nat) {ps : List Int} {la : Option Addr} {llen : Nat} (lcap : Nat) {ls : List Lt} {tile : Int} {w : World} (h : Ints 0 w a len ps) (hl : Lights w la llen ls) {r : Res} (hr : litRes W H ps ls tile = r) :
    Calls Try.prog 37 #[.agg #[.int .i64 W, .int .i64 H, .slice a len cap], .slice la llen lcap, .int .i64 tile] w (Told w r) := by
  subst hr
  unfold litRes
  by_cases hf : fineB W H ps = true
  · rw [if_pos hf]
    obtain ⟨W', H', b, off, rfl, rfl, rfl, rfl, hF⟩ := fine_of h hf
    simp only [Int.toNat_natCast]
    by_cases hE : lightsErr ls = 0
    · rw [if_pos hE]
      by_cases ht : 1 ≤ tile ∧ tile ≤ 16
      · rw [if_pos ht]
        obtain ⟨tn, rfl⟩ := Int.eq_ofNat_of_zero_le (show 0 ≤ tile by omega)
        refine (lit_ok cap lcap tn hF hl hE (by omega)).mono fun e w' ⟨a, cap', he, hi, hb⟩ => ⟨a, cap', ?_, ?_, hb⟩
        · simp only [pix_length]; exact he
        · simp only [pix_length]; exact hi
      · rw [if_neg ht]
        exact (lit_range cap lcap tile hF hl hE (by omega)).mono fun e w' h => told_no h
    · rw [if_neg hE]
      exact (lit_lights cap lcap tile hF hl hE).mono fun e w' h => told_no h
  · rw [if_neg hf]
    exact (lit_form cap lcap tile h (eq_false_of_ne_true hf)).mono fun e w' h => told_no h

theorem pix_getD (W : Nat) (g : Nat → Nat → Int) (n i : Nat) (h : i < n) : (pix W g n).getD i 0 = g (i % W) (i / W) := by
  unfold pix
  simp [List.getD_eq_getElem?_getD, h]
/-- Tiles of either size give the same; and what is lit is not darker. -/
theorem litRes_same {W H : Int} {ps : List Int} {ls : List Lt} {one two : Int} (h1 : (litRes W H ps ls one).E = 0) (h2 : (litRes W H ps ls two).E = 0) :
    litRes W H ps ls one = litRes W H ps ls two ∧ ¬ ps = [] ∧ (litRes W H ps ls one).ps.length = ps.length ∧ ∀ i, i < ps.length → ps.getD i 0 ≤ (litRes W H ps ls one).ps.getD i 0 := by
  unfold litRes at h1 h2 ⊢
  by_cases hf : fineB W H ps = true
  · rw [if_pos hf] at h1 h2 ⊢
    rw [if_pos hf]
    by_cases hE : lightsErr ls = 0
    · rw [if_pos hE] at h1 h2 ⊢
      rw [if_pos hE]
      by_cases t1 : 1 ≤ one ∧ one ≤ 16
      · by_cases t2 : 1 ≤ two ∧ two ≤ 16
        · rw [if_pos t1, if_pos t2]
          obtain ⟨f1, f2, f3, f4⟩ := (fine_iff W H ps).1 hf
          obtain ⟨W', rfl⟩ := Int.eq_ofNat_of_zero_le (show 0 ≤ W by omega)
          obtain ⟨H', rfl⟩ := Int.eq_ofNat_of_zero_le (show 0 ≤ H by omega)
          simp only [Int.toNat_natCast, pix_length]
          have hl : ps.length = W' * H' := by exact_mod_cast f3
          have hpos : 0 < W' * H' := Nat.mul_pos (by omega) (by omega)
          refine ⟨trivial, fun e => by rw [e] at hl; simp at hl; omega, hl.symm, fun i hi => ?_⟩
          rw [pix_getD _ _ _ _ (by omega)]
          have hr := (lightsErr_zero hE).2
          have hx : i % W' < W' := Nat.mod_lt _ (by omega)
          have hy : i / W' < H' := Nat.div_lt_of_lt_mul (by omega)
          have hs := sumG_bd (i % W' : Nat) (i / W' : Nat) (by generalize i % W' = X at hx; omega) (by generalize i / W' = Y at hy; omega) ls hr
          have hn := f4 (ps.getD i 0) (by rw [List.getD_eq_getElem?_getD, List.getElem?_eq_getElem hi]; exact List.getElem_mem hi)
          have hp : px W' ps (i % W') (i / W') = ps.getD i 0 := by
            unfold px
            rw [Nat.mul_comm, Nat.div_add_mod]
          unfold litG
          rw [hp]
          omega
        · rw [if_neg t2] at h2; cases h2
      · rw [if_neg t1] at h1; cases h1
    · rw [if_neg hE] at h1; exact absurd h1 hE
  · rw [if_neg hf] at h1; cases h1

/-- Near, where it tells an error. -/
theorem near_bad {a : Option Addr} {len : Nat} (cap : Nat) {ls : List Lt} (x y pw ph : Int) {w : World} (h : Lights w a len ls) (hN : ¬ (lightsErr ls = 0 ∧ stretchB x pw = true ∧ stretchB y ph = true)) :
    ∃ E, (E != 0) = true ∧ Calls Try.prog 30 #[.slice a len cap, .int .i64 x, .int .i64 y, .int .i64 pw, .int .i64 ph] w fun e w' => e = .returned (.tuple #[.slice none 0 0, .int .i64 E]) ∧ Below w.heap.size w w' := by
  by_cases hE : lightsErr ls = 0
  · refine ⟨3, by decide, near_range cap x y pw ph h hE ?_⟩
    cases h1 : stretchB x pw <;> cases h2 : stretchB y ph <;> simp_all
  · exact ⟨lightsErr ls, by simpa using hE, near_error cap x y pw ph h hE⟩

/-- What choose answers. -/
def chooseV (c n : Int) : Int := (if c < 0 then -(c + 1) else c) % n
theorem chooseV_bd (c n : Int) (hn : 1 ≤ n) : 0 ≤ chooseV c n ∧ chooseV c n < n := ⟨Int.emod_nonneg _ (by omega), Int.emod_lt_of_pos _ (by omega)⟩
theorem choose_all (c n : Int) (w : World) (h0 : -9223372036854775808 ≤ c) (h1 : c ≤ 9223372036854775807) (hn : 1 ≤ n) : Calls Try.prog 28 #[.int .i64 c, .int .i64 n] w fun e w' => e = .returned (.int .i64 (chooseV c n)) ∧ w = w' := by
  have hz : ¬ n = 0 := by omega
  by_cases hc : c < 0
  · have e : chooseV c n = (-(c + 1)) % n := by simp [chooseV, hc]
    rw [e]
    obtain ⟨d, hd⟩ : ∃ d, -(c + 1) = d := ⟨_, rfl⟩
    rw [hd]
    have hp : 0 ≤ d := by omega
    have hq : d ≤ 9223372036854775807 := by omega
    clear e
    go_enter Try.func28, Try.ntmps28
    go_wp2
    go_ret
    exact ⟨rfl, rfl⟩
  · have e : chooseV c n = c % n := by simp [chooseV, hc]
    rw [e]
    go_enter Try.func28, Try.ntmps28
    go_wp2
    go_ret
    exact ⟨rfl, rfl⟩

/-- The lights of the first k numbers. -/
def selL (ls : List Lt) (qs : List Int) (k : Nat) : List Lt := (qs.take k).map fun i => ls.getD i.toNat Lt.zero
theorem selL_len (ls : List Lt) (qs : List Int) (k : Nat) (h : k ≤ qs.length) : (selL ls qs k).length = k := by simp [selL, h]
theorem selL_succ (ls : List Lt) (qs : List Int) (k : Nat) (h : k < qs.length) : selL ls qs (k + 1) = selL ls qs k ++ [ls.getD (qs.getD k 0).toNat Lt.zero] := by
  unfold selL
  rw [List.take_succ_eq_append_getElem h, List.map_append, List.getD_eq_getElem?_getD (l := qs), List.getElem?_eq_getElem h]
  rfl
theorem sumG_sel (x y : Int) (ls : List Lt) : ∀ qs : List Int, sumG x y (qs.map fun i => ls.getD i.toNat Lt.zero) = sumN x y ls qs
  | [] => rfl
  | i :: r => by simp only [List.map_cons, sumG, sumN, sumG_sel x y ls r]
/-- The lights that are near a part: they are right, and give to its places what all give. -/
theorem sel_near {ls : List Lt} (x y : Int) (pw ph : Nat) (hE : lightsErr ls = 0) :
    lightsErr (selL ls (pickL (nearB x y pw ph) ls ls.length) (pickL (nearB x y pw ph) ls ls.length).length) = 0 ∧
      ∀ r s : Nat, r < pw → s < ph → sumG (x + r) (y + s) (selL ls (pickL (nearB x y pw ph) ls ls.length) (pickL (nearB x y pw ph) ls ls.length).length) = sumG (x + r) (y + s) ls := by
  obtain ⟨h8, hr⟩ := lightsErr_zero hE
  have hlen := pickL_len (nearB x y pw ph) ls ls.length
  constructor
  · have hl := selL_len ls (pickL (nearB x y pw ph) ls ls.length) (pickL (nearB x y pw ph) ls ls.length).length (Nat.le_refl _)
    have hall : (selL ls (pickL (nearB x y pw ph) ls ls.length) (pickL (nearB x y pw ph) ls ls.length).length).all rightB = true := by
      rw [List.all_eq_true]
      intro l hl
      unfold selL at hl
      rw [List.take_length, List.mem_map] at hl
      obtain ⟨i, hi, rfl⟩ := hl
      unfold pickL at hi
      simp only [List.mem_map, List.mem_filter, List.mem_range] at hi
      obtain ⟨m, ⟨h1, _⟩, rfl⟩ := hi
      exact all_getD ls m h1 hr
    unfold lightsErr
    rw [if_pos (by omega), hall]
    rfl
  · intro r s hr' hs
    unfold selL
    rw [List.take_length, sumG_sel, sumN_pick (x + r) (y + s) (nearB x y pw ph) ls ls.length (Nat.le_refl _) (fun k _ hk => not_near x y pw ph r s hr' hs hk), List.take_length]

/-- Lights' cells, one after another. -/
def lcells : List Lt → List Value
  | [] => []
  | l :: r => .int .i64 l.X :: .int .i64 l.Y :: .int .i64 l.R :: .int .i64 l.P :: lcells r
theorem lcells_len : ∀ ls, (lcells ls).length = ls.length * 4
  | [] => rfl
  | l :: r => by simp only [lcells, List.length_cons, lcells_len r]; omega
theorem lcells_snoc (l : Lt) : ∀ ls, lcells (ls ++ [l]) = lcells ls ++ [.int .i64 l.X, .int .i64 l.Y, .int .i64 l.R, .int .i64 l.P]
  | [] => rfl
  | m :: r => by simp only [List.cons_append, lcells, lcells_snoc l r]
theorem lcells_get : ∀ (ls : List Lt) (j : Nat), j < ls.length → (lcells ls)[j * 4]? = some (.int .i64 (ls.getD j Lt.zero).X) ∧ (lcells ls)[j * 4 + 1]? = some (.int .i64 (ls.getD j Lt.zero).Y) ∧ (lcells ls)[j * 4 + 2]? = some (.int .i64 (ls.getD j Lt.zero).R) ∧ (lcells ls)[j * 4 + 3]? = some (.int .i64 (ls.getD j Lt.zero).P)
  | [], j, h => by simp at h
  | l :: r, 0, _ => by simp [lcells]
  | l :: r, j + 1, h => by
    have ih := lcells_get r j (by simpa using h)
    have e0 : ∀ t, (lcells (l :: r))[t + 4]? = (lcells r)[t]? := fun t => by simp [lcells]
    rw [show (j + 1) * 4 = j * 4 + 4 by omega, show j * 4 + 4 + 1 = j * 4 + 1 + 4 by omega, show j * 4 + 4 + 2 = j * 4 + 2 + 4 by omega, show j * 4 + 4 + 3 = j * 4 + 3 + 4 by omega, e0, e0, e0, e0]
    exact ih
/-- A slice of the call's own that holds the lights ls. -/
def OwnsL (base : Nat) (w : World) (v : Value) (ls : List Lt) : Prop := w.ownsRow base 59 4 v ls.length (lcells ls)
theorem OwnsL.lights {base : Nat} {w : World} {v : Value} {ls : List Lt} (h : OwnsL base w v ls) (hb : ls.length ≤ 8) : ∃ a cap, v = .slice a ls.length cap ∧ Lights w a ls.length ls := by
  obtain ⟨h1, h2⟩ := h
  rcases h2 with ⟨rfl, h0⟩ | ⟨g, cap, cur, rfl, hg, hh, hc, hm, hs, ht⟩
  · have : ls = [] := by simpa using h0
    subst this
    exact ⟨none, 0, rfl, rfl, by simp, .inl rfl⟩
  · refine ⟨_, cap, rfl, rfl, by omega, .inr ⟨g, 0, rfl, ?_, fun j hj => ?_⟩⟩
    · rcases Nat.lt_or_ge g w.heap.size with h | h
      · exact h
      · rw [Array.getElem?_eq_none h] at hh; cases hh
    · have hl := lcells_len ls
      have hg4 := lcells_get ls j hj
      have this := fun i hi => World.ownsRow.cellAt (base := base) (e := 59) (size := 4) ⟨h1, .inr ⟨g, cap, cur, rfl, hg, hh, hc, hm, hs, ht⟩⟩ i hi
      rw [Nat.zero_add]
      exact ⟨(this (j * 4) (by omega)).trans hg4.1, (this (j * 4 + 1) (by omega)).trans hg4.2.1, (this (j * 4 + 2) (by omega)).trans hg4.2.2.1, (this (j * 4 + 3) (by omega)).trans hg4.2.2.2⟩
theorem OwnsL.push {base : Nat} {w wx w1 : World} {v v' : Value} {ls : List Lt} {l : Lt} {B0 : World} {o : Obj} (h : OwnsL base w v ls) (hb : Below base B0 w) (hB : base ≤ w.heap.size)
    (h' : w1.ownsRow base 59 4 v' (ls.length + 1) (lcells ls ++ [.int .i64 l.X, .int .i64 l.Y, .int .i64 l.R, .int .i64 l.P])) (hx : wx = w.alloc o) (hg : wx.grownBy w1 v.ownBlock) : OwnsL base w1 v' (ls ++ [l]) ∧ Below base B0 w1 := by
  subst hx
  refine ⟨by unfold OwnsL; rw [lcells_snoc]; simpa using h', ?_⟩
  exact (hb.alloc hB o).grown hg (by simp; omega) (fun j hj => (World.ownsRow.lt (w := w) h j hj).1)
theorem Try.infoLight : (Try.prog.info? 59).map (fun i => (i.zero, i.size, i.bytes)) = some (some (.agg #[.int .i64 0, .int .i64 0, .int .i64 0, .int .i64 0]), 4, 32) := by kernel_rfl
theorem cell_four_new (w : World) (v0 v1 v2 v3 : Value) (t : TypeId) : ∀ (j : Nat) (u : Value), [v0, v1, v2, v3][j]? = some u → (w.alloc (.cells #[v0, v1, v2, v3] t)).cell? ((⟨w.heap.size, 0, none⟩ : Addr).add j) = some u := by
  intro j u h
  have hj : j < 4 := by
    rcases Nat.lt_or_ge j 4 with h4 | h4
    · exact h4
    · rw [List.getElem?_eq_none (by simpa using h4)] at h; cases h
  match j, hj with
  | 0, _ => simp at h; subst h; simp [go_sem]
  | 1, _ => simp at h; subst h; simp [go_sem]
  | 2, _ => simp at h; subst h; simp [go_sem]
  | 3, _ => simp at h; subst h; simp [go_sem]
end Go.Proofs.Ytfpkiimlaepnhaa
