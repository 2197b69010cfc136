/-
  LAWLITS: the walk of the law LightLits.
-/
import Derived.Test.YtfpkiimlaepnhaaLightBegun
import Derived.Test.YtfpkiimlaepnhaaLitRef
import Derived.Test.YtfpkiimlaepnhaaLawMakes
namespace Go.Proofs.Ytfpkiimlaepnhaa
set_option maxRecDepth 100000
open Go.RowKit Im

set_option maxHeartbeats 1000000 in
theorem lits_form (W H : Int) (a : Option Addr) (len cap : Nat) (ps : List Int) (la : Option Addr) (llen lcap : Nat) (ls : List Lt) (tile : Int) (w : World) (hint : Ints 0 w a len ps) (hl : Lights w la llen ls) (hf : fineB W H ps = false) :
    Calls Try.prog 8 #[.agg #[.int .i64 W, .int .i64 H, .slice a len cap], .slice la llen lcap, .int .i64 tile] w fun e w' => e = .returned (.bool true) ∧ Below w.heap.size w w' := by
  have hcr := fun wx (hx : Lights wx la llen ls) => checkR_any lcap hx
  have hP := Pic.new (W := W) (H := H) cap hint
  have hb := below_box (Below.refl w.heap.size w) (.cells #[.int .i64 W, .int .i64 H, .slice a len cap] 24)
  have hl1 := hl.below hb
  have hlit := lit_form cap lcap tile (la := la) (llen := llen) (w := w.alloc (.cells #[.int .i64 W, .int .i64 H, .slice a len cap] 24)) (hint.alloc _) hf
  generalize lightsErr ls = E at hcr
  go_enter Try.func8, Try.ntmps8
  go_wp2_with fail
  refine hlit.mono ?_
  rintro e wA ⟨rfl, b1⟩
  clear hlit
  replace hP := (hP.below b1).alloc (.cells #[.int .i64 0, .int .i64 0, .slice none 0 0] 24)
  replace hl1 := (hl1.below b1).alloc (.cells #[.int .i64 0, .int .i64 0, .slice none 0 0] 24)
  replace hb := below_box (below_step hb b1) (.cells #[.int .i64 0, .int .i64 0, .slice none 0 0] 24)
  have hq := Pic.new (W := 0) (H := 0) 0 (Ints.nil 0 wA)
  go_wp2_with fail
  refine (hcr _ hl1).mono ?_
  rintro e wB ⟨rfl, b2⟩
  replace hP := hP.below b2
  replace hq := hq.below b2
  replace hb := below_step hb b2
  obtain ⟨_, k0, k1, k2, _⟩ := id hP
  go_wp2_with fail
  have hfi := isfine_any W H cap hP.ints
  rw [hf] at hfi
  refine hfi.mono ?_
  rintro e wC ⟨rfl, b3⟩
  clear k0 k1 k2 hfi hP
  replace hq := (hq.below b3).alloc (.cells #[.int .i64 0, .int .i64 0, .slice none 0 0] 24)
  replace hb := below_box (below_step hb b3) (.cells #[.int .i64 0, .int .i64 0, .slice none 0 0] 24)
  have hr := Pic.new (W := 0) (H := 0) 0 (Ints.nil 0 wC)
  go_wp2_with fail
  refine (lightBegun_any _).mono ?_
  rintro e wY ⟨rfl, bY⟩
  replace hq := hq.below bY
  replace hr := hr.below bY
  replace hb := below_step hb bY
  obtain ⟨_, m0, m1, m2, _⟩ := id hq
  obtain ⟨_, o0, o1, o2, _⟩ := id hr
  go_wp2_with fail
  refine (sameImages_any 0 0 0 0 0 0 hq.ints hr.ints).mono ?_
  rintro e wZ ⟨rfl, bZ⟩
  go_wp2
  go_ret
  exact ⟨rfl, below_step hb bZ⟩
set_option maxHeartbeats 1000000 in
theorem lits_lights (W H b off cap : Nat) (ps : List Int) (la : Option Addr) (llen lcap : Nat) (ls : List Lt) (tile : Int) (w : World) (hF : Fine w b off W H ps) (hl : Lights w la llen ls) (hE : ¬ lightsErr ls = 0) :
    Calls Try.prog 8 #[.agg #[.int .i64 W, .int .i64 H, .slice (some ⟨b, off, none⟩) (W * H) cap], .slice la llen lcap, .int .i64 tile] w fun e w' => e = .returned (.bool true) ∧ Below w.heap.size w w' := by
  have hcr := fun wx (hx : Lights wx la llen ls) => checkR_any lcap hx
  have hint := hF.ints
  have hP := Pic.new (W := W) (H := H) cap hint
  have hb := below_box (Below.refl w.heap.size w) (.cells #[.int .i64 W, .int .i64 H, .slice (some ⟨b, off, none⟩) (W * H) cap] 24)
  have hl1 := hl.below hb
  have hlit := lit_lights cap lcap tile (hF.below hb) hl1 hE
  have hne : (lightsErr ls == 0) = false := by simpa using hE
  generalize lightsErr ls = E at hcr hlit hne
  clear hE
  go_enter Try.func8, Try.ntmps8
  go_wp2_with fail
  refine hlit.mono ?_
  rintro e wA ⟨rfl, b1⟩
  clear hlit
  replace hP := (hP.below b1).alloc (.cells #[.int .i64 0, .int .i64 0, .slice none 0 0] 24)
  replace hl1 := (hl1.below b1).alloc (.cells #[.int .i64 0, .int .i64 0, .slice none 0 0] 24)
  replace hb := below_box (below_step hb b1) (.cells #[.int .i64 0, .int .i64 0, .slice none 0 0] 24)
  have hq := Pic.new (W := 0) (H := 0) 0 (Ints.nil 0 wA)
  go_wp2_with fail
  refine (hcr _ hl1).mono ?_
  rintro e wB ⟨rfl, b2⟩
  replace hP := hP.below b2
  replace hq := hq.below b2
  replace hb := below_step hb b2
  obtain ⟨_, k0, k1, k2, _⟩ := id hP
  go_wp2_with fail
  have hfi := isfine_any W H cap hP.ints
  rw [hF.fineB] at hfi
  refine hfi.mono ?_
  rintro e wC ⟨rfl, b3⟩
  clear k0 k1 k2 hfi hP
  replace hq := (hq.below b3).alloc (.cells #[.int .i64 0, .int .i64 0, .slice none 0 0] 24)
  replace hb := below_box (below_step hb b3) (.cells #[.int .i64 0, .int .i64 0, .slice none 0 0] 24)
  have hr := Pic.new (W := 0) (H := 0) 0 (Ints.nil 0 wC)
  go_wp2_with fail
  refine (lightBegun_any _).mono ?_
  rintro e wY ⟨rfl, bY⟩
  replace hq := hq.below bY
  replace hr := hr.below bY
  replace hb := below_step hb bY
  obtain ⟨_, m0, m1, m2, _⟩ := id hq
  obtain ⟨_, o0, o1, o2, _⟩ := id hr
  go_wp2_with fail
  refine (sameImages_any 0 0 0 0 0 0 hq.ints hr.ints).mono ?_
  rintro e wZ ⟨rfl, bZ⟩
  go_wp2
  go_ret
  exact ⟨rfl, below_step hb bZ⟩
set_option maxHeartbeats 1000000 in
theorem lits_low (W H b off cap : Nat) (ps : List Int) (la : Option Addr) (llen lcap : Nat) (ls : List Lt) (tile : Int) (w : World) (hF : Fine w b off W H ps) (hl : Lights w la llen ls) (hE : lightsErr ls = 0) (ht : tile < 1) :
    Calls Try.prog 8 #[.agg #[.int .i64 W, .int .i64 H, .slice (some ⟨b, off, none⟩) (W * H) cap], .slice la llen lcap, .int .i64 tile] w fun e w' => e = .returned (.bool true) ∧ Below w.heap.size w w' := by
  have hcr := fun wx (hx : Lights wx la llen ls) => checkR_any lcap hx
  have hint := hF.ints
  have hP := Pic.new (W := W) (H := H) cap hint
  have hb := below_box (Below.refl w.heap.size w) (.cells #[.int .i64 W, .int .i64 H, .slice (some ⟨b, off, none⟩) (W * H) cap] 24)
  have hl1 := hl.below hb
  have hlit := lit_range cap lcap tile (hF.below hb) hl1 hE (.inl ht)
  rw [hE] at hcr
  clear hE
  go_enter Try.func8, Try.ntmps8
  go_wp2_with fail
  refine hlit.mono ?_
  rintro e wA ⟨rfl, b1⟩
  clear hlit
  replace hP := (hP.below b1).alloc (.cells #[.int .i64 0, .int .i64 0, .slice none 0 0] 24)
  replace hl1 := (hl1.below b1).alloc (.cells #[.int .i64 0, .int .i64 0, .slice none 0 0] 24)
  replace hb := below_box (below_step hb b1) (.cells #[.int .i64 0, .int .i64 0, .slice none 0 0] 24)
  have hq := Pic.new (W := 0) (H := 0) 0 (Ints.nil 0 wA)
  go_wp2_with fail
  refine (hcr _ hl1).mono ?_
  rintro e wB ⟨rfl, b2⟩
  replace hP := hP.below b2
  replace hq := hq.below b2
  replace hb := below_step hb b2
  obtain ⟨_, k0, k1, k2, _⟩ := id hP
  go_wp2_with fail
  have hfi := isfine_any W H cap hP.ints
  rw [hF.fineB] at hfi
  refine hfi.mono ?_
  rintro e wC ⟨rfl, b3⟩
  clear k0 k1 k2 hfi hP
  replace hq := (hq.below b3).alloc (.cells #[.int .i64 0, .int .i64 0, .slice none 0 0] 24)
  replace hb := below_box (below_step hb b3) (.cells #[.int .i64 0, .int .i64 0, .slice none 0 0] 24)
  have hr := Pic.new (W := 0) (H := 0) 0 (Ints.nil 0 wC)
  go_wp2_with fail
  refine (lightBegun_any _).mono ?_
  rintro e wY ⟨rfl, bY⟩
  replace hq := hq.below bY
  replace hr := hr.below bY
  replace hb := below_step hb bY
  obtain ⟨_, m0, m1, m2, _⟩ := id hq
  obtain ⟨_, o0, o1, o2, _⟩ := id hr
  go_wp2_with fail
  refine (sameImages_any 0 0 0 0 0 0 hq.ints hr.ints).mono ?_
  rintro e wZ ⟨rfl, bZ⟩
  go_wp2
  go_ret
  exact ⟨rfl, below_step hb bZ⟩
set_option maxHeartbeats 1000000 in
theorem lits_high (W H b off cap : Nat) (ps : List Int) (la : Option Addr) (llen lcap : Nat) (ls : List Lt) (tile : Int) (w : World) (hF : Fine w b off W H ps) (hl : Lights w la llen ls) (hE : lightsErr ls = 0) (ht : 16 < tile) :
    Calls Try.prog 8 #[.agg #[.int .i64 W, .int .i64 H, .slice (some ⟨b, off, none⟩) (W * H) cap], .slice la llen lcap, .int .i64 tile] w fun e w' => e = .returned (.bool true) ∧ Below w.heap.size w w' := by
  have hcr := fun wx (hx : Lights wx la llen ls) => checkR_any lcap hx
  have hint := hF.ints
  have hP := Pic.new (W := W) (H := H) cap hint
  have hb := below_box (Below.refl w.heap.size w) (.cells #[.int .i64 W, .int .i64 H, .slice (some ⟨b, off, none⟩) (W * H) cap] 24)
  have hl1 := hl.below hb
  have hlit := lit_range cap lcap tile (hF.below hb) hl1 hE (.inr ht)
  rw [hE] at hcr
  clear hE
  go_enter Try.func8, Try.ntmps8
  go_wp2_with fail
  refine hlit.mono ?_
  rintro e wA ⟨rfl, b1⟩
  clear hlit
  replace hP := (hP.below b1).alloc (.cells #[.int .i64 0, .int .i64 0, .slice none 0 0] 24)
  replace hl1 := (hl1.below b1).alloc (.cells #[.int .i64 0, .int .i64 0, .slice none 0 0] 24)
  replace hb := below_box (below_step hb b1) (.cells #[.int .i64 0, .int .i64 0, .slice none 0 0] 24)
  have hq := Pic.new (W := 0) (H := 0) 0 (Ints.nil 0 wA)
  go_wp2_with fail
  refine (hcr _ hl1).mono ?_
  rintro e wB ⟨rfl, b2⟩
  replace hP := hP.below b2
  replace hq := hq.below b2
  replace hb := below_step hb b2
  obtain ⟨_, k0, k1, k2, _⟩ := id hP
  go_wp2_with fail
  have hfi := isfine_any W H cap hP.ints
  rw [hF.fineB] at hfi
  refine hfi.mono ?_
  rintro e wC ⟨rfl, b3⟩
  clear k0 k1 k2 hfi hP
  replace hq := (hq.below b3).alloc (.cells #[.int .i64 0, .int .i64 0, .slice none 0 0] 24)
  replace hb := below_box (below_step hb b3) (.cells #[.int .i64 0, .int .i64 0, .slice none 0 0] 24)
  have hr := Pic.new (W := 0) (H := 0) 0 (Ints.nil 0 wC)
  go_wp2_with fail
  refine (lightBegun_any _).mono ?_
  rintro e wY ⟨rfl, bY⟩
  replace hq := hq.below bY
  replace hr := hr.below bY
  replace hb := below_step hb bY
  obtain ⟨_, m0, m1, m2, _⟩ := id hq
  obtain ⟨_, o0, o1, o2, _⟩ := id hr
  go_wp2_with fail
  refine (sameImages_any 0 0 0 0 0 0 hq.ints hr.ints).mono ?_
  rintro e wZ ⟨rfl, bZ⟩
  go_wp2
  go_ret
  exact ⟨rfl, below_step hb bZ⟩
set_option maxHeartbeats 1000000 in
theorem lits_ok (W H b off cap : Nat) (ps : List Int) (la : Option Addr) (llen lcap : Nat) (ls : List Lt) (tile : Nat) (w : World) (hF : Fine w b off W H ps) (hl : Lights w la llen ls) (hE : lightsErr ls = 0) (h1 : 1 ≤ (tile : Int)) (h2 : (tile : Int) ≤ 16) :
    Calls Try.prog 8 #[.agg #[.int .i64 W, .int .i64 H, .slice (some ⟨b, off, none⟩) (W * H) cap], .slice la llen lcap, .int .i64 tile] w fun e w' => e = .returned (.bool true) ∧ Below w.heap.size w w' := by
  have hcr := fun wx (hx : Lights wx la llen ls) => checkR_any lcap hx
  have hP := Pic.new (W := W) (H := H) cap hF.ints
  have hb := below_box (Below.refl w.heap.size w) (.cells #[.int .i64 W, .int .i64 H, .slice (some ⟨b, off, none⟩) (W * H) cap] 24)
  have hl1 := hl.below hb
  have h0 := lightsErr_zero hE
  have hlit := lit_ok cap lcap tile (hF.below hb) hl1 hE (by omega)
  have hof := fun wx (hx : Fine wx b off W H ps) (hy : Lights wx la llen ls) => litOf_any (cap := cap) lcap hx hy h0.1 h0.2
  rw [hE] at hcr
  generalize pix W (litG W ps ls) (W * H) = qs at hlit hof
  clear hE h0
  go_enter Try.func8, Try.ntmps8
  go_wp2_with fail
  refine hlit.mono ?_
  rintro e wA ⟨a2, cap2, rfl, i2, b1⟩
  clear hlit
  replace hP := (hP.below b1).alloc (.cells #[.int .i64 W, .int .i64 H, .slice a2 (W * H) cap2] 24)
  replace hl1 := (hl1.below b1).alloc (.cells #[.int .i64 W, .int .i64 H, .slice a2 (W * H) cap2] 24)
  replace hb := below_box (below_step hb b1) (.cells #[.int .i64 W, .int .i64 H, .slice a2 (W * H) cap2] 24)
  have hq := Pic.new (W := W) (H := H) cap2 (i2.mono (Nat.zero_le _))
  go_wp2_with fail
  refine (hcr _ hl1).mono ?_
  rintro e wB ⟨rfl, b2⟩
  replace hP := hP.below b2
  replace hl1 := hl1.below b2
  replace hq := hq.below b2
  replace hb := below_step hb b2
  obtain ⟨_, k0, k1, k2, _⟩ := id hP
  go_wp2_with fail
  have hfi := isfine_any W H cap hP.ints
  rw [hF.fineB] at hfi
  refine hfi.mono ?_
  rintro e wC ⟨rfl, b3⟩
  clear k0 k1 k2 hfi
  replace hP := (hP.below b3).alloc (.cells #[.int .i64 0, .int .i64 0, .slice none 0 0] 24)
  replace hl1 := (hl1.below b3).alloc (.cells #[.int .i64 0, .int .i64 0, .slice none 0 0] 24)
  replace hq := hq.below b3
  replace hb := below_step hb b3
  have hb2 := below_box hb (.cells #[.int .i64 0, .int .i64 0, .slice none 0 0] 24)
  obtain ⟨_, k0, k1, k2, _⟩ := id hP
  go_wp2_with fail
  refine (hof _ (hF.below hb2) hl1).mono ?_
  rintro e wD ⟨a3, cap3, rfl, i3, b4⟩
  have s1 : (wC.alloc (.cells #[.int .i64 0, .int .i64 0, .slice none 0 0] 24)).heap.size = wC.heap.size + 1 := by simp
  have sB : wC.heap.size < wD.heap.size := by have := b4.size; simp at this; omega
  have l0 : wD.cell? ⟨wC.heap.size, 0, none⟩ = some (.int .i64 0) := by rw [b4.cell (by simp)]; simp [go_sem]
  have l1 : wD.cell? ⟨wC.heap.size, 1, none⟩ = some (.int .i64 0) := by rw [b4.cell (by simp)]; simp [go_sem]
  have l2 : wD.cell? ⟨wC.heap.size, 2, none⟩ = some (.slice none 0 0) := by rw [b4.cell (by simp)]; simp [go_sem]
  have f0 : wD.frozen? ⟨wC.heap.size, 0, none⟩ = false := by rw [b4.frozen (by simp)]; simp [go_sem]
  have f1 : wD.frozen? ⟨wC.heap.size, 1, none⟩ = false := by rw [b4.frozen (by simp)]; simp [go_sem]
  have f2 : wD.frozen? ⟨wC.heap.size, 2, none⟩ = false := by rw [b4.frozen (by simp)]; simp [go_sem]
  clear k0 k1 k2 hP hof
  go_wp2_with fail
  rw [s1] at b4 i3
  have hr := wx_pic (W := W) (H := H) cap3 sB l0 l1 l2 i3
  have hbx := wx_below b4 (.int .i64 W) (.int .i64 H) (.slice a3 (W * H) cap3)
  replace hq := hq.below hbx
  replace hb := below_step hb hbx
  generalize ((wD.setCell ⟨wC.heap.size, 0, none⟩ (.int .i64 W)).setCell ⟨wC.heap.size, 1, none⟩ (.int .i64 H)).setCell ⟨wC.heap.size, 2, none⟩ (.slice a3 (W * H) cap3) = wX at hq hr hb ⊢
  clear b1 b2 b3 b4 i2 i3 l0 l1 l2 f0 f1 f2 sB s1 hbx hb2
  refine (lightBegun_any _).mono ?_
  rintro e wY ⟨rfl, bY⟩
  replace hq := hq.below bY
  replace hr := hr.below bY
  replace hb := below_step hb bY
  obtain ⟨_, m0, m1, m2, _⟩ := id hq
  obtain ⟨_, o0, o1, o2, _⟩ := id hr
  go_wp2_with fail
  refine (sameImages_any W H W H cap2 cap3 hq.ints hr.ints).mono ?_
  rintro e wZ ⟨rfl, bZ⟩
  go_wp2
  go_ret
  exact ⟨by simp, below_step hb bZ⟩
/-- The law LightLits. -/
theorem lightLits_any (W H : Int) (a : Option Addr) (len cap : Nat) (ps : List Int) (la : Option Addr) (llen lcap : Nat) (ls : List Lt) (tile : Int) (w : World) (h : Ints 0 w a len ps) (hl : Lights w la llen ls) :
    Calls Try.prog 8 #[.agg #[.int .i64 W, .int .i64 H, .slice a len cap], .slice la llen lcap, .int .i64 tile] w fun e w' => e = .returned (.bool true) ∧ Below w.heap.size w w' := by
  by_cases hf : fineB W H ps = true
  · obtain ⟨W', H', b, off, rfl, rfl, rfl, rfl, hF⟩ := fine_of h hf
    by_cases hE : lightsErr ls = 0
    · by_cases h1 : 1 ≤ tile
      · by_cases h2 : tile ≤ 16
        · obtain ⟨tn, rfl⟩ := Int.eq_ofNat_of_zero_le (show 0 ≤ tile by omega)
          exact lits_ok W' H' b off cap ps la llen lcap ls tn w hF hl hE h1 h2
        · exact lits_high W' H' b off cap ps la llen lcap ls tile w hF hl hE (by omega)
      · exact lits_low W' H' b off cap ps la llen lcap ls tile w hF hl hE (by omega)
    · exact lits_lights W' H' b off cap ps la llen lcap ls tile w hF hl hE
  · exact lits_form W H a len cap ps la llen lcap ls tile w h hl (eq_false_of_ne_true hf)
end Go.Proofs.Ytfpkiimlaepnhaa
