/-
  LAWMAKES: the walk of the law ImageMakes.
-/
import Derived.Test.YtfpkiimlaepnhaaBegun2
import Derived.Deep.RegionHeld3
namespace Go.Proofs.Ytfpkiimlaepnhaa
set_option maxRecDepth 100000
open Go.RowKit Im

theorem check_any {W H : Int} {a : Option Addr} {len : Nat} (cap : Nat) {ps : List Int} {w : World} (h : Ints 0 w a len ps) :
    Calls Try.prog 19 #[.agg #[.int .i64 W, .int .i64 H, .slice a len cap]] w fun e w' => e = .returned (.int .i64 (okIf (fineB W H ps) 1)) ∧ Below w.heap.size w w' := by
  by_cases hf : fineB W H ps = true
  · rw [hf]; exact check_fine cap h hf
  · rw [eq_false_of_ne_true hf]; exact check_not cap h (eq_false_of_ne_true hf)
theorem okIf_eq (f : Bool) : (okIf f 1 == 0) = f := by cases f <;> rfl

/-- The error of Make. -/
def makeErr (op W H k : Int) : Int := if op = 1 ∨ op = 2 then okIf (sideB W && sideB H && numB k) 3 else 4
theorem makeError_any (op W H k : Int) (w : World) : Calls Try.prog 16 #[.int .i64 op, .int .i64 W, .int .i64 H, .int .i64 k] w fun e w' => e = .returned (.int .i64 (makeErr op W H k)) ∧ w = w' := by
  by_cases h : op = 1 ∨ op = 2
  · have e : makeErr op W H k = okIf (sideB W && sideB H && numB k) 3 := by simp [makeErr, h]
    rw [e]; exact makeError_range op W H k w h
  · have e : makeErr op W H k = 4 := by simp [makeErr, h]
    rw [e]; exact makeError_kind op W H k w (fun h' => h (.inl h')) (fun h' => h (.inr h'))
theorem make_error (op W H k : Int) (w : World) (hE : ¬ makeErr op W H k = 0) : Calls Try.prog 15 #[.int .i64 op, .int .i64 W, .int .i64 H, .int .i64 k] w fun e w' => e = .returned (.tuple #[noImage, .int .i64 (makeErr op W H k)]) ∧ Below w.heap.size w w' := by
  by_cases h : op = 1 ∨ op = 2
  · have e : makeErr op W H k = okIf (sideB W && sideB H && numB k) 3 := by simp [makeErr, h]
    by_cases hr : (sideB W && sideB H && numB k) = true
    · rw [e, hr] at hE; exact absurd rfl hE
    · rw [e, eq_false_of_ne_true hr]; exact make_range op W H k w h (eq_false_of_ne_true hr)
  · have e : makeErr op W H k = 4 := by simp [makeErr, h]
    rw [e]; exact make_kind op W H k w (fun h' => h (.inl h')) (fun h' => h (.inr h'))
theorem makeErr_zero {op W H k : Int} (hE : makeErr op W H k = 0) : ∃ W' H' : Nat, W = W' ∧ H = H' ∧ (op = 1 ∨ op = 2) ∧ sideB W' = true ∧ sideB H' = true ∧ numB k = true := by
  by_cases h : op = 1 ∨ op = 2
  · have e : makeErr op W H k = okIf (sideB W && sideB H && numB k) 3 := by simp [makeErr, h]
    rw [e] at hE
    have := okIf_zero (by decide) hE
    simp only [Bool.and_eq_true] at this
    obtain ⟨⟨h1, h2⟩, h3⟩ := this
    have b1 := (side_iff _).1 h1
    have b2 := (side_iff _).1 h2
    obtain ⟨W', rfl⟩ := Int.eq_ofNat_of_zero_le (show 0 ≤ W by omega)
    obtain ⟨H', rfl⟩ := Int.eq_ofNat_of_zero_le (show 0 ≤ H by omega)
    exact ⟨W', H', rfl, rfl, h, h1, h2, h3⟩
  · have e : makeErr op W H k = 4 := by simp [makeErr, h]
    rw [e] at hE; omega

/-- What a call leaves, told of an elder world. -/
theorem via {P : Program} {f : FuncId} {args : Array Value} {wX w' : World} {r : Ending} (hb : Below wX.heap.size wX w') (hc : Calls P f args w' fun e w2 => e = r ∧ Below w'.heap.size w' w2) :
    Calls P f args w' fun e w2 => e = r ∧ Below wX.heap.size wX w2 := hc.mono fun _ _ ⟨he, hb2⟩ => ⟨he, below_step hb hb2⟩
/-- Three images in their boxes, in a later world. -/
theorem three_of {wX w' : World} {p q r : Nat} {W1 H1 W2 H2 W3 H3 : Int} {a1 a2 a3 : Option Addr} {l1 l2 l3 c1 c2 c3 : Nat} {ps1 ps2 ps3 : List Int} (h1 : Pic wX p W1 H1 a1 l1 c1 ps1) (h2 : Pic wX q W2 H2 a2 l2 c2 ps2) (h3 : Pic wX r W3 H3 a3 l3 c3 ps3) (hb : Below wX.heap.size wX w') :
    Below wX.heap.size wX w' ∧ w'.cell? ⟨p, 0, none⟩ = some (.int .i64 W1) ∧ w'.cell? ⟨p, 1, none⟩ = some (.int .i64 H1) ∧ w'.cell? ⟨p, 2, none⟩ = some (.slice a1 l1 c1) ∧ w'.cell? ⟨q, 0, none⟩ = some (.int .i64 W2) ∧ w'.cell? ⟨q, 1, none⟩ = some (.int .i64 H2) ∧ w'.cell? ⟨q, 2, none⟩ = some (.slice a2 l2 c2) ∧ w'.cell? ⟨r, 0, none⟩ = some (.int .i64 W3) ∧ w'.cell? ⟨r, 1, none⟩ = some (.int .i64 H3) ∧ w'.cell? ⟨r, 2, none⟩ = some (.slice a3 l3 c3) := by
  have g1 := h1.below hb
  have g2 := h2.below hb
  have g3 := h3.below hb
  exact ⟨hb, g1.c0, g1.c1, g1.c2, g2.c0, g2.c1, g2.c2, g3.c0, g3.c1, g3.c2⟩

set_option maxHeartbeats 1000000 in
theorem imageMakes_err (W H : Int) (a : Option Addr) (len cap : Nat) (ps : List Int) (op W' H' k : Int) (w : World) (h : Ints 0 w a len ps) (hE : ¬ makeErr op W' H' k = 0) :
    Calls Try.prog 3 #[.agg #[.int .i64 W, .int .i64 H, .slice a len cap], .int .i64 op, .int .i64 W', .int .i64 H', .int .i64 k] w fun e w' => e = .returned (.bool true) ∧ Below w.heap.size w w' := by
  have hm := fun wx => make_error op W' H' k wx hE
  have hx := fun wx => makeError_any op W' H' k wx
  generalize makeErr op W' H' k = E at hm hx hE
  have hne : (E == 0) = false := by simpa using hE
  have hP := Pic.new (W := W) (H := H) cap h
  have hb := below_box (Below.refl w.heap.size w) (.cells #[.int .i64 W, .int .i64 H, .slice a len cap] 24)
  generalize hf : fineB W H ps = f
  have hck := okIf_eq f
  go_enter Try.func3, Try.ntmps3
  go_wp2_with fail
  refine (hm _).mono ?_
  rintro e wA ⟨rfl, b1⟩
  replace hP := hP.below b1
  replace hb := below_step hb b1
  go_wp2_with fail
  refine (hx _).mono ?_
  rintro e w' ⟨rfl, rfl⟩
  go_wp2_with fail
  have hq := (Pic.new (W := 0) (H := 0) 0 (Ints.nil 0 wA)).alloc (.cells #[.int .i64 0, .int .i64 0, .slice none 0 0] 24)
  have hr := Pic.new (W := 0) (H := 0) 0 (Ints.nil 0 (wA.alloc (.cells #[.int .i64 0, .int .i64 0, .slice none 0 0] 24)))
  rw [show (wA.alloc (.cells #[.int .i64 0, .int .i64 0, .slice none 0 0] 24)).heap.size = wA.heap.size + 1 by simp] at hr
  replace hP := (hP.alloc (.cells #[.int .i64 0, .int .i64 0, .slice none 0 0] 24)).alloc (.cells #[.int .i64 0, .int .i64 0, .slice none 0 0] 24)
  replace hb := below_box (below_box hb (.cells #[.int .i64 0, .int .i64 0, .slice none 0 0] 24)) (.cells #[.int .i64 0, .int .i64 0, .slice none 0 0] 24)
  generalize (wA.alloc (.cells #[.int .i64 0, .int .i64 0, .slice none 0 0] 24)).alloc (.cells #[.int .i64 0, .int .i64 0, .slice none 0 0] 24) = wX at hP hq hr hb ⊢
  clear hm hx hE b1 h
  go_region_held3 (fun w' => Below wX.heap.size wX w' ∧ w'.cell? ⟨w.heap.size, 0, none⟩ = some (.int .i64 W) ∧ w'.cell? ⟨w.heap.size, 1, none⟩ = some (.int .i64 H) ∧ w'.cell? ⟨w.heap.size, 2, none⟩ = some (.slice a len cap) ∧ w'.cell? ⟨wA.heap.size, 0, none⟩ = some (.int .i64 0) ∧ w'.cell? ⟨wA.heap.size, 1, none⟩ = some (.int .i64 0) ∧ w'.cell? ⟨wA.heap.size, 2, none⟩ = some (.slice none 0 0) ∧ w'.cell? ⟨wA.heap.size + 1, 0, none⟩ = some (.int .i64 0) ∧ w'.cell? ⟨wA.heap.size + 1, 1, none⟩ = some (.int .i64 0) ∧ w'.cell? ⟨wA.heap.size + 1, 2, none⟩ = some (.slice none 0 0))
    (first | exact three_of hP hq hr ((Below.refl _ _).drew) | exact three_of hP hq hr (by assumption))
    (first
      | (go_at_call 18; refine (via (And.left (b := _) (by assumption)) (imageBegun_any _)).mono ?_; rintro e w2 ⟨rfl, hb2⟩)
      | (go_at_call 19; refine (via (And.left (b := _) (by assumption)) (check_any cap (hP.ints.below (Nat.le_refl _) (And.left (b := _) (by assumption))))).mono ?_; rw [hf]; rintro e w2 ⟨rfl, hb2⟩)
      | (go_at_call 20; refine (via (And.left (b := _) (by assumption)) (isfine_any W H cap (hP.ints.below (Nat.le_refl _) (And.left (b := _) (by assumption))))).mono ?_; rw [hf]; rintro e w2 ⟨rfl, hb2⟩)
      | (go_at_call 21; refine (via (And.left (b := _) (by assumption)) (sameImages_any 0 0 0 0 0 0 (hq.ints.below (Nat.le_refl _) (And.left (b := _) (by assumption))) (hr.ints.below (Nat.le_refl _) (And.left (b := _) (by assumption))))).mono ?_; rintro e w2 ⟨rfl, hb2⟩))
  go_wp2
  go_ret
  exact ⟨rfl, below_step hb (by assumption)⟩

theorem wx_pic {w1 wB : World} {W H : Int} {a : Option Addr} {len : Nat} (cap : Nat) {ps : List Int} (hs : w1.heap.size < wB.heap.size)
    (k0 : wB.cell? ⟨w1.heap.size, 0, none⟩ = some (.int .i64 0)) (k1 : wB.cell? ⟨w1.heap.size, 1, none⟩ = some (.int .i64 0)) (k2 : wB.cell? ⟨w1.heap.size, 2, none⟩ = some (.slice none 0 0)) (hi : Ints (w1.heap.size + 1) wB a len ps) :
    Pic (((wB.setCell ⟨w1.heap.size, 0, none⟩ (.int .i64 W)).setCell ⟨w1.heap.size, 1, none⟩ (.int .i64 H)).setCell ⟨w1.heap.size, 2, none⟩ (.slice a len cap)) w1.heap.size W H a len cap ps := by
  refine ⟨by simpa [World.setCell] using hs, ?_, ?_, ?_, ((((hi.setCell (by simp) _).setCell (by simp) _).setCell (by simp) _).mono (Nat.zero_le _))⟩
  · simp [go_sem, k0]
  · simp [go_sem, k1]
  · simp [go_sem, k2]
theorem wx_below {w1 wB : World} {o : Obj} (hb : Below (w1.heap.size + 1) (w1.alloc o) wB) (u0 u1 u2 : Value) : Below w1.heap.size w1 (((wB.setCell ⟨w1.heap.size, 0, none⟩ u0).setCell ⟨w1.heap.size, 1, none⟩ u1).setCell ⟨w1.heap.size, 2, none⟩ u2) :=
  (((((Below.refl _ _).alloc (Nat.le_refl _) o).trans (hb.mono (by omega))).setCell (Nat.le_refl _) _).setCell (Nat.le_refl _) _).setCell (Nat.le_refl _) _

set_option maxHeartbeats 1000000 in
theorem imageMakes_ok (W H : Int) (a : Option Addr) (len cap : Nat) (ps : List Int) (op : Int) (W' H' : Nat) (k : Int) (w : World) (h : Ints 0 w a len ps) (hop : op = 1 ∨ op = 2) (h1 : sideB W' = true) (h2 : sideB H' = true) (h3 : numB k = true) :
    Calls Try.prog 3 #[.agg #[.int .i64 W, .int .i64 H, .slice a len cap], .int .i64 op, .int .i64 W', .int .i64 H', .int .i64 k] w fun e w' => e = .returned (.bool true) ∧ Below w.heap.size w w' := by
  have b1 := (side_iff _).1 h1
  have b2 := (side_iff _).1 h2
  have b3 := (num_iff _).1 h3
  have hm := fun wx => make_ok op W' H' k wx hop h1 h2 h3
  have hF := fun wx => makeOf_any op W' H' k wx hop (by omega) (by omega) b3
  have hx := fun wx => makeError_any op W' H' k wx
  rw [show makeErr op W' H' k = 0 by simp [makeErr, hop, h1, h2, h3, okIf]] at hx
  have hP := Pic.new (W := W) (H := H) cap h
  have hb := below_box (Below.refl w.heap.size w) (.cells #[.int .i64 W, .int .i64 H, .slice a len cap] 24)
  generalize hf : fineB W H ps = f
  have hck := okIf_eq f
  clear h1 h2 h3 b1 b2 b3 hop
  generalize pix W' (makeG op k) (W' * H') = qs at hm hF
  go_enter Try.func3, Try.ntmps3
  go_wp2_with fail
  refine (hm _).mono ?_
  rintro e wA ⟨a2, cap2, rfl, i2, b1⟩
  replace hP := (hP.below b1).alloc (.cells #[.int .i64 W', .int .i64 H', .slice a2 (W' * H') cap2] 24)
  replace hb := below_box (below_step hb b1) (.cells #[.int .i64 W', .int .i64 H', .slice a2 (W' * H') cap2] 24)
  have hq := Pic.new (W := W') (H := H') cap2 (i2.mono (Nat.zero_le _))
  have s1 : (wA.alloc (.cells #[.int .i64 W', .int .i64 H', .slice a2 (W' * H') cap2] 24)).heap.size = wA.heap.size + 1 := by simp
  go_wp2_with fail
  refine (hx _).mono ?_
  rintro e w' ⟨rfl, rfl⟩
  go_wp2_with fail
  refine (hF _).mono ?_
  rintro e wB ⟨a3, cap3, rfl, i3, b3⟩
  have sB : wA.heap.size + 1 < wB.heap.size := by have := b3.size; simp at this; omega
  have k0 : wB.cell? ⟨wA.heap.size + 1, 0, none⟩ = some (.int .i64 0) := by rw [b3.cell (by simp)]; simp [go_sem]
  have k1 : wB.cell? ⟨wA.heap.size + 1, 1, none⟩ = some (.int .i64 0) := by rw [b3.cell (by simp)]; simp [go_sem]
  have k2 : wB.cell? ⟨wA.heap.size + 1, 2, none⟩ = some (.slice none 0 0) := by rw [b3.cell (by simp)]; simp [go_sem]
  have f0 : wB.frozen? ⟨wA.heap.size + 1, 0, none⟩ = false := by rw [b3.frozen (by simp)]; simp [go_sem]
  have f1 : wB.frozen? ⟨wA.heap.size + 1, 1, none⟩ = false := by rw [b3.frozen (by simp)]; simp [go_sem]
  have f2 : wB.frozen? ⟨wA.heap.size + 1, 2, none⟩ = false := by rw [b3.frozen (by simp)]; simp [go_sem]
  go_wp2_with fail
  have s2 : ((wA.alloc (.cells #[.int .i64 W', .int .i64 H', .slice a2 (W' * H') cap2] 24)).alloc (.cells #[.int .i64 0, .int .i64 0, .slice none 0 0] 24)).heap.size = wA.heap.size + 1 + 1 := by simp
  rw [s2, ← s1] at i3 b3
  rw [← s1] at k0 k1 k2 sB
  have hr := wx_pic (W := W') (H := H') cap3 sB k0 k1 k2 i3
  have hbx := wx_below b3 (.int .i64 W') (.int .i64 H') (.slice a3 (W' * H') cap3)
  replace hP := hP.below hbx
  replace hq := hq.below hbx
  replace hb := below_step hb hbx
  rw [s1] at hr hP hq hb
  generalize ((wB.setCell ⟨wA.heap.size + 1, 0, none⟩ (.int .i64 W')).setCell ⟨wA.heap.size + 1, 1, none⟩ (.int .i64 H')).setCell ⟨wA.heap.size + 1, 2, none⟩ (.slice a3 (W' * H') cap3) = wX at hP hq hr hb ⊢
  clear b1 b3 i2 i3 k0 k1 k2 f0 f1 f2 sB s1 s2 hbx
  clear hm hx hF h
  go_region_held3 (fun w' => Below wX.heap.size wX w' ∧ w'.cell? ⟨w.heap.size, 0, none⟩ = some (.int .i64 W) ∧ w'.cell? ⟨w.heap.size, 1, none⟩ = some (.int .i64 H) ∧ w'.cell? ⟨w.heap.size, 2, none⟩ = some (.slice a len cap) ∧ w'.cell? ⟨wA.heap.size, 0, none⟩ = some (.int .i64 W') ∧ w'.cell? ⟨wA.heap.size, 1, none⟩ = some (.int .i64 H') ∧ w'.cell? ⟨wA.heap.size, 2, none⟩ = some (.slice a2 (W' * H') cap2) ∧ w'.cell? ⟨wA.heap.size + 1, 0, none⟩ = some (.int .i64 W') ∧ w'.cell? ⟨wA.heap.size + 1, 1, none⟩ = some (.int .i64 H') ∧ w'.cell? ⟨wA.heap.size + 1, 2, none⟩ = some (.slice a3 (W' * H') cap3))
    (first | exact three_of hP hq hr ((Below.refl _ _).drew) | exact three_of hP hq hr (by assumption))
    (first
      | (go_at_call 18; refine (via (And.left (b := _) (by assumption)) (imageBegun_any _)).mono ?_; rintro e w2 ⟨rfl, hb2⟩)
      | (go_at_call 19; refine (via (And.left (b := _) (by assumption)) (check_any cap (hP.ints.below (Nat.le_refl _) (And.left (b := _) (by assumption))))).mono ?_; rw [hf]; rintro e w2 ⟨rfl, hb2⟩)
      | (go_at_call 20; refine (via (And.left (b := _) (by assumption)) (isfine_any W H cap (hP.ints.below (Nat.le_refl _) (And.left (b := _) (by assumption))))).mono ?_; rw [hf]; rintro e w2 ⟨rfl, hb2⟩)
      | (go_at_call 21; refine (via (And.left (b := _) (by assumption)) (sameImages_any W' H' W' H' cap2 cap3 (hq.ints.below (Nat.le_refl _) (And.left (b := _) (by assumption))) (hr.ints.below (Nat.le_refl _) (And.left (b := _) (by assumption))))).mono ?_; rintro e w2 ⟨rfl, hb2⟩))
  go_wp2
  go_ret
  exact ⟨rfl, below_step hb (by assumption)⟩

theorem imageMakes_any (W H : Int) (a : Option Addr) (len cap : Nat) (ps : List Int) (op W' H' k : Int) (w : World) (h : Ints 0 w a len ps) :
    Calls Try.prog 3 #[.agg #[.int .i64 W, .int .i64 H, .slice a len cap], .int .i64 op, .int .i64 W', .int .i64 H', .int .i64 k] w fun e w' => e = .returned (.bool true) ∧ Below w.heap.size w w' := by
  by_cases hE : makeErr op W' H' k = 0
  · obtain ⟨W1, H1, rfl, rfl, hop, h1, h2, h3⟩ := makeErr_zero hE
    exact imageMakes_ok W H a len cap ps op W1 H1 k w h hop h1 h2 h3
  · exact imageMakes_err W H a len cap ps op W' H' k w h hE
end Go.Proofs.Ytfpkiimlaepnhaa
