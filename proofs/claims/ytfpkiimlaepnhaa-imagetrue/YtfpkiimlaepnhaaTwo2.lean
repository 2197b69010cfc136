/-
  TWO2: the function of places of image.Two.
-/
import Derived.Test.YtfpkiimlaepnhaaTwo
namespace Go.Proofs.Ytfpkiimlaepnhaa
set_option maxRecDepth 100000
open Go.RowKit Im

theorem two1_enters : ∀ args w, (callFunc 71 args).run Try.prog w = .ok (.enter 71 args) w := fun _ _ => by kernel_rfl
theorem two1_call4 {w : World} {rb d1 d2 c1 c2 b1 off1 cap1 b2 off2 cap2 W H : Nat} {ps qs : List Int} (hO1 : Old w d1 c1 b1 off1 cap1 W H ps) (hO2 : Old w d2 c2 b2 off2 cap2 W H qs)
    (hr : w.cell? ⟨rb, 0, none⟩ = some (.func (.func (twoF 4)) #[] #[])) (x y : Nat) (hx : x < W) (hy : y < H) :
    Calls Try.prog 71 #[.int .i64 x, .int .i64 y, .pointer (some ⟨rb, 0, none⟩), .pointer (some ⟨d1, 0, none⟩), .pointer (some ⟨d2, 0, none⟩)] w fun e w2 => e = .returned (.int .i64 (twoG 4 (px W ps x y) (px W qs x y))) ∧ Below w.heap.size w w2 := by
  have hr' : w.cell? ⟨rb, 0, none⟩ = some (.func (.func 100) #[] #[]) := hr
  have k1 := hO1.cd
  have k2 := hO2.cd
  have hp := hO1.fn.px_bd x y hx hy
  have hq := hO2.fn.px_bd x y hx hy
  have n1 := fun nq => numbers_same (w := w.drewN nq) (hO1.below (below_drewN (Below.refl _ _) nq)).bx (hO1.below (below_drewN (Below.refl _ _) nq)).fn x y hx hy
  have n2 := fun nq => numbers_same (w := w.drewN nq) (hO2.below (below_drewN (Below.refl _ _) nq)).bx (hO2.below (below_drewN (Below.refl _ _) nq)).fn x y hx hy
  clear hr hO1 hO2
  go_enter Try.func71, Try.ntmps71
  go_wp2
  go_quiet ((first | (go_at_call 104; with_reducible exact Calls.quiet_of_same (n1 _)) | (go_at_call 104; with_reducible exact Calls.quiet_of_same (n2 _)) | (go_at_call 100; with_reducible exact Calls.quiet_of_same (two4 _ _ _ hp hq))))
  go_wp2
  go_ret
  exact ⟨rfl, below_drewN (Below.refl _ _) _⟩
theorem two1_call5 {w : World} {rb d1 d2 c1 c2 b1 off1 cap1 b2 off2 cap2 W H : Nat} {ps qs : List Int} (hO1 : Old w d1 c1 b1 off1 cap1 W H ps) (hO2 : Old w d2 c2 b2 off2 cap2 W H qs)
    (hr : w.cell? ⟨rb, 0, none⟩ = some (.func (.func (twoF 5)) #[] #[])) (x y : Nat) (hx : x < W) (hy : y < H) :
    Calls Try.prog 71 #[.int .i64 x, .int .i64 y, .pointer (some ⟨rb, 0, none⟩), .pointer (some ⟨d1, 0, none⟩), .pointer (some ⟨d2, 0, none⟩)] w fun e w2 => e = .returned (.int .i64 (twoG 5 (px W ps x y) (px W qs x y))) ∧ Below w.heap.size w w2 := by
  have hr' : w.cell? ⟨rb, 0, none⟩ = some (.func (.func 101) #[] #[]) := hr
  have k1 := hO1.cd
  have k2 := hO2.cd
  have hp := hO1.fn.px_bd x y hx hy
  have hq := hO2.fn.px_bd x y hx hy
  have n1 := fun nq => numbers_same (w := w.drewN nq) (hO1.below (below_drewN (Below.refl _ _) nq)).bx (hO1.below (below_drewN (Below.refl _ _) nq)).fn x y hx hy
  have n2 := fun nq => numbers_same (w := w.drewN nq) (hO2.below (below_drewN (Below.refl _ _) nq)).bx (hO2.below (below_drewN (Below.refl _ _) nq)).fn x y hx hy
  clear hr hO1 hO2
  go_enter Try.func71, Try.ntmps71
  go_wp2
  go_quiet ((first | (go_at_call 104; with_reducible exact Calls.quiet_of_same (n1 _)) | (go_at_call 104; with_reducible exact Calls.quiet_of_same (n2 _)) | (go_at_call 101; with_reducible exact Calls.quiet_of_same (two5 _ _ _ hp hq))))
  go_wp2
  go_ret
  exact ⟨rfl, below_drewN (Below.refl _ _) _⟩
theorem two1_call6 {w : World} {rb d1 d2 c1 c2 b1 off1 cap1 b2 off2 cap2 W H : Nat} {ps qs : List Int} (hO1 : Old w d1 c1 b1 off1 cap1 W H ps) (hO2 : Old w d2 c2 b2 off2 cap2 W H qs)
    (hr : w.cell? ⟨rb, 0, none⟩ = some (.func (.func (twoF 6)) #[] #[])) (x y : Nat) (hx : x < W) (hy : y < H) :
    Calls Try.prog 71 #[.int .i64 x, .int .i64 y, .pointer (some ⟨rb, 0, none⟩), .pointer (some ⟨d1, 0, none⟩), .pointer (some ⟨d2, 0, none⟩)] w fun e w2 => e = .returned (.int .i64 (twoG 6 (px W ps x y) (px W qs x y))) ∧ Below w.heap.size w w2 := by
  have hr' : w.cell? ⟨rb, 0, none⟩ = some (.func (.func 102) #[] #[]) := hr
  have k1 := hO1.cd
  have k2 := hO2.cd
  have hp := hO1.fn.px_bd x y hx hy
  have hq := hO2.fn.px_bd x y hx hy
  have n1 := fun nq => numbers_same (w := w.drewN nq) (hO1.below (below_drewN (Below.refl _ _) nq)).bx (hO1.below (below_drewN (Below.refl _ _) nq)).fn x y hx hy
  have n2 := fun nq => numbers_same (w := w.drewN nq) (hO2.below (below_drewN (Below.refl _ _) nq)).bx (hO2.below (below_drewN (Below.refl _ _) nq)).fn x y hx hy
  clear hr hO1 hO2
  go_enter Try.func71, Try.ntmps71
  go_wp2
  go_quiet ((first | (go_at_call 104; with_reducible exact Calls.quiet_of_same (n1 _)) | (go_at_call 104; with_reducible exact Calls.quiet_of_same (n2 _)) | (go_at_call 102; with_reducible exact Calls.quiet_of_same (two6 _ _ _ hp hq))))
  go_wp2
  go_ret
  exact ⟨rfl, below_drewN (Below.refl _ _) _⟩
theorem two1_call7 {w : World} {rb d1 d2 c1 c2 b1 off1 cap1 b2 off2 cap2 W H : Nat} {ps qs : List Int} (hO1 : Old w d1 c1 b1 off1 cap1 W H ps) (hO2 : Old w d2 c2 b2 off2 cap2 W H qs)
    (hr : w.cell? ⟨rb, 0, none⟩ = some (.func (.func (twoF 7)) #[] #[])) (x y : Nat) (hx : x < W) (hy : y < H) :
    Calls Try.prog 71 #[.int .i64 x, .int .i64 y, .pointer (some ⟨rb, 0, none⟩), .pointer (some ⟨d1, 0, none⟩), .pointer (some ⟨d2, 0, none⟩)] w fun e w2 => e = .returned (.int .i64 (twoG 7 (px W ps x y) (px W qs x y))) ∧ Below w.heap.size w w2 := by
  have hr' : w.cell? ⟨rb, 0, none⟩ = some (.func (.func 103) #[] #[]) := hr
  have k1 := hO1.cd
  have k2 := hO2.cd
  have n1 := fun nq => numbers_same (w := w.drewN nq) (hO1.below (below_drewN (Below.refl _ _) nq)).bx (hO1.below (below_drewN (Below.refl _ _) nq)).fn x y hx hy
  have n2 := fun nq => numbers_same (w := w.drewN nq) (hO2.below (below_drewN (Below.refl _ _) nq)).bx (hO2.below (below_drewN (Below.refl _ _) nq)).fn x y hx hy
  clear hr hO1 hO2
  go_enter Try.func71, Try.ntmps71
  go_wp2
  go_quiet ((first | (go_at_call 104; with_reducible exact Calls.quiet_of_same (n1 _)) | (go_at_call 104; with_reducible exact Calls.quiet_of_same (n2 _)) | (go_at_call 103; with_reducible exact Calls.quiet_of_same (two7 _ _ _))))
  go_wp2
  go_ret
  exact ⟨rfl, below_drewN (Below.refl _ _) _⟩

/-- The function of places of image.Two tells what becomes of the two numbers. -/
theorem two1_tells {w : World} {op : Int} {rb d1 d2 c1 c2 b1 off1 cap1 b2 off2 cap2 W H : Nat} {ps qs : List Int} (hop : op = 4 ∨ op = 5 ∨ op = 6 ∨ op = 7) (hO1 : Old w d1 c1 b1 off1 cap1 W H ps) (hO2 : Old w d2 c2 b2 off2 cap2 W H qs)
    (hl : rb < w.heap.size) (hr : w.cell? ⟨rb, 0, none⟩ = some (.func (.func (twoF op)) #[] #[])) :
    Tells w 71 #[.pointer (some ⟨rb, 0, none⟩), .pointer (some ⟨d1, 0, none⟩), .pointer (some ⟨d2, 0, none⟩)] W H (fun x y => twoG op (px W ps x y) (px W qs x y)) := by
  refine ⟨two1_enters, fun x y w1 hx hy hbel => ?_⟩
  have hr1 := (hbel.cell (p := ⟨rb, 0, none⟩) hl).trans hr
  rcases hop with rfl | rfl | rfl | rfl
  · exact two1_call4 (hO1.below hbel) (hO2.below hbel) hr1 x y hx hy
  · exact two1_call5 (hO1.below hbel) (hO2.below hbel) hr1 x y hx hy
  · exact two1_call6 (hO1.below hbel) (hO2.below hbel) hr1 x y hx hy
  · exact two1_call7 (hO1.below hbel) (hO2.below hbel) hr1 x y hx hy
end Go.Proofs.Ytfpkiimlaepnhaa
