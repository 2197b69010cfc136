/- Two2, Two3, Two4, Acc, MakeRef, Begun, Begun2: joined, in this order. -/
import Derived.Test.YtaenpgdmiaekcaaGreatDoorM02
import Derived.Deep.RegionHeld3
import Derived.Deep.Cut
import Derived.Test.YtaenpgdmiaekcaaGreatDoorM01
/-
  TWO2: the function of places of image.Two.
-/
namespace Go.Proofs.YtaenpgdmiaekcaaGreatDoor
set_option maxRecDepth 100000
open Go.RowKit Im

theorem two1_enters : ∀ args w, (callFunc 111 args).run Tryz.prog w = .ok (.enter 111 args) w := fun _ _ => by kernel_rfl
theorem two1_call4 {w : World} {rb d1 d2 c1 c2 b1 off1 cap1 b2 off2 cap2 W H : Nat} {ps qs : List Int} (hO1 : Old w d1 c1 b1 off1 cap1 W H ps) (hO2 : Old w d2 c2 b2 off2 cap2 W H qs)
    (hr : w.cell? ⟨rb, 0, none⟩ = some (.func (.func (twoF 4)) #[] #[])) (x y : Nat) (hx : x < W) (hy : y < H) :
    Calls Tryz.prog 111 #[.int .i64 x, .int .i64 y, .pointer (some ⟨rb, 0, none⟩), .pointer (some ⟨d1, 0, none⟩), .pointer (some ⟨d2, 0, none⟩)] w fun e w2 => e = .returned (.int .i64 (twoG 4 (px W ps x y) (px W qs x y))) ∧ Below w.heap.size w w2 := by
  have hr' : w.cell? ⟨rb, 0, none⟩ = some (.func (.func 143) #[] #[]) := hr
  have k1 := hO1.cd
  have k2 := hO2.cd
  have hp := hO1.fn.px_bd x y hx hy
  have hq := hO2.fn.px_bd x y hx hy
  have n1 := fun nq => numbers_same (w := w.drewN nq) (hO1.below (below_drewN (Below.refl _ _) nq)).bx (hO1.below (below_drewN (Below.refl _ _) nq)).fn x y hx hy
  have n2 := fun nq => numbers_same (w := w.drewN nq) (hO2.below (below_drewN (Below.refl _ _) nq)).bx (hO2.below (below_drewN (Below.refl _ _) nq)).fn x y hx hy
  clear hr hO1 hO2
  go_enter Tryz.func111, Tryz.ntmps111
  go_wp2
  go_quiet ((first | (go_at_call 147; with_reducible exact Calls.quiet_of_same (n1 _)) | (go_at_call 147; with_reducible exact Calls.quiet_of_same (n2 _)) | (go_at_call 143; with_reducible exact Calls.quiet_of_same (two4 _ _ _ hp hq))))
  go_wp2
  go_ret
  exact ⟨rfl, below_drewN (Below.refl _ _) _⟩
theorem two1_call5 {w : World} {rb d1 d2 c1 c2 b1 off1 cap1 b2 off2 cap2 W H : Nat} {ps qs : List Int} (hO1 : Old w d1 c1 b1 off1 cap1 W H ps) (hO2 : Old w d2 c2 b2 off2 cap2 W H qs)
    (hr : w.cell? ⟨rb, 0, none⟩ = some (.func (.func (twoF 5)) #[] #[])) (x y : Nat) (hx : x < W) (hy : y < H) :
    Calls Tryz.prog 111 #[.int .i64 x, .int .i64 y, .pointer (some ⟨rb, 0, none⟩), .pointer (some ⟨d1, 0, none⟩), .pointer (some ⟨d2, 0, none⟩)] w fun e w2 => e = .returned (.int .i64 (twoG 5 (px W ps x y) (px W qs x y))) ∧ Below w.heap.size w w2 := by
  have hr' : w.cell? ⟨rb, 0, none⟩ = some (.func (.func 144) #[] #[]) := hr
  have k1 := hO1.cd
  have k2 := hO2.cd
  have hp := hO1.fn.px_bd x y hx hy
  have hq := hO2.fn.px_bd x y hx hy
  have n1 := fun nq => numbers_same (w := w.drewN nq) (hO1.below (below_drewN (Below.refl _ _) nq)).bx (hO1.below (below_drewN (Below.refl _ _) nq)).fn x y hx hy
  have n2 := fun nq => numbers_same (w := w.drewN nq) (hO2.below (below_drewN (Below.refl _ _) nq)).bx (hO2.below (below_drewN (Below.refl _ _) nq)).fn x y hx hy
  clear hr hO1 hO2
  go_enter Tryz.func111, Tryz.ntmps111
  go_wp2
  go_quiet ((first | (go_at_call 147; with_reducible exact Calls.quiet_of_same (n1 _)) | (go_at_call 147; with_reducible exact Calls.quiet_of_same (n2 _)) | (go_at_call 144; with_reducible exact Calls.quiet_of_same (two5 _ _ _ hp hq))))
  go_wp2
  go_ret
  exact ⟨rfl, below_drewN (Below.refl _ _) _⟩
theorem two1_call6 {w : World} {rb d1 d2 c1 c2 b1 off1 cap1 b2 off2 cap2 W H : Nat} {ps qs : List Int} (hO1 : Old w d1 c1 b1 off1 cap1 W H ps) (hO2 : Old w d2 c2 b2 off2 cap2 W H qs)
    (hr : w.cell? ⟨rb, 0, none⟩ = some (.func (.func (twoF 6)) #[] #[])) (x y : Nat) (hx : x < W) (hy : y < H) :
    Calls Tryz.prog 111 #[.int .i64 x, .int .i64 y, .pointer (some ⟨rb, 0, none⟩), .pointer (some ⟨d1, 0, none⟩), .pointer (some ⟨d2, 0, none⟩)] w fun e w2 => e = .returned (.int .i64 (twoG 6 (px W ps x y) (px W qs x y))) ∧ Below w.heap.size w w2 := by
  have hr' : w.cell? ⟨rb, 0, none⟩ = some (.func (.func 145) #[] #[]) := hr
  have k1 := hO1.cd
  have k2 := hO2.cd
  have hp := hO1.fn.px_bd x y hx hy
  have hq := hO2.fn.px_bd x y hx hy
  have n1 := fun nq => numbers_same (w := w.drewN nq) (hO1.below (below_drewN (Below.refl _ _) nq)).bx (hO1.below (below_drewN (Below.refl _ _) nq)).fn x y hx hy
  have n2 := fun nq => numbers_same (w := w.drewN nq) (hO2.below (below_drewN (Below.refl _ _) nq)).bx (hO2.below (below_drewN (Below.refl _ _) nq)).fn x y hx hy
  clear hr hO1 hO2
  go_enter Tryz.func111, Tryz.ntmps111
  go_wp2
  go_quiet ((first | (go_at_call 147; with_reducible exact Calls.quiet_of_same (n1 _)) | (go_at_call 147; with_reducible exact Calls.quiet_of_same (n2 _)) | (go_at_call 145; with_reducible exact Calls.quiet_of_same (two6 _ _ _ hp hq))))
  go_wp2
  go_ret
  exact ⟨rfl, below_drewN (Below.refl _ _) _⟩
theorem two1_call7 {w : World} {rb d1 d2 c1 c2 b1 off1 cap1 b2 off2 cap2 W H : Nat} {ps qs : List Int} (hO1 : Old w d1 c1 b1 off1 cap1 W H ps) (hO2 : Old w d2 c2 b2 off2 cap2 W H qs)
    (hr : w.cell? ⟨rb, 0, none⟩ = some (.func (.func (twoF 7)) #[] #[])) (x y : Nat) (hx : x < W) (hy : y < H) :
    Calls Tryz.prog 111 #[.int .i64 x, .int .i64 y, .pointer (some ⟨rb, 0, none⟩), .pointer (some ⟨d1, 0, none⟩), .pointer (some ⟨d2, 0, none⟩)] w fun e w2 => e = .returned (.int .i64 (twoG 7 (px W ps x y) (px W qs x y))) ∧ Below w.heap.size w w2 := by
  have hr' : w.cell? ⟨rb, 0, none⟩ = some (.func (.func 146) #[] #[]) := hr
  have k1 := hO1.cd
  have k2 := hO2.cd
  have n1 := fun nq => numbers_same (w := w.drewN nq) (hO1.below (below_drewN (Below.refl _ _) nq)).bx (hO1.below (below_drewN (Below.refl _ _) nq)).fn x y hx hy
  have n2 := fun nq => numbers_same (w := w.drewN nq) (hO2.below (below_drewN (Below.refl _ _) nq)).bx (hO2.below (below_drewN (Below.refl _ _) nq)).fn x y hx hy
  clear hr hO1 hO2
  go_enter Tryz.func111, Tryz.ntmps111
  go_wp2
  go_quiet ((first | (go_at_call 147; with_reducible exact Calls.quiet_of_same (n1 _)) | (go_at_call 147; with_reducible exact Calls.quiet_of_same (n2 _)) | (go_at_call 146; with_reducible exact Calls.quiet_of_same (two7 _ _ _))))
  go_wp2
  go_ret
  exact ⟨rfl, below_drewN (Below.refl _ _) _⟩

/-- The function of places of image.Two tells what becomes of the two numbers. -/
theorem two1_tells {w : World} {op : Int} {rb d1 d2 c1 c2 b1 off1 cap1 b2 off2 cap2 W H : Nat} {ps qs : List Int} (hop : op = 4 ∨ op = 5 ∨ op = 6 ∨ op = 7) (hO1 : Old w d1 c1 b1 off1 cap1 W H ps) (hO2 : Old w d2 c2 b2 off2 cap2 W H qs)
    (hl : rb < w.heap.size) (hr : w.cell? ⟨rb, 0, none⟩ = some (.func (.func (twoF op)) #[] #[])) :
    Tells w 111 #[.pointer (some ⟨rb, 0, none⟩), .pointer (some ⟨d1, 0, none⟩), .pointer (some ⟨d2, 0, none⟩)] W H (fun x y => twoG op (px W ps x y) (px W qs x y)) := by
  refine ⟨two1_enters, fun x y w1 hx hy hbel => ?_⟩
  have hr1 := (hbel.cell (p := ⟨rb, 0, none⟩) hl).trans hr
  rcases hop with rfl | rfl | rfl | rfl
  · exact two1_call4 (hO1.below hbel) (hO2.below hbel) hr1 x y hx hy
  · exact two1_call5 (hO1.below hbel) (hO2.below hbel) hr1 x y hx hy
  · exact two1_call6 (hO1.below hbel) (hO2.below hbel) hr1 x y hx hy
  · exact two1_call7 (hO1.below hbel) (hO2.below hbel) hr1 x y hx hy
end Go.Proofs.YtaenpgdmiaekcaaGreatDoor
/-
  TWO3: image.Two answers what the document says.
-/
namespace Go.Proofs.YtaenpgdmiaekcaaGreatDoor
set_option maxRecDepth 100000
open Go.RowKit Im

theorem find_yes {op : Int} (hop : op = 4 ∨ op = 5 ∨ op = 6 ∨ op = 7) (wx : World) :
    (Instr.lookup 181 (.map (some wx.heap.size)) (.int .i64 op) true).run Tryz.prog (wx.alloc (.map twoEntries 4)) = .ok (.tuple #[.func (.func (twoF op)) #[] #[], .bool true]) (wx.alloc (.map twoEntries 4)) := by
  have hb := (MapKept.heap_alloc wx (.map twoEntries 4)).1
  rcases hop with rfl | rfl | rfl | rfl
  · exact run_find _ _ 4 (some (0, _)) hb rfl
  · exact run_find _ _ 5 (some (1, _)) hb rfl
  · exact run_find _ _ 6 (some (2, _)) hb rfl
  · exact run_find _ _ 7 (some (3, _)) hb rfl
theorem find_no {op : Int} (h4 : ¬ op = 4) (h5 : ¬ op = 5) (h6 : ¬ op = 6) (h7 : ¬ op = 7) (wx : World) :
    (Instr.lookup 181 (.map (some wx.heap.size)) (.int .i64 op) true).run Tryz.prog (wx.alloc (.map twoEntries 4)) = .ok (.tuple #[.nilFunc, .bool false]) (wx.alloc (.map twoEntries 4)) := by
  have hb := (MapKept.heap_alloc wx (.map twoEntries 4)).1
  refine run_find _ _ op none hb ?_
  have g4 : (op == 4) = false := by simpa using h4
  have g5 : (op == 5) = false := by simpa using h5
  have g6 : (op == 6) = false := by simpa using h6
  have g7 : (op == 7) = false := by simpa using h7
  simp [Instr.findNow, Instr.sameNow, twoEntries, g4, g5, g6, g7]

theorem two_B (w : World) (o o' o'' : Obj) : Below w.heap.size w (((w.alloc o).alloc o').alloc o'') := (((Below.refl _ _).alloc (Nat.le_refl _) _).alloc (by simp) _).alloc (by simp; omega) _

/-- image.Two, where one of them is not right. -/
theorem two_form {W H W' H' : Int} {a a' : Option Addr} {len len' : Nat} (op : Int) (cap cap' : Nat) {ps qs : List Int} {w : World} (h : Ints 0 w a len ps) (h' : Ints 0 w a' len' qs) (hf : (fineB W H ps && fineB W' H' qs) = false) :
    Calls Tryz.prog 69 #[.int .i64 op, .agg #[.int .i64 W, .int .i64 H, .slice a len cap], .agg #[.int .i64 W', .int .i64 H', .slice a' len' cap']] w fun e w' => e = .returned (.tuple #[noImage, .int .i64 1]) ∧ Below w.heap.size w w' := by
  have hB := two_B w
  have h1 := h.below (Nat.le_refl _) (hB (.cells #[.int .i64 W, .int .i64 H, .slice a len cap] 24) (.cells #[.int .i64 W', .int .i64 H', .slice a' len' cap'] 24) (.cells #[.int .i64 0, .int .i64 0, .slice none 0 0] 24))
  have h2 := h'.below (Nat.le_refl _) (hB (.cells #[.int .i64 W, .int .i64 H, .slice a len cap] 24) (.cells #[.int .i64 W', .int .i64 H', .slice a' len' cap'] 24) (.cells #[.int .i64 0, .int .i64 0, .slice none 0 0] 24))
  by_cases hfa : fineB W H ps = true
  · have hfb : fineB W' H' qs = false := by rw [hfa] at hf; simpa using hf
    clear hf
    go_enter Tryz.func69, Tryz.ntmps69
    go_wp2_with (first
      | (go_at_call 13; with_reducible refine (check_fine cap h1 hfa).mono ?_; rintro e wA ⟨rfl, hbA⟩; obtain ⟨cA, fA⟩ := bcell hbA; have sA : w.heap.size + 1 + 1 < wA.heap.size := by have := hbA.size; simp at this; omega)
      | (go_at_call 13; with_reducible refine (check_not cap' (h2.below (Nat.le_refl _) hbA) hfb).mono ?_; rintro e wB ⟨rfl, hbB⟩; have hbB' := hbA.trans (hbB.mono hbA.size); obtain ⟨cB, fB⟩ := bcell hbB'; have sB : w.heap.size + 1 + 1 < wB.heap.size := by have := hbB.size; omega))
    refine bodyPost_ret (v := .tuple #[noImage, .int .i64 1]) (by simp [results, Tryz.results69, go_sem, cB]) rfl ⟨rfl, ?_⟩
    exact ((((hB _ _ _).trans (hbB'.mono (by simp; omega))).setCell (by simp; omega) _).setCell (by simp; omega) _).setCell (by simp; omega) _
  · have hfa' : fineB W H ps = false := by simpa using hfa
    clear hf
    go_enter Tryz.func69, Tryz.ntmps69
    go_wp2_with (go_at_call 13; refine (check_not cap h1 hfa').mono ?_; rintro e wA ⟨rfl, hbA⟩; obtain ⟨cA, fA⟩ := bcell hbA; have sA : w.heap.size + 1 + 1 < wA.heap.size := by have := hbA.size; simp at this; omega)
    refine bodyPost_ret (v := .tuple #[noImage, .int .i64 1]) (by simp [results, Tryz.results69, go_sem, cA]) rfl ⟨rfl, ?_⟩
    exact ((((hB _ _ _).trans (hbA.mono (by simp; omega))).setCell (by simp; omega) _).setCell (by simp; omega) _).setCell (by simp; omega) _
/-- image.Two, where the operation is none of its own. -/
theorem two_kind {W H b off W' H' b' off' : Nat} {op : Int} (cap cap' : Nat) {ps qs : List Int} {w : World} (hF : Fine w b off W H ps) (hG : Fine w b' off' W' H' qs) (h4 : ¬ op = 4) (h5 : ¬ op = 5) (h6 : ¬ op = 6) (h7 : ¬ op = 7) :
    Calls Tryz.prog 69 #[.int .i64 op, .agg #[.int .i64 W, .int .i64 H, .slice (some ⟨b, off, none⟩) (W * H) cap], .agg #[.int .i64 W', .int .i64 H', .slice (some ⟨b', off', none⟩) (W' * H') cap']] w fun e w' => e = .returned (.tuple #[noImage, .int .i64 4]) ∧ Below w.heap.size w w' := by
  have hB := two_B w
  have hF1 := hF.below (hB (.cells #[.int .i64 W, .int .i64 H, .slice (some ⟨b, off, none⟩) (W * H) cap] 24) (.cells #[.int .i64 W', .int .i64 H', .slice (some ⟨b', off', none⟩) (W' * H') cap'] 24) (.cells #[.int .i64 0, .int .i64 0, .slice none 0 0] 24))
  have hG1 := hG.below (hB (.cells #[.int .i64 W, .int .i64 H, .slice (some ⟨b, off, none⟩) (W * H) cap] 24) (.cells #[.int .i64 W', .int .i64 H', .slice (some ⟨b', off', none⟩) (W' * H') cap'] 24) (.cells #[.int .i64 0, .int .i64 0, .slice none 0 0] 24))
  have hfind := find_no h4 h5 h6 h7
  clear h4 h5 h6 h7
  go_enter Tryz.func69, Tryz.ntmps69
  go_wp2_with (first
      | (go_at_call 13; with_reducible refine (check_fine cap hF1.ints hF1.fineB).mono ?_; rintro e wA ⟨rfl, hbA⟩; obtain ⟨cA, fA⟩ := bcell hbA; have sA : w.heap.size + 1 + 1 < wA.heap.size := by have := hbA.size; simp at this; omega)
      | (go_at_call 13; with_reducible refine (check_fine cap' (hG1.below hbA).ints (hG1.below hbA).fineB).mono ?_; rintro e wB ⟨rfl, hbB⟩; have hbB' := hbA.trans (hbB.mono hbA.size); clear cA fA; obtain ⟨cB, fB⟩ := bcell hbB'; have sB : w.heap.size + 1 + 1 < wB.heap.size := by have := hbB.size; omega)
      | (go_at_call 109; refine (rules_any _).mono ?_; rintro e wC ⟨rfl, hC⟩; have hfd := hfind wB; rw [← hC] at hfd; have hbC' := hbB'.alloc hbB'.size (.map twoEntries 4); rw [← hC] at hbC'; have sC : w.heap.size + 1 + 1 < wC.heap.size := (by rw [hC]; simp; omega); have sC1 : w.heap.size + 1 < wC.heap.size := (by omega); have sC0 : w.heap.size < wC.heap.size := (by omega); clear hC cB fB; obtain ⟨cC, fC⟩ := bcell hbC'))
  refine bodyPost_ret (v := .tuple #[noImage, .int .i64 4]) (by simp [results, Tryz.results69, go_sem, cC, sC]) rfl ⟨rfl, ?_⟩
  exact ((((((hB _ _ _).trans (hbC'.mono (by simp; omega))).setCell (p := ⟨w.heap.size + 1 + 1, 0, none⟩) (by simp; omega) _).setCell (p := ⟨w.heap.size + 1 + 1, 1, none⟩) (by simp; omega) _).setCell (p := ⟨w.heap.size + 1 + 1, 2, none⟩) (by simp; omega) _).alloc (by simp [World.setCell]; omega) _)
/-- image.Two, where the sizes are not the same. -/
theorem two_size {W H b off W' H' b' off' : Nat} {op : Int} (cap cap' : Nat) {ps qs : List Int} {w : World} (hF : Fine w b off W H ps) (hG : Fine w b' off' W' H' qs) (hop : op = 4 ∨ op = 5 ∨ op = 6 ∨ op = 7) (hne : ¬ (W = W' ∧ H = H')) :
    Calls Tryz.prog 69 #[.int .i64 op, .agg #[.int .i64 W, .int .i64 H, .slice (some ⟨b, off, none⟩) (W * H) cap], .agg #[.int .i64 W', .int .i64 H', .slice (some ⟨b', off', none⟩) (W' * H') cap']] w fun e w' => e = .returned (.tuple #[noImage, .int .i64 6]) ∧ Below w.heap.size w w' := by
  have hB := two_B w
  have hF1 := hF.below (hB (.cells #[.int .i64 W, .int .i64 H, .slice (some ⟨b, off, none⟩) (W * H) cap] 24) (.cells #[.int .i64 W', .int .i64 H', .slice (some ⟨b', off', none⟩) (W' * H') cap'] 24) (.cells #[.int .i64 0, .int .i64 0, .slice none 0 0] 24))
  have hG1 := hG.below (hB (.cells #[.int .i64 W, .int .i64 H, .slice (some ⟨b, off, none⟩) (W * H) cap] 24) (.cells #[.int .i64 W', .int .i64 H', .slice (some ⟨b', off', none⟩) (W' * H') cap'] 24) (.cells #[.int .i64 0, .int .i64 0, .slice none 0 0] 24))
  have hfind := find_yes hop
  generalize twoF op = fn at hfind
  clear hop
  by_cases hw : W = W'
  · have g1 : ((W : Int) != (W' : Int)) = false := by simp [hw]
    have g2 : ((H : Int) != (H' : Int)) = true := by simp; omega
    clear hw hne
    go_enter Tryz.func69, Tryz.ntmps69
    go_wp2_with (first
        | (go_at_call 13; with_reducible refine (check_fine cap hF1.ints hF1.fineB).mono ?_; rintro e wA ⟨rfl, hbA⟩; obtain ⟨cA, fA⟩ := bcell hbA; have sA : w.heap.size + 1 + 1 < wA.heap.size := by have := hbA.size; simp at this; omega)
        | (go_at_call 13; with_reducible refine (check_fine cap' (hG1.below hbA).ints (hG1.below hbA).fineB).mono ?_; rintro e wB ⟨rfl, hbB⟩; have hbB' := hbA.trans (hbB.mono hbA.size); clear cA fA; obtain ⟨cB, fB⟩ := bcell hbB'; have sB : w.heap.size + 1 + 1 < wB.heap.size := by have := hbB.size; omega)
        | (go_at_call 109; refine (rules_any _).mono ?_; rintro e wC ⟨rfl, hC⟩; have hfd := hfind wB; rw [← hC] at hfd; have hbC' := hbB'.alloc hbB'.size (.map twoEntries 4); rw [← hC] at hbC'; have sC : w.heap.size + 1 + 1 < wC.heap.size := (by rw [hC]; simp; omega); have sC1 : w.heap.size + 1 < wC.heap.size := (by omega); have sC0 : w.heap.size < wC.heap.size := (by omega); clear hC cB fB; obtain ⟨cC, fC⟩ := bcell hbC'))
    refine bodyPost_ret (v := .tuple #[noImage, .int .i64 6]) (by simp [results, Tryz.results69, go_sem, cC, sC]) rfl ⟨rfl, ?_⟩
    exact ((((((hB _ _ _).trans (hbC'.mono (by simp; omega))).setCell (p := ⟨w.heap.size + 1 + 1, 0, none⟩) (by simp; omega) _).setCell (p := ⟨w.heap.size + 1 + 1, 1, none⟩) (by simp; omega) _).setCell (p := ⟨w.heap.size + 1 + 1, 2, none⟩) (by simp; omega) _).alloc (by simp [World.setCell]; omega) _)
  · have g1 : ((W : Int) != (W' : Int)) = true := by simp; omega
    clear hw hne
    go_enter Tryz.func69, Tryz.ntmps69
    go_wp2_with (first
        | (go_at_call 13; with_reducible refine (check_fine cap hF1.ints hF1.fineB).mono ?_; rintro e wA ⟨rfl, hbA⟩; obtain ⟨cA, fA⟩ := bcell hbA; have sA : w.heap.size + 1 + 1 < wA.heap.size := by have := hbA.size; simp at this; omega)
        | (go_at_call 13; with_reducible refine (check_fine cap' (hG1.below hbA).ints (hG1.below hbA).fineB).mono ?_; rintro e wB ⟨rfl, hbB⟩; have hbB' := hbA.trans (hbB.mono hbA.size); clear cA fA; obtain ⟨cB, fB⟩ := bcell hbB'; have sB : w.heap.size + 1 + 1 < wB.heap.size := by have := hbB.size; omega)
        | (go_at_call 109; refine (rules_any _).mono ?_; rintro e wC ⟨rfl, hC⟩; have hfd := hfind wB; rw [← hC] at hfd; have hbC' := hbB'.alloc hbB'.size (.map twoEntries 4); rw [← hC] at hbC'; have sC : w.heap.size + 1 + 1 < wC.heap.size := (by rw [hC]; simp; omega); have sC1 : w.heap.size + 1 < wC.heap.size := (by omega); have sC0 : w.heap.size < wC.heap.size := (by omega); clear hC cB fB; obtain ⟨cC, fC⟩ := bcell hbC'))
    refine bodyPost_ret (v := .tuple #[noImage, .int .i64 6]) (by simp [results, Tryz.results69, go_sem, cC, sC]) rfl ⟨rfl, ?_⟩
    exact ((((((hB _ _ _).trans (hbC'.mono (by simp; omega))).setCell (p := ⟨w.heap.size + 1 + 1, 0, none⟩) (by simp; omega) _).setCell (p := ⟨w.heap.size + 1 + 1, 1, none⟩) (by simp; omega) _).setCell (p := ⟨w.heap.size + 1 + 1, 2, none⟩) (by simp; omega) _).alloc (by simp [World.setCell]; omega) _)
end Go.Proofs.YtaenpgdmiaekcaaGreatDoor
/-
  TWO4: image.Two, with no error.
-/
namespace Go.Proofs.YtaenpgdmiaekcaaGreatDoor
set_option maxRecDepth 100000
open Go.RowKit Im

theorem met_of {wC : World} {o0 : Obj} (wx : World) (d1 d2 c1 c2 : Nat) {W H b off cap b' off' cap' : Nat} {ps qs : List Int} (hF : Fine wC b off W H ps) (hG : Fine wC b' off' W H qs)
    (h1 : wx.cell? ⟨d1, 0, none⟩ = some (.func (.func 147) #[] #[.pointer (some ⟨c1, 0, none⟩)])) (h2 : wx.cell? ⟨d2, 0, none⟩ = some (.func (.func 147) #[] #[.pointer (some ⟨c2, 0, none⟩)]))
    (a0 : wx.cell? ⟨c1, 0, none⟩ = some (.int .i64 W)) (a1 : wx.cell? ⟨c1, 1, none⟩ = some (.int .i64 H)) (a2 : wx.cell? ⟨c1, 2, none⟩ = some (.slice (some ⟨b, off, none⟩) (W * H) cap))
    (e0 : wx.cell? ⟨c2, 0, none⟩ = some (.int .i64 W)) (e1 : wx.cell? ⟨c2, 1, none⟩ = some (.int .i64 H)) (e2 : wx.cell? ⟨c2, 2, none⟩ = some (.slice (some ⟨b', off', none⟩) (W * H) cap'))
    (l1 : d1 < wx.heap.size) (l2 : d2 < wx.heap.size) (l3 : c1 < wx.heap.size) (l4 : c2 < wx.heap.size) (hb : Below (wC.heap.size + 1) (wC.alloc o0) wx) :
    ∃ x1 x2 y1 y2, Value.pointer (some ⟨d1, 0, none⟩) = .pointer (some ⟨x1, 0, none⟩) ∧ Value.pointer (some ⟨d2, 0, none⟩) = .pointer (some ⟨x2, 0, none⟩) ∧ Old wx x1 y1 b off cap W H ps ∧ Old wx x2 y2 b' off' cap' W H qs ∧ Below (wC.heap.size + 1) (wC.alloc o0) wx := by
  have hb' : Below wC.heap.size wC wx := ((Below.refl _ _).alloc (Nat.le_refl _) o0).trans (hb.mono (by omega))
  exact ⟨d1, d2, c1, c2, rfl, rfl, ⟨l1, h1, ⟨l3, a0, a1, a2⟩, hF.below hb'⟩, ⟨l2, h2, ⟨l4, e0, e1, e2⟩, hG.below hb'⟩, hb⟩

set_option maxHeartbeats 1000000 in
/-- image.Two, with no error. -/
theorem two_ok {W H b off b' off' : Nat} {op : Int} (cap cap' : Nat) {ps qs : List Int} {w : World} (hF : Fine w b off W H ps) (hG : Fine w b' off' W H qs) (hop : op = 4 ∨ op = 5 ∨ op = 6 ∨ op = 7) :
    Calls Tryz.prog 69 #[.int .i64 op, .agg #[.int .i64 W, .int .i64 H, .slice (some ⟨b, off, none⟩) (W * H) cap], .agg #[.int .i64 W, .int .i64 H, .slice (some ⟨b', off', none⟩) (W * H) cap']] w fun e w' =>
      ∃ a cap', e = .returned (.tuple #[.agg #[.int .i64 W, .int .i64 H, .slice a (W * H) cap'], .int .i64 0]) ∧ Ints w.heap.size w' a (W * H) (pix W (fun x y => twoG op (px W ps x y) (px W qs x y)) (W * H)) ∧ Below w.heap.size w w' := by
  have hB := two_B w
  have hF1 := hF.below (hB (.cells #[.int .i64 W, .int .i64 H, .slice (some ⟨b, off, none⟩) (W * H) cap] 24) (.cells #[.int .i64 W, .int .i64 H, .slice (some ⟨b', off', none⟩) (W * H) cap'] 24) (.cells #[.int .i64 0, .int .i64 0, .slice none 0 0] 24))
  have hG1 := hG.below (hB (.cells #[.int .i64 W, .int .i64 H, .slice (some ⟨b, off, none⟩) (W * H) cap] 24) (.cells #[.int .i64 W, .int .i64 H, .slice (some ⟨b', off', none⟩) (W * H) cap'] 24) (.cells #[.int .i64 0, .int .i64 0, .slice none 0 0] 24))
  have hfind := find_yes hop
  go_enter Tryz.func69, Tryz.ntmps69
  go_wp2_with (first
      | (go_at_call 13; with_reducible refine (check_fine cap hF1.ints hF1.fineB).mono ?_; rintro e wA ⟨rfl, hbA⟩; obtain ⟨cA, fA⟩ := bcell hbA; have sA : w.heap.size + 1 + 1 < wA.heap.size := by have := hbA.size; simp at this; omega)
      | (go_at_call 13; with_reducible refine (check_fine cap' (hG1.below hbA).ints (hG1.below hbA).fineB).mono ?_; rintro e wB ⟨rfl, hbB⟩; have hbB' := hbA.trans (hbB.mono hbA.size); clear cA fA; obtain ⟨cB, fB⟩ := bcell hbB'; have sB : w.heap.size + 1 + 1 < wB.heap.size := by have := hbB.size; omega)
      | (go_at_call 109; refine (rules_any _).mono ?_; rintro e wC ⟨rfl, hC⟩; have hfd := hfind wB; rw [← hC] at hfd; have hbC' := hbB'.alloc hbB'.size (.map twoEntries 4); rw [← hC] at hbC'; have sC : w.heap.size + 1 + 1 < wC.heap.size := (by rw [hC]; simp; omega); have sC1 : w.heap.size + 1 < wC.heap.size := (by omega); have sC0 : w.heap.size < wC.heap.size := (by omega); clear hC cB fB; obtain ⟨cC, fC⟩ := bcell hbC'))
  have e0 : wC.cell? ⟨w.heap.size, 0, none⟩ = some (.int .i64 W) := by rw [cC _ _ (by simp; omega)]; simp [go_sem]
  have e1 : wC.cell? ⟨w.heap.size, 1, none⟩ = some (.int .i64 H) := by rw [cC _ _ (by simp; omega)]; simp [go_sem]
  have e2 : wC.cell? ⟨w.heap.size, 2, none⟩ = some (.slice (some ⟨b, off, none⟩) (W * H) cap) := by rw [cC _ _ (by simp; omega)]; simp [go_sem]
  have g0 : wC.cell? ⟨w.heap.size + 1, 0, none⟩ = some (.int .i64 W) := by rw [cC _ _ (by simp)]; simp [go_sem]
  have g1 : wC.cell? ⟨w.heap.size + 1, 1, none⟩ = some (.int .i64 H) := by rw [cC _ _ (by simp)]; simp [go_sem]
  have g2 : wC.cell? ⟨w.heap.size + 1, 2, none⟩ = some (.slice (some ⟨b', off', none⟩) (W * H) cap') := by rw [cC _ _ (by simp)]; simp [go_sem]
  go_cut [10, 11] from 43 (fun p q wc => ∃ d1 d2 c1 c2, p = .pointer (some ⟨d1, 0, none⟩) ∧ q = .pointer (some ⟨d2, 0, none⟩) ∧ Old wc d1 c1 b off cap W H ps ∧ Old wc d2 c2 b' off' cap' W H qs ∧ Below (wC.heap.size + 1) (wC.alloc (.cells #[.func (.func (twoF op)) #[] #[]] 144)) wc)
  case rest =>
    obtain ⟨d1, d2, c1, c2, rfl, rfl, hO1, hO2, hbx⟩ := hcut
    have r1 : Below wC.heap.size wC wc := ((Below.refl _ _).alloc (Nat.le_refl _) _).trans (hbx.mono (by omega))
    have sX : wC.heap.size < wc.heap.size := by have := hbx.size; simp at this; omega
    have hr : wc.cell? ⟨wC.heap.size, 0, none⟩ = some (.func (.func (twoF op)) #[] #[]) := by rw [hbx.cell (by simp)]; simp [go_sem]
    have hT := two1_tells hop hO1 hO2 sX hr
    have hbX := hbC'.trans (r1.mono hbC'.size)
    clear hr hO1 hO2 cC fC hfd hfind e0 e1 e2 g0 g1 g2 hbx r1
    obtain ⟨cX, fX⟩ := bcell hbX
    have sX2 : w.heap.size + 1 + 1 < wc.heap.size := by omega
    go_wp2_with (go_at_call 106; refine (draw_any _ _ _ _ _ _ hF.hW hF.hH hT).mono ?_; rintro e wE ⟨a, cap2, rfl, hints, hbE⟩; have hbE' := hbX.trans (hbE.mono hbX.size); obtain ⟨cE, fE⟩ := bcell hbE'; have sE : w.heap.size + 1 + 1 < wE.heap.size := by have := hbE.size; omega)
    refine bodyPost_ret (v := .tuple #[.agg #[.int .i64 W, .int .i64 H, .slice a (W * H) cap2], .int .i64 0]) (by simp [results, Tryz.results69, go_sem, cE]) rfl ⟨a, cap2, rfl, ?_, ?_⟩
    · exact (((hints.setCell (p := ⟨w.heap.size + 1 + 1, 0, none⟩) sX2 _).setCell (p := ⟨w.heap.size + 1 + 1, 1, none⟩) sX2 _).setCell (p := ⟨w.heap.size + 1 + 1, 2, none⟩) sX2 _).mono (by omega)
    · exact ((((hB _ _ _).trans (hbE'.mono (by simp; omega))).setCell (p := ⟨w.heap.size + 1 + 1, 0, none⟩) (by simp; omega) _).setCell (p := ⟨w.heap.size + 1 + 1, 1, none⟩) (by simp; omega) _).setCell (p := ⟨w.heap.size + 1 + 1, 2, none⟩) (by simp; omega) _
  case first =>
    have hFC := hF1.below hbC'
    have hGC := hG1.below hbC'
    clear cC fC hfd hfind
    have n1 : w.heap.size < wC.heap.size + 1 := by omega
    have n2 : w.heap.size < wC.heap.size + 1 + 1 := by omega
    have n3 : w.heap.size < wC.heap.size + 1 + 1 + 1 := by omega
    have n4 : w.heap.size < wC.heap.size + 1 + 1 + 1 + 1 := by omega
    have n5 : w.heap.size < wC.heap.size + 1 + 1 + 1 + 1 + 1 := by omega
    go_region_held3 (fun w' => w'.cell? ⟨w.heap.size, 0, none⟩ = some (.int .i64 W) ∧ w'.cell? ⟨w.heap.size, 1, none⟩ = some (.int .i64 H) ∧ w'.cell? ⟨w.heap.size, 2, none⟩ = some (.slice (some ⟨b, off, none⟩) (W * H) cap) ∧ w'.cell? ⟨w.heap.size + 1, 0, none⟩ = some (.int .i64 W) ∧ w'.cell? ⟨w.heap.size + 1, 1, none⟩ = some (.int .i64 H) ∧ w'.cell? ⟨w.heap.size + 1, 2, none⟩ = some (.slice (some ⟨b', off', none⟩) (W * H) cap') ∧ w.heap.size + 1 < w'.heap.size ∧ w.heap.size < w'.heap.size)
      (simp [*, go_sem, World.cell?_alloc_past])
      (first | (go_at_call 110; refine (numbersOf_any _ _ _ _ _ _).mono ?_; rintro e w' ⟨rfl, hw'⟩; subst hw'))
    all_goals go_wp2
    all_goals
      go_meet
      case rel =>
        first
          | (refine met_of _ _ _ (wC.heap.size + 1) (wC.heap.size + 1 + 1) hFC hGC ?_ ?_ ?_ ?_ ?_ ?_ ?_ ?_ ?_ ?_ ?_ ?_ ?_; all_goals (first | (simp [go_sem]; done) | (repeat (first | exact Below.refl _ _ | apply Below.drew | (refine Below.alloc ?_ (by simp <;> omega) _)))); done)
          | (refine met_of _ _ _ (wC.heap.size + 1) (wC.heap.size + 1 + 1 + 1) hFC hGC ?_ ?_ ?_ ?_ ?_ ?_ ?_ ?_ ?_ ?_ ?_ ?_ ?_; all_goals (first | (simp [go_sem]; done) | (repeat (first | exact Below.refl _ _ | apply Below.drew | (refine Below.alloc ?_ (by simp <;> omega) _)))); done)
          | (refine met_of _ _ _ (wC.heap.size + 1) (wC.heap.size + 1 + 1 + 1 + 1) hFC hGC ?_ ?_ ?_ ?_ ?_ ?_ ?_ ?_ ?_ ?_ ?_ ?_ ?_; all_goals (first | (simp [go_sem]; done) | (repeat (first | exact Below.refl _ _ | apply Below.drew | (refine Below.alloc ?_ (by simp <;> omega) _)))); done)
          | (refine met_of _ _ _ (wC.heap.size + 1 + 1) (wC.heap.size + 1 + 1 + 1) hFC hGC ?_ ?_ ?_ ?_ ?_ ?_ ?_ ?_ ?_ ?_ ?_ ?_ ?_; all_goals (first | (simp [go_sem]; done) | (repeat (first | exact Below.refl _ _ | apply Below.drew | (refine Below.alloc ?_ (by simp <;> omega) _)))); done)
          | (refine met_of _ _ _ (wC.heap.size + 1 + 1) (wC.heap.size + 1 + 1 + 1 + 1) hFC hGC ?_ ?_ ?_ ?_ ?_ ?_ ?_ ?_ ?_ ?_ ?_ ?_ ?_; all_goals (first | (simp [go_sem]; done) | (repeat (first | exact Below.refl _ _ | apply Below.drew | (refine Below.alloc ?_ (by simp <;> omega) _)))); done)
          | (refine met_of _ _ _ (wC.heap.size + 1 + 1 + 1) (wC.heap.size + 1 + 1 + 1 + 1) hFC hGC ?_ ?_ ?_ ?_ ?_ ?_ ?_ ?_ ?_ ?_ ?_ ?_ ?_; all_goals (first | (simp [go_sem]; done) | (repeat (first | exact Below.refl _ _ | apply Below.drew | (refine Below.alloc ?_ (by simp <;> omega) _)))); done)
end Go.Proofs.YtaenpgdmiaekcaaGreatDoor
/-
  ACC: an image that is built up in a variable ('out.P = append(out.P, n)'), step by step.
-/
namespace Go.Proofs.YtaenpgdmiaekcaaGreatDoor
set_option maxRecDepth 100000
open Go.RowKit Im

/-- The image of W columns and H rows that lies in block c has the numbers qs so far, in the slice v, a row of the call's own behind c; what lay ahead of c is as in w0. -/
structure Acc (c : Nat) (w0 wr : World) (W H : Int) (v : Value) (qs : List Int) : Prop where
  own : Owns (c + 1) wr v qs
  blk : wr.heap[c]? = some (.cells #[.int .i64 W, .int .i64 H, v] 24 (0, 0))
  bel : Below c w0 wr
  siz : c < wr.heap.size

theorem owns_slice {base e size n : Nat} {w : World} {v : Value} {xs : List Value} (h : w.ownsRow base e size v n xs) : ∃ a cap, v = .slice a n cap := by
  rcases h.2 with ⟨rfl, rfl⟩ | ⟨g, cap, cur, rfl, _⟩
  · exact ⟨none, 0, rfl⟩
  · exact ⟨_, cap, rfl⟩
theorem Acc.start (w1 : World) (c : Nat) (W H : Int) (hc : c = w1.heap.size) : Acc c (w1.alloc (.cells #[.int .i64 W, .int .i64 H, .slice none 0 0] 24)) (w1.alloc (.cells #[.int .i64 W, .int .i64 H, .slice none 0 0] 24)) W H (.slice none 0 0) [] := by
  subst hc
  refine ⟨World.ownsRow_nil _ _ _ _, ?_, Below.refl _ _, by simp⟩
  show (w1.heap.push _)[w1.heap.size]? = _
  simp
theorem Acc.ints {c : Nat} {w0 wr : World} {W H : Int} {v : Value} {qs : List Int} (h : Acc c w0 wr W H v qs) (hb : qs.length ≤ 9223372036854775807) : ∃ a cap, v = .slice a qs.length cap ∧ Ints (c + 1) wr a qs.length qs := h.own.ints hb
theorem Acc.cells {c : Nat} {w0 wr : World} {W H : Int} {v : Value} {qs : List Int} (h : Acc c w0 wr W H v qs) :
    wr.cell? ⟨c, 0, none⟩ = some (.int .i64 W) ∧ wr.cell? ⟨c, 1, none⟩ = some (.int .i64 H) ∧ wr.cell? ⟨c, 2, none⟩ = some v ∧ (∀ o, wr.frozen? ⟨c, o, none⟩ = false) := by
  refine ⟨?_, ?_, ?_, fun o => ?_⟩
  all_goals simp [World.cell?, World.frozen?, h.blk]
theorem Acc.below {c : Nat} {w0 wr w2 : World} {W H : Int} {v : Value} {qs : List Int} (h : Acc c w0 wr W H v qs) (hb : Below wr.heap.size wr w2) : Acc c w0 w2 W H v qs :=
  ⟨h.own.below hb (Nat.le_refl _), (hb.block c h.siz).trans h.blk, h.bel.trans (hb.mono (Nat.le_of_lt h.siz)), Nat.lt_of_lt_of_le h.siz hb.size⟩
theorem Acc.mid {c : Nat} {w0 w2 w3 : World} {W H : Int} {v : Value} {qs : List Int} {o : Obj} (h : Acc c w0 w2 W H v qs) (hg : (w2.alloc o).grownBy w3 v.ownBlock) :
    w3.heap[c]? = some (.cells #[.int .i64 W, .int .i64 H, v] 24 (0, 0)) ∧ w3.cell? ⟨c, 2, none⟩ = some v ∧ w3.frozen? ⟨c, 2, none⟩ = false := by
  have e : w3.heap[c]? = some (.cells #[.int .i64 W, .int .i64 H, v] 24 (0, 0)) := by
    rw [hg.block c (by have := h.siz; simp; omega) (fun e => by have := (World.ownsRow.lt (w := w2) h.own c e.symm).1; omega), Below.heap_alloc _ _ _ h.siz, h.blk]
  refine ⟨e, ?_, ?_⟩
  all_goals simp [World.cell?, World.frozen?, e]
theorem Acc.push {c : Nat} {w0 w2 w3 : World} {W H : Int} {v v' : Value} {qs : List Int} {x : Int} {o : Obj} (h : Acc c w0 w2 W H v qs) (hg : (w2.alloc o).grownBy w3 v.ownBlock)
    (h' : w3.ownsRow (c + 1) 3 1 v' (qs.length + 1) (qs.map (Value.int .i64) ++ [.int .i64 x])) : Acc c w0 (w3.setCell ⟨c, 2, none⟩ v') W H v' (qs ++ [x]) := by
  have hs : c < w3.heap.size := by have h1 := h.siz; have h2 := hg.size; simp at h2; omega
  refine ⟨?_, ?_, ?_, by simpa [World.setCell] using hs⟩
  · exact ownsRow_setCell_below (show w3.ownsRow (c + 1) 3 1 v' (qs ++ [x]).length ((qs ++ [x]).map (Value.int .i64)) by simpa using h') (by simp) _
  · simp [World.setCell, Array.getElem?_modify, (h.mid hg).1]
  · exact (((h.bel.alloc (Nat.le_of_lt h.siz) o).grown hg (by have := h.siz; simp; omega) (fun k hk => by have := (World.ownsRow.lt (w := w2) h.own k hk).1; omega))).setCell (Nat.le_refl _) _
end Go.Proofs.YtaenpgdmiaekcaaGreatDoor
/-
  MAKEREF: the reference's MakeError and MakeOf.
-/
namespace Go.Proofs.YtaenpgdmiaekcaaGreatDoor
set_option maxRecDepth 100000
open Go.RowKit Im

set_option maxHeartbeats 1000000 in
theorem makeOf_any (op : Int) (W H : Nat) (k : Int) (w : World) (h : op = 1 ∨ op = 2) (hW : 1 ≤ W ∧ W ≤ 16) (hH : 1 ≤ H ∧ H ≤ 16) (hk : 0 ≤ k ∧ k ≤ 65535) :
    Calls Tryz.prog 135 #[.int .i64 op, .int .i64 W, .int .i64 H, .int .i64 k] w fun e w' =>
      ∃ a cap, e = .returned (.agg #[.int .i64 W, .int .i64 H, .slice a (W * H) cap]) ∧ Ints w.heap.size w' a (W * H) (pix W (makeG op k) (W * H)) ∧ Below w.heap.size w w' := by
  obtain ⟨i0, hi, hz0, hz1, hz2⟩ := info_parts Tryz.info3
  have hWH : 1 ≤ (W : Int) * H ∧ (W : Int) * H ≤ 256 := side_mul (by simp [sideB]; omega) (by simp [sideB]; omega)
  have hWN : W * H ≤ 256 := by have := hWH.2; rw [← Int.natCast_mul] at this; omega
  clear hWH
  have hG1 : ∀ x y, makeG 1 k x y = k := fun x y => rfl
  have hG2 : ∀ x y : Nat, makeG 2 k x y = ((x : Int) * k + y) % 65536 := fun x y => rfl
  rcases h with rfl | rfl
  · go_enter Tryz.func135, Tryz.ntmps135
    go_wp2
    go_loopw [10] (fun i wr => ∃ (y : Nat) (v : Value), y ≤ H ∧ i = .int .i64 y ∧ Acc (w.heap.size + 1) ((w.alloc (.cells #[.int .i64 0, .int .i64 0, .slice none 0 0] 24)).alloc (.cells #[.int .i64 W, .int .i64 H, .slice none 0 0] 24)) wr W H v (pix W (makeG 1 k) (y * W))) (fun i _ => H - (intOf i).toNat)
    case atStart => exact ⟨0, .slice none 0 0, Nat.zero_le _, rfl, by rw [Nat.zero_mul]; exact Acc.start _ _ _ _ (by simp)⟩
    case round =>
      obtain ⟨y, v, hy, rfl, hacc⟩ := hrel
      by_cases hlt : y < H
      · go_wp2
        go_loopw [11] (fun i ws => ∃ (x : Nat) (v : Value), x ≤ W ∧ i = .int .i64 x ∧ Acc (w.heap.size + 1) ((w.alloc (.cells #[.int .i64 0, .int .i64 0, .slice none 0 0] 24)).alloc (.cells #[.int .i64 W, .int .i64 H, .slice none 0 0] 24)) ws W H v (pix W (makeG 1 k) (y * W + x))) (fun i _ => W - (intOf i).toNat)
        case atStart => exact ⟨0, v, Nat.zero_le _, rfl, hacc⟩
        case round =>
          obtain ⟨x, v2, hx, rfl, hacs⟩ := hrel
          by_cases hlx : x < W
          · obtain ⟨c0, c1, c2, cf⟩ := hacs.cells
            have hsz := hacs.siz
            have hpl : y * W + x < W * H := place_lt hlx hlt
            have hlen : (pix W (makeG 1 k) (y * W + x)).length = y * W + x := pix_length _ _ _
            have hm1 : 0 ≤ (x : Int) * k := Int.mul_nonneg (by omega) hk.1
            have hm2 : (x : Int) * k ≤ 16 * 65535 := Int.mul_le_mul (by omega) hk.2 hk.1 (by omega)
            clear hG1 hG2 hacc
            go_wp2_with (at_builtin; refine wpList_append_own _ rfl _ _ 22 rfl (w.heap.size + 1 + 1) 3 i0 (.int .i64 0) 1 8 Tryz.underlying22 hi hz0 hz1 hz2 rfl (by decide) _ _ _ rfl (World.ownsRow.alloc hacs.own _) ⟨wr.heap.size, 0, none⟩ 1 1 [.int .i64 k] rfl rfl (cell_one_new _ _ _) (by intro u hu; simp at hu; subst hu; rfl) (by rw [hlen]; unfold maxLen; omega) (by rw [hlen]; omega) (by simp; omega) ?_; intro v' w3 hown3 hgrow3 _; obtain ⟨hm, m2, m3⟩ := hacs.mid hgrow3; obtain ⟨a', cap', hv'⟩ := owns_slice hown3; subst hv')
            have R := hacs.push hgrow3 hown3
            rw [hlen] at R
            go_roundw
            case rel => exact ⟨x + 1, _, by omega, by go_num, by rw [← Nat.add_assoc, pix_succ W _ x y hlx, show makeG 1 k x y = k from rfl]; exact R⟩
            case measure => simp [intOf]; omega
          · have hxW : x = W := by omega
            subst hxW
            go_wp2
            go_roundw
            case rel => exact ⟨y + 1, v2, by omega, by go_num, by rw [Nat.add_mul, Nat.one_mul]; exact hacs⟩
            case measure => simp [intOf]; omega
      · have hyH : y = H := by omega
        subst hyH
        have hlen : (pix W (makeG 1 k) (y * W)).length = y * W := pix_length _ _ _
        obtain ⟨a, cap, rfl, hints⟩ := hacc.ints (by rw [hlen, Nat.mul_comm]; omega)
        obtain ⟨c0, c1, c2, cf⟩ := hacc.cells
        have hsz := hacc.siz
        have d0 : wr.cell? ⟨w.heap.size, 0, none⟩ = some (.int .i64 0) := by rw [hacc.bel.cell (by simp)]; simp [go_sem]
        have d1 : wr.cell? ⟨w.heap.size, 1, none⟩ = some (.int .i64 0) := by rw [hacc.bel.cell (by simp)]; simp [go_sem]
        have d2 : wr.cell? ⟨w.heap.size, 2, none⟩ = some (.slice none 0 0) := by rw [hacc.bel.cell (by simp)]; simp [go_sem]
        have f0 : wr.frozen? ⟨w.heap.size, 0, none⟩ = false := by rw [hacc.bel.frozen (by simp)]; simp [go_sem]
        have f1 : wr.frozen? ⟨w.heap.size, 1, none⟩ = false := by rw [hacc.bel.frozen (by simp)]; simp [go_sem]
        have f2 : wr.frozen? ⟨w.heap.size, 2, none⟩ = false := by rw [hacc.bel.frozen (by simp)]; simp [go_sem]
        go_wp2
        rw [hlen, Nat.mul_comm] at hints
        refine bodyPost_ret (v := .agg #[.int .i64 W, .int .i64 y, .slice a (W * y) cap]) (by simp [results, Tryz.results135, go_sem, d0, d1, d2]; exact Nat.mul_comm _ _) rfl ⟨a, cap, rfl, ?_, ?_⟩
        · exact (((hints.setCell (by simp; omega) _).setCell (by simp; omega) _).setCell (by simp; omega) _).mono (by omega)
        · exact ((((((Below.refl _ _).alloc (Nat.le_refl _) _).alloc (by simp) _).trans (hacc.bel.mono (by omega))).setCell (by simp) _).setCell (by simp) _).setCell (by simp) _
  · go_enter Tryz.func135, Tryz.ntmps135
    go_wp2
    go_loopw [10] (fun i wr => ∃ (y : Nat) (v : Value), y ≤ H ∧ i = .int .i64 y ∧ Acc (w.heap.size + 1) ((w.alloc (.cells #[.int .i64 0, .int .i64 0, .slice none 0 0] 24)).alloc (.cells #[.int .i64 W, .int .i64 H, .slice none 0 0] 24)) wr W H v (pix W (makeG 2 k) (y * W))) (fun i _ => H - (intOf i).toNat)
    case atStart => exact ⟨0, .slice none 0 0, Nat.zero_le _, rfl, by rw [Nat.zero_mul]; exact Acc.start _ _ _ _ (by simp)⟩
    case round =>
      obtain ⟨y, v, hy, rfl, hacc⟩ := hrel
      by_cases hlt : y < H
      · go_wp2
        go_loopw [11] (fun i ws => ∃ (x : Nat) (v : Value), x ≤ W ∧ i = .int .i64 x ∧ Acc (w.heap.size + 1) ((w.alloc (.cells #[.int .i64 0, .int .i64 0, .slice none 0 0] 24)).alloc (.cells #[.int .i64 W, .int .i64 H, .slice none 0 0] 24)) ws W H v (pix W (makeG 2 k) (y * W + x))) (fun i _ => W - (intOf i).toNat)
        case atStart => exact ⟨0, v, Nat.zero_le _, rfl, hacc⟩
        case round =>
          obtain ⟨x, v2, hx, rfl, hacs⟩ := hrel
          by_cases hlx : x < W
          · obtain ⟨c0, c1, c2, cf⟩ := hacs.cells
            have hsz := hacs.siz
            have hpl : y * W + x < W * H := place_lt hlx hlt
            have hlen : (pix W (makeG 2 k) (y * W + x)).length = y * W + x := pix_length _ _ _
            have hm1 : 0 ≤ (x : Int) * k := Int.mul_nonneg (by omega) hk.1
            have hm2 : (x : Int) * k ≤ 16 * 65535 := Int.mul_le_mul (by omega) hk.2 hk.1 (by omega)
            obtain ⟨gx, hgx⟩ : ∃ gx, gx = makeG 2 k x y := ⟨_, rfl⟩
            have hgy : ((x : Int) * k + y) % 65536 = gx := by rw [hgx, hG2]
            have HG : Hid (gx = makeG 2 k x y) := hgx
            clear hgx hG1 hG2 hacc
            go_wp2_with (at_builtin; refine wpList_append_own _ rfl _ _ 22 rfl (w.heap.size + 1 + 1) 3 i0 (.int .i64 0) 1 8 Tryz.underlying22 hi hz0 hz1 hz2 rfl (by decide) _ _ _ rfl (World.ownsRow.alloc hacs.own _) ⟨wr.heap.size, 0, none⟩ 1 1 [.int .i64 gx] rfl rfl (cell_one_new _ _ _) (by intro u hu; simp at hu; subst hu; rfl) (by rw [hlen]; unfold maxLen; omega) (by rw [hlen]; omega) (by simp; omega) ?_; intro v' w3 hown3 hgrow3 _; obtain ⟨hm, m2, m3⟩ := hacs.mid hgrow3; obtain ⟨a', cap', hv'⟩ := owns_slice hown3; subst hv')
            have R := hacs.push hgrow3 hown3
            rw [hlen] at R
            go_roundw
            case rel => exact ⟨x + 1, _, by omega, by go_num, by rw [← Nat.add_assoc, pix_succ W _ x y hlx, ← HG.out]; exact R⟩
            case measure => simp [intOf]; omega
          · have hxW : x = W := by omega
            subst hxW
            go_wp2
            go_roundw
            case rel => exact ⟨y + 1, v2, by omega, by go_num, by rw [Nat.add_mul, Nat.one_mul]; exact hacs⟩
            case measure => simp [intOf]; omega
      · have hyH : y = H := by omega
        subst hyH
        have hlen : (pix W (makeG 2 k) (y * W)).length = y * W := pix_length _ _ _
        obtain ⟨a, cap, rfl, hints⟩ := hacc.ints (by rw [hlen, Nat.mul_comm]; omega)
        obtain ⟨c0, c1, c2, cf⟩ := hacc.cells
        have hsz := hacc.siz
        have d0 : wr.cell? ⟨w.heap.size, 0, none⟩ = some (.int .i64 0) := by rw [hacc.bel.cell (by simp)]; simp [go_sem]
        have d1 : wr.cell? ⟨w.heap.size, 1, none⟩ = some (.int .i64 0) := by rw [hacc.bel.cell (by simp)]; simp [go_sem]
        have d2 : wr.cell? ⟨w.heap.size, 2, none⟩ = some (.slice none 0 0) := by rw [hacc.bel.cell (by simp)]; simp [go_sem]
        have f0 : wr.frozen? ⟨w.heap.size, 0, none⟩ = false := by rw [hacc.bel.frozen (by simp)]; simp [go_sem]
        have f1 : wr.frozen? ⟨w.heap.size, 1, none⟩ = false := by rw [hacc.bel.frozen (by simp)]; simp [go_sem]
        have f2 : wr.frozen? ⟨w.heap.size, 2, none⟩ = false := by rw [hacc.bel.frozen (by simp)]; simp [go_sem]
        go_wp2
        rw [hlen, Nat.mul_comm] at hints
        refine bodyPost_ret (v := .agg #[.int .i64 W, .int .i64 y, .slice a (W * y) cap]) (by simp [results, Tryz.results135, go_sem, d0, d1, d2]; exact Nat.mul_comm _ _) rfl ⟨a, cap, rfl, ?_, ?_⟩
        · exact (((hints.setCell (by simp; omega) _).setCell (by simp; omega) _).setCell (by simp; omega) _).mono (by omega)
        · exact ((((((Below.refl _ _).alloc (Nat.le_refl _) _).alloc (by simp) _).trans (hacc.bel.mono (by omega))).setCell (by simp) _).setCell (by simp) _).setCell (by simp) _
end Go.Proofs.YtaenpgdmiaekcaaGreatDoor
/-
  BEGUN: the closed calls of the law's imageBegun, each by its contract.
-/
namespace Go.Proofs.YtaenpgdmiaekcaaGreatDoor
set_option maxRecDepth 100000
open Go.RowKit Im

/-- The image that lies in block b: its columns, rows and slice, and the slice's numbers. -/
structure Pic (w : World) (b : Nat) (W H : Int) (a : Option Addr) (len cap : Nat) (ps : List Int) : Prop where
  lt : b < w.heap.size
  c0 : w.cell? ⟨b, 0, none⟩ = some (.int .i64 W)
  c1 : w.cell? ⟨b, 1, none⟩ = some (.int .i64 H)
  c2 : w.cell? ⟨b, 2, none⟩ = some (.slice a len cap)
  ints : Ints 0 w a len ps
theorem Pic.below {w w' : World} {b : Nat} {W H : Int} {a : Option Addr} {len cap : Nat} {ps : List Int} (h : Pic w b W H a len cap ps) (hb : Below w.heap.size w w') : Pic w' b W H a len cap ps :=
  ⟨Nat.lt_of_lt_of_le h.lt hb.size, (hb.cell (p := ⟨b, 0, none⟩) h.lt).trans h.c0, (hb.cell (p := ⟨b, 1, none⟩) h.lt).trans h.c1, (hb.cell (p := ⟨b, 2, none⟩) h.lt).trans h.c2, h.ints.below (Nat.le_refl _) hb⟩
theorem Pic.alloc {w : World} {b : Nat} {W H : Int} {a : Option Addr} {len cap : Nat} {ps : List Int} (h : Pic w b W H a len cap ps) (o : Obj) : Pic (w.alloc o) b W H a len cap ps :=
  h.below ((Below.refl _ _).alloc (Nat.le_refl _) _)
theorem Pic.new {w : World} {W H : Int} {a : Option Addr} {len : Nat} (cap : Nat) {ps : List Int} (h : Ints 0 w a len ps) : Pic (w.alloc (.cells #[.int .i64 W, .int .i64 H, .slice a len cap] 24)) w.heap.size W H a len cap ps :=
  ⟨by simp, by simp [go_sem], by simp [go_sem], by simp [go_sem], h.below (Nat.le_refl _) ((Below.refl _ _).alloc (Nat.le_refl _) _)⟩
theorem Ints.alloc {base : Nat} {w : World} {a : Option Addr} {len : Nat} {ps : List Int} (h : Ints base w a len ps) (o : Obj) : Ints base (w.alloc o) a len ps := h.below (Nat.le_refl _) ((Below.refl _ _).alloc (Nat.le_refl _) _)
/-- A literal of numbers. -/
theorem ints_lit (w : World) (ps : List Int) (h : ps.length ≤ 9223372036854775807) : Ints 0 (w.alloc (.cells (ps.map (Value.int .i64)).toArray 3)) (some ⟨w.heap.size, 0, none⟩) ps.length ps := by
  refine ⟨rfl, h, .inr ⟨w.heap.size, 0, rfl, Nat.zero_le _, by simp, fun j hj => ?_⟩⟩
  have : (w.alloc (.cells (ps.map (Value.int .i64)).toArray 3)).heap[w.heap.size]? = some (.cells (ps.map (Value.int .i64)).toArray 3 (0, 0)) := (MapKept.heap_alloc w _).1
  unfold World.cell?
  rw [this]
  simp [hj]

theorem four_any (w : World) : Calls Tryz.prog 27 #[] w fun e w' => e = .returned (.agg #[.int .i64 2, .int .i64 2, .slice (some ⟨w.heap.size + 1, 0, none⟩) 4 4]) ∧ Fine w' (w.heap.size + 1) 0 2 2 [4, 8, 65535, 0] ∧ Below w.heap.size w w' := by
  go_enter Tryz.func27, Tryz.ntmps27
  go_wp2
  refine bodyPost_ret (v := .agg #[.int .i64 2, .int .i64 2, .slice (some ⟨w.heap.size + 1, 0, none⟩) 4 4]) (by simp [results, Tryz.results27, go_sem]) rfl ⟨rfl, ⟨by decide, by decide, by simp, rfl, ?_, by decide⟩, ?_⟩
  · intro j hj
    have hi := (ints_lit (w.alloc (.cells #[.int .i64 2, .int .i64 2, .slice (some ⟨w.heap.size + 1, 0, none⟩) 4 4] 24)) [4, 8, 65535, 0] (by simp)).cells
    rcases hi with e | ⟨b, off, hb, _, _, hc⟩
    · cases e
    · simp at hb
      obtain ⟨rfl, rfl⟩ := hb
      exact hc j hj
  · exact ((Below.refl _ _).alloc (Nat.le_refl _) _).alloc (by simp) _

theorem four_some (w : World) : Calls Tryz.prog 27 #[] w fun e w' => ∃ b, e = .returned (.agg #[.int .i64 2, .int .i64 2, .slice (some ⟨b, 0, none⟩) 4 4]) ∧ Fine w' b 0 2 2 [4, 8, 65535, 0] ∧ Below w.heap.size w w' :=
  (four_any w).mono fun _ _ ⟨he, hf, hb⟩ => ⟨_, he, hf, hb⟩
theorem begun_make (w : World) : Calls Tryz.prog 68 #[.int .i64 2, .int .i64 3, .int .i64 1, .int .i64 40000] w fun e w' =>
    ∃ a cap, e = .returned (.tuple #[.agg #[.int .i64 3, .int .i64 1, .slice a 3 cap], .int .i64 0]) ∧ Ints 0 w' a 3 [0, 40000, 14464] ∧ Below w.heap.size w w' :=
  (make_ok 2 3 1 40000 w (.inr rfl) (by decide) (by decide) (by decide)).mono fun e w' ⟨a, cap, he, hi, hb⟩ => ⟨a, cap, he, by
    have e : pix 3 (makeG 2 40000) (3 * 1) = [0, 40000, 14464] := by decide
    rw [e] at hi
    exact hi.mono (Nat.zero_le _), hb⟩
theorem begun_shift {w : World} {b : Nat} (hF : Fine w b 0 2 2 [4, 8, 65535, 0]) : Calls Tryz.prog 71 #[.int .i64 9, .agg #[.int .i64 2, .int .i64 2, .slice (some ⟨b, 0, none⟩) 4 4], .int .i64 1] w fun e w' =>
    ∃ a cap, e = .returned (.tuple #[.agg #[.int .i64 2, .int .i64 2, .slice a 4 cap], .int .i64 0]) ∧ Ints 0 w' a 4 [4, 4, 65535, 65535] ∧ Below w.heap.size w w' :=
  (one_ok 9 4 1 hF (by decide)).mono fun e w' ⟨a, cap, he, hi, hb⟩ => ⟨a, cap, he, by
    have e : pix (oneN 9 2) (oneG 9 2 2 1 [4, 8, 65535, 0]) (oneN 9 2 * oneN 9 2) = [4, 4, 65535, 65535] := by decide
    rw [e] at hi
    exact hi.mono (Nat.zero_le _), hb⟩
theorem begun_down {w : World} {b : Nat} (hF : Fine w b 0 2 2 [4, 8, 65535, 0]) : Calls Tryz.prog 71 #[.int .i64 11, .agg #[.int .i64 2, .int .i64 2, .slice (some ⟨b, 0, none⟩) 4 4], .int .i64 0] w fun e w' =>
    ∃ b off cap, e = .returned (.tuple #[.agg #[.int .i64 1, .int .i64 1, .slice (some ⟨b, off, none⟩) 1 cap], .int .i64 0]) ∧ Fine w' b off 1 1 [16386] ∧ Below w.heap.size w w' :=
  (one_ok 11 4 0 hF (by decide)).mono fun e w' ⟨a, cap, he, hi, hb⟩ => by
    have e : pix (oneN 11 2) (oneG 11 2 2 0 [4, 8, 65535, 0]) (oneN 11 2 * oneN 11 2) = [16386] := by decide
    rw [e] at hi
    obtain ⟨W', H', b', off', hw, hh, ha, hl, hF'⟩ := fine_of (W := 1) (H := 1) (hi.mono (Nat.zero_le _)) (by decide)
    have hw' : W' = 1 := by omega
    have hh' : H' = 1 := by omega
    subst hw' hh' ha
    exact ⟨b', off', cap, he, hF', hb⟩
theorem begun_add {w : World} {b b' : Nat} (hF : Fine w b 0 2 2 [4, 8, 65535, 0]) (hG : Fine w b' 0 2 2 [4, 8, 65535, 0]) : Calls Tryz.prog 69 #[.int .i64 4, .agg #[.int .i64 2, .int .i64 2, .slice (some ⟨b, 0, none⟩) 4 4], .agg #[.int .i64 2, .int .i64 2, .slice (some ⟨b', 0, none⟩) 4 4]] w fun e w' =>
    ∃ a cap, e = .returned (.tuple #[.agg #[.int .i64 2, .int .i64 2, .slice a 4 cap], .int .i64 0]) ∧ Ints 0 w' a 4 [8, 16, 65535, 0] ∧ Below w.heap.size w w' :=
  (two_ok 4 4 hF hG (.inl rfl)).mono fun e w' ⟨a, cap, he, hi, hb⟩ => ⟨a, cap, he, by
    have e : pix 2 (fun x y => twoG 4 (px 2 [4, 8, 65535, 0] x y) (px 2 [4, 8, 65535, 0] x y)) (2 * 2) = [8, 16, 65535, 0] := by decide
    rw [e] at hi
    exact hi.mono (Nat.zero_le _), hb⟩
theorem begun_up {w : World} {b off cap : Nat} (hF : Fine w b off 1 1 [16386]) : Calls Tryz.prog 71 #[.int .i64 12, .agg #[.int .i64 1, .int .i64 1, .slice (some ⟨b, off, none⟩) 1 cap], .int .i64 0] w fun e w' =>
    ∃ a cap, e = .returned (.tuple #[.agg #[.int .i64 2, .int .i64 2, .slice a 4 cap], .int .i64 0]) ∧ Ints 0 w' a 4 [16386, 16386, 16386, 16386] ∧ Below w.heap.size w w' :=
  (one_ok 12 cap 0 hF (by decide)).mono fun e w' ⟨a, cap, he, hi, hb⟩ => ⟨a, cap, he, by
    have e : pix (oneN 12 1) (oneG 12 1 1 0 [16386]) (oneN 12 1 * oneN 12 1) = [16386, 16386, 16386, 16386] := by decide
    rw [e] at hi
    exact hi.mono (Nat.zero_le _), hb⟩
end Go.Proofs.YtaenpgdmiaekcaaGreatDoor
/-
  BEGUN2: the law's imageBegun answers true.
-/
namespace Go.Proofs.YtaenpgdmiaekcaaGreatDoor
set_option maxRecDepth 100000
open Go.RowKit Im

theorem below_step {w a b : World} (h : Below w.heap.size w a) (k : Below a.heap.size a b) : Below w.heap.size w b := h.trans (k.mono h.size)
theorem below_box {w a : World} (h : Below w.heap.size w a) (o : Obj) : Below w.heap.size w (a.alloc o) := h.alloc h.size o

end Go.Proofs.YtaenpgdmiaekcaaGreatDoor
