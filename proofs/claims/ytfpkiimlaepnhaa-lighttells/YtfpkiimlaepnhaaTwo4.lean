/-
  TWO4: image.Two, with no error.
-/
import Derived.Test.YtfpkiimlaepnhaaTwo3
import Derived.Deep.RegionHeld3
import Derived.Deep.Cut
namespace Go.Proofs.Ytfpkiimlaepnhaa
set_option maxRecDepth 100000
open Go.RowKit Im

theorem met_of {wC : World} {o0 : Obj} (wx : World) (d1 d2 c1 c2 : Nat) {W H b off cap b' off' cap' : Nat} {ps qs : List Int} (hF : Fine wC b off W H ps) (hG : Fine wC b' off' W H qs)
    (h1 : wx.cell? ⟨d1, 0, none⟩ = some (.func (.func 104) #[] #[.pointer (some ⟨c1, 0, none⟩)])) (h2 : wx.cell? ⟨d2, 0, none⟩ = some (.func (.func 104) #[] #[.pointer (some ⟨c2, 0, none⟩)]))
    (a0 : wx.cell? ⟨c1, 0, none⟩ = some (.int .i64 W)) (a1 : wx.cell? ⟨c1, 1, none⟩ = some (.int .i64 H)) (a2 : wx.cell? ⟨c1, 2, none⟩ = some (.slice (some ⟨b, off, none⟩) (W * H) cap))
    (e0 : wx.cell? ⟨c2, 0, none⟩ = some (.int .i64 W)) (e1 : wx.cell? ⟨c2, 1, none⟩ = some (.int .i64 H)) (e2 : wx.cell? ⟨c2, 2, none⟩ = some (.slice (some ⟨b', off', none⟩) (W * H) cap'))
    (l1 : d1 < wx.heap.size) (l2 : d2 < wx.heap.size) (l3 : c1 < wx.heap.size) (l4 : c2 < wx.heap.size) (hb : Below (wC.heap.size + 1) (wC.alloc o0) wx) :
    ∃ x1 x2 y1 y2, Value.pointer (some ⟨d1, 0, none⟩) = .pointer (some ⟨x1, 0, none⟩) ∧ Value.pointer (some ⟨d2, 0, none⟩) = .pointer (some ⟨x2, 0, none⟩) ∧ Old wx x1 y1 b off cap W H ps ∧ Old wx x2 y2 b' off' cap' W H qs ∧ Below (wC.heap.size + 1) (wC.alloc o0) wx := by
  have hb' : Below wC.heap.size wC wx := ((Below.refl _ _).alloc (Nat.le_refl _) o0).trans (hb.mono (by omega))
  exact ⟨d1, d2, c1, c2, rfl, rfl, ⟨l1, h1, ⟨l3, a0, a1, a2⟩, hF.below hb'⟩, ⟨l2, h2, ⟨l4, e0, e1, e2⟩, hG.below hb'⟩, hb⟩

set_option maxHeartbeats 1000000 in
/-- image.Two, with no error. -/
theorem two_ok {W H b off b' off' : Nat} {op : Int} (cap cap' : Nat) {ps qs : List Int} {w : World} (hF : Fine w b off W H ps) (hG : Fine w b' off' W H qs) (hop : op = 4 ∨ op = 5 ∨ op = 6 ∨ op = 7) :
    Calls Try.prog 25 #[.int .i64 op, .agg #[.int .i64 W, .int .i64 H, .slice (some ⟨b, off, none⟩) (W * H) cap], .agg #[.int .i64 W, .int .i64 H, .slice (some ⟨b', off', none⟩) (W * H) cap']] w fun e w' =>
      ∃ a cap', e = .returned (.tuple #[.agg #[.int .i64 W, .int .i64 H, .slice a (W * H) cap'], .int .i64 0]) ∧ Ints w.heap.size w' a (W * H) (pix W (fun x y => twoG op (px W ps x y) (px W qs x y)) (W * H)) ∧ Below w.heap.size w w' := by
  have hB := two_B w
  have hF1 := hF.below (hB (.cells #[.int .i64 W, .int .i64 H, .slice (some ⟨b, off, none⟩) (W * H) cap] 24) (.cells #[.int .i64 W, .int .i64 H, .slice (some ⟨b', off', none⟩) (W * H) cap'] 24) (.cells #[.int .i64 0, .int .i64 0, .slice none 0 0] 24))
  have hG1 := hG.below (hB (.cells #[.int .i64 W, .int .i64 H, .slice (some ⟨b, off, none⟩) (W * H) cap] 24) (.cells #[.int .i64 W, .int .i64 H, .slice (some ⟨b', off', none⟩) (W * H) cap'] 24) (.cells #[.int .i64 0, .int .i64 0, .slice none 0 0] 24))
  have hfind := find_yes hop
  go_enter Try.func25, Try.ntmps25
  go_wp2_with (first
      | (go_at_call 19; with_reducible refine (check_fine cap hF1.ints hF1.fineB).mono ?_; rintro e wA ⟨rfl, hbA⟩; obtain ⟨cA, fA⟩ := bcell hbA; have sA : w.heap.size + 1 + 1 < wA.heap.size := by have := hbA.size; simp at this; omega)
      | (go_at_call 19; with_reducible refine (check_fine cap' (hG1.below hbA).ints (hG1.below hbA).fineB).mono ?_; rintro e wB ⟨rfl, hbB⟩; have hbB' := hbA.trans (hbB.mono hbA.size); clear cA fA; obtain ⟨cB, fB⟩ := bcell hbB'; have sB : w.heap.size + 1 + 1 < wB.heap.size := by have := hbB.size; omega)
      | (go_at_call 69; refine (rules_any _).mono ?_; rintro e wC ⟨rfl, hC⟩; have hfd := hfind wB; rw [← hC] at hfd; have hbC' := hbB'.alloc hbB'.size (.map twoEntries 4); rw [← hC] at hbC'; have sC : w.heap.size + 1 + 1 < wC.heap.size := (by rw [hC]; simp; omega); have sC1 : w.heap.size + 1 < wC.heap.size := (by omega); have sC0 : w.heap.size < wC.heap.size := (by omega); clear hC cB fB; obtain ⟨cC, fC⟩ := bcell hbC'))
  have e0 : wC.cell? ⟨w.heap.size, 0, none⟩ = some (.int .i64 W) := by rw [cC _ _ (by simp; omega)]; simp [go_sem]
  have e1 : wC.cell? ⟨w.heap.size, 1, none⟩ = some (.int .i64 H) := by rw [cC _ _ (by simp; omega)]; simp [go_sem]
  have e2 : wC.cell? ⟨w.heap.size, 2, none⟩ = some (.slice (some ⟨b, off, none⟩) (W * H) cap) := by rw [cC _ _ (by simp; omega)]; simp [go_sem]
  have g0 : wC.cell? ⟨w.heap.size + 1, 0, none⟩ = some (.int .i64 W) := by rw [cC _ _ (by simp)]; simp [go_sem]
  have g1 : wC.cell? ⟨w.heap.size + 1, 1, none⟩ = some (.int .i64 H) := by rw [cC _ _ (by simp)]; simp [go_sem]
  have g2 : wC.cell? ⟨w.heap.size + 1, 2, none⟩ = some (.slice (some ⟨b', off', none⟩) (W * H) cap') := by rw [cC _ _ (by simp)]; simp [go_sem]
  go_cut [10, 11] from 43 (fun p q wc => ∃ d1 d2 c1 c2, p = .pointer (some ⟨d1, 0, none⟩) ∧ q = .pointer (some ⟨d2, 0, none⟩) ∧ Old wc d1 c1 b off cap W H ps ∧ Old wc d2 c2 b' off' cap' W H qs ∧ Below (wC.heap.size + 1) (wC.alloc (.cells #[.func (.func (twoF op)) #[] #[]] 43)) wc)
  case rest =>
    obtain ⟨d1, d2, c1, c2, rfl, rfl, hO1, hO2, hbx⟩ := hcut
    have r1 : Below wC.heap.size wC wc := ((Below.refl _ _).alloc (Nat.le_refl _) _).trans (hbx.mono (by omega))
    have sX : wC.heap.size < wc.heap.size := by have := hbx.size; simp at this; omega
    have hr : wc.cell? ⟨wC.heap.size, 0, none⟩ = some (.func (.func (twoF op)) #[] #[]) := by rw [hbx.cell (by simp)]; simp [go_sem]
    have hT := two1_tells hop hO1 hO2 sX hr
    have hbX := hbC'.trans (r1.mono hbC'.size)
    clear hr hO1 hO2 cC fC hfd hfind e0 e1 e2 g0 g1 g2 hbx r1
    obtain ⟨cX, fX⟩ := bcell hbX
    have sX2 : w.heap.size + 1 + 1 < wc.heap.size := by omega
    go_wp2_with (go_at_call 58; refine (draw_any _ _ _ _ _ _ hF.hW hF.hH hT).mono ?_; rintro e wE ⟨a, cap2, rfl, hints, hbE⟩; have hbE' := hbX.trans (hbE.mono hbX.size); obtain ⟨cE, fE⟩ := bcell hbE'; have sE : w.heap.size + 1 + 1 < wE.heap.size := by have := hbE.size; omega)
    refine bodyPost_ret (v := .tuple #[.agg #[.int .i64 W, .int .i64 H, .slice a (W * H) cap2], .int .i64 0]) (by simp [results, Try.results25, go_sem, cE]) rfl ⟨a, cap2, rfl, ?_, ?_⟩
    · exact (((hints.setCell (p := ⟨w.heap.size + 1 + 1, 0, none⟩) sX2 _).setCell (p := ⟨w.heap.size + 1 + 1, 1, none⟩) sX2 _).setCell (p := ⟨w.heap.size + 1 + 1, 2, none⟩) sX2 _).mono (by omega)
    · exact ((((hB _ _ _).trans (hbE'.mono (by simp; omega))).setCell (p := ⟨w.heap.size + 1 + 1, 0, none⟩) (by simp; omega) _).setCell (p := ⟨w.heap.size + 1 + 1, 1, none⟩) (by simp; omega) _).setCell (p := ⟨w.heap.size + 1 + 1, 2, none⟩) (by simp; omega) _
  case first =>
    have hFC := hF1.below hbC'
    have hGC := hG1.below hbC'
    clear cC fC hfd hfind
    have n1 : w.heap.size < wC.heap.size + 1 := by omega
    have n2 : w.heap.size < wC.heap.size + 1 + 1 := by omega
    have n3 : w.heap.size < wC.heap.size + 1 + 1 + 1 := by omega
    have n4 : w.heap.size < wC.heap.size + 1 + 1 + 1 + 1 := by omega
    have n5 : w.heap.size < wC.heap.size + 1 + 1 + 1 + 1 + 1 := by omega
    go_region_held3 (fun w' => w'.cell? ⟨w.heap.size, 0, none⟩ = some (.int .i64 W) ∧ w'.cell? ⟨w.heap.size, 1, none⟩ = some (.int .i64 H) ∧ w'.cell? ⟨w.heap.size, 2, none⟩ = some (.slice (some ⟨b, off, none⟩) (W * H) cap) ∧ w'.cell? ⟨w.heap.size + 1, 0, none⟩ = some (.int .i64 W) ∧ w'.cell? ⟨w.heap.size + 1, 1, none⟩ = some (.int .i64 H) ∧ w'.cell? ⟨w.heap.size + 1, 2, none⟩ = some (.slice (some ⟨b', off', none⟩) (W * H) cap') ∧ w.heap.size + 1 < w'.heap.size ∧ w.heap.size < w'.heap.size)
      (simp [*, go_sem, World.cell?_alloc_past])
      (first | (go_at_call 70; refine (numbersOf_any _ _ _ _ _ _).mono ?_; rintro e w' ⟨rfl, hw'⟩; subst hw'))
    all_goals go_wp2
    all_goals
      go_meet
      case rel =>
        first
          | (refine met_of _ _ _ (wC.heap.size + 1) (wC.heap.size + 1 + 1) hFC hGC ?_ ?_ ?_ ?_ ?_ ?_ ?_ ?_ ?_ ?_ ?_ ?_ ?_; all_goals (first | (simp [go_sem]; done) | (repeat (first | exact Below.refl _ _ | apply Below.drew | (refine Below.alloc ?_ (by simp <;> omega) _)))); done)
          | (refine met_of _ _ _ (wC.heap.size + 1) (wC.heap.size + 1 + 1 + 1) hFC hGC ?_ ?_ ?_ ?_ ?_ ?_ ?_ ?_ ?_ ?_ ?_ ?_ ?_; all_goals (first | (simp [go_sem]; done) | (repeat (first | exact Below.refl _ _ | apply Below.drew | (refine Below.alloc ?_ (by simp <;> omega) _)))); done)
          | (refine met_of _ _ _ (wC.heap.size + 1) (wC.heap.size + 1 + 1 + 1 + 1) hFC hGC ?_ ?_ ?_ ?_ ?_ ?_ ?_ ?_ ?_ ?_ ?_ ?_ ?_; all_goals (first | (simp [go_sem]; done) | (repeat (first | exact Below.refl _ _ | apply Below.drew | (refine Below.alloc ?_ (by simp <;> omega) _)))); done)
          | (refine met_of _ _ _ (wC.heap.size + 1 + 1) (wC.heap.size + 1 + 1 + 1) hFC hGC ?_ ?_ ?_ ?_ ?_ ?_ ?_ ?_ ?_ ?_ ?_ ?_ ?_; all_goals (first | (simp [go_sem]; done) | (repeat (first | exact Below.refl _ _ | apply Below.drew | (refine Below.alloc ?_ (by simp <;> omega) _)))); done)
          | (refine met_of _ _ _ (wC.heap.size + 1 + 1) (wC.heap.size + 1 + 1 + 1 + 1) hFC hGC ?_ ?_ ?_ ?_ ?_ ?_ ?_ ?_ ?_ ?_ ?_ ?_ ?_; all_goals (first | (simp [go_sem]; done) | (repeat (first | exact Below.refl _ _ | apply Below.drew | (refine Below.alloc ?_ (by simp <;> omega) _)))); done)
          | (refine met_of _ _ _ (wC.heap.size + 1 + 1 + 1) (wC.heap.size + 1 + 1 + 1 + 1) hFC hGC ?_ ?_ ?_ ?_ ?_ ?_ ?_ ?_ ?_ ?_ ?_ ?_ ?_; all_goals (first | (simp [go_sem]; done) | (repeat (first | exact Below.refl _ _ | apply Below.drew | (refine Below.alloc ?_ (by simp <;> omega) _)))); done)
end Go.Proofs.Ytfpkiimlaepnhaa
