/-
  TWO3: image.Two answers what the document says.
-/
import Derived.Test.YtfpkiimlaepnhaaTwo2
namespace Go.Proofs.Ytfpkiimlaepnhaa
set_option maxRecDepth 100000
open Go.RowKit Im

theorem find_yes {op : Int} (hop : op = 4 ∨ op = 5 ∨ op = 6 ∨ op = 7) (wx : World) :
    (Instr.lookup 100 (.map (some wx.heap.size)) (.int .i64 op) true).run Try.prog (wx.alloc (.map twoEntries 4)) = .ok (.tuple #[.func (.func (twoF op)) #[] #[], .bool true]) (wx.alloc (.map twoEntries 4)) := by
  have hb := (MapKept.heap_alloc wx (.map twoEntries 4)).1
  rcases hop with rfl | rfl | rfl | rfl
  · exact run_find _ _ 4 (some (0, _)) hb rfl
  · exact run_find _ _ 5 (some (1, _)) hb rfl
  · exact run_find _ _ 6 (some (2, _)) hb rfl
  · exact run_find _ _ 7 (some (3, _)) hb rfl
theorem find_no {op : Int} (h4 : ¬ op = 4) (h5 : ¬ op = 5) (h6 : ¬ op = 6) (h7 : ¬ op = 7) (wx : World) :
    (Instr.lookup 100 (.map (some wx.heap.size)) (.int .i64 op) true).run Try.prog (wx.alloc (.map twoEntries 4)) = .ok (.tuple #[.nilFunc, .bool false]) (wx.alloc (.map twoEntries 4)) := by
  have hb := (MapKept.heap_alloc wx (.map twoEntries 4)).1
  refine run_find _ _ op none hb ?_
  have g4 : (op == 4) = false := by simpa using h4
  have g5 : (op == 5) = false := by simpa using h5
  have g6 : (op == 6) = false := by simpa using h6
  have g7 : (op == 7) = false := by simpa using h7
  simp [Instr.findNow, Instr.sameNow, twoEntries, g4, g5, g6, g7]

theorem two_B (w : World) (o o' o'' : Obj) : Below w.heap.size w (((w.alloc o).alloc o').alloc o'') := (((Below.refl _ _).alloc (Nat.le_refl _) _).alloc (by simp) _).alloc (by simp; omega) _

/-- image.Two, where one of them is not right. -/
theorem two_form {W H W' H' : Int} {a a' : Option Addr} {len len' : Nat} (op : Int) (cap cap' : Nat) {ps qs : List Int} {w : World} (h : Ints 0 w a len ps) (h' : Ints 0 w a' len' qs) (hf : (fineB W H ps && fineB W' H' qs) = false) :
    Calls Try.prog 25 #[.int .i64 op, .agg #[.int .i64 W, .int .i64 H, .slice a len cap], .agg #[.int .i64 W', .int .i64 H', .slice a' len' cap']] w fun e w' => e = .returned (.tuple #[noImage, .int .i64 1]) ∧ Below w.heap.size w w' := by
  have hB := two_B w
  have h1 := h.below (Nat.le_refl _) (hB (.cells #[.int .i64 W, .int .i64 H, .slice a len cap] 24) (.cells #[.int .i64 W', .int .i64 H', .slice a' len' cap'] 24) (.cells #[.int .i64 0, .int .i64 0, .slice none 0 0] 24))
  have h2 := h'.below (Nat.le_refl _) (hB (.cells #[.int .i64 W, .int .i64 H, .slice a len cap] 24) (.cells #[.int .i64 W', .int .i64 H', .slice a' len' cap'] 24) (.cells #[.int .i64 0, .int .i64 0, .slice none 0 0] 24))
  by_cases hfa : fineB W H ps = true
  · have hfb : fineB W' H' qs = false := by rw [hfa] at hf; simpa using hf
    clear hf
    go_enter Try.func25, Try.ntmps25
    go_wp2_with (first
      | (go_at_call 19; with_reducible refine (check_fine cap h1 hfa).mono ?_; rintro e wA ⟨rfl, hbA⟩; obtain ⟨cA, fA⟩ := bcell hbA; have sA : w.heap.size + 1 + 1 < wA.heap.size := by have := hbA.size; simp at this; omega)
      | (go_at_call 19; with_reducible refine (check_not cap' (h2.below (Nat.le_refl _) hbA) hfb).mono ?_; rintro e wB ⟨rfl, hbB⟩; have hbB' := hbA.trans (hbB.mono hbA.size); obtain ⟨cB, fB⟩ := bcell hbB'; have sB : w.heap.size + 1 + 1 < wB.heap.size := by have := hbB.size; omega))
    refine bodyPost_ret (v := .tuple #[noImage, .int .i64 1]) (by simp [results, Try.results25, go_sem, cB]) rfl ⟨rfl, ?_⟩
    exact ((((hB _ _ _).trans (hbB'.mono (by simp; omega))).setCell (by simp; omega) _).setCell (by simp; omega) _).setCell (by simp; omega) _
  · have hfa' : fineB W H ps = false := by simpa using hfa
    clear hf
    go_enter Try.func25, Try.ntmps25
    go_wp2_with (go_at_call 19; refine (check_not cap h1 hfa').mono ?_; rintro e wA ⟨rfl, hbA⟩; obtain ⟨cA, fA⟩ := bcell hbA; have sA : w.heap.size + 1 + 1 < wA.heap.size := by have := hbA.size; simp at this; omega)
    refine bodyPost_ret (v := .tuple #[noImage, .int .i64 1]) (by simp [results, Try.results25, go_sem, cA]) rfl ⟨rfl, ?_⟩
    exact ((((hB _ _ _).trans (hbA.mono (by simp; omega))).setCell (by simp; omega) _).setCell (by simp; omega) _).setCell (by simp; omega) _
/-- image.Two, where the operation is none of its own. -/
theorem two_kind {W H b off W' H' b' off' : Nat} {op : Int} (cap cap' : Nat) {ps qs : List Int} {w : World} (hF : Fine w b off W H ps) (hG : Fine w b' off' W' H' qs) (h4 : ¬ op = 4) (h5 : ¬ op = 5) (h6 : ¬ op = 6) (h7 : ¬ op = 7) :
    Calls Try.prog 25 #[.int .i64 op, .agg #[.int .i64 W, .int .i64 H, .slice (some ⟨b, off, none⟩) (W * H) cap], .agg #[.int .i64 W', .int .i64 H', .slice (some ⟨b', off', none⟩) (W' * H') cap']] w fun e w' => e = .returned (.tuple #[noImage, .int .i64 4]) ∧ Below w.heap.size w w' := by
  have hB := two_B w
  have hF1 := hF.below (hB (.cells #[.int .i64 W, .int .i64 H, .slice (some ⟨b, off, none⟩) (W * H) cap] 24) (.cells #[.int .i64 W', .int .i64 H', .slice (some ⟨b', off', none⟩) (W' * H') cap'] 24) (.cells #[.int .i64 0, .int .i64 0, .slice none 0 0] 24))
  have hG1 := hG.below (hB (.cells #[.int .i64 W, .int .i64 H, .slice (some ⟨b, off, none⟩) (W * H) cap] 24) (.cells #[.int .i64 W', .int .i64 H', .slice (some ⟨b', off', none⟩) (W' * H') cap'] 24) (.cells #[.int .i64 0, .int .i64 0, .slice none 0 0] 24))
  have hfind := find_no h4 h5 h6 h7
  clear h4 h5 h6 h7
  go_enter Try.func25, Try.ntmps25
  go_wp2_with (first
      | (go_at_call 19; with_reducible refine (check_fine cap hF1.ints hF1.fineB).mono ?_; rintro e wA ⟨rfl, hbA⟩; obtain ⟨cA, fA⟩ := bcell hbA; have sA : w.heap.size + 1 + 1 < wA.heap.size := by have := hbA.size; simp at this; omega)
      | (go_at_call 19; with_reducible refine (check_fine cap' (hG1.below hbA).ints (hG1.below hbA).fineB).mono ?_; rintro e wB ⟨rfl, hbB⟩; have hbB' := hbA.trans (hbB.mono hbA.size); clear cA fA; obtain ⟨cB, fB⟩ := bcell hbB'; have sB : w.heap.size + 1 + 1 < wB.heap.size := by have := hbB.size; omega)
      | (go_at_call 69; refine (rules_any _).mono ?_; rintro e wC ⟨rfl, hC⟩; have hfd := hfind wB; rw [← hC] at hfd; have hbC' := hbB'.alloc hbB'.size (.map twoEntries 4); rw [← hC] at hbC'; have sC : w.heap.size + 1 + 1 < wC.heap.size := (by rw [hC]; simp; omega); have sC1 : w.heap.size + 1 < wC.heap.size := (by omega); have sC0 : w.heap.size < wC.heap.size := (by omega); clear hC cB fB; obtain ⟨cC, fC⟩ := bcell hbC'))
  refine bodyPost_ret (v := .tuple #[noImage, .int .i64 4]) (by simp [results, Try.results25, go_sem, cC, sC]) rfl ⟨rfl, ?_⟩
  exact ((((((hB _ _ _).trans (hbC'.mono (by simp; omega))).setCell (p := ⟨w.heap.size + 1 + 1, 0, none⟩) (by simp; omega) _).setCell (p := ⟨w.heap.size + 1 + 1, 1, none⟩) (by simp; omega) _).setCell (p := ⟨w.heap.size + 1 + 1, 2, none⟩) (by simp; omega) _).alloc (by simp [World.setCell]; omega) _)
/-- image.Two, where the sizes are not the same. -/
theorem two_size {W H b off W' H' b' off' : Nat} {op : Int} (cap cap' : Nat) {ps qs : List Int} {w : World} (hF : Fine w b off W H ps) (hG : Fine w b' off' W' H' qs) (hop : op = 4 ∨ op = 5 ∨ op = 6 ∨ op = 7) (hne : ¬ (W = W' ∧ H = H')) :
    Calls Try.prog 25 #[.int .i64 op, .agg #[.int .i64 W, .int .i64 H, .slice (some ⟨b, off, none⟩) (W * H) cap], .agg #[.int .i64 W', .int .i64 H', .slice (some ⟨b', off', none⟩) (W' * H') cap']] w fun e w' => e = .returned (.tuple #[noImage, .int .i64 6]) ∧ Below w.heap.size w w' := by
  have hB := two_B w
  have hF1 := hF.below (hB (.cells #[.int .i64 W, .int .i64 H, .slice (some ⟨b, off, none⟩) (W * H) cap] 24) (.cells #[.int .i64 W', .int .i64 H', .slice (some ⟨b', off', none⟩) (W' * H') cap'] 24) (.cells #[.int .i64 0, .int .i64 0, .slice none 0 0] 24))
  have hG1 := hG.below (hB (.cells #[.int .i64 W, .int .i64 H, .slice (some ⟨b, off, none⟩) (W * H) cap] 24) (.cells #[.int .i64 W', .int .i64 H', .slice (some ⟨b', off', none⟩) (W' * H') cap'] 24) (.cells #[.int .i64 0, .int .i64 0, .slice none 0 0] 24))
  have hfind := find_yes hop
  generalize twoF op = fn at hfind
  clear hop
  by_cases hw : W = W'
  · have g1 : ((W : Int) != (W' : Int)) = false := by simp [hw]
    have g2 : ((H : Int) != (H' : Int)) = true := by simp; omega
    clear hw hne
    go_enter Try.func25, Try.ntmps25
    go_wp2_with (first
        | (go_at_call 19; with_reducible refine (check_fine cap hF1.ints hF1.fineB).mono ?_; rintro e wA ⟨rfl, hbA⟩; obtain ⟨cA, fA⟩ := bcell hbA; have sA : w.heap.size + 1 + 1 < wA.heap.size := by have := hbA.size; simp at this; omega)
        | (go_at_call 19; with_reducible refine (check_fine cap' (hG1.below hbA).ints (hG1.below hbA).fineB).mono ?_; rintro e wB ⟨rfl, hbB⟩; have hbB' := hbA.trans (hbB.mono hbA.size); clear cA fA; obtain ⟨cB, fB⟩ := bcell hbB'; have sB : w.heap.size + 1 + 1 < wB.heap.size := by have := hbB.size; omega)
        | (go_at_call 69; refine (rules_any _).mono ?_; rintro e wC ⟨rfl, hC⟩; have hfd := hfind wB; rw [← hC] at hfd; have hbC' := hbB'.alloc hbB'.size (.map twoEntries 4); rw [← hC] at hbC'; have sC : w.heap.size + 1 + 1 < wC.heap.size := (by rw [hC]; simp; omega); have sC1 : w.heap.size + 1 < wC.heap.size := (by omega); have sC0 : w.heap.size < wC.heap.size := (by omega); clear hC cB fB; obtain ⟨cC, fC⟩ := bcell hbC'))
    refine bodyPost_ret (v := .tuple #[noImage, .int .i64 6]) (by simp [results, Try.results25, go_sem, cC, sC]) rfl ⟨rfl, ?_⟩
    exact ((((((hB _ _ _).trans (hbC'.mono (by simp; omega))).setCell (p := ⟨w.heap.size + 1 + 1, 0, none⟩) (by simp; omega) _).setCell (p := ⟨w.heap.size + 1 + 1, 1, none⟩) (by simp; omega) _).setCell (p := ⟨w.heap.size + 1 + 1, 2, none⟩) (by simp; omega) _).alloc (by simp [World.setCell]; omega) _)
  · have g1 : ((W : Int) != (W' : Int)) = true := by simp; omega
    clear hw hne
    go_enter Try.func25, Try.ntmps25
    go_wp2_with (first
        | (go_at_call 19; with_reducible refine (check_fine cap hF1.ints hF1.fineB).mono ?_; rintro e wA ⟨rfl, hbA⟩; obtain ⟨cA, fA⟩ := bcell hbA; have sA : w.heap.size + 1 + 1 < wA.heap.size := by have := hbA.size; simp at this; omega)
        | (go_at_call 19; with_reducible refine (check_fine cap' (hG1.below hbA).ints (hG1.below hbA).fineB).mono ?_; rintro e wB ⟨rfl, hbB⟩; have hbB' := hbA.trans (hbB.mono hbA.size); clear cA fA; obtain ⟨cB, fB⟩ := bcell hbB'; have sB : w.heap.size + 1 + 1 < wB.heap.size := by have := hbB.size; omega)
        | (go_at_call 69; refine (rules_any _).mono ?_; rintro e wC ⟨rfl, hC⟩; have hfd := hfind wB; rw [← hC] at hfd; have hbC' := hbB'.alloc hbB'.size (.map twoEntries 4); rw [← hC] at hbC'; have sC : w.heap.size + 1 + 1 < wC.heap.size := (by rw [hC]; simp; omega); have sC1 : w.heap.size + 1 < wC.heap.size := (by omega); have sC0 : w.heap.size < wC.heap.size := (by omega); clear hC cB fB; obtain ⟨cC, fC⟩ := bcell hbC'))
    refine bodyPost_ret (v := .tuple #[noImage, .int .i64 6]) (by simp [results, Try.results25, go_sem, cC, sC]) rfl ⟨rfl, ?_⟩
    exact ((((((hB _ _ _).trans (hbC'.mono (by simp; omega))).setCell (p := ⟨w.heap.size + 1 + 1, 0, none⟩) (by simp; omega) _).setCell (p := ⟨w.heap.size + 1 + 1, 1, none⟩) (by simp; omega) _).setCell (p := ⟨w.heap.size + 1 + 1, 2, none⟩) (by simp; omega) _).alloc (by simp [World.setCell]; omega) _)
end Go.Proofs.Ytfpkiimlaepnhaa
