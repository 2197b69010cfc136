/-
  ONE3: image.One answers what the document says.
-/
import Derived.Test.YtfpkiimlaepnhaaOne2
namespace Go.Proofs.Ytfpkiimlaepnhaa
set_option maxRecDepth 100000
open Go.RowKit Im

/-- image.One, of an image that is not right. -/
theorem one_not {W H : Int} {a : Option Addr} {len : Nat} (op : Int) (cap : Nat) (k : Int) {ps : List Int} {w : World} (h : Ints 0 w a len ps) (hf : fineB W H ps = false) :
    Calls Try.prog 22 #[.int .i64 op, .agg #[.int .i64 W, .int .i64 H, .slice a len cap], .int .i64 k] w fun e w' => e = .returned (.tuple #[noImage, .int .i64 1]) ∧ Below w.heap.size w w' := by
  have hB : ∀ o o', Below w.heap.size w ((w.alloc o).alloc o') := fun o o' => ((Below.refl _ _).alloc (Nat.le_refl _) _).alloc (by simp) _
  have h1 := h.below (Nat.le_refl _) (hB (.cells #[.int .i64 W, .int .i64 H, .slice a len cap] 24) (.cells #[.int .i64 0, .int .i64 0, .slice none 0 0] 24))
  go_enter Try.func22, Try.ntmps22
  go_wp2_with (go_at_call 19; refine (check_not cap h1 hf).mono ?_; rintro e wA ⟨rfl, hbA⟩; obtain ⟨cA, fA⟩ := bcell hbA; have sA : w.heap.size + 1 < wA.heap.size := by have := hbA.size; simp at this; omega)
  refine bodyPost_ret (v := .tuple #[noImage, .int .i64 1]) (by simp [results, Try.results22, go_sem, cA]) rfl ⟨rfl, ?_⟩
  exact ((((hB _ _).trans (hbA.mono (by simp; omega))).setCell (by simp) _).setCell (by simp) _).setCell (by simp) _
/-- image.One, where it tells an error of a right image. -/
theorem one_err {W H b off : Nat} (op : Int) (cap : Nat) (k : Int) {ps : List Int} {w : World} (hF : Fine w b off W H ps) (E : Int) (hE : oneErr op W H k = E) (h0 : ¬ E = 0) :
    Calls Try.prog 22 #[.int .i64 op, .agg #[.int .i64 W, .int .i64 H, .slice (some ⟨b, off, none⟩) (W * H) cap], .int .i64 k] w fun e w' => e = .returned (.tuple #[noImage, .int .i64 E]) ∧ Below w.heap.size w w' := by
  have hB : ∀ o o', Below w.heap.size w ((w.alloc o).alloc o') := fun o o' => ((Below.refl _ _).alloc (Nat.le_refl _) _).alloc (by simp) _
  have hF1 := hF.below (hB (.cells #[.int .i64 W, .int .i64 H, .slice (some ⟨b, off, none⟩) (W * H) cap] 24) (.cells #[.int .i64 0, .int .i64 0, .slice none 0 0] 24))
  have hne : (E != 0) = true := by simpa using h0
  have hcO := fun wx => checkOne_any op W H k (some ⟨b, off, none⟩) (W * H) cap wx hF.hW hF.hH
  rw [hE] at hcO
  clear hE h0
  go_enter Try.func22, Try.ntmps22
  go_wp2_with (first
    | (go_at_call 19; refine (check_fine cap hF1.ints hF1.fineB).mono ?_; rintro e wA ⟨rfl, hbA⟩; obtain ⟨cA, fA⟩ := bcell hbA; have sA : w.heap.size + 1 < wA.heap.size := by have := hbA.size; simp at this; omega)
    | (go_at_call 63; refine (hcO _).mono ?_; rintro e wB ⟨rfl, hbB⟩; have hbB' := hbA.trans (hbB.mono hbA.size); obtain ⟨cB, fB⟩ := bcell hbB'; have sB : w.heap.size + 1 < wB.heap.size := by have := hbB.size; omega))
  refine bodyPost_ret (v := .tuple #[noImage, .int .i64 E]) (by simp [results, Try.results22, go_sem, cB]) rfl ⟨rfl, ?_⟩
  exact ((((hB _ _).trans (hbB'.mono (by simp; omega))).setCell (by simp) _).setCell (by simp) _).setCell (by simp) _
theorem okIf_zero {b : Bool} {e : Int} (he : ¬ e = 0) (h : okIf b e = 0) : b = true := by
  cases b
  · exact absurd h he
  · rfl
theorem oneN_side {op : Int} {W H : Nat} {k : Int} (hW : 1 ≤ W ∧ W ≤ 16) (hH : 1 ≤ H ∧ H ≤ 16) (hE : oneErr op W H k = 0) : (1 ≤ oneN op W ∧ oneN op W ≤ 16) ∧ 1 ≤ oneN op H ∧ oneN op H ≤ 16 := by
  rcases ones_cases op with (rfl | rfl) | rfl | rfl | rfl | rfl | ⟨h3, h10, h8, h9, h11, h12⟩
  · exact ⟨hW, hH⟩
  · exact ⟨hW, hH⟩
  · exact ⟨hW, hH⟩
  · exact ⟨hW, hH⟩
  · have h := okIf_zero (by decide) (show okIf (decide (W % 2 = 0) && decide (H % 2 = 0)) 6 = 0 from hE)
    simp at h
    show (1 ≤ W / 2 ∧ W / 2 ≤ 16) ∧ 1 ≤ H / 2 ∧ H / 2 ≤ 16
    omega
  · have h := okIf_zero (by decide) (show okIf (decide (2 * W ≤ 16) && decide (2 * H ≤ 16)) 6 = 0 from hE)
    simp at h
    show (1 ≤ 2 * W ∧ 2 * W ≤ 16) ∧ 1 ≤ 2 * H ∧ 2 * H ≤ 16
    omega
  · rw [oneErr_none W H k h3 h10 h8 h9 h11 h12] at hE; omega
/-- image.One, of a right image and with no error. -/
theorem one_ok {W H b off : Nat} (op : Int) (cap : Nat) (k : Int) {ps : List Int} {w : World} (hF : Fine w b off W H ps) (hE : oneErr op W H k = 0) :
    Calls Try.prog 22 #[.int .i64 op, .agg #[.int .i64 W, .int .i64 H, .slice (some ⟨b, off, none⟩) (W * H) cap], .int .i64 k] w fun e w' =>
      ∃ a cap', e = .returned (.tuple #[.agg #[.int .i64 (oneN op W), .int .i64 (oneN op H), .slice a (oneN op W * oneN op H) cap'], .int .i64 0]) ∧ Ints w.heap.size w' a (oneN op W * oneN op H) (pix (oneN op W) (oneG op W H k ps) (oneN op W * oneN op H)) ∧ Below w.heap.size w w' := by
  have hB : ∀ o o', Below w.heap.size w ((w.alloc o).alloc o') := fun o o' => ((Below.refl _ _).alloc (Nat.le_refl _) _).alloc (by simp) _
  have hF1 := hF.below (hB (.cells #[.int .i64 W, .int .i64 H, .slice (some ⟨b, off, none⟩) (W * H) cap] 24) (.cells #[.int .i64 0, .int .i64 0, .slice none 0 0] 24))
  have hcO := fun wx => checkOne_any op W H k (some ⟨b, off, none⟩) (W * H) cap wx hF.hW hF.hH
  have hs := oneN_side hF.hW hF.hH hE
  have hsO := fun wx => sizeOfOne_any op W H (some ⟨b, off, none⟩) (W * H) cap wx hF.hW.2 hF.hH.2
  have hrO := fun wx h => ruleOfOne_any op W H b off cap k ps wx h hE
  rw [hE] at hcO
  clear hE
  go_enter Try.func22, Try.ntmps22
  go_wp2_with (first
    | (go_at_call 19; refine (check_fine cap hF1.ints hF1.fineB).mono ?_; rintro e wA ⟨rfl, hbA⟩; obtain ⟨cA, fA⟩ := bcell hbA; have sA : w.heap.size + 1 < wA.heap.size := by have := hbA.size; simp at this; omega)
    | (go_at_call 63; refine (hcO _).mono ?_; rintro e wB ⟨rfl, hbB⟩; have hbB' := hbA.trans (hbB.mono hbA.size); obtain ⟨cB, fB⟩ := bcell hbB'; have sB : w.heap.size + 1 < wB.heap.size := by have := hbB.size; omega)
    | (go_at_call 64; refine (hsO _).mono ?_; rintro e wC ⟨rfl, hbC⟩; have hbC' := hbB'.trans (hbC.mono hbB'.size); obtain ⟨cC, fC⟩ := bcell hbC'; have sC : w.heap.size + 1 < wC.heap.size := by have := hbC.size; omega)
    | (go_at_call 65; refine (hrO _ (hF1.below hbC')).mono ?_; rintro e wD ⟨fn, caps, rfl, hT, hbD⟩; have hbD' := hbC'.trans (hbD.mono hbC'.size); obtain ⟨cD, fD⟩ := bcell hbD'; have sD : w.heap.size + 1 < wD.heap.size := by have := hbD.size; omega)
    | (go_at_call 58; refine (draw_any _ _ _ _ _ _ hs.1 hs.2 hT).mono ?_; rintro e wE ⟨a, cap', rfl, hints, hbE⟩; have hbE' := hbD'.trans (hbE.mono hbD'.size); obtain ⟨cE, fE⟩ := bcell hbE'; have sE : w.heap.size + 1 < wE.heap.size := by have := hbE.size; omega))
  refine bodyPost_ret (v := .tuple #[.agg #[.int .i64 (oneN op W), .int .i64 (oneN op H), .slice a (oneN op W * oneN op H) cap'], .int .i64 0]) (by simp [results, Try.results22, go_sem, cE]) rfl ⟨a, cap', rfl, ?_, ?_⟩
  · exact (((hints.setCell (by simpa using sD) _).setCell (by simpa using sD) _).setCell (by simpa using sD) _).mono (by omega)
  · exact ((((hB _ _).trans (hbE'.mono (by simp; omega))).setCell (by simp) _).setCell (by simp) _).setCell (by simp) _
end Go.Proofs.Ytfpkiimlaepnhaa
