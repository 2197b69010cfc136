/-
  LIT: light.Lit answers what the document says.
-/
import Derived.Test.YtfpkiimlaepnhaaLitTile
import Derived.Test.YtfpkiimlaepnhaaMake
namespace Go.Proofs.Ytfpkiimlaepnhaa
set_option maxRecDepth 100000
open Go.RowKit Im

theorem lit_B (w : World) (o o' o'' : Obj) : Below w.heap.size w (((w.alloc o).alloc o').alloc o'') := (((Below.refl _ _).alloc (Nat.le_refl _) _).alloc (by simp) _).alloc (by simp; omega) _

/-- light.Lit, of an image that is not right. -/
theorem lit_form {W H : Int} {a : Option Addr} {len : Nat} (cap : Nat) {ps : List Int} {la : Option Addr} {llen : Nat} (lcap : Nat) (tile : Int) {w : World} (h : Ints 0 w a len ps) (hf : fineB W H ps = false) :
    Calls Try.prog 37 #[.agg #[.int .i64 W, .int .i64 H, .slice a len cap], .slice la llen lcap, .int .i64 tile] w fun e w' => e = .returned (.tuple #[noImage, .int .i64 1]) ∧ Below w.heap.size w w' := by
  have hB := lit_B w
  have h1 := h.below (Nat.le_refl _) (hB (.cells #[.int .i64 W, .int .i64 H, .slice a len cap] 24) (.cells #[.slice la llen lcap] 45) (.cells #[.int .i64 0, .int .i64 0, .slice none 0 0] 24))
  go_enter Try.func37, Try.ntmps37
  go_wp2_with (go_at_call 19; refine (check_not cap h1 hf).mono ?_; rintro e wA ⟨rfl, hbA⟩; obtain ⟨cA, fA⟩ := bcell hbA; have sA : w.heap.size + 1 + 1 < wA.heap.size := by have := hbA.size; simp at this; omega)
  refine bodyPost_ret (v := .tuple #[noImage, .int .i64 1]) (by simp [results, Try.results37, go_sem, cA]) rfl ⟨rfl, ?_⟩
  exact ((((hB _ _ _).trans (hbA.mono (by simp; omega))).setCell (p := ⟨w.heap.size + 1 + 1, 0, none⟩) (by simp; omega) _).setCell (p := ⟨w.heap.size + 1 + 1, 1, none⟩) (by simp; omega) _).setCell (p := ⟨w.heap.size + 1 + 1, 2, none⟩) (by simp; omega) _
/-- light.Lit, of lights that are not right. -/
theorem lit_lights {W H b off : Nat} (cap : Nat) {ps : List Int} {la : Option Addr} {llen : Nat} (lcap : Nat) {ls : List Lt} (tile : Int) {w : World} (hF : Fine w b off W H ps) (hl : Lights w la llen ls) (hE : ¬ lightsErr ls = 0) :
    Calls Try.prog 37 #[.agg #[.int .i64 W, .int .i64 H, .slice (some ⟨b, off, none⟩) (W * H) cap], .slice la llen lcap, .int .i64 tile] w fun e w' => e = .returned (.tuple #[noImage, .int .i64 (lightsErr ls)]) ∧ Below w.heap.size w w' := by
  have hB := lit_B w
  have hF1 := hF.below (hB (.cells #[.int .i64 W, .int .i64 H, .slice (some ⟨b, off, none⟩) (W * H) cap] 24) (.cells #[.slice la llen lcap] 45) (.cells #[.int .i64 0, .int .i64 0, .slice none 0 0] 24))
  have hcl := fun wx (hx : Below w.heap.size w wx) => checkL_any lcap (hl.below hx)
  generalize lightsErr ls = E at hcl hE
  have hne : (E != 0) = true := by simpa using hE
  have hBw := hB (.cells #[.int .i64 W, .int .i64 H, .slice (some ⟨b, off, none⟩) (W * H) cap] 24) (.cells #[.slice la llen lcap] 45) (.cells #[.int .i64 0, .int .i64 0, .slice none 0 0] 24)
  clear hE
  go_enter Try.func37, Try.ntmps37
  go_wp2_with (first
    | (go_at_call 19; refine (check_fine cap hF1.ints hF1.fineB).mono ?_; rintro e wA ⟨rfl, hbA⟩; obtain ⟨cA, fA⟩ := bcell hbA; have sA : w.heap.size + 1 + 1 < wA.heap.size := by have := hbA.size; simp at this; omega)
    | (go_at_call 35; refine (hcl _ (hBw.trans (hbA.mono (by simp; omega)))).mono ?_; rintro e wB ⟨rfl, hbB⟩; have hbB' := hbA.trans (hbB.mono hbA.size); clear cA fA; obtain ⟨cB, fB⟩ := bcell hbB'; have sB : w.heap.size + 1 + 1 < wB.heap.size := by have := hbB.size; omega))
  refine bodyPost_ret (v := .tuple #[noImage, .int .i64 E]) (by simp [results, Try.results37, go_sem, cB]) rfl ⟨rfl, ?_⟩
  exact (((hBw.trans (hbB'.mono (by simp; omega))).setCell (p := ⟨w.heap.size + 1 + 1, 0, none⟩) (by simp; omega) _).setCell (p := ⟨w.heap.size + 1 + 1, 1, none⟩) (by simp; omega) _).setCell (p := ⟨w.heap.size + 1 + 1, 2, none⟩) (by simp; omega) _
/-- light.Lit, where the tile is out of its bounds. -/
theorem lit_range {W H b off : Nat} (cap : Nat) {ps : List Int} {la : Option Addr} {llen : Nat} (lcap : Nat) {ls : List Lt} (tile : Int) {w : World} (hF : Fine w b off W H ps) (hl : Lights w la llen ls) (hE : lightsErr ls = 0) (ht : tile < 1 ∨ 16 < tile) :
    Calls Try.prog 37 #[.agg #[.int .i64 W, .int .i64 H, .slice (some ⟨b, off, none⟩) (W * H) cap], .slice la llen lcap, .int .i64 tile] w fun e w' => e = .returned (.tuple #[noImage, .int .i64 3]) ∧ Below w.heap.size w w' := by
  have hB := lit_B w
  have hF1 := hF.below (hB (.cells #[.int .i64 W, .int .i64 H, .slice (some ⟨b, off, none⟩) (W * H) cap] 24) (.cells #[.slice la llen lcap] 45) (.cells #[.int .i64 0, .int .i64 0, .slice none 0 0] 24))
  have hcl := fun wx (hx : Below w.heap.size w wx) => checkL_any lcap (hl.below hx)
  rw [hE] at hcl
  have hBw := hB (.cells #[.int .i64 W, .int .i64 H, .slice (some ⟨b, off, none⟩) (W * H) cap] 24) (.cells #[.slice la llen lcap] 45) (.cells #[.int .i64 0, .int .i64 0, .slice none 0 0] 24)
  clear hE
  by_cases h1 : tile < 1
  all_goals
    have h2 : ¬ tile < 1 → 16 < tile := by omega
    try (have h2 := h2 h1)
    clear ht
    go_enter Try.func37, Try.ntmps37
    go_wp2_with (first
      | (go_at_call 19; refine (check_fine cap hF1.ints hF1.fineB).mono ?_; rintro e wA ⟨rfl, hbA⟩; obtain ⟨cA, fA⟩ := bcell hbA; have sA : w.heap.size + 1 + 1 < wA.heap.size := by have := hbA.size; simp at this; omega)
      | (go_at_call 35; refine (hcl _ (hBw.trans (hbA.mono (by simp; omega)))).mono ?_; rintro e wB ⟨rfl, hbB⟩; have hbB' := hbA.trans (hbB.mono hbA.size); clear cA fA; obtain ⟨cB, fB⟩ := bcell hbB'; have sB : w.heap.size + 1 + 1 < wB.heap.size := by have := hbB.size; omega))
    refine bodyPost_ret (v := .tuple #[noImage, .int .i64 3]) (by simp [results, Try.results37, go_sem, cB]) rfl ⟨rfl, ?_⟩
    exact (((hBw.trans (hbB'.mono (by simp; omega))).setCell (p := ⟨w.heap.size + 1 + 1, 0, none⟩) (by simp; omega) _).setCell (p := ⟨w.heap.size + 1 + 1, 1, none⟩) (by simp; omega) _).setCell (p := ⟨w.heap.size + 1 + 1, 2, none⟩) (by simp; omega) _
theorem pan_made {wB wM : World} {L : Nat} {o : Obj} (ho : o = .cells #[.slice (some ⟨wB.heap.size, 0, none⟩) L L] 22) (hown : wM.ownsRow wB.heap.size 3 1 (.slice (some ⟨wB.heap.size, 0, none⟩) L L) L (madeCells (Value.int .i64 0).cells (L * 1)).toList) (hg : wB.grownBy wM none) :
    Pan wB (wM.alloc o) L wM.heap.size (fun _ => 0) := by
  subst ho
  obtain ⟨_, h⟩ := hown
  rcases h with ⟨h, _⟩ | ⟨g, cap, cur, hv, _, hh, _, _, hs, ht⟩
  · cases h
  · simp only [Value.slice.injEq, Option.some.injEq, Addr.mk.injEq, and_true, true_and] at hv
    obtain ⟨rfl, rfl⟩ := hv
    have hlt : wB.heap.size < wM.heap.size := by
      rcases Nat.lt_or_ge wB.heap.size wM.heap.size with h | h
      · exact h
      · rw [Array.getElem?_eq_none h] at hh; cases hh
    have hb : Below wB.heap.size wB wM := (Below.refl _ _).grown hg (Nat.le_refl _) (fun k hk => by cases hk)
    refine ⟨hb.alloc (by omega) _, hlt, by simp, ⟨cur, ?_, by simpa using hs, fun j hj => ?_⟩, by simp [go_sem]⟩
    · rw [Below.heap_alloc _ _ _ hlt]; exact hh
    · have e : cur.toList = List.replicate L (Value.int .i64 0) := by
        have h1 : cur.toList.take (L * 1) = cur.toList := List.take_of_length_le (by simp; omega)
        rw [h1] at ht
        rw [ht]
        show (madeCells #[Value.int .i64 0] (L * 1)).toList = _
        rw [toList_madeCells_one, Nat.mul_one]
      rw [← Array.getElem?_toList, e]
      simp [hj]
/-- The numbers of a row that is done. -/
theorem done_ints {wB w' : World} {L pb : Nat} {G : Nat → Int} (h : Done wB L pb G (fun i => i < L) w') (hL : L ≤ 256) : Ints wB.heap.size w' (some ⟨wB.heap.size, 0, none⟩) L ((List.range L).map G) := by
  obtain ⟨q, hp, hq⟩ := h
  refine ⟨by simp, by omega, ?_⟩
  refine .inr ⟨wB.heap.size, 0, rfl, Nat.le_refl _, by have := hp.lo; have := hp.siz; omega, fun j hj => ?_⟩
  rw [Nat.zero_add, (hp.cell j hj).1, hq j hj hj]
  simp [hj]
set_option maxHeartbeats 1000000 in
/-- light.Lit, with no error. -/
theorem lit_ok {W H b off : Nat} (cap : Nat) {ps : List Int} {la : Option Addr} {llen : Nat} (lcap : Nat) {ls : List Lt} (tile : Nat) {w : World} (hF : Fine w b off W H ps) (hl : Lights w la llen ls) (hE : lightsErr ls = 0) (ht : 1 ≤ tile ∧ tile ≤ 16) :
    Calls Try.prog 37 #[.agg #[.int .i64 W, .int .i64 H, .slice (some ⟨b, off, none⟩) (W * H) cap], .slice la llen lcap, .int .i64 tile] w fun e w' =>
      ∃ a cap', e = .returned (.tuple #[.agg #[.int .i64 W, .int .i64 H, .slice a (W * H) cap'], .int .i64 0]) ∧ Ints w.heap.size w' a (W * H) (pix W (litG W ps ls) (W * H)) ∧ Below w.heap.size w w' := by
  obtain ⟨i0, hi, hz0, hz1, hz2⟩ := info_parts Try.info3
  have hB := lit_B w
  have hBw := hB (.cells #[.int .i64 W, .int .i64 H, .slice (some ⟨b, off, none⟩) (W * H) cap] 24) (.cells #[.slice la llen lcap] 45) (.cells #[.int .i64 0, .int .i64 0, .slice none 0 0] 24)
  have hF1 := hF.below hBw
  have hcl := fun wx (hx : Below w.heap.size w wx) => checkL_any lcap (hl.below hx)
  rw [hE] at hcl
  obtain ⟨h8, hr⟩ := lightsErr_zero hE
  obtain ⟨hs1, hs2⟩ := hF.small
  obtain ⟨hW1, hW2⟩ := hF.hW
  obtain ⟨hH1, hH2⟩ := hF.hH
  have hWH : 1 ≤ (W : Int) * H ∧ (W : Int) * H ≤ 256 := by rw [← Int.natCast_mul]; omega
  obtain ⟨wh1, wh2⟩ := hWH
  have hBx : Boxed (((w.alloc (.cells #[.int .i64 W, .int .i64 H, .slice (some ⟨b, off, none⟩) (W * H) cap] 24)).alloc (.cells #[.slice la llen lcap] 45)).alloc (.cells #[.int .i64 0, .int .i64 0, .slice none 0 0] 24)) w.heap.size b off cap W H := ⟨by simp; omega, by simp [go_sem], by simp [go_sem], by simp [go_sem]⟩
  have hLc : (((w.alloc (.cells #[.int .i64 W, .int .i64 H, .slice (some ⟨b, off, none⟩) (W * H) cap] 24)).alloc (.cells #[.slice la llen lcap] 45)).alloc (.cells #[.int .i64 0, .int .i64 0, .slice none 0 0] 24)).cell? ⟨w.heap.size + 1, 0, none⟩ = some (.slice la llen lcap) := by simp [go_sem]
  have hLl : w.heap.size + 1 < (((w.alloc (.cells #[.int .i64 W, .int .i64 H, .slice (some ⟨b, off, none⟩) (W * H) cap] 24)).alloc (.cells #[.slice la llen lcap] 45)).alloc (.cells #[.int .i64 0, .int .i64 0, .slice none 0 0] 24)).heap.size := by simp
  have hSc : Scene (((w.alloc (.cells #[.int .i64 W, .int .i64 H, .slice (some ⟨b, off, none⟩) (W * H) cap] 24)).alloc (.cells #[.slice la llen lcap] 45)).alloc (.cells #[.int .i64 0, .int .i64 0, .slice none 0 0] 24)) w.heap.size (w.heap.size + 1) b off cap W H ps la llen lcap ls := ⟨hBx, hF1, hLl, hLc, hl.below hBw, h8, hr⟩
  obtain ⟨ht1, ht2⟩ := ht
  have htn : ¬ (16 : Int) < (tile : Int) := by omega
  clear hE hBx hLc hLl
  go_enter Try.func37, Try.ntmps37
  go_wp2_with (first
    | (go_at_call 19; refine (check_fine cap hF1.ints hF1.fineB).mono ?_; rintro e wA ⟨rfl, hbA⟩; obtain ⟨cA, fA⟩ := bcell hbA; have sA : w.heap.size + 1 + 1 < wA.heap.size := by have := hbA.size; simp at this; omega)
    | (go_at_call 35; refine (hcl _ (hBw.trans (hbA.mono (by simp; omega)))).mono ?_; rintro e wB ⟨rfl, hbB⟩; have hbB' := hbA.trans (hbB.mono hbA.size); clear cA fA; obtain ⟨cB, fB⟩ := bcell hbB'; have sB : w.heap.size + 1 + 1 < wB.heap.size := by have := hbB.size; omega)
    | (at_make; refine wpList_make_full _ rfl _ _ 22 rfl wB.heap.size 3 i0 (.int .i64 0) 1 Try.underlying22 hi hz0 hz1 .i64 .i64 _ _ (W * H) rfl rfl (by simp) (by simp) (by rw [hz2]; omega) (by unfold maxLen; omega) (Nat.le_refl _) ?_; intro wM hown hgrow; have hbM : Below wB.heap.size wB wM := ((Below.refl _ _).grown hgrow (Nat.le_refl _) (fun k hk => by cases hk)); have hbM' := hbB'.trans (hbM.mono hbB'.size); clear cB fB; obtain ⟨cM, fM⟩ := bcell hbM'; have sM : w.heap.size + 1 + 1 < wM.heap.size := (by have := hbM.size; omega); have sM0 : w.heap.size < wM.heap.size := (by omega)))
  have hScB := hSc.below hbB'
  have hdo : DoesT 80 #[.pointer (some ⟨w.heap.size + 1, 0, none⟩), .pointer (some ⟨w.heap.size, 0, none⟩), .pointer (some ⟨wM.heap.size, 0, none⟩)] (Done wB (W * H) wM.heap.size (litI W ps ls)) W H :=
    ⟨lit1_enters, fun x y pw ph D w1 g1 g2 g3 g4 hD => litTile_any hScB x y pw ph D g1 g2 g3 g4 hD⟩
  have hst : Done wB (W * H) wM.heap.size (litI W ps ls) (fun _ => False) (wM.alloc (.cells #[.slice (some ⟨wB.heap.size, 0, none⟩) (W * H) (W * H)] 22)) := ⟨_, pan_made rfl hown hgrow, fun _ _ h => h.elim⟩
  have het := eachTile_any _ _ _ W H tile _ (by omega) (by omega) (by omega) (fun A B v hs h => h.mono hs) hdo hst
  clear hdo hst hown hgrow
  refine het.mono ?_
  rintro e wE ⟨rfl, hDn⟩
  have hDn' : Done wB (W * H) wM.heap.size (litI W ps ls) (fun i => i < W * H) wE := hDn.mono (fun i h => Nat.div_lt_of_lt_mul h)
  obtain ⟨q, hpan, _⟩ := id hDn
  have hbE := hbB'.trans (hpan.bel.mono hbB'.size)
  have hbox := hpan.box
  have sE : w.heap.size + 1 + 1 < wE.heap.size := by have := hpan.bel.size; omega
  have hints := done_ints hDn' hs2
  clear hDn hDn' het cM fM hpan hScB
  obtain ⟨cE, fE⟩ := bcell hbE
  go_wp2
  refine bodyPost_ret (v := .tuple #[.agg #[.int .i64 W, .int .i64 H, .slice (some ⟨wB.heap.size, 0, none⟩) (W * H) (W * H)], .int .i64 0]) (by simp [results, Try.results37, go_sem, cE]) rfl ⟨_, _, rfl, ?_, ?_⟩
  · exact (((hints.setCell (p := ⟨w.heap.size + 1 + 1, 0, none⟩) sB _).setCell (p := ⟨w.heap.size + 1 + 1, 1, none⟩) sB _).setCell (p := ⟨w.heap.size + 1 + 1, 2, none⟩) sB _).mono (by omega)
  · exact (((hBw.trans (hbE.mono (by simp; omega))).setCell (p := ⟨w.heap.size + 1 + 1, 0, none⟩) (by simp; omega) _).setCell (p := ⟨w.heap.size + 1 + 1, 1, none⟩) (by simp; omega) _).setCell (p := ⟨w.heap.size + 1 + 1, 2, none⟩) (by simp; omega) _
end Go.Proofs.Ytfpkiimlaepnhaa
