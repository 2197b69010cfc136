/- LitTile, Lit, LightBegun: joined, in this order. -/
import Derived.Test.YtfpkiimlaepnhaaM16
import Derived.Test.YtfpkiimlaepnhaaM04
import Derived.Test.YtfpkiimlaepnhaaM08
/-
  LITTILE: what light.Lit does in one tile.
-/
namespace Go.Proofs.Ytfpkiimlaepnhaa
set_option maxRecDepth 100000
open Go.RowKit Im

/-- The number of the place i. -/
def litI (W : Nat) (ps : List Int) (ls : List Lt) (i : Nat) : Int := litG W ps ls (i % W) (i / W)
theorem Done.mono {wB : World} {L pb : Nat} {G : Nat → Int} {A B : Nat → Prop} {w' : World} (h : Done wB L pb G A w') (hs : ∀ i, B i → A i) : Done wB L pb G B w' := by
  obtain ⟨q, hp, hq⟩ := h
  exact ⟨q, hp, fun i hi hb => hq i hi (hs i hb)⟩
theorem Done.below {wB : World} {L pb : Nat} {G : Nat → Int} {A : Nat → Prop} {w' w2 : World} (h : Done wB L pb G A w') (hb : Below w'.heap.size w' w2) : Done wB L pb G A w2 := by
  obtain ⟨q, hp, hq⟩ := h
  exact ⟨q, hp.below hb, hq⟩
/-- While a tile is worked: the list of its lights lies in the box nb. -/
def InTile (wB : World) (L pb : Nat) (G : Nat → Int) (nb : Nat) (na : Option Addr) (ncap : Nat) (near : List Int) (D : Nat → Prop) (w' : World) : Prop :=
  Done wB L pb G D w' ∧ w'.cell? ⟨nb, 0, none⟩ = some (.slice na near.length ncap) ∧ Ints (wB.heap.size + 1) w' na near.length near ∧ wB.heap.size < nb ∧ nb < w'.heap.size

theorem litTile_does {wB : World} {ab lb nb pb b off cap W H : Nat} {ps : List Int} {la : Option Addr} {llen lcap : Nat} {ls : List Lt} (hS : Scene wB ab lb b off cap W H ps la llen lcap ls) (x0 y0 pw ph : Nat) (hx : x0 + pw ≤ W) (hy : y0 + ph ≤ H) (na : Option Addr) (ncap : Nat) :
    DoesP 82 #[.pointer (some ⟨ab, 0, none⟩), .pointer (some ⟨nb, 0, none⟩), .pointer (some ⟨lb, 0, none⟩), .pointer (some ⟨pb, 0, none⟩)] (InTile wB (W * H) pb (litI W ps ls) nb na ncap (pickL (nearB x0 y0 pw ph) ls llen)) W x0 y0 pw ph := by
  refine ⟨lit11_enters, fun x y D w1 h1 h2 h3 h4 hI => ?_⟩
  obtain ⟨⟨q, hp, hq⟩, hnc, hni, hcn, hnl⟩ := hI
  have hl := hS.lights.leng
  have hxW : x < W := by omega
  have hyH : y < H := by omega
  have hsum : sumN x y ls (pickL (nearB x0 y0 pw ph) ls llen) = sumG x y ls := by
    rw [sumN_pick x y (nearB x0 y0 pw ph) ls llen (by omega) (fun k _ hk => ?_), List.take_of_length_le (by omega)]
    have := not_near (l := ls.getD k Lt.zero) x0 y0 pw ph (x - x0) (y - y0) (by omega) (by omega) hk
    rw [show ((x0 : Int) + ((x - x0 : Nat) : Int)) = x by omega, show ((y0 : Int) + ((y - y0 : Nat) : Int)) = y by omega] at this
    exact this
  have hg : ∀ t, t < (pickL (nearB x0 y0 pw ph) ls llen).length → ∃ m : Nat, m < ls.length ∧ (pickL (nearB x0 y0 pw ph) ls llen).getD t 0 = m := fun t ht => by
    obtain ⟨m, hm, e⟩ := pickL_get (nearB x0 y0 pw ph) ls llen t ht
    exact ⟨m, by omega, e⟩
  have hn8 : (pickL (nearB x0 y0 pw ph) ls llen).length ≤ 8 := by have := pickL_len (nearB x0 y0 pw ph) ls llen; have := hS.h8; omega
  refine (litPlace hS hp hnc (hni.mono (Nat.zero_le _)) hg x y hxW hyH hsum hn8).mono fun e w2 ⟨he, w3, hb3, hw2⟩ => ⟨he, ?_⟩
  subst hw2
  have hpl := place_lt hxW hyH
  have e1 : (y * W + x) % W = x := by rw [Nat.mul_comm, Nat.mul_add_mod]; exact Nat.mod_eq_of_lt hxW
  have e2 : (y * W + x) / W = y := by rw [Nat.mul_comm, Nat.mul_add_div (by omega), Nat.div_eq_of_lt hxW]; rfl
  refine ⟨⟨_, (hp.below hb3).store (y * W + x) _ hpl, fun i hi hD => ?_⟩, ?_, ?_, hcn, ?_⟩
  · by_cases hi' : i = y * W + x
    · subst hi'
      rw [if_pos rfl]
      unfold litI
      rw [e1, e2]
    · rw [if_neg hi']
      rcases hD with hD | hD
      · exact hq i hi hD
      · exfalso
        apply hi'
        have := Nat.div_add_mod i W
        rw [hD.1, hD.2, Nat.mul_comm] at this
        exact this.symm
  · rw [World.cell?_of_block (w := w3) (Below.heap_setCell w3 _ _ _ (by show nb ≠ _; simp; omega))]
    exact (hb3.cell (p := ⟨nb, 0, none⟩) hnl).trans hnc
  · exact (hni.below (Nat.le_refl _) hb3).setCell (by simp) _
  · have := hb3.size
    simp [World.setCell]; omega

set_option maxHeartbeats 1000000 in
/-- light.Lit's function of a tile. -/
theorem litTile_any {wB w1 : World} {ab lb pb b off cap W H : Nat} {ps : List Int} {la : Option Addr} {llen lcap : Nat} {ls : List Lt} (hS : Scene wB ab lb b off cap W H ps la llen lcap ls) (x y pw ph : Nat) (D : Nat → Prop) (h1 : 1 ≤ pw) (h2 : x + pw ≤ W) (h3 : 1 ≤ ph) (h4 : y + ph ≤ H) (hD : Done wB (W * H) pb (litI W ps ls) D w1) :
    Calls Try.prog 80 #[.int .i64 x, .int .i64 y, .int .i64 pw, .int .i64 ph, .pointer (some ⟨lb, 0, none⟩), .pointer (some ⟨ab, 0, none⟩), .pointer (some ⟨pb, 0, none⟩)] w1 fun e w2 =>
      e = .returned (.tuple #[]) ∧ Done wB (W * H) pb (litI W ps ls) (fun i => D i ∨ (y ≤ i / W ∧ i / W < y + ph ∧ x ≤ i % W ∧ i % W < x + pw)) w2 := by
  obtain ⟨q, hp, hq⟩ := id hD
  have hS1 := hS.below hp.bel
  have hlc := hS1.lc
  have hsiz := hp.siz
  have hlo := hp.lo
  obtain ⟨hw1, hw2⟩ := hS.fine.hW
  obtain ⟨hh1, hh2⟩ := hS.fine.hH
  have hnear := near_ok lcap x y pw ph hS1.lights hS.h8 hS.hr ((stretch_iff _ _).2 (by omega)) ((stretch_iff _ _).2 (by omega))
  have hd := fun nb na ncap => litTile_does (nb := nb) (pb := pb) hS x y pw ph h2 h4 na ncap
  generalize pickL (nearB x y pw ph) ls llen = near at hnear hd
  clear hp hq
  go_enter Try.func80, Try.ntmps80
  go_wp2_with fail
  refine hnear.mono ?_
  rintro e wA ⟨na, ncap, rfl, hni, hbA⟩
  have hsA := hbA.size
  have hI : InTile wB (W * H) pb (litI W ps ls) wA.heap.size na ncap near D (wA.alloc (.cells #[.slice na near.length ncap] 22)) :=
    ⟨(hD.below hbA).below ((Below.refl _ _).alloc (Nat.le_refl _) _), by simp [go_sem], (hni.below (Nat.le_refl _) ((Below.refl _ _).alloc (Nat.le_refl _) _)).mono (by omega), by omega, by simp⟩
  have hep := eachPlace_any _ _ _ W x y pw ph D _ (by omega) (fun A B v hs h => ⟨h.1.mono hs, h.2⟩) (hd wA.heap.size na ncap) hI
  clear hnear hd hI
  go_wp2_with fail
  refine hep.mono ?_
  rintro e wC ⟨rfl, hIC⟩
  go_wp2
  go_end0
  exact ⟨rfl, hIC.1⟩
end Go.Proofs.Ytfpkiimlaepnhaa
/-
  LIT: light.Lit answers what the document says.
-/
namespace Go.Proofs.Ytfpkiimlaepnhaa
set_option maxRecDepth 100000
open Go.RowKit Im

theorem lit_B (w : World) (o o' o'' : Obj) : Below w.heap.size w (((w.alloc o).alloc o').alloc o'') := (((Below.refl _ _).alloc (Nat.le_refl _) _).alloc (by simp) _).alloc (by simp; omega) _

/-- light.Lit, of an image that is not right. -/
theorem lit_form {W H : Int} {a : Option Addr} {len : Nat} (cap : Nat) {ps : List Int} {la : Option Addr} {llen : Nat} (lcap : Nat) (tile : Int) {w : World} (h : Ints 0 w a len ps) (hf : fineB W H ps = false) :
    Calls Try.prog 37 #[.agg #[.int .i64 W, .int .i64 H, .slice a len cap], .slice la llen lcap, .int .i64 tile] w fun e w' => e = .returned (.tuple #[noImage, .int .i64 1]) ∧ Below w.heap.size w w' := by
  have hB := lit_B w
  have h1 := h.below (Nat.le_refl _) (hB (.cells #[.int .i64 W, .int .i64 H, .slice a len cap] 24) (.cells #[.slice la llen lcap] 45) (.cells #[.int .i64 0, .int .i64 0, .slice none 0 0] 24))
  go_enter Try.func37, Try.ntmps37
  go_wp2_with (go_at_call 19; refine (check_not cap h1 hf).mono ?_; rintro e wA ⟨rfl, hbA⟩; obtain ⟨cA, fA⟩ := bcell hbA; have sA : w.heap.size + 1 + 1 < wA.heap.size := by have := hbA.size; simp at this; omega)
  refine bodyPost_ret (v := .tuple #[noImage, .int .i64 1]) (by simp [results, Try.results37, go_sem, cA]) rfl ⟨rfl, ?_⟩
  exact ((((hB _ _ _).trans (hbA.mono (by simp; omega))).setCell (p := ⟨w.heap.size + 1 + 1, 0, none⟩) (by simp; omega) _).setCell (p := ⟨w.heap.size + 1 + 1, 1, none⟩) (by simp; omega) _).setCell (p := ⟨w.heap.size + 1 + 1, 2, none⟩) (by simp; omega) _
/-- light.Lit, of lights that are not right. -/
theorem lit_lights {W H b off : Nat} (cap : Nat) {ps : List Int} {la : Option Addr} {llen : Nat} (lcap : Nat) {ls : List Lt} (tile : Int) {w : World} (hF : Fine w b off W H ps) (hl : Lights w la llen ls) (hE : ¬ lightsErr ls = 0) :
    Calls Try.prog 37 #[.agg #[.int .i64 W, .int .i64 H, .slice (some ⟨b, off, none⟩) (W * H) cap], .slice la llen lcap, .int .i64 tile] w fun e w' => e = .returned (.tuple #[noImage, .int .i64 (lightsErr ls)]) ∧ Below w.heap.size w w' := by
  have hB := lit_B w
  have hF1 := hF.below (hB (.cells #[.int .i64 W, .int .i64 H, .slice (some ⟨b, off, none⟩) (W * H) cap] 24) (.cells #[.slice la llen lcap] 45) (.cells #[.int .i64 0, .int .i64 0, .slice none 0 0] 24))
  have hcl := fun wx (hx : Below w.heap.size w wx) => checkL_any lcap (hl.below hx)
  generalize lightsErr ls = E at hcl hE
  have hne : (E != 0) = true := by simpa using hE
  have hBw := hB (.cells #[.int .i64 W, .int .i64 H, .slice (some ⟨b, off, none⟩) (W * H) cap] 24) (.cells #[.slice la llen lcap] 45) (.cells #[.int .i64 0, .int .i64 0, .slice none 0 0] 24)
  clear hE
  go_enter Try.func37, Try.ntmps37
  go_wp2_with (first
    | (go_at_call 19; refine (check_fine cap hF1.ints hF1.fineB).mono ?_; rintro e wA ⟨rfl, hbA⟩; obtain ⟨cA, fA⟩ := bcell hbA; have sA : w.heap.size + 1 + 1 < wA.heap.size := by have := hbA.size; simp at this; omega)
    | (go_at_call 35; refine (hcl _ (hBw.trans (hbA.mono (by simp; omega)))).mono ?_; rintro e wB ⟨rfl, hbB⟩; have hbB' := hbA.trans (hbB.mono hbA.size); clear cA fA; obtain ⟨cB, fB⟩ := bcell hbB'; have sB : w.heap.size + 1 + 1 < wB.heap.size := by have := hbB.size; omega))
  refine bodyPost_ret (v := .tuple #[noImage, .int .i64 E]) (by simp [results, Try.results37, go_sem, cB]) rfl ⟨rfl, ?_⟩
  exact (((hBw.trans (hbB'.mono (by simp; omega))).setCell (p := ⟨w.heap.size + 1 + 1, 0, none⟩) (by simp; omega) _).setCell (p := ⟨w.heap.size + 1 + 1, 1, none⟩) (by simp; omega) _).setCell (p := ⟨w.heap.size + 1 + 1, 2, none⟩) (by simp; omega) _
/-- light.Lit, where the tile is out of its bounds. -/
theorem lit_range {W H b off : Nat} (cap : Nat) {ps : List Int} {la : Option Addr} {llen : Nat} (lcap : Nat) {ls : List Lt} (tile : Int) {w : World} (hF : Fine w b off W H ps) (hl : Lights w la llen ls) (hE : lightsErr ls = 0) (ht : tile < 1 ∨ 16 < tile) :
    Calls Try.prog 37 #[.agg #[.int .i64 W, .int .i64 H, .slice (some ⟨b, off, none⟩) (W * H) cap], .slice la llen lcap, .int .i64 tile] w fun e w' => e = .returned (.tuple #[noImage, .int .i64 3]) ∧ Below w.heap.size w w' := by
  have hB := lit_B w
  have hF1 := hF.below (hB (.cells #[.int .i64 W, .int .i64 H, .slice (some ⟨b, off, none⟩) (W * H) cap] 24) (.cells #[.slice la llen lcap] 45) (.cells #[.int .i64 0, .int .i64 0, .slice none 0 0] 24))
  have hcl := fun wx (hx : Below w.heap.size w wx) => checkL_any lcap (hl.below hx)
  rw [hE] at hcl
  have hBw := hB (.cells #[.int .i64 W, .int .i64 H, .slice (some ⟨b, off, none⟩) (W * H) cap] 24) (.cells #[.slice la llen lcap] 45) (.cells #[.int .i64 0, .int .i64 0, .slice none 0 0] 24)
  clear hE
  by_cases h1 : tile < 1
  all_goals
    have h2 : ¬ tile < 1 → 16 < tile := by omega
    try (have h2 := h2 h1)
    clear ht
    go_enter Try.func37, Try.ntmps37
    go_wp2_with (first
      | (go_at_call 19; refine (check_fine cap hF1.ints hF1.fineB).mono ?_; rintro e wA ⟨rfl, hbA⟩; obtain ⟨cA, fA⟩ := bcell hbA; have sA : w.heap.size + 1 + 1 < wA.heap.size := by have := hbA.size; simp at this; omega)
      | (go_at_call 35; refine (hcl _ (hBw.trans (hbA.mono (by simp; omega)))).mono ?_; rintro e wB ⟨rfl, hbB⟩; have hbB' := hbA.trans (hbB.mono hbA.size); clear cA fA; obtain ⟨cB, fB⟩ := bcell hbB'; have sB : w.heap.size + 1 + 1 < wB.heap.size := by have := hbB.size; omega))
    refine bodyPost_ret (v := .tuple #[noImage, .int .i64 3]) (by simp [results, Try.results37, go_sem, cB]) rfl ⟨rfl, ?_⟩
    exact (((hBw.trans (hbB'.mono (by simp; omega))).setCell (p := ⟨w.heap.size + 1 + 1, 0, none⟩) (by simp; omega) _).setCell (p := ⟨w.heap.size + 1 + 1, 1, none⟩) (by simp; omega) _).setCell (p := ⟨w.heap.size + 1 + 1, 2, none⟩) (by simp; omega) _
theorem pan_made {wB wM : World} {L : Nat} {o : Obj} (ho : o = .cells #[.slice (some ⟨wB.heap.size, 0, none⟩) L L] 22) (hown : wM.ownsRow wB.heap.size 3 1 (.slice (some ⟨wB.heap.size, 0, none⟩) L L) L (madeCells (Value.int .i64 0).cells (L * 1)).toList) (hg : wB.grownBy wM none) :
    Pan wB (wM.alloc o) L wM.heap.size (fun _ => 0) := by
  subst ho
  obtain ⟨_, h⟩ := hown
  rcases h with ⟨h, _⟩ | ⟨g, cap, cur, hv, _, hh, _, _, hs, ht⟩
  · cases h
  · simp only [Value.slice.injEq, Option.some.injEq, Addr.mk.injEq, and_true, true_and] at hv
    obtain ⟨rfl, rfl⟩ := hv
    have hlt : wB.heap.size < wM.heap.size := by
      rcases Nat.lt_or_ge wB.heap.size wM.heap.size with h | h
      · exact h
      · rw [Array.getElem?_eq_none h] at hh; cases hh
    have hb : Below wB.heap.size wB wM := (Below.refl _ _).grown hg (Nat.le_refl _) (fun k hk => by cases hk)
    refine ⟨hb.alloc (by omega) _, hlt, by simp, ⟨cur, ?_, by simpa using hs, fun j hj => ?_⟩, by simp [go_sem]⟩
    · rw [Below.heap_alloc _ _ _ hlt]; exact hh
    · have e : cur.toList = List.replicate L (Value.int .i64 0) := by
        have h1 : cur.toList.take (L * 1) = cur.toList := List.take_of_length_le (by simp; omega)
        rw [h1] at ht
        rw [ht]
        show (madeCells #[Value.int .i64 0] (L * 1)).toList = _
        rw [toList_madeCells_one, Nat.mul_one]
      rw [← Array.getElem?_toList, e]
      simp [hj]
/-- The numbers of a row that is done. -/
theorem done_ints {wB w' : World} {L pb : Nat} {G : Nat → Int} (h : Done wB L pb G (fun i => i < L) w') (hL : L ≤ 256) : Ints wB.heap.size w' (some ⟨wB.heap.size, 0, none⟩) L ((List.range L).map G) := by
  obtain ⟨q, hp, hq⟩ := h
  refine ⟨by simp, by omega, ?_⟩
  refine .inr ⟨wB.heap.size, 0, rfl, Nat.le_refl _, by have := hp.lo; have := hp.siz; omega, fun j hj => ?_⟩
  rw [Nat.zero_add, (hp.cell j hj).1, hq j hj hj]
  simp [hj]
set_option maxHeartbeats 1000000 in
/-- light.Lit, with no error. -/
theorem lit_ok {W H b off : Nat} (cap : Nat) {ps : List Int} {la : Option Addr} {llen : Nat} (lcap : Nat) {ls : List Lt} (tile : Nat) {w : World} (hF : Fine w b off W H ps) (hl : Lights w la llen ls) (hE : lightsErr ls = 0) (ht : 1 ≤ tile ∧ tile ≤ 16) :
    Calls Try.prog 37 #[.agg #[.int .i64 W, .int .i64 H, .slice (some ⟨b, off, none⟩) (W * H) cap], .slice la llen lcap, .int .i64 tile] w fun e w' =>
      ∃ a cap', e = .returned (.tuple #[.agg #[.int .i64 W, .int .i64 H, .slice a (W * H) cap'], .int .i64 0]) ∧ Ints w.heap.size w' a (W * H) (pix W (litG W ps ls) (W * H)) ∧ Below w.heap.size w w' := by
  obtain ⟨i0, hi, hz0, hz1, hz2⟩ := info_parts Try.info3
  have hB := lit_B w
  have hBw := hB (.cells #[.int .i64 W, .int .i64 H, .slice (some ⟨b, off, none⟩) (W * H) cap] 24) (.cells #[.slice la llen lcap] 45) (.cells #[.int .i64 0, .int .i64 0, .slice none 0 0] 24)
  have hF1 := hF.below hBw
  have hcl := fun wx (hx : Below w.heap.size w wx) => checkL_any lcap (hl.below hx)
  rw [hE] at hcl
  obtain ⟨h8, hr⟩ := lightsErr_zero hE
  obtain ⟨hs1, hs2⟩ := hF.small
  obtain ⟨hW1, hW2⟩ := hF.hW
  obtain ⟨hH1, hH2⟩ := hF.hH
  have hWH : 1 ≤ (W : Int) * H ∧ (W : Int) * H ≤ 256 := by rw [← Int.natCast_mul]; omega
  obtain ⟨wh1, wh2⟩ := hWH
  have hBx : Boxed (((w.alloc (.cells #[.int .i64 W, .int .i64 H, .slice (some ⟨b, off, none⟩) (W * H) cap] 24)).alloc (.cells #[.slice la llen lcap] 45)).alloc (.cells #[.int .i64 0, .int .i64 0, .slice none 0 0] 24)) w.heap.size b off cap W H := ⟨by simp; omega, by simp [go_sem], by simp [go_sem], by simp [go_sem]⟩
  have hLc : (((w.alloc (.cells #[.int .i64 W, .int .i64 H, .slice (some ⟨b, off, none⟩) (W * H) cap] 24)).alloc (.cells #[.slice la llen lcap] 45)).alloc (.cells #[.int .i64 0, .int .i64 0, .slice none 0 0] 24)).cell? ⟨w.heap.size + 1, 0, none⟩ = some (.slice la llen lcap) := by simp [go_sem]
  have hLl : w.heap.size + 1 < (((w.alloc (.cells #[.int .i64 W, .int .i64 H, .slice (some ⟨b, off, none⟩) (W * H) cap] 24)).alloc (.cells #[.slice la llen lcap] 45)).alloc (.cells #[.int .i64 0, .int .i64 0, .slice none 0 0] 24)).heap.size := by simp
  have hSc : Scene (((w.alloc (.cells #[.int .i64 W, .int .i64 H, .slice (some ⟨b, off, none⟩) (W * H) cap] 24)).alloc (.cells #[.slice la llen lcap] 45)).alloc (.cells #[.int .i64 0, .int .i64 0, .slice none 0 0] 24)) w.heap.size (w.heap.size + 1) b off cap W H ps la llen lcap ls := ⟨hBx, hF1, hLl, hLc, hl.below hBw, h8, hr⟩
  obtain ⟨ht1, ht2⟩ := ht
  have htn : ¬ (16 : Int) < (tile : Int) := by omega
  clear hE hBx hLc hLl
  go_enter Try.func37, Try.ntmps37
  go_wp2_with (first
    | (go_at_call 19; refine (check_fine cap hF1.ints hF1.fineB).mono ?_; rintro e wA ⟨rfl, hbA⟩; obtain ⟨cA, fA⟩ := bcell hbA; have sA : w.heap.size + 1 + 1 < wA.heap.size := by have := hbA.size; simp at this; omega)
    | (go_at_call 35; refine (hcl _ (hBw.trans (hbA.mono (by simp; omega)))).mono ?_; rintro e wB ⟨rfl, hbB⟩; have hbB' := hbA.trans (hbB.mono hbA.size); clear cA fA; obtain ⟨cB, fB⟩ := bcell hbB'; have sB : w.heap.size + 1 + 1 < wB.heap.size := by have := hbB.size; omega)
    | (at_make; refine wpList_make_full _ rfl _ _ 22 rfl wB.heap.size 3 i0 (.int .i64 0) 1 Try.underlying22 hi hz0 hz1 .i64 .i64 _ _ (W * H) rfl rfl (by simp) (by simp) (by rw [hz2]; omega) (by unfold maxLen; omega) (Nat.le_refl _) ?_; intro wM hown hgrow; have hbM : Below wB.heap.size wB wM := ((Below.refl _ _).grown hgrow (Nat.le_refl _) (fun k hk => by cases hk)); have hbM' := hbB'.trans (hbM.mono hbB'.size); clear cB fB; obtain ⟨cM, fM⟩ := bcell hbM'; have sM : w.heap.size + 1 + 1 < wM.heap.size := (by have := hbM.size; omega); have sM0 : w.heap.size < wM.heap.size := (by omega)))
  have hScB := hSc.below hbB'
  have hdo : DoesT 80 #[.pointer (some ⟨w.heap.size + 1, 0, none⟩), .pointer (some ⟨w.heap.size, 0, none⟩), .pointer (some ⟨wM.heap.size, 0, none⟩)] (Done wB (W * H) wM.heap.size (litI W ps ls)) W H :=
    ⟨lit1_enters, fun x y pw ph D w1 g1 g2 g3 g4 hD => litTile_any hScB x y pw ph D g1 g2 g3 g4 hD⟩
  have hst : Done wB (W * H) wM.heap.size (litI W ps ls) (fun _ => False) (wM.alloc (.cells #[.slice (some ⟨wB.heap.size, 0, none⟩) (W * H) (W * H)] 22)) := ⟨_, pan_made rfl hown hgrow, fun _ _ h => h.elim⟩
  have het := eachTile_any _ _ _ W H tile _ (by omega) (by omega) (by omega) (fun A B v hs h => h.mono hs) hdo hst
  clear hdo hst hown hgrow
  refine het.mono ?_
  rintro e wE ⟨rfl, hDn⟩
  have hDn' : Done wB (W * H) wM.heap.size (litI W ps ls) (fun i => i < W * H) wE := hDn.mono (fun i h => Nat.div_lt_of_lt_mul h)
  obtain ⟨q, hpan, _⟩ := id hDn
  have hbE := hbB'.trans (hpan.bel.mono hbB'.size)
  have hbox := hpan.box
  have sE : w.heap.size + 1 + 1 < wE.heap.size := by have := hpan.bel.size; omega
  have hints := done_ints hDn' hs2
  clear hDn hDn' het cM fM hpan hScB
  obtain ⟨cE, fE⟩ := bcell hbE
  go_wp2
  refine bodyPost_ret (v := .tuple #[.agg #[.int .i64 W, .int .i64 H, .slice (some ⟨wB.heap.size, 0, none⟩) (W * H) (W * H)], .int .i64 0]) (by simp [results, Try.results37, go_sem, cE]) rfl ⟨_, _, rfl, ?_, ?_⟩
  · exact (((hints.setCell (p := ⟨w.heap.size + 1 + 1, 0, none⟩) sB _).setCell (p := ⟨w.heap.size + 1 + 1, 1, none⟩) sB _).setCell (p := ⟨w.heap.size + 1 + 1, 2, none⟩) sB _).mono (by omega)
  · exact (((hBw.trans (hbE.mono (by simp; omega))).setCell (p := ⟨w.heap.size + 1 + 1, 0, none⟩) (by simp; omega) _).setCell (p := ⟨w.heap.size + 1 + 1, 1, none⟩) (by simp; omega) _).setCell (p := ⟨w.heap.size + 1 + 1, 2, none⟩) (by simp; omega) _
end Go.Proofs.Ytfpkiimlaepnhaa
/-
  LIGHTBEGUN: the law's lightBegun answers true.
-/
namespace Go.Proofs.Ytfpkiimlaepnhaa
set_option maxRecDepth 100000
open Go.RowKit Im

abbrev lampL : List Lt := [⟨1, 1, 2, 1000⟩]
theorem Lights.alloc {w : World} {a : Option Addr} {len : Nat} {ls : List Lt} (h : Lights w a len ls) (o : Obj) : Lights (w.alloc o) a len ls := h.below ((Below.refl _ _).alloc (Nat.le_refl _) _)
theorem lamp_any (w : World) : Calls Try.prog 77 #[] w fun e w' => ∃ a, e = .returned (.slice a 1 1) ∧ Lights w' a 1 lampL ∧ Below w.heap.size w w' := by
  go_enter Try.func77, Try.ntmps77
  go_wp2
  refine bodyPost_ret (v := .slice (some ⟨w.heap.size, 0, none⟩) 1 1) (by simp [results, Try.results77, go_sem]) rfl ⟨_, rfl, ⟨rfl, by decide, .inr ⟨w.heap.size, 0, rfl, by simp, fun j hj => ?_⟩⟩, ?_⟩
  · have : j = 0 := by omega
    subst this
    refine ⟨?_, ?_, ?_, ?_⟩ <;> simp [go_sem]
  · exact (Below.refl _ _).alloc (Nat.le_refl _) _
theorem lampErr : lightsErr lampL = 0 := by decide
theorem begun_at {w : World} {a : Option Addr} (h : Lights w a 1 lampL) : Calls Try.prog 29 #[.slice a 1 1, .int .i64 1, .int .i64 0] w fun e w' => e = .returned (.tuple #[.int .i64 500, .int .i64 0]) ∧ Below w.heap.size w w' := by
  have h' := atL_any 1 1 0 h
  rw [show atV lampL 1 0 = 500 by decide, show atE lampL 1 0 = 0 by decide] at h'
  exact h'
theorem begun_near3 {w : World} {a : Option Addr} (h : Lights w a 1 lampL) : Calls Try.prog 30 #[.slice a 1 1, .int .i64 3, .int .i64 0, .int .i64 2, .int .i64 2] w fun e w' => ∃ a cap, e = .returned (.tuple #[.slice a 0 cap, .int .i64 0]) ∧ Below w.heap.size w w' :=
  (near_ok 1 3 0 2 2 h (by decide) (by decide) (by decide) (by decide)).mono fun e w' ⟨a, cap, he, hi, hb⟩ => ⟨a, cap, by rw [he]; rfl, hb⟩
theorem begun_near2 {w : World} {a : Option Addr} (h : Lights w a 1 lampL) : Calls Try.prog 30 #[.slice a 1 1, .int .i64 2, .int .i64 0, .int .i64 2, .int .i64 2] w fun e w' => ∃ a cap, e = .returned (.tuple #[.slice a 1 cap, .int .i64 0]) ∧ Ints 0 w' a 1 [0] ∧ Below w.heap.size w w' :=
  (near_ok 1 2 0 2 2 h (by decide) (by decide) (by decide) (by decide)).mono fun e w' ⟨a, cap, he, hi, hb⟩ => ⟨a, cap, by rw [he]; rfl, by
    have e : pickL (nearB 2 0 2 2) lampL 1 = [0] := by decide
    rw [e] at hi
    exact hi.mono (Nat.zero_le _), hb⟩
theorem begun_lit {w : World} {b : Nat} {a : Option Addr} (hF : Fine w b 0 2 2 [4, 8, 65535, 0]) (h : Lights w a 1 lampL) : Calls Try.prog 37 #[.agg #[.int .i64 2, .int .i64 2, .slice (some ⟨b, 0, none⟩) 4 4], .slice a 1 1, .int .i64 1] w fun e w' =>
    ∃ a cap, e = .returned (.tuple #[.agg #[.int .i64 2, .int .i64 2, .slice a 4 cap], .int .i64 0]) ∧ Ints 0 w' a 4 [4, 508, 65535, 1000] ∧ Below w.heap.size w w' :=
  (lit_ok 4 1 1 hF h lampErr (by decide)).mono fun e w' ⟨a, cap, he, hi, hb⟩ => ⟨a, cap, he, by
    have e : pix 2 (litG 2 [4, 8, 65535, 0] lampL) (2 * 2) = [4, 508, 65535, 1000] := by decide
    rw [e] at hi
    exact hi.mono (Nat.zero_le _), hb⟩

set_option maxHeartbeats 2000000 in
theorem lightBegun_any (w : World) : Calls Try.prog 34 #[] w fun e w' => e = .returned (.bool true) ∧ Below w.heap.size w w' := by
  have hb := Below.refl w.heap.size w
  go_enter Try.func34, Try.ntmps34
  go_wp2_with fail
  refine (lamp_any _).mono ?_
  rintro e w1 ⟨a1, rfl, l1, b1⟩
  replace hb := below_step hb b1
  go_wp2_with fail
  refine (begun_at l1).mono ?_
  rintro e w2 ⟨rfl, b2⟩
  replace hb := below_step hb b2
  clear l1
  go_wp2_with fail
  refine (lamp_any _).mono ?_
  rintro e w3 ⟨a3, rfl, l3, b3⟩
  replace hb := below_step hb b3
  go_wp2_with fail
  refine (begun_near3 l3).mono ?_
  rintro e w4 ⟨a4, cap4, rfl, b4⟩
  replace hb := below_step hb b4
  clear l3
  go_wp2_with fail
  refine (lamp_any _).mono ?_
  rintro e w5 ⟨a5, rfl, l5, b5⟩
  replace hb := below_step hb b5
  go_wp2_with fail
  refine (begun_near2 l5).mono ?_
  rintro e w6 ⟨a6, cap6, rfl, i6, b6⟩
  replace hb := below_step hb b6
  clear l5
  go_wp2_with fail
  refine (four_some _).mono ?_
  rintro e w7 ⟨fb7, rfl, f7, b7⟩
  replace i6 := i6.below (Nat.le_refl _) b7
  replace hb := below_step hb b7
  go_wp2_with fail
  refine (lamp_any _).mono ?_
  rintro e w8 ⟨a8, rfl, l8, b8⟩
  replace i6 := i6.below (Nat.le_refl _) b8
  replace f7 := f7.below b8
  replace hb := below_step hb b8
  go_wp2_with fail
  refine (begun_lit f7 l8).mono ?_
  rintro e w9 ⟨a9, cap9, rfl, i9, b9⟩
  replace i6 := i6.below (Nat.le_refl _) b9
  replace hb := below_step hb b9
  have p9 := Pic.new (W := 2) (H := 2) cap9 i9
  replace i6 := i6.alloc (.cells #[.int .i64 2, .int .i64 2, .slice a9 4 cap9] 24)
  replace hb := below_box hb (.cells #[.int .i64 2, .int .i64 2, .slice a9 4 cap9] 24)
  clear i9 f7 l8
  go_wp2_with fail
  refine (lamp_any _).mono ?_
  rintro e w10 ⟨a10, rfl, l10, b10⟩
  replace p9 := p9.below b10
  replace i6 := i6.below (Nat.le_refl _) b10
  replace hb := below_step hb b10
  go_wp2_with fail
  refine (checkL_any 1 l10).mono ?_
  rw [lampErr]
  rintro e w11 ⟨rfl, b11⟩
  replace p9 := p9.below b11
  replace i6 := i6.below (Nat.le_refl _) b11
  replace hb := below_step hb b11
  clear l10
  go_wp2_with fail
  have l12 := ints_lit w11 [0] (by simp)
  replace i6 := i6.alloc (.cells #[.int .i64 0] 3)
  replace p9 := p9.alloc (.cells #[.int .i64 0] 3)
  replace hb := below_box hb (.cells #[.int .i64 0] 3)
  refine (sameInts_any _ _ i6 l12).mono ?_
  rintro e w12 ⟨rfl, b12⟩
  replace p9 := p9.below b12
  replace hb := below_step hb b12
  clear l12 i6
  obtain ⟨_, k0, _, k2, _⟩ := id p9
  go_wp2_with fail
  clear k0 k2
  have l13 := ints_lit w12 [4, 508, 65535, 1000] (by simp)
  replace p9 := p9.alloc (.cells #[.int .i64 4, .int .i64 508, .int .i64 65535, .int .i64 1000] 3)
  replace hb := below_box hb (.cells #[.int .i64 4, .int .i64 508, .int .i64 65535, .int .i64 1000] 3)
  refine (sameInts_any _ _ p9.ints l13).mono ?_
  rintro e w13 ⟨rfl, b13⟩
  replace hb := below_step hb b13
  clear l13 p9
  go_wp2
  go_ret
  exact ⟨rfl, hb⟩
end Go.Proofs.Ytfpkiimlaepnhaa
