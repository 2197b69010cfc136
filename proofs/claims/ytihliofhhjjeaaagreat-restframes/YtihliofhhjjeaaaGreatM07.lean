/- LitTile, Lit, LightBegun, MeanRef, OneRef, OneOfA: joined, in this order. -/
import Derived.Test.YtihliofhhjjeaaaGreatM06
import Derived.Test.YtihliofhhjjeaaaGreatM03
import Derived.Test.YtihliofhhjjeaaaGreatM05
import Derived.Test.YtihliofhhjjeaaaGreatM04
set_option maxRecDepth 100000
namespace Go.Proofs.YtihliofhhjjeaaaGreat
open Go.RowKit Im
def litI (W : Nat) (ps : List Int) (ls : List Lt) (i : Nat) : Int := litG W ps ls (i % W) (i / W)
theorem Done.mono {wB : World} {L pb : Nat} {G : Nat → Int} {A B : Nat → Prop} {w' : World} (h : Done wB L pb G A w') (hs : ∀ i, B i → A i) : Done wB L pb G B w' := by
  obtain ⟨q, hp, hq⟩ := h
  exact ⟨q, hp, fun i hi hb => hq i hi (hs i hb)⟩
theorem Done.below {wB : World} {L pb : Nat} {G : Nat → Int} {A : Nat → Prop} {w' w2 : World} (h : Done wB L pb G A w') (hb : Below w'.heap.size w' w2) : Done wB L pb G A w2 := by
  obtain ⟨q, hp, hq⟩ := h
  exact ⟨q, hp.below hb, hq⟩
def InTile (wB : World) (L pb : Nat) (G : Nat → Int) (nb : Nat) (na : Option Addr) (ncap : Nat) (near : List Int) (D : Nat → Prop) (w' : World) : Prop :=
  Done wB L pb G D w' ∧ w'.cell? ⟨nb, 0, none⟩ = some (.slice na near.length ncap) ∧ Ints (wB.heap.size + 1) w' na near.length near ∧ wB.heap.size < nb ∧ nb < w'.heap.size
theorem litTile_does {wB : World} {ab lb nb pb b off cap W H : Nat} {ps : List Int} {la : Option Addr} {llen lcap : Nat} {ls : List Lt} (hS : Scene wB ab lb b off cap W H ps la llen lcap ls) (x0 y0 pw ph : Nat) (hx : x0 + pw ≤ W) (hy : y0 + ph ≤ H) (na : Option Addr) (ncap : Nat) :
    DoesP 116 #[.pointer (some ⟨ab, 0, none⟩), .pointer (some ⟨nb, 0, none⟩), .pointer (some ⟨lb, 0, none⟩), .pointer (some ⟨pb, 0, none⟩)] (InTile wB (W * H) pb (litI W ps ls) nb na ncap (pickL (nearB x0 y0 pw ph) ls llen)) W x0 y0 pw ph := by
  refine ⟨lit11_enters, fun x y D w1 h1 h2 h3 h4 hI => ?_⟩
  obtain ⟨⟨q, hp, hq⟩, hnc, hni, hcn, hnl⟩ := hI
  have hl := hS.lights.leng
  have hxW : x < W := by omega
  have hyH : y < H := by omega
  have hsum : sumN x y ls (pickL (nearB x0 y0 pw ph) ls llen) = sumG x y ls := by
    rw [sumN_pick x y (nearB x0 y0 pw ph) ls llen (by omega) (fun k _ hk => ?_), List.take_of_length_le (by omega)]
    have := not_near (l := ls.getD k Lt.zero) x0 y0 pw ph (x - x0) (y - y0) (by omega) (by omega) hk
    rw [show ((x0 : Int) + ((x - x0 : Nat) : Int)) = x by omega, show ((y0 : Int) + ((y - y0 : Nat) : Int)) = y by omega] at this
    exact this
  have hg : ∀ t, t < (pickL (nearB x0 y0 pw ph) ls llen).length → ∃ m : Nat, m < ls.length ∧ (pickL (nearB x0 y0 pw ph) ls llen).getD t 0 = m := fun t ht => by
    obtain ⟨m, hm, e⟩ := pickL_get (nearB x0 y0 pw ph) ls llen t ht
    exact ⟨m, by omega, e⟩
  have hn8 : (pickL (nearB x0 y0 pw ph) ls llen).length ≤ 8 := by have := pickL_len (nearB x0 y0 pw ph) ls llen; have := hS.h8; omega
  refine (litPlace hS hp hnc (hni.mono (Nat.zero_le _)) hg x y hxW hyH hsum hn8).mono fun e w2 ⟨he, w3, hb3, hw2⟩ => ⟨he, ?_⟩
  subst hw2
  have hpl := place_lt hxW hyH
  have e1 : (y * W + x) % W = x := by rw [Nat.mul_comm, Nat.mul_add_mod]; exact Nat.mod_eq_of_lt hxW
  have e2 : (y * W + x) / W = y := by rw [Nat.mul_comm, Nat.mul_add_div (by omega), Nat.div_eq_of_lt hxW]; rfl
  refine ⟨⟨_, (hp.below hb3).store (y * W + x) _ hpl, fun i hi hD => ?_⟩, ?_, ?_, hcn, ?_⟩
  · by_cases hi' : i = y * W + x
    · subst hi'
      rw [if_pos rfl]
      unfold litI
      rw [e1, e2]
    · rw [if_neg hi']
      rcases hD with hD | hD
      · exact hq i hi hD
      · exfalso
        apply hi'
        have := Nat.div_add_mod i W
        rw [hD.1, hD.2, Nat.mul_comm] at this
        exact this.symm
  · rw [World.cell?_of_block (w := w3) (Below.heap_setCell w3 _ _ _ (by show nb ≠ _; simp; omega))]
    exact (hb3.cell (p := ⟨nb, 0, none⟩) hnl).trans hnc
  · exact (hni.below (Nat.le_refl _) hb3).setCell (by simp) _
  · have := hb3.size
    simp [World.setCell]; omega
set_option maxHeartbeats 1000000 in
theorem litTile_any {wB w1 : World} {ab lb pb b off cap W H : Nat} {ps : List Int} {la : Option Addr} {llen lcap : Nat} {ls : List Lt} (hS : Scene wB ab lb b off cap W H ps la llen lcap ls) (x y pw ph : Nat) (D : Nat → Prop) (h1 : 1 ≤ pw) (h2 : x + pw ≤ W) (h3 : 1 ≤ ph) (h4 : y + ph ≤ H) (hD : Done wB (W * H) pb (litI W ps ls) D w1) :
    Calls Tryz.prog 113 #[.int .i64 x, .int .i64 y, .int .i64 pw, .int .i64 ph, .pointer (some ⟨lb, 0, none⟩), .pointer (some ⟨ab, 0, none⟩), .pointer (some ⟨pb, 0, none⟩)] w1 fun e w2 =>
      e = .returned (.tuple #[]) ∧ Done wB (W * H) pb (litI W ps ls) (fun i => D i ∨ (y ≤ i / W ∧ i / W < y + ph ∧ x ≤ i % W ∧ i % W < x + pw)) w2 := by
  obtain ⟨q, hp, hq⟩ := id hD
  have hS1 := hS.below hp.bel
  have hlc := hS1.lc
  have hsiz := hp.siz
  have hlo := hp.lo
  obtain ⟨hw1, hw2⟩ := hS.fine.hW
  obtain ⟨hh1, hh2⟩ := hS.fine.hH
  have hnear := near_ok lcap x y pw ph hS1.lights hS.h8 hS.hr ((stretch_iff _ _).2 (by omega)) ((stretch_iff _ _).2 (by omega))
  have hd := fun nb na ncap => litTile_does (nb := nb) (pb := pb) hS x y pw ph h2 h4 na ncap
  generalize pickL (nearB x y pw ph) ls llen = near at hnear hd
  clear hp hq
  go_enter Tryz.func113, Tryz.ntmps113
  go_wp2_with fail
  refine hnear.mono ?_
  rintro e wA ⟨na, ncap, rfl, hni, hbA⟩
  have hsA := hbA.size
  have hI : InTile wB (W * H) pb (litI W ps ls) wA.heap.size na ncap near D (wA.alloc (.cells #[.slice na near.length ncap] 25)) :=
    ⟨(hD.below hbA).below ((Below.refl _ _).alloc (Nat.le_refl _) _), by simp [go_sem], (hni.below (Nat.le_refl _) ((Below.refl _ _).alloc (Nat.le_refl _) _)).mono (by omega), by omega, by simp⟩
  have hep := eachPlace_any _ _ _ W x y pw ph D _ (by omega) (fun A B v hs h => ⟨h.1.mono hs, h.2⟩) (hd wA.heap.size na ncap) hI
  clear hnear hd hI
  go_wp2_with fail
  refine hep.mono ?_
  rintro e wC ⟨rfl, hIC⟩
  go_wp2
  go_end0
  exact ⟨rfl, hIC.1⟩
end Go.Proofs.YtihliofhhjjeaaaGreat
namespace Go.Proofs.YtihliofhhjjeaaaGreat
open Go.RowKit Im
theorem lit_B (w : World) (o o' o'' : Obj) : Below w.heap.size w (((w.alloc o).alloc o').alloc o'') := (((Below.refl _ _).alloc (Nat.le_refl _) _).alloc (by simp) _).alloc (by simp; omega) _
theorem lit_form {W H : Int} {a : Option Addr} {len : Nat} (cap : Nat) {ps : List Int} {la : Option Addr} {llen : Nat} (lcap : Nat) (tile : Int) {w : World} (h : Ints 0 w a len ps) (hf : fineB W H ps = false) :
    Calls Tryz.prog 71 #[.agg #[.int .i64 W, .int .i64 H, .slice a len cap], .slice la llen lcap, .int .i64 tile] w fun e w' => e = .returned (.tuple #[noImage, .int .i64 1]) ∧ Below w.heap.size w w' := by
  have hB := lit_B w
  have h1 := h.below (Nat.le_refl _) (hB (.cells #[.int .i64 W, .int .i64 H, .slice a len cap] 31) (.cells #[.slice la llen lcap] 60) (.cells #[.int .i64 0, .int .i64 0, .slice none 0 0] 31))
  go_enter Tryz.func71, Tryz.ntmps71
  go_wp2_with (go_at_call 19; refine (check_not cap h1 hf).mono ?_; rintro e wA ⟨rfl, hbA⟩; obtain ⟨cA, fA⟩ := bcell hbA; have sA : w.heap.size + 1 + 1 < wA.heap.size := by have := hbA.size; simp at this; omega)
  refine bodyPost_ret (v := .tuple #[noImage, .int .i64 1]) (by simp [results, Tryz.results71, go_sem, cA]) rfl ⟨rfl, ?_⟩
  exact ((((hB _ _ _).trans (hbA.mono (by simp; omega))).setCell (p := ⟨w.heap.size + 1 + 1, 0, none⟩) (by simp; omega) _).setCell (p := ⟨w.heap.size + 1 + 1, 1, none⟩) (by simp; omega) _).setCell (p := ⟨w.heap.size + 1 + 1, 2, none⟩) (by simp; omega) _
theorem lit_lights {W H b off : Nat} (cap : Nat) {ps : List Int} {la : Option Addr} {llen : Nat} (lcap : Nat) {ls : List Lt} (tile : Int) {w : World} (hF : Fine w b off W H ps) (hl : Lights w la llen ls) (hE : ¬ lightsErr ls = 0) :
    Calls Tryz.prog 71 #[.agg #[.int .i64 W, .int .i64 H, .slice (some ⟨b, off, none⟩) (W * H) cap], .slice la llen lcap, .int .i64 tile] w fun e w' => e = .returned (.tuple #[noImage, .int .i64 (lightsErr ls)]) ∧ Below w.heap.size w w' := by
  have hB := lit_B w
  have hF1 := hF.below (hB (.cells #[.int .i64 W, .int .i64 H, .slice (some ⟨b, off, none⟩) (W * H) cap] 31) (.cells #[.slice la llen lcap] 60) (.cells #[.int .i64 0, .int .i64 0, .slice none 0 0] 31))
  have hcl := fun wx (hx : Below w.heap.size w wx) => checkL_any lcap (hl.below hx)
  generalize lightsErr ls = E at hcl hE
  have hne : (E != 0) = true := by simpa using hE
  have hBw := hB (.cells #[.int .i64 W, .int .i64 H, .slice (some ⟨b, off, none⟩) (W * H) cap] 31) (.cells #[.slice la llen lcap] 60) (.cells #[.int .i64 0, .int .i64 0, .slice none 0 0] 31)
  clear hE
  go_enter Tryz.func71, Tryz.ntmps71
  go_wp2_with (first
    | (go_at_call 19; refine (check_fine cap hF1.ints hF1.fineB).mono ?_; rintro e wA ⟨rfl, hbA⟩; obtain ⟨cA, fA⟩ := bcell hbA; have sA : w.heap.size + 1 + 1 < wA.heap.size := by have := hbA.size; simp at this; omega)
    | (go_at_call 102; refine (hcl _ (hBw.trans (hbA.mono (by simp; omega)))).mono ?_; rintro e wB ⟨rfl, hbB⟩; have hbB' := hbA.trans (hbB.mono hbA.size); clear cA fA; obtain ⟨cB, fB⟩ := bcell hbB'; have sB : w.heap.size + 1 + 1 < wB.heap.size := by have := hbB.size; omega))
  refine bodyPost_ret (v := .tuple #[noImage, .int .i64 E]) (by simp [results, Tryz.results71, go_sem, cB]) rfl ⟨rfl, ?_⟩
  exact (((hBw.trans (hbB'.mono (by simp; omega))).setCell (p := ⟨w.heap.size + 1 + 1, 0, none⟩) (by simp; omega) _).setCell (p := ⟨w.heap.size + 1 + 1, 1, none⟩) (by simp; omega) _).setCell (p := ⟨w.heap.size + 1 + 1, 2, none⟩) (by simp; omega) _
theorem lit_range {W H b off : Nat} (cap : Nat) {ps : List Int} {la : Option Addr} {llen : Nat} (lcap : Nat) {ls : List Lt} (tile : Int) {w : World} (hF : Fine w b off W H ps) (hl : Lights w la llen ls) (hE : lightsErr ls = 0) (ht : tile < 1 ∨ 16 < tile) :
    Calls Tryz.prog 71 #[.agg #[.int .i64 W, .int .i64 H, .slice (some ⟨b, off, none⟩) (W * H) cap], .slice la llen lcap, .int .i64 tile] w fun e w' => e = .returned (.tuple #[noImage, .int .i64 3]) ∧ Below w.heap.size w w' := by
  have hB := lit_B w
  have hF1 := hF.below (hB (.cells #[.int .i64 W, .int .i64 H, .slice (some ⟨b, off, none⟩) (W * H) cap] 31) (.cells #[.slice la llen lcap] 60) (.cells #[.int .i64 0, .int .i64 0, .slice none 0 0] 31))
  have hcl := fun wx (hx : Below w.heap.size w wx) => checkL_any lcap (hl.below hx)
  rw [hE] at hcl
  have hBw := hB (.cells #[.int .i64 W, .int .i64 H, .slice (some ⟨b, off, none⟩) (W * H) cap] 31) (.cells #[.slice la llen lcap] 60) (.cells #[.int .i64 0, .int .i64 0, .slice none 0 0] 31)
  clear hE
  by_cases h1 : tile < 1
  all_goals
    have h2 : ¬ tile < 1 → 16 < tile := by omega
    try (have h2 := h2 h1)
    clear ht
    go_enter Tryz.func71, Tryz.ntmps71
    go_wp2_with (first
      | (go_at_call 19; refine (check_fine cap hF1.ints hF1.fineB).mono ?_; rintro e wA ⟨rfl, hbA⟩; obtain ⟨cA, fA⟩ := bcell hbA; have sA : w.heap.size + 1 + 1 < wA.heap.size := by have := hbA.size; simp at this; omega)
      | (go_at_call 102; refine (hcl _ (hBw.trans (hbA.mono (by simp; omega)))).mono ?_; rintro e wB ⟨rfl, hbB⟩; have hbB' := hbA.trans (hbB.mono hbA.size); clear cA fA; obtain ⟨cB, fB⟩ := bcell hbB'; have sB : w.heap.size + 1 + 1 < wB.heap.size := by have := hbB.size; omega))
    refine bodyPost_ret (v := .tuple #[noImage, .int .i64 3]) (by simp [results, Tryz.results71, go_sem, cB]) rfl ⟨rfl, ?_⟩
    exact (((hBw.trans (hbB'.mono (by simp; omega))).setCell (p := ⟨w.heap.size + 1 + 1, 0, none⟩) (by simp; omega) _).setCell (p := ⟨w.heap.size + 1 + 1, 1, none⟩) (by simp; omega) _).setCell (p := ⟨w.heap.size + 1 + 1, 2, none⟩) (by simp; omega) _
theorem pan_made {wB wM : World} {L : Nat} {o : Obj} (ho : o = .cells #[.slice (some ⟨wB.heap.size, 0, none⟩) L L] 25) (hown : wM.ownsRow wB.heap.size 3 1 (.slice (some ⟨wB.heap.size, 0, none⟩) L L) L (madeCells (Value.int .i64 0).cells (L * 1)).toList) (hg : wB.grownBy wM none) :
    Pan wB (wM.alloc o) L wM.heap.size (fun _ => 0) := by
  subst ho
  obtain ⟨_, h⟩ := hown
  rcases h with ⟨h, _⟩ | ⟨g, cap, cur, hv, _, hh, _, _, hs, ht⟩
  · cases h
  · simp only [Value.slice.injEq, Option.some.injEq, Addr.mk.injEq, and_true, true_and] at hv
    obtain ⟨rfl, rfl⟩ := hv
    have hlt : wB.heap.size < wM.heap.size := by
      rcases Nat.lt_or_ge wB.heap.size wM.heap.size with h | h
      · exact h
      · rw [Array.getElem?_eq_none h] at hh; cases hh
    have hb : Below wB.heap.size wB wM := (Below.refl _ _).grown hg (Nat.le_refl _) (fun k hk => by cases hk)
    refine ⟨hb.alloc (by omega) _, hlt, by simp, ⟨cur, ?_, by simpa using hs, fun j hj => ?_⟩, by simp [go_sem]⟩
    · rw [Below.heap_alloc _ _ _ hlt]; exact hh
    · have e : cur.toList = List.replicate L (Value.int .i64 0) := by
        have h1 : cur.toList.take (L * 1) = cur.toList := List.take_of_length_le (by simp; omega)
        rw [h1] at ht
        rw [ht]
        show (madeCells #[Value.int .i64 0] (L * 1)).toList = _
        rw [toList_madeCells_one, Nat.mul_one]
      rw [← Array.getElem?_toList, e]
      simp [hj]
theorem done_ints {wB w' : World} {L pb : Nat} {G : Nat → Int} (h : Done wB L pb G (fun i => i < L) w') (hL : L ≤ 256) : Ints wB.heap.size w' (some ⟨wB.heap.size, 0, none⟩) L ((List.range L).map G) := by
  obtain ⟨q, hp, hq⟩ := h
  refine ⟨by simp, by omega, ?_, fun _ => .inr fun b off ha j hj => by injection ha with ha; injection ha with e1 e2; subst e1 e2; rw [Nat.zero_add]; exact (hp.cell j hj).2⟩
  refine .inr ⟨wB.heap.size, 0, rfl, Nat.le_refl _, by have := hp.lo; have := hp.siz; omega, fun j hj => ?_⟩
  rw [Nat.zero_add, (hp.cell j hj).1, hq j hj hj]
  simp [hj]
set_option maxHeartbeats 1000000 in
theorem lit_ok {W H b off : Nat} (cap : Nat) {ps : List Int} {la : Option Addr} {llen : Nat} (lcap : Nat) {ls : List Lt} (tile : Nat) {w : World} (hF : Fine w b off W H ps) (hl : Lights w la llen ls) (hE : lightsErr ls = 0) (ht : 1 ≤ tile ∧ tile ≤ 16) :
    Calls Tryz.prog 71 #[.agg #[.int .i64 W, .int .i64 H, .slice (some ⟨b, off, none⟩) (W * H) cap], .slice la llen lcap, .int .i64 tile] w fun e w' =>
      ∃ a cap', e = .returned (.tuple #[.agg #[.int .i64 W, .int .i64 H, .slice a (W * H) cap'], .int .i64 0]) ∧ Ints w.heap.size w' a (W * H) (pix W (litG W ps ls) (W * H)) ∧ Below w.heap.size w w' := by
  obtain ⟨i0, hi, hz0, hz1, hz2⟩ := info_parts Tryz.info3
  have hB := lit_B w
  have hBw := hB (.cells #[.int .i64 W, .int .i64 H, .slice (some ⟨b, off, none⟩) (W * H) cap] 31) (.cells #[.slice la llen lcap] 60) (.cells #[.int .i64 0, .int .i64 0, .slice none 0 0] 31)
  have hF1 := hF.below hBw
  have hcl := fun wx (hx : Below w.heap.size w wx) => checkL_any lcap (hl.below hx)
  rw [hE] at hcl
  obtain ⟨h8, hr⟩ := lightsErr_zero hE
  obtain ⟨hs1, hs2⟩ := hF.small
  obtain ⟨hW1, hW2⟩ := hF.hW
  obtain ⟨hH1, hH2⟩ := hF.hH
  have hWH : 1 ≤ (W : Int) * H ∧ (W : Int) * H ≤ 256 := by rw [← Int.natCast_mul]; omega
  obtain ⟨wh1, wh2⟩ := hWH
  have hBx : Boxed (((w.alloc (.cells #[.int .i64 W, .int .i64 H, .slice (some ⟨b, off, none⟩) (W * H) cap] 31)).alloc (.cells #[.slice la llen lcap] 60)).alloc (.cells #[.int .i64 0, .int .i64 0, .slice none 0 0] 31)) w.heap.size b off cap W H := ⟨by simp; omega, by simp [go_sem], by simp [go_sem], by simp [go_sem]⟩
  have hLc : (((w.alloc (.cells #[.int .i64 W, .int .i64 H, .slice (some ⟨b, off, none⟩) (W * H) cap] 31)).alloc (.cells #[.slice la llen lcap] 60)).alloc (.cells #[.int .i64 0, .int .i64 0, .slice none 0 0] 31)).cell? ⟨w.heap.size + 1, 0, none⟩ = some (.slice la llen lcap) := by simp [go_sem]
  have hLl : w.heap.size + 1 < (((w.alloc (.cells #[.int .i64 W, .int .i64 H, .slice (some ⟨b, off, none⟩) (W * H) cap] 31)).alloc (.cells #[.slice la llen lcap] 60)).alloc (.cells #[.int .i64 0, .int .i64 0, .slice none 0 0] 31)).heap.size := by simp
  have hSc : Scene (((w.alloc (.cells #[.int .i64 W, .int .i64 H, .slice (some ⟨b, off, none⟩) (W * H) cap] 31)).alloc (.cells #[.slice la llen lcap] 60)).alloc (.cells #[.int .i64 0, .int .i64 0, .slice none 0 0] 31)) w.heap.size (w.heap.size + 1) b off cap W H ps la llen lcap ls := ⟨hBx, hF1, hLl, hLc, hl.below hBw, h8, hr⟩
  obtain ⟨ht1, ht2⟩ := ht
  have htn : ¬ (16 : Int) < (tile : Int) := by omega
  clear hE hBx hLc hLl
  go_enter Tryz.func71, Tryz.ntmps71
  go_wp2_with (first
    | (go_at_call 19; refine (check_fine cap hF1.ints hF1.fineB).mono ?_; rintro e wA ⟨rfl, hbA⟩; obtain ⟨cA, fA⟩ := bcell hbA; have sA : w.heap.size + 1 + 1 < wA.heap.size := by have := hbA.size; simp at this; omega)
    | (go_at_call 102; refine (hcl _ (hBw.trans (hbA.mono (by simp; omega)))).mono ?_; rintro e wB ⟨rfl, hbB⟩; have hbB' := hbA.trans (hbB.mono hbA.size); clear cA fA; obtain ⟨cB, fB⟩ := bcell hbB'; have sB : w.heap.size + 1 + 1 < wB.heap.size := by have := hbB.size; omega)
    | (at_make; refine wpList_make_full _ rfl _ _ 25 rfl wB.heap.size 3 i0 (.int .i64 0) 1 Tryz.underlying25 hi hz0 hz1 .i64 .i64 _ _ (W * H) rfl rfl (by simp) (by simp) (by rw [hz2]; omega) (by unfold maxLen; omega) (Nat.le_refl _) ?_; intro wM hown hgrow; have hbM : Below wB.heap.size wB wM := ((Below.refl _ _).grown hgrow (Nat.le_refl _) (fun k hk => by cases hk)); have hbM' := hbB'.trans (hbM.mono hbB'.size); clear cB fB; obtain ⟨cM, fM⟩ := bcell hbM'; have sM : w.heap.size + 1 + 1 < wM.heap.size := (by have := hbM.size; omega); have sM0 : w.heap.size < wM.heap.size := (by omega)))
  have hScB := hSc.below hbB'
  have hdo : DoesT 113 #[.pointer (some ⟨w.heap.size + 1, 0, none⟩), .pointer (some ⟨w.heap.size, 0, none⟩), .pointer (some ⟨wM.heap.size, 0, none⟩)] (Done wB (W * H) wM.heap.size (litI W ps ls)) W H :=
    ⟨lit1_enters, fun x y pw ph D w1 g1 g2 g3 g4 hD => litTile_any hScB x y pw ph D g1 g2 g3 g4 hD⟩
  have hst : Done wB (W * H) wM.heap.size (litI W ps ls) (fun _ => False) (wM.alloc (.cells #[.slice (some ⟨wB.heap.size, 0, none⟩) (W * H) (W * H)] 25)) := ⟨_, pan_made rfl hown hgrow, fun _ _ h => h.elim⟩
  have het := eachTile_any _ _ _ W H tile _ (by omega) (by omega) (by omega) (fun A B v hs h => h.mono hs) hdo hst
  clear hdo hst hown hgrow
  refine het.mono ?_
  rintro e wE ⟨rfl, hDn⟩
  have hDn' : Done wB (W * H) wM.heap.size (litI W ps ls) (fun i => i < W * H) wE := hDn.mono (fun i h => Nat.div_lt_of_lt_mul h)
  obtain ⟨q, hpan, _⟩ := id hDn
  have hbE := hbB'.trans (hpan.bel.mono hbB'.size)
  have hbox := hpan.box
  have sE : w.heap.size + 1 + 1 < wE.heap.size := by have := hpan.bel.size; omega
  have hints := done_ints hDn' hs2
  clear hDn hDn' het cM fM hpan hScB
  obtain ⟨cE, fE⟩ := bcell hbE
  go_wp2
  refine bodyPost_ret (v := .tuple #[.agg #[.int .i64 W, .int .i64 H, .slice (some ⟨wB.heap.size, 0, none⟩) (W * H) (W * H)], .int .i64 0]) (by simp [results, Tryz.results71, go_sem, cE]) rfl ⟨_, _, rfl, ?_, ?_⟩
  · exact (((hints.setCell (p := ⟨w.heap.size + 1 + 1, 0, none⟩) sB _).setCell (p := ⟨w.heap.size + 1 + 1, 1, none⟩) sB _).setCell (p := ⟨w.heap.size + 1 + 1, 2, none⟩) sB _).mono (by omega)
  · exact (((hBw.trans (hbE.mono (by simp; omega))).setCell (p := ⟨w.heap.size + 1 + 1, 0, none⟩) (by simp; omega) _).setCell (p := ⟨w.heap.size + 1 + 1, 1, none⟩) (by simp; omega) _).setCell (p := ⟨w.heap.size + 1 + 1, 2, none⟩) (by simp; omega) _
end Go.Proofs.YtihliofhhjjeaaaGreat
namespace Go.Proofs.YtihliofhhjjeaaaGreat
open Go.RowKit Im
theorem Lights.alloc {w : World} {a : Option Addr} {len : Nat} {ls : List Lt} (h : Lights w a len ls) (o : Obj) : Lights (w.alloc o) a len ls := h.below ((Below.refl _ _).alloc (Nat.le_refl _) _)
end Go.Proofs.YtihliofhhjjeaaaGreat
namespace Go.Proofs.YtihliofhhjjeaaaGreat
open Go.RowKit Im
theorem at_any {w : World} {b off cap W H : Nat} {ps : List Int} (hF : Fine w b off W H ps) (X Y : Int) (x y : Nat) (hX : X = x) (hY : Y = y) (hx : x < W) (hy : y < H) :
    Calls Tryz.prog 152 #[.agg #[.int .i64 W, .int .i64 H, .slice (some ⟨b, off, none⟩) (W * H) cap], .int .i64 X, .int .i64 Y] w fun e w' => e = .returned (.int .i64 (px W ps x y)) ∧ Below w.heap.size w w' := by
  subst hX hY
  have hbel := (Below.refl w.heap.size w).alloc (Nat.le_refl _) (.cells #[.int .i64 W, .int .i64 H, .slice (some ⟨b, off, none⟩) (W * H) cap] 31)
  have hc := (hF.below hbel).cell (y * W + x) (place_lt hx hy)
  have hpl := place_lt hx hy
  obtain ⟨hm, hM⟩ := hF.small
  have hb1 := hF.hW
  have hb2 := hF.hH
  have hpi : (y : Int) * (W : Int) + (x : Int) < (W : Int) * (H : Int) := by rw [← Int.natCast_mul, ← Int.natCast_mul]; omega
  have hp0 : 0 ≤ (y : Int) * (W : Int) := Int.mul_nonneg (by omega) (by omega)
  have hpM : (W : Int) * (H : Int) ≤ 256 := by rw [← Int.natCast_mul]; omega
  obtain ⟨v, hv⟩ : ∃ v, v = px W ps x y := ⟨_, rfl⟩
  have hc' : (w.alloc (.cells #[.int .i64 W, .int .i64 H, .slice (some ⟨b, off, none⟩) (W * H) cap] 31)).cell? ⟨b, off + (y * W + x), none⟩ = some (.int .i64 v) := by rw [hv]; exact hc
  rw [← hv]
  clear hc hv hF hpl
  go_enter Tryz.func152, Tryz.ntmps152
  go_wp2
  go_ret
  exact ⟨rfl, hbel⟩
set_option maxHeartbeats 1000000 in
theorem meanRef_any {w : World} {b off cap W H : Nat} {ps : List Int} (hF : Fine w b off W H ps) (X Y U V : Int) (l m t q : Nat) (hL : (if X < 0 then 0 else X) = (l : Int)) (hT : (if Y < 0 then 0 else Y) = (t : Int))
    (hR : (if (W : Int) - 1 < U then (W : Int) - 1 else U) = (l : Int) + m - 1) (hV : (if (H : Int) - 1 < V then (H : Int) - 1 else V) = (t : Int) + q - 1) (h1 : 1 ≤ m) (h2 : l + m ≤ W) (h3 : 1 ≤ q) (h4 : t + q ≤ H) :
    Calls Tryz.prog 154 #[.agg #[.int .i64 W, .int .i64 H, .slice (some ⟨b, off, none⟩) (W * H) cap], .int .i64 X, .int .i64 Y, .int .i64 U, .int .i64 V] w fun e w' =>
      e = .returned (.int .i64 (sumBox (px W ps) l t m q / ((q : Int) * (m : Int)))) ∧ Below w.heap.size w w' := by
  have hbel := (Below.refl w.heap.size w).alloc (Nat.le_refl _) (.cells #[.int .i64 W, .int .i64 H, .slice (some ⟨b, off, none⟩) (W * H) cap] 31)
  have hF1 := hF.below hbel
  have hBx : Boxed (w.alloc (.cells #[.int .i64 W, .int .i64 H, .slice (some ⟨b, off, none⟩) (W * H) cap] 31)) w.heap.size b off cap W H := ⟨by simp, by simp [go_sem], by simp [go_sem], by simp [go_sem]⟩
  obtain ⟨w1, w2⟩ := hF.hW
  obtain ⟨g1, g2⟩ := hF.hH
  have hp := hF.px_bd
  clear hF
  go_enter Tryz.func154, Tryz.ntmps154
  go_wp2
  generalize (w.alloc (.cells #[.int .i64 W, .int .i64 H, .slice (some ⟨b, off, none⟩) (W * H) cap] 31)) = wb at hF1 hBx hbel ⊢
  go_loopw [11, 12, 13] (fun s n i wr => ∃ j : Nat, j ≤ q ∧ i = .int .i64 ((t : Int) + (j : Int)) ∧ s = .int .i64 (sumBox (px W ps) l t m j) ∧ n = .int .i64 ((j : Int) * (m : Int)) ∧ Below wb.heap.size wb wr) (fun _ _ i _ => t + q - (intOf i).toNat)
  case atStart => exact ⟨0, Nat.zero_le _, by simp, rfl, by simp, Below.refl _ _⟩
  case round =>
    obtain ⟨j, hj, rfl, rfl, rfl, hbr⟩ := hrel
    have sb := sumBox_bd (p := px W ps) (l := l) (t := t) (n := m) (by omega) (m := j) (fun x y _ _ _ _ => hp x y (by omega) (by omega))
    obtain ⟨_, k0, k1, k2⟩ := hBx.below hbr
    have n0 : 0 ≤ (j : Int) * (m : Int) := Int.mul_nonneg (by omega) (by omega)
    have n1 : (j : Int) * (m : Int) ≤ 16 * 16 := Int.mul_le_mul (by omega) (by omega) (by omega) (by omega)
    by_cases hlt : j < q
    · have hle : (t : Int) + (j : Int) ≤ (t : Int) + (q : Int) - 1 := by omega
      go_wp2
      go_loopw [11, 12, 14] (fun s n i wr => ∃ i' : Nat, i' ≤ m ∧ i = .int .i64 ((l : Int) + (i' : Int)) ∧ s = .int .i64 (sumBox (px W ps) l t m j + sumRow (px W ps) (t + j) l i') ∧ n = .int .i64 ((j : Int) * (m : Int) + (i' : Int)) ∧ Below wb.heap.size wb wr) (fun _ _ i _ => l + m - (intOf i).toNat)
      case atStart => exact ⟨0, Nat.zero_le _, by simp, by simp [sumRow], by simp, hbr⟩
      case round =>
        obtain ⟨i, hi, rfl, rfl, rfl, hbs⟩ := hrel
        have sr := sumRow_bd (p := px W ps) (y := t + j) (l := l) (n := i) (fun x _ _ => hp x (t + j) (by omega) (by omega))
        obtain ⟨_, kk0, kk1, kk2⟩ := hBx.below hbs
        by_cases hli : i < m
        · have hli2 : (l : Int) + (i : Int) ≤ (l : Int) + (m : Int) - 1 := by omega
          have hpp := hp (l + i) (t + j) (by omega) (by omega)
          go_wp2_with (go_at_call 152; refine (at_any (hF1.below hbs) _ _ (l + i) (t + j) (by omega) (by omega) (by omega) (by omega)).mono ?_; rintro e w2 ⟨rfl, hb2⟩)
          have hbw := hbs.trans (hb2.mono hbs.size)
          go_roundw
          case rel => exact ⟨i + 1, by omega, by go_num, by show _ = Value.int .i64 (_ + (sumRow (px W ps) (t + j) l i + px W ps (l + i) (t + j))); go_num, by go_num, hbw⟩
          case measure => simp [intOf]; omega
        · have hie : i = m := by omega
          subst hie
          go_wp2
          go_roundw
          case rel => exact ⟨j + 1, by omega, by go_num, rfl, by congr 1; show _ = ((j + 1 : Nat) : Int) * _; rw [Int.natCast_add, Int.add_mul]; simp, hbs⟩
          case measure => simp [intOf]; omega
    · have hje : j = q := by omega
      subst hje
      have m1 : 1 ≤ (j : Int) * (m : Int) := (side_mul (by simp [sideB]; omega) (by simp [sideB]; omega)).1
      go_wp2
      go_ret
      exact ⟨rfl, hbel.trans (hbr.mono hbel.size)⟩
end Go.Proofs.YtihliofhhjjeaaaGreat
namespace Go.Proofs.YtihliofhhjjeaaaGreat
open Go.RowKit Im
theorem Boxed.belowN {w w' : World} {c b off cap W H B : Nat} (h : Boxed w c b off cap W H) (hb : Below B w w') (hlt : c < B) : Boxed w' c b off cap W H :=
  ⟨Nat.lt_of_lt_of_le h.lt hb.size, (hb.cell (p := ⟨c, 0, none⟩) hlt).trans h.c0, (hb.cell (p := ⟨c, 1, none⟩) hlt).trans h.c1, (hb.cell (p := ⟨c, 2, none⟩) hlt).trans h.c2⟩
theorem mean_eq (p : Nat → Nat → Int) (l m t q r b : Nat) (h1 : l + m = r + 1) (h2 : t + q = b + 1) : meanP p l t r b = sumBox p l t m q / ((q : Int) * (m : Int)) := by
  unfold meanP
  rw [show r + 1 - l = m by omega, show b + 1 - t = q by omega, show (r : Int) - l + 1 = m by omega, show (b : Int) - t + 1 = q by omega, Int.mul_comm]
theorem oneSize_any (op : Int) (W H : Nat) (w : World) (hW : W ≤ 16) (hH : H ≤ 16) : Calls Tryz.prog 82 #[.int .i64 op, .int .i64 W, .int .i64 H] w fun e w' => e = .returned (.tuple #[.int .i64 (oneN op W), .int .i64 (oneN op H)]) ∧ w = w' := by
  by_cases h11 : op = 11
  · subst h11
    have e1 : (oneN 11 W : Int) = (W : Int) / 2 := by simp [oneN]
    have e2 : (oneN 11 H : Int) = (H : Int) / 2 := by simp [oneN]
    rw [e1, e2]; clear e1 e2
    go_enter Tryz.func82, Tryz.ntmps82
    go_wp2
    go_ret2
    exact ⟨rfl, rfl⟩
  by_cases h12 : op = 12
  · subst h12
    have e1 : (oneN 12 W : Int) = 2 * (W : Int) := by simp [oneN]
    have e2 : (oneN 12 H : Int) = 2 * (H : Int) := by simp [oneN]
    rw [e1, e2]; clear e1 e2
    go_enter Tryz.func82, Tryz.ntmps82
    go_wp2
    go_ret2
    exact ⟨rfl, rfl⟩
  · have g11 : (op == 11) = false := by simpa using h11
    have g12 : (op == 12) = false := by simpa using h12
    have e1 : oneN op W = W := by simp [oneN, h11, h12]
    have e2 : oneN op H = H := by simp [oneN, h11, h12]
    rw [e1, e2]; clear e1 e2
    go_enter Tryz.func82, Tryz.ntmps82
    go_wp2
    go_ret2
    exact ⟨rfl, rfl⟩
end Go.Proofs.YtihliofhhjjeaaaGreat
namespace Go.Proofs.YtihliofhhjjeaaaGreat
open Go.RowKit Im
set_option maxRecDepth 100000 in
set_option maxHeartbeats 1000000 in
theorem oneOf_3 {w : World} {b off cap W H : Nat} {ps : List Int} (k : Int) (hF : Fine w b off W H ps) (hE : oneErr 3 W H k = 0) :
    Calls Tryz.prog 125 #[.int .i64 3, .agg #[.int .i64 W, .int .i64 H, .slice (some ⟨b, off, none⟩) (W * H) cap], .int .i64 k] w fun e w' =>
      ∃ a cap', e = .returned (.agg #[.int .i64 (oneN 3 W), .int .i64 (oneN 3 H), .slice a (oneN 3 W * oneN 3 H) cap']) ∧ Ints w.heap.size w' a (oneN 3 W * oneN 3 H) (pix (oneN 3 W) (oneG 3 W H k ps) (oneN 3 W * oneN 3 H)) ∧ Below w.heap.size w w' := by
  obtain ⟨i0, hi, hz0, hz1, hz2⟩ := info_parts Tryz.info3
  have hs := oneN_side hF.hW hF.hH hE
  have hsO := fun wx => oneSize_any 3 W H wx hF.hW.2 hF.hH.2
  obtain ⟨hw1, hw2⟩ := hF.hW
  obtain ⟨hh1, hh2⟩ := hF.hH
  obtain ⟨N, hN⟩ : ∃ N, N = oneN 3 W := ⟨_, rfl⟩
  obtain ⟨M, hM⟩ : ∃ M, M = oneN 3 H := ⟨_, rfl⟩
  have e1 : N = W := hN
  have e2 : M = H := hM
  rw [← hN, ← hM] at hs ⊢
  rw [← hN, ← hM] at hsO
  clear hN hM hE
  have E1 : Hid (N = W) := e1
  have E2 : Hid (M = H) := e2
  clear e1 e2
  obtain ⟨⟨hN1, hN2⟩, hM1, hM2⟩ := hs
  have hNM : N * M ≤ 256 := Nat.mul_le_mul hN2 hM2
  have hB0 : Below w.heap.size w (((w.alloc (.cells #[.int .i64 W, .int .i64 H, .slice (some ⟨b, off, none⟩) (W * H) cap] 31)).alloc (.cells #[.int .i64 0, .int .i64 0, .slice none 0 0] 31)).alloc (.cells #[.int .i64 N, .int .i64 M, .slice none 0 0] 31)) := (((Below.refl _ _).alloc (Nat.le_refl _) _).alloc (by simp) _).alloc (by simp; omega) _
  have hBx : Boxed (((w.alloc (.cells #[.int .i64 W, .int .i64 H, .slice (some ⟨b, off, none⟩) (W * H) cap] 31)).alloc (.cells #[.int .i64 0, .int .i64 0, .slice none 0 0] 31)).alloc (.cells #[.int .i64 N, .int .i64 M, .slice none 0 0] 31)) w.heap.size b off cap W H := ⟨by simp; omega, by simp [go_sem], by simp [go_sem], by simp [go_sem]⟩
  have hst := Acc.start ((w.alloc (.cells #[.int .i64 W, .int .i64 H, .slice (some ⟨b, off, none⟩) (W * H) cap] 31)).alloc (.cells #[.int .i64 0, .int .i64 0, .slice none 0 0] 31)) (w.heap.size + 1 + 1) N M (by simp)
  have z0 : (((w.alloc (.cells #[.int .i64 W, .int .i64 H, .slice (some ⟨b, off, none⟩) (W * H) cap] 31)).alloc (.cells #[.int .i64 0, .int .i64 0, .slice none 0 0] 31)).alloc (.cells #[.int .i64 N, .int .i64 M, .slice none 0 0] 31)).cell? ⟨w.heap.size + 1, 0, none⟩ = some (.int .i64 0) := by simp [go_sem]
  have z1 : (((w.alloc (.cells #[.int .i64 W, .int .i64 H, .slice (some ⟨b, off, none⟩) (W * H) cap] 31)).alloc (.cells #[.int .i64 0, .int .i64 0, .slice none 0 0] 31)).alloc (.cells #[.int .i64 N, .int .i64 M, .slice none 0 0] 31)).cell? ⟨w.heap.size + 1, 1, none⟩ = some (.int .i64 0) := by simp [go_sem]
  have z2 : (((w.alloc (.cells #[.int .i64 W, .int .i64 H, .slice (some ⟨b, off, none⟩) (W * H) cap] 31)).alloc (.cells #[.int .i64 0, .int .i64 0, .slice none 0 0] 31)).alloc (.cells #[.int .i64 N, .int .i64 M, .slice none 0 0] 31)).cell? ⟨w.heap.size + 1, 2, none⟩ = some (.slice none 0 0) := by simp [go_sem]
  have y0 : ∀ o, (((w.alloc (.cells #[.int .i64 W, .int .i64 H, .slice (some ⟨b, off, none⟩) (W * H) cap] 31)).alloc (.cells #[.int .i64 0, .int .i64 0, .slice none 0 0] 31)).alloc (.cells #[.int .i64 N, .int .i64 M, .slice none 0 0] 31)).frozen? ⟨w.heap.size + 1, o, none⟩ = false := fun o => by simp [go_sem]
  go_enter Tryz.func125, Tryz.ntmps125
  go_wp2_with (go_at_call 82; refine (hsO _).mono ?_; rintro e w' ⟨rfl, rfl⟩)
  generalize hw0 : (((w.alloc (.cells #[.int .i64 W, .int .i64 H, .slice (some ⟨b, off, none⟩) (W * H) cap] 31)).alloc (.cells #[.int .i64 0, .int .i64 0, .slice none 0 0] 31)).alloc (.cells #[.int .i64 N, .int .i64 M, .slice none 0 0] 31)) = w0 at hB0 hBx hst z0 z1 z2 y0 ⊢
  clear hw0 hsO
  go_loopw [8] (fun i wr => ∃ (y : Nat) (v : Value), y ≤ M ∧ i = .int .i64 y ∧ Acc (w.heap.size + 1 + 1) w0 wr N M v (pix N (oneG 3 W H k ps) (y * N))) (fun i _ => M - (intOf i).toNat)
  case atStart => exact ⟨0, .slice none 0 0, Nat.zero_le _, rfl, by rw [Nat.zero_mul]; exact hst⟩
  case round =>
    obtain ⟨y, v, hy, rfl, hacc⟩ := hrel
    obtain ⟨q0, q1, q2, qf⟩ := hacc.cells
    by_cases hlt : y < M
    · go_wp2
      go_loopw [9] (fun i ws => ∃ (x : Nat) (v : Value), x ≤ N ∧ i = .int .i64 x ∧ Acc (w.heap.size + 1 + 1) w0 ws N M v (pix N (oneG 3 W H k ps) (y * N + x))) (fun i _ => N - (intOf i).toNat)
      case atStart => exact ⟨0, v, Nat.zero_le _, rfl, hacc⟩
      case round =>
        obtain ⟨x, v2, hx, rfl, hacs⟩ := hrel
        obtain ⟨c0, c1, c2, cf⟩ := hacs.cells
        by_cases hlx : x < N
        · have e1 := E1.out
          have e2 := E2.out
          have hsz := hacs.siz
          have hbW : Below w.heap.size w wr := hB0.trans (hacs.bel.mono (by omega))
          have hFr := hF.below hbW
          have hBr := hBx.belowN hacs.bel (by omega)
          obtain ⟨_, k0, k1, k2⟩ := id hBr
          have hpl : y * N + x < N * M := place_lt hlx hlt
          have hlen : (pix N (oneG 3 W H k ps) (y * N + x)).length = y * N + x := pix_length _ _ _
          obtain ⟨gx, hgx⟩ : ∃ gx, gx = oneG 3 W H k ps x y := ⟨_, rfl⟩
          have hcall := at_any (cap := cap) hFr x y x y rfl rfl (by omega) (by omega)
          rw [show px W ps x y = gx by rw [hgx]; rfl] at hcall
          have HG : Hid (gx = oneG 3 W H k ps x y) := hgx
          clear hgx e1 e2
          go_wp2_with (first | (go_at_call 152; with_reducible refine hcall.mono ?_; rintro e w2 ⟨rfl, hb2⟩; have hac2 := hacs.below hb2; obtain ⟨y0, y1, y2, yf⟩ := hac2.cells; have hsz2 := hac2.siz) | (at_builtin; refine wpList_append_own _ rfl _ _ 25 rfl (w.heap.size + 1 + 1 + 1) 3 i0 (.int .i64 0) 1 8 Tryz.underlying25 hi hz0 hz1 hz2 rfl (by decide) _ _ _ rfl (World.ownsRow.alloc hac2.own _) ⟨w2.heap.size, 0, none⟩ 1 1 [.int .i64 gx] rfl rfl (cell_one_new _ _ _) (by intro u hu; simp at hu; subst hu; rfl) (by rw [hlen]; unfold maxLen; omega) (by rw [hlen]; omega) (by simp; omega) ?_; intro v' w9 hown9 hgrow9 _; obtain ⟨hm, m2, m3⟩ := hac2.mid hgrow9; obtain ⟨a', cap', hv'⟩ := owns_slice hown9; subst hv'))
          have R := hac2.push hgrow9 hown9
          rw [hlen] at R
          go_roundw
          case rel => exact ⟨x + 1, _, by omega, by go_num, by rw [← Nat.add_assoc, pix_succ N _ x y hlx, ← HG.out]; exact R⟩
          case measure => simp [intOf]; omega
        · have hxW : x = N := by omega
          subst hxW
          go_wp2
          go_roundw
          case rel => exact ⟨y + 1, v2, by omega, by go_num, by rw [Nat.add_mul, Nat.one_mul]; exact hacs⟩
          case measure => simp [intOf]; omega
    · have hyH : y = M := by omega
      subst hyH
      have hlen : (pix N (oneG 3 W H k ps) (y * N)).length = y * N := pix_length _ _ _
      obtain ⟨a, cap', rfl, hints⟩ := hacc.ints (by rw [hlen, Nat.mul_comm]; omega)
      have hsz := hacc.siz
      have d0 : wr.cell? ⟨w.heap.size + 1, 0, none⟩ = some (.int .i64 0) := (hacc.bel.cell (by simp)).trans z0
      have d1 : wr.cell? ⟨w.heap.size + 1, 1, none⟩ = some (.int .i64 0) := (hacc.bel.cell (by simp)).trans z1
      have d2 : wr.cell? ⟨w.heap.size + 1, 2, none⟩ = some (.slice none 0 0) := (hacc.bel.cell (by simp)).trans z2
      have f0 : wr.frozen? ⟨w.heap.size + 1, 0, none⟩ = false := (hacc.bel.frozen (by simp)).trans (y0 0)
      have f1 : wr.frozen? ⟨w.heap.size + 1, 1, none⟩ = false := (hacc.bel.frozen (by simp)).trans (y0 1)
      have f2 : wr.frozen? ⟨w.heap.size + 1, 2, none⟩ = false := (hacc.bel.frozen (by simp)).trans (y0 2)
      go_wp2
      rw [hlen, Nat.mul_comm] at hints
      refine bodyPost_ret (v := .agg #[.int .i64 N, .int .i64 y, .slice a (N * y) cap']) (by simp [results, Tryz.results125, go_sem, d0, d1, d2]; exact Nat.mul_comm _ _) rfl ⟨a, cap', rfl, ?_, ?_⟩
      · exact (((hints.setCell (by simp) _).setCell (by simp) _).setCell (by simp) _).mono (by omega)
      · exact (((hB0.trans (hacc.bel.mono (by omega))).setCell (by simp) _).setCell (by simp) _).setCell (by simp) _
set_option maxRecDepth 100000 in
set_option maxHeartbeats 1000000 in
theorem oneOf_8 {w : World} {b off cap W H : Nat} {ps : List Int} (k : Int) (hF : Fine w b off W H ps) (hE : oneErr 8 W H k = 0) :
    Calls Tryz.prog 125 #[.int .i64 8, .agg #[.int .i64 W, .int .i64 H, .slice (some ⟨b, off, none⟩) (W * H) cap], .int .i64 k] w fun e w' =>
      ∃ a cap', e = .returned (.agg #[.int .i64 (oneN 8 W), .int .i64 (oneN 8 H), .slice a (oneN 8 W * oneN 8 H) cap']) ∧ Ints w.heap.size w' a (oneN 8 W * oneN 8 H) (pix (oneN 8 W) (oneG 8 W H k ps) (oneN 8 W * oneN 8 H)) ∧ Below w.heap.size w w' := by
  obtain ⟨i0, hi, hz0, hz1, hz2⟩ := info_parts Tryz.info3
  have hs := oneN_side hF.hW hF.hH hE
  have hsO := fun wx => oneSize_any 8 W H wx hF.hW.2 hF.hH.2
  obtain ⟨hw1, hw2⟩ := hF.hW
  obtain ⟨hh1, hh2⟩ := hF.hH
  obtain ⟨N, hN⟩ : ∃ N, N = oneN 8 W := ⟨_, rfl⟩
  obtain ⟨M, hM⟩ : ∃ M, M = oneN 8 H := ⟨_, rfl⟩
  have e1 : N = W := hN
  have e2 : M = H := hM
  rw [← hN, ← hM] at hs ⊢
  rw [← hN, ← hM] at hsO
  clear hN hM hE
  have E1 : Hid (N = W) := e1
  have E2 : Hid (M = H) := e2
  clear e1 e2
  obtain ⟨⟨hN1, hN2⟩, hM1, hM2⟩ := hs
  have hNM : N * M ≤ 256 := Nat.mul_le_mul hN2 hM2
  have hB0 : Below w.heap.size w (((w.alloc (.cells #[.int .i64 W, .int .i64 H, .slice (some ⟨b, off, none⟩) (W * H) cap] 31)).alloc (.cells #[.int .i64 0, .int .i64 0, .slice none 0 0] 31)).alloc (.cells #[.int .i64 N, .int .i64 M, .slice none 0 0] 31)) := (((Below.refl _ _).alloc (Nat.le_refl _) _).alloc (by simp) _).alloc (by simp; omega) _
  have hBx : Boxed (((w.alloc (.cells #[.int .i64 W, .int .i64 H, .slice (some ⟨b, off, none⟩) (W * H) cap] 31)).alloc (.cells #[.int .i64 0, .int .i64 0, .slice none 0 0] 31)).alloc (.cells #[.int .i64 N, .int .i64 M, .slice none 0 0] 31)) w.heap.size b off cap W H := ⟨by simp; omega, by simp [go_sem], by simp [go_sem], by simp [go_sem]⟩
  have hst := Acc.start ((w.alloc (.cells #[.int .i64 W, .int .i64 H, .slice (some ⟨b, off, none⟩) (W * H) cap] 31)).alloc (.cells #[.int .i64 0, .int .i64 0, .slice none 0 0] 31)) (w.heap.size + 1 + 1) N M (by simp)
  have z0 : (((w.alloc (.cells #[.int .i64 W, .int .i64 H, .slice (some ⟨b, off, none⟩) (W * H) cap] 31)).alloc (.cells #[.int .i64 0, .int .i64 0, .slice none 0 0] 31)).alloc (.cells #[.int .i64 N, .int .i64 M, .slice none 0 0] 31)).cell? ⟨w.heap.size + 1, 0, none⟩ = some (.int .i64 0) := by simp [go_sem]
  have z1 : (((w.alloc (.cells #[.int .i64 W, .int .i64 H, .slice (some ⟨b, off, none⟩) (W * H) cap] 31)).alloc (.cells #[.int .i64 0, .int .i64 0, .slice none 0 0] 31)).alloc (.cells #[.int .i64 N, .int .i64 M, .slice none 0 0] 31)).cell? ⟨w.heap.size + 1, 1, none⟩ = some (.int .i64 0) := by simp [go_sem]
  have z2 : (((w.alloc (.cells #[.int .i64 W, .int .i64 H, .slice (some ⟨b, off, none⟩) (W * H) cap] 31)).alloc (.cells #[.int .i64 0, .int .i64 0, .slice none 0 0] 31)).alloc (.cells #[.int .i64 N, .int .i64 M, .slice none 0 0] 31)).cell? ⟨w.heap.size + 1, 2, none⟩ = some (.slice none 0 0) := by simp [go_sem]
  have y0 : ∀ o, (((w.alloc (.cells #[.int .i64 W, .int .i64 H, .slice (some ⟨b, off, none⟩) (W * H) cap] 31)).alloc (.cells #[.int .i64 0, .int .i64 0, .slice none 0 0] 31)).alloc (.cells #[.int .i64 N, .int .i64 M, .slice none 0 0] 31)).frozen? ⟨w.heap.size + 1, o, none⟩ = false := fun o => by simp [go_sem]
  go_enter Tryz.func125, Tryz.ntmps125
  go_wp2_with (go_at_call 82; refine (hsO _).mono ?_; rintro e w' ⟨rfl, rfl⟩)
  generalize hw0 : (((w.alloc (.cells #[.int .i64 W, .int .i64 H, .slice (some ⟨b, off, none⟩) (W * H) cap] 31)).alloc (.cells #[.int .i64 0, .int .i64 0, .slice none 0 0] 31)).alloc (.cells #[.int .i64 N, .int .i64 M, .slice none 0 0] 31)) = w0 at hB0 hBx hst z0 z1 z2 y0 ⊢
  clear hw0 hsO
  go_loopw [8] (fun i wr => ∃ (y : Nat) (v : Value), y ≤ M ∧ i = .int .i64 y ∧ Acc (w.heap.size + 1 + 1) w0 wr N M v (pix N (oneG 8 W H k ps) (y * N))) (fun i _ => M - (intOf i).toNat)
  case atStart => exact ⟨0, .slice none 0 0, Nat.zero_le _, rfl, by rw [Nat.zero_mul]; exact hst⟩
  case round =>
    obtain ⟨y, v, hy, rfl, hacc⟩ := hrel
    obtain ⟨q0, q1, q2, qf⟩ := hacc.cells
    by_cases hlt : y < M
    · go_wp2
      go_loopw [9] (fun i ws => ∃ (x : Nat) (v : Value), x ≤ N ∧ i = .int .i64 x ∧ Acc (w.heap.size + 1 + 1) w0 ws N M v (pix N (oneG 8 W H k ps) (y * N + x))) (fun i _ => N - (intOf i).toNat)
      case atStart => exact ⟨0, v, Nat.zero_le _, rfl, hacc⟩
      case round =>
        obtain ⟨x, v2, hx, rfl, hacs⟩ := hrel
        obtain ⟨c0, c1, c2, cf⟩ := hacs.cells
        by_cases hlx : x < N
        · have e1 := E1.out
          have e2 := E2.out
          have hsz := hacs.siz
          have hbW : Below w.heap.size w wr := hB0.trans (hacs.bel.mono (by omega))
          have hFr := hF.below hbW
          have hBr := hBx.belowN hacs.bel (by omega)
          obtain ⟨_, k0, k1, k2⟩ := id hBr
          have hpl : y * N + x < N * M := place_lt hlx hlt
          have hlen : (pix N (oneG 8 W H k ps) (y * N + x)).length = y * N + x := pix_length _ _ _
          obtain ⟨pv, hpv⟩ : ∃ pv, pv = px W ps x y := ⟨_, rfl⟩
          have hcall := at_any (cap := cap) hFr x y x y rfl rfl (by omega) (by omega)
          have hcall2 := fun w' hb' => at_any (cap := cap) (hFr.below (w' := w') hb') x y x y rfl rfl (by omega) (by omega)
          have hG8 : oneG 8 W H k ps x y = if k ≤ pv then pv else 0 := by rw [hpv]; rfl
          rw [← hpv] at hcall hcall2
          by_cases hkp : k ≤ pv
          · obtain ⟨gx, hgx⟩ : ∃ gx, gx = pv := ⟨_, rfl⟩
            have HG : Hid (gx = oneG 8 W H k ps x y) := by show gx = _; rw [hG8, if_pos hkp, hgx]
            subst hgx
            clear hG8 hpv e1 e2
            go_wp2_with (first | (go_at_call 152; with_reducible refine hcall.mono ?_; rintro e w2 ⟨rfl, hb2⟩; have hac2 := hacs.below hb2; obtain ⟨y0, y1, y2, yf⟩ := hac2.cells; have hsz2 := hac2.siz; obtain ⟨_, z0, z1, z2⟩ := hBr.below hb2) | (go_at_call 152; with_reducible refine (hcall2 _ hb2).mono ?_; rintro e w3 ⟨rfl, hb3⟩; have hac3 := hac2.below hb3; obtain ⟨x0, x1, x2, xf⟩ := hac3.cells; have hsz3 := hac3.siz) | (at_builtin; refine wpList_append_own _ rfl _ _ 25 rfl (w.heap.size + 1 + 1 + 1) 3 i0 (.int .i64 0) 1 8 Tryz.underlying25 hi hz0 hz1 hz2 rfl (by decide) _ _ _ rfl (World.ownsRow.alloc hac3.own _) ⟨w3.heap.size, 0, none⟩ 1 1 [.int .i64 gx] rfl rfl (cell_one_new _ _ _) (by intro u hu; simp at hu; subst hu; rfl) (by rw [hlen]; unfold maxLen; omega) (by rw [hlen]; omega) (by simp; omega) ?_; intro v' w9 hown9 hgrow9 _; obtain ⟨hm, m2, m3⟩ := hac3.mid hgrow9; obtain ⟨a', cap', hv'⟩ := owns_slice hown9; subst hv'))
            have R := hac3.push hgrow9 hown9
            rw [hlen] at R
            go_roundw
            case rel => exact ⟨x + 1, _, by omega, by go_num, by rw [← Nat.add_assoc, pix_succ N _ x y hlx, ← HG.out]; exact R⟩
            case measure => simp [intOf]; omega
          · obtain ⟨gx, hgx⟩ : ∃ gx : Int, gx = 0 := ⟨_, rfl⟩
            have HG : Hid (0 = oneG 8 W H k ps x y) := by show 0 = _; rw [hG8, if_neg hkp]
            clear hG8 hpv hgx gx e1 e2
            go_wp2_with (first | (go_at_call 152; with_reducible refine hcall.mono ?_; rintro e w2 ⟨rfl, hb2⟩; have hac2 := hacs.below hb2; obtain ⟨y0, y1, y2, yf⟩ := hac2.cells; have hsz2 := hac2.siz) | (at_builtin; refine wpList_append_own _ rfl _ _ 25 rfl (w.heap.size + 1 + 1 + 1) 3 i0 (.int .i64 0) 1 8 Tryz.underlying25 hi hz0 hz1 hz2 rfl (by decide) _ _ _ rfl (World.ownsRow.alloc hac2.own _) ⟨w2.heap.size, 0, none⟩ 1 1 [.int .i64 0] rfl rfl (cell_one_new _ _ _) (by intro u hu; simp at hu; subst hu; rfl) (by rw [hlen]; unfold maxLen; omega) (by rw [hlen]; omega) (by simp; omega) ?_; intro v' w9 hown9 hgrow9 _; obtain ⟨hm, m2, m3⟩ := hac2.mid hgrow9; obtain ⟨a', cap', hv'⟩ := owns_slice hown9; subst hv'))
            have R := hac2.push hgrow9 hown9
            rw [hlen] at R
            go_roundw
            case rel => exact ⟨x + 1, _, by omega, by go_num, by rw [← Nat.add_assoc, pix_succ N _ x y hlx, ← HG.out]; exact R⟩
            case measure => simp [intOf]; omega
        · have hxW : x = N := by omega
          subst hxW
          go_wp2
          go_roundw
          case rel => exact ⟨y + 1, v2, by omega, by go_num, by rw [Nat.add_mul, Nat.one_mul]; exact hacs⟩
          case measure => simp [intOf]; omega
    · have hyH : y = M := by omega
      subst hyH
      have hlen : (pix N (oneG 8 W H k ps) (y * N)).length = y * N := pix_length _ _ _
      obtain ⟨a, cap', rfl, hints⟩ := hacc.ints (by rw [hlen, Nat.mul_comm]; omega)
      have hsz := hacc.siz
      have d0 : wr.cell? ⟨w.heap.size + 1, 0, none⟩ = some (.int .i64 0) := (hacc.bel.cell (by simp)).trans z0
      have d1 : wr.cell? ⟨w.heap.size + 1, 1, none⟩ = some (.int .i64 0) := (hacc.bel.cell (by simp)).trans z1
      have d2 : wr.cell? ⟨w.heap.size + 1, 2, none⟩ = some (.slice none 0 0) := (hacc.bel.cell (by simp)).trans z2
      have f0 : wr.frozen? ⟨w.heap.size + 1, 0, none⟩ = false := (hacc.bel.frozen (by simp)).trans (y0 0)
      have f1 : wr.frozen? ⟨w.heap.size + 1, 1, none⟩ = false := (hacc.bel.frozen (by simp)).trans (y0 1)
      have f2 : wr.frozen? ⟨w.heap.size + 1, 2, none⟩ = false := (hacc.bel.frozen (by simp)).trans (y0 2)
      go_wp2
      rw [hlen, Nat.mul_comm] at hints
      refine bodyPost_ret (v := .agg #[.int .i64 N, .int .i64 y, .slice a (N * y) cap']) (by simp [results, Tryz.results125, go_sem, d0, d1, d2]; exact Nat.mul_comm _ _) rfl ⟨a, cap', rfl, ?_, ?_⟩
      · exact (((hints.setCell (by simp) _).setCell (by simp) _).setCell (by simp) _).mono (by omega)
      · exact (((hB0.trans (hacc.bel.mono (by omega))).setCell (by simp) _).setCell (by simp) _).setCell (by simp) _
end Go.Proofs.YtihliofhhjjeaaaGreat
