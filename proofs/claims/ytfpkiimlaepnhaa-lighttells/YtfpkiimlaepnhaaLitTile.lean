/-
  LITTILE: what light.Lit does in one tile.
-/
import Derived.Test.YtfpkiimlaepnhaaLitIn
namespace Go.Proofs.Ytfpkiimlaepnhaa
set_option maxRecDepth 100000
open Go.RowKit Im

/-- The number of the place i. -/
def litI (W : Nat) (ps : List Int) (ls : List Lt) (i : Nat) : Int := litG W ps ls (i % W) (i / W)
theorem Done.mono {wB : World} {L pb : Nat} {G : Nat → Int} {A B : Nat → Prop} {w' : World} (h : Done wB L pb G A w') (hs : ∀ i, B i → A i) : Done wB L pb G B w' := by
  obtain ⟨q, hp, hq⟩ := h
  exact ⟨q, hp, fun i hi hb => hq i hi (hs i hb)⟩
theorem Done.below {wB : World} {L pb : Nat} {G : Nat → Int} {A : Nat → Prop} {w' w2 : World} (h : Done wB L pb G A w') (hb : Below w'.heap.size w' w2) : Done wB L pb G A w2 := by
  obtain ⟨q, hp, hq⟩ := h
  exact ⟨q, hp.below hb, hq⟩
/-- While a tile is worked: the list of its lights lies in the box nb. -/
def InTile (wB : World) (L pb : Nat) (G : Nat → Int) (nb : Nat) (na : Option Addr) (ncap : Nat) (near : List Int) (D : Nat → Prop) (w' : World) : Prop :=
  Done wB L pb G D w' ∧ w'.cell? ⟨nb, 0, none⟩ = some (.slice na near.length ncap) ∧ Ints (wB.heap.size + 1) w' na near.length near ∧ wB.heap.size < nb ∧ nb < w'.heap.size

theorem litTile_does {wB : World} {ab lb nb pb b off cap W H : Nat} {ps : List Int} {la : Option Addr} {llen lcap : Nat} {ls : List Lt} (hS : Scene wB ab lb b off cap W H ps la llen lcap ls) (x0 y0 pw ph : Nat) (hx : x0 + pw ≤ W) (hy : y0 + ph ≤ H) (na : Option Addr) (ncap : Nat) :
    DoesP 82 #[.pointer (some ⟨ab, 0, none⟩), .pointer (some ⟨nb, 0, none⟩), .pointer (some ⟨lb, 0, none⟩), .pointer (some ⟨pb, 0, none⟩)] (InTile wB (W * H) pb (litI W ps ls) nb na ncap (pickL (nearB x0 y0 pw ph) ls llen)) W x0 y0 pw ph := by
  refine ⟨lit11_enters, fun x y D w1 h1 h2 h3 h4 hI => ?_⟩
  obtain ⟨⟨q, hp, hq⟩, hnc, hni, hcn, hnl⟩ := hI
  have hl := hS.lights.leng
  have hxW : x < W := by omega
  have hyH : y < H := by omega
  have hsum : sumN x y ls (pickL (nearB x0 y0 pw ph) ls llen) = sumG x y ls := by
    rw [sumN_pick x y (nearB x0 y0 pw ph) ls llen (by omega) (fun k _ hk => ?_), List.take_of_length_le (by omega)]
    have := not_near (l := ls.getD k Lt.zero) x0 y0 pw ph (x - x0) (y - y0) (by omega) (by omega) hk
    rw [show ((x0 : Int) + ((x - x0 : Nat) : Int)) = x by omega, show ((y0 : Int) + ((y - y0 : Nat) : Int)) = y by omega] at this
    exact this
  have hg : ∀ t, t < (pickL (nearB x0 y0 pw ph) ls llen).length → ∃ m : Nat, m < ls.length ∧ (pickL (nearB x0 y0 pw ph) ls llen).getD t 0 = m := fun t ht => by
    obtain ⟨m, hm, e⟩ := pickL_get (nearB x0 y0 pw ph) ls llen t ht
    exact ⟨m, by omega, e⟩
  have hn8 : (pickL (nearB x0 y0 pw ph) ls llen).length ≤ 8 := by have := pickL_len (nearB x0 y0 pw ph) ls llen; have := hS.h8; omega
  refine (litPlace hS hp hnc (hni.mono (Nat.zero_le _)) hg x y hxW hyH hsum hn8).mono fun e w2 ⟨he, w3, hb3, hw2⟩ => ⟨he, ?_⟩
  subst hw2
  have hpl := place_lt hxW hyH
  have e1 : (y * W + x) % W = x := by rw [Nat.mul_comm, Nat.mul_add_mod]; exact Nat.mod_eq_of_lt hxW
  have e2 : (y * W + x) / W = y := by rw [Nat.mul_comm, Nat.mul_add_div (by omega), Nat.div_eq_of_lt hxW]; rfl
  refine ⟨⟨_, (hp.below hb3).store (y * W + x) _ hpl, fun i hi hD => ?_⟩, ?_, ?_, hcn, ?_⟩
  · by_cases hi' : i = y * W + x
    · subst hi'
      rw [if_pos rfl]
      unfold litI
      rw [e1, e2]
    · rw [if_neg hi']
      rcases hD with hD | hD
      · exact hq i hi hD
      · exfalso
        apply hi'
        have := Nat.div_add_mod i W
        rw [hD.1, hD.2, Nat.mul_comm] at this
        exact this.symm
  · rw [World.cell?_of_block (w := w3) (Below.heap_setCell w3 _ _ _ (by show nb ≠ _; simp; omega))]
    exact (hb3.cell (p := ⟨nb, 0, none⟩) hnl).trans hnc
  · exact (hni.below (Nat.le_refl _) hb3).setCell (by simp) _
  · have := hb3.size
    simp [World.setCell]; omega

set_option maxHeartbeats 1000000 in
/-- light.Lit's function of a tile. -/
theorem litTile_any {wB w1 : World} {ab lb pb b off cap W H : Nat} {ps : List Int} {la : Option Addr} {llen lcap : Nat} {ls : List Lt} (hS : Scene wB ab lb b off cap W H ps la llen lcap ls) (x y pw ph : Nat) (D : Nat → Prop) (h1 : 1 ≤ pw) (h2 : x + pw ≤ W) (h3 : 1 ≤ ph) (h4 : y + ph ≤ H) (hD : Done wB (W * H) pb (litI W ps ls) D w1) :
    Calls Try.prog 80 #[.int .i64 x, .int .i64 y, .int .i64 pw, .int .i64 ph, .pointer (some ⟨lb, 0, none⟩), .pointer (some ⟨ab, 0, none⟩), .pointer (some ⟨pb, 0, none⟩)] w1 fun e w2 =>
      e = .returned (.tuple #[]) ∧ Done wB (W * H) pb (litI W ps ls) (fun i => D i ∨ (y ≤ i / W ∧ i / W < y + ph ∧ x ≤ i % W ∧ i % W < x + pw)) w2 := by
  obtain ⟨q, hp, hq⟩ := id hD
  have hS1 := hS.below hp.bel
  have hlc := hS1.lc
  have hsiz := hp.siz
  have hlo := hp.lo
  obtain ⟨hw1, hw2⟩ := hS.fine.hW
  obtain ⟨hh1, hh2⟩ := hS.fine.hH
  have hnear := near_ok lcap x y pw ph hS1.lights hS.h8 hS.hr ((stretch_iff _ _).2 (by omega)) ((stretch_iff _ _).2 (by omega))
  have hd := fun nb na ncap => litTile_does (nb := nb) (pb := pb) hS x y pw ph h2 h4 na ncap
  generalize pickL (nearB x y pw ph) ls llen = near at hnear hd
  clear hp hq
  go_enter Try.func80, Try.ntmps80
  go_wp2_with fail
  refine hnear.mono ?_
  rintro e wA ⟨na, ncap, rfl, hni, hbA⟩
  have hsA := hbA.size
  have hI : InTile wB (W * H) pb (litI W ps ls) wA.heap.size na ncap near D (wA.alloc (.cells #[.slice na near.length ncap] 22)) :=
    ⟨(hD.below hbA).below ((Below.refl _ _).alloc (Nat.le_refl _) _), by simp [go_sem], (hni.below (Nat.le_refl _) ((Below.refl _ _).alloc (Nat.le_refl _) _)).mono (by omega), by omega, by simp⟩
  have hep := eachPlace_any _ _ _ W x y pw ph D _ (by omega) (fun A B v hs h => ⟨h.1.mono hs, h.2⟩) (hd wA.heap.size na ncap) hI
  clear hnear hd hI
  go_wp2_with fail
  refine hep.mono ?_
  rintro e wC ⟨rfl, hIC⟩
  go_wp2
  go_end0
  exact ⟨rfl, hIC.1⟩
end Go.Proofs.Ytfpkiimlaepnhaa
