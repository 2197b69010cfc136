/-
  PAN: the row of numbers that light.Lit fills, place by place; what one place gets.
-/
import Derived.Test.YtfpkiimlaepnhaaNear
import Derived.Test.YtfpkiimlaepnhaaTile
import Derived.Test.YtfpkiimlaepnhaaRule
namespace Go.Proofs.Ytfpkiimlaepnhaa
set_option maxRecDepth 100000
open Go.RowKit Im

/-- Behind all that lay in wB: a row of L numbers, q of them, and the box of the slice that tells it. -/
structure Pan (wB w' : World) (L pb : Nat) (q : Nat → Int) : Prop where
  bel : Below wB.heap.size wB w'
  lo : wB.heap.size < pb
  siz : pb < w'.heap.size
  row : ∃ arr : Array Value, w'.heap[wB.heap.size]? = some (.cells arr 3 (0, 0)) ∧ arr.size = L ∧ ∀ j, j < L → arr[j]? = some (.int .i64 (q j))
  box : w'.cell? ⟨pb, 0, none⟩ = some (.slice (some ⟨wB.heap.size, 0, none⟩) L L)
theorem Pan.below {wB w' w2 : World} {L pb : Nat} {q : Nat → Int} (h : Pan wB w' L pb q) (hb : Below w'.heap.size w' w2) : Pan wB w2 L pb q := by
  have hs := h.siz
  have hlo := h.lo
  obtain ⟨arr, h1, h2, h3⟩ := h.row
  refine ⟨h.bel.trans (hb.mono (by omega)), hlo, Nat.lt_of_lt_of_le hs hb.size, ⟨arr, ?_, h2, h3⟩, (hb.cell (p := ⟨pb, 0, none⟩) hs).trans h.box⟩
  rw [hb.block _ (by omega)]; exact h1
theorem Pan.cell {wB w' : World} {L pb : Nat} {q : Nat → Int} (h : Pan wB w' L pb q) (j : Nat) (hj : j < L) : w'.cell? ⟨wB.heap.size, j, none⟩ = some (.int .i64 (q j)) ∧ w'.frozen? ⟨wB.heap.size, j, none⟩ = false := by
  obtain ⟨arr, h1, h2, h3⟩ := h.row
  unfold World.cell? World.frozen?
  rw [h1]
  simp [h3 j hj]
theorem Pan.store {wB w' : World} {L pb : Nat} {q : Nat → Int} (h : Pan wB w' L pb q) (j : Nat) (v : Int) (hj : j < L) : Pan wB (w'.setCell ⟨wB.heap.size, j, none⟩ (.int .i64 v)) L pb (fun i => if i = j then v else q i) := by
  obtain ⟨arr, h1, h2, h3⟩ := h.row
  have hlo := h.lo
  refine ⟨h.bel.setCell (Nat.le_refl _) _, hlo, by simpa [World.setCell] using h.siz, ⟨arr.setIfInBounds j (.int .i64 v), ?_, by simpa using h2, fun i hi => ?_⟩, ?_⟩
  · simp [World.setCell, Array.getElem?_modify, h1]
  · rw [Array.getElem?_setIfInBounds]
    by_cases e : j = i
    · subst e; simp [h2, hj]
    · rw [if_neg e, if_neg (fun h => e h.symm)]; exact h3 i hi
  · rw [World.cell?_of_block (w := w') (Below.heap_setCell w' _ _ _ (by show pb ≠ wB.heap.size; omega))]; exact h.box
/-- Of the places in D the numbers are those of G. -/
def Done (wB : World) (L pb : Nat) (G : Nat → Int) (D : Nat → Prop) (w' : World) : Prop := ∃ q, Pan wB w' L pb q ∧ ∀ i, i < L → D i → q i = G i

/-- What the lights of a list of numbers give to a place. -/
def sumN (x y : Int) (ls : List Lt) : List Int → Int
  | [] => 0
  | i :: r => givenP (ls.getD i.toNat Lt.zero) x y + sumN x y ls r
theorem sumN_snoc (x y : Int) (ls : List Lt) (i : Int) : ∀ l, sumN x y ls (l ++ [i]) = sumN x y ls l + givenP (ls.getD i.toNat Lt.zero) x y
  | [] => by simp [sumN]
  | m :: r => by simp [sumN, sumN_snoc x y ls i r, Int.add_assoc]
theorem sumN_pick (x y : Int) (f : Lt → Bool) (ls : List Lt) : ∀ n, n ≤ ls.length → (∀ k, k < n → f (ls.getD k Lt.zero) = false → givenP (ls.getD k Lt.zero) x y = 0) → sumN x y ls (pickL f ls n) = sumG x y (ls.take n)
  | 0, _, _ => by simp [pickL, sumN, sumG]
  | n + 1, hn, h => by
    have ih := sumN_pick x y f ls n (by omega) (fun k hk => h k (by omega))
    rw [take_snocL ls n (by omega), sumG_snoc]
    cases hf : f (ls.getD n Lt.zero) with
    | true => rw [pickL_yes f ls n hf, sumN_snoc, ih]; simp
    | false => rw [pickL_no f ls n hf, ih, h n (by omega) hf, Int.add_zero]
theorem pickL_get (f : Lt → Bool) (ls : List Lt) (n t : Nat) (ht : t < (pickL f ls n).length) : ∃ m : Nat, m < n ∧ (pickL f ls n).getD t 0 = m := by
  have hm : (pickL f ls n).getD t 0 ∈ pickL f ls n := by
    rw [List.getD_eq_getElem?_getD, List.getElem?_eq_getElem ht]; exact List.getElem_mem ht
  unfold pickL at hm
  simp only [List.mem_map, List.mem_filter, List.mem_range] at hm
  obtain ⟨m, ⟨h1, _⟩, h2⟩ := hm
  exact ⟨m, h1, h2.symm⟩
/-- Who is not near a part gives its places nothing. -/
theorem not_near {l : Lt} (x0 y0 : Int) (pw ph : Nat) (x y : Nat) (hx : x < pw) (hy : y < ph) (h : nearB x0 y0 pw ph l = false) : givenP l (x0 + x) (y0 + y) = 0 := by
  unfold nearB at h
  simp only [decide_eq_false_iff_not] at h
  refine given_zero rfl (fun hd => h ?_)
  have h1 : awayP l.X x0 pw ≤ awayP l.X (x0 + x) 1 := by unfold awayP; omega
  have h2 : awayP l.Y y0 ph ≤ awayP l.Y (y0 + y) 1 := by unfold awayP; omega
  omega
end Go.Proofs.Ytfpkiimlaepnhaa
