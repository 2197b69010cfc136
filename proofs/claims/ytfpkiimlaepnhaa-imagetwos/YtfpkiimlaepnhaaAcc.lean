/-
  ACC: an image that is built up in a variable ('out.P = append(out.P, n)'), step by step.
-/
import Derived.Test.YtfpkiimlaepnhaaDraw
namespace Go.Proofs.Ytfpkiimlaepnhaa
set_option maxRecDepth 100000
open Go.RowKit Im

/-- The image of W columns and H rows that lies in block c has the numbers qs so far, in the slice v, a row of the call's own behind c; what lay ahead of c is as in w0. -/
structure Acc (c : Nat) (w0 wr : World) (W H : Int) (v : Value) (qs : List Int) : Prop where
  own : Owns (c + 1) wr v qs
  blk : wr.heap[c]? = some (.cells #[.int .i64 W, .int .i64 H, v] 24 (0, 0))
  bel : Below c w0 wr
  siz : c < wr.heap.size

theorem owns_slice {base e size n : Nat} {w : World} {v : Value} {xs : List Value} (h : w.ownsRow base e size v n xs) : ∃ a cap, v = .slice a n cap := by
  rcases h.2 with ⟨rfl, rfl⟩ | ⟨g, cap, cur, rfl, _⟩
  · exact ⟨none, 0, rfl⟩
  · exact ⟨_, cap, rfl⟩
theorem Acc.start (w1 : World) (c : Nat) (W H : Int) (hc : c = w1.heap.size) : Acc c (w1.alloc (.cells #[.int .i64 W, .int .i64 H, .slice none 0 0] 24)) (w1.alloc (.cells #[.int .i64 W, .int .i64 H, .slice none 0 0] 24)) W H (.slice none 0 0) [] := by
  subst hc
  refine ⟨World.ownsRow_nil _ _ _ _, ?_, Below.refl _ _, by simp⟩
  show (w1.heap.push _)[w1.heap.size]? = _
  simp
theorem Acc.ints {c : Nat} {w0 wr : World} {W H : Int} {v : Value} {qs : List Int} (h : Acc c w0 wr W H v qs) (hb : qs.length ≤ 9223372036854775807) : ∃ a cap, v = .slice a qs.length cap ∧ Ints (c + 1) wr a qs.length qs := h.own.ints hb
theorem Acc.cells {c : Nat} {w0 wr : World} {W H : Int} {v : Value} {qs : List Int} (h : Acc c w0 wr W H v qs) :
    wr.cell? ⟨c, 0, none⟩ = some (.int .i64 W) ∧ wr.cell? ⟨c, 1, none⟩ = some (.int .i64 H) ∧ wr.cell? ⟨c, 2, none⟩ = some v ∧ (∀ o, wr.frozen? ⟨c, o, none⟩ = false) := by
  refine ⟨?_, ?_, ?_, fun o => ?_⟩
  all_goals simp [World.cell?, World.frozen?, h.blk]
theorem Acc.below {c : Nat} {w0 wr w2 : World} {W H : Int} {v : Value} {qs : List Int} (h : Acc c w0 wr W H v qs) (hb : Below wr.heap.size wr w2) : Acc c w0 w2 W H v qs :=
  ⟨h.own.below hb (Nat.le_refl _), (hb.block c h.siz).trans h.blk, h.bel.trans (hb.mono (Nat.le_of_lt h.siz)), Nat.lt_of_lt_of_le h.siz hb.size⟩
theorem Acc.mid {c : Nat} {w0 w2 w3 : World} {W H : Int} {v : Value} {qs : List Int} {o : Obj} (h : Acc c w0 w2 W H v qs) (hg : (w2.alloc o).grownBy w3 v.ownBlock) :
    w3.heap[c]? = some (.cells #[.int .i64 W, .int .i64 H, v] 24 (0, 0)) ∧ w3.cell? ⟨c, 2, none⟩ = some v ∧ w3.frozen? ⟨c, 2, none⟩ = false := by
  have e : w3.heap[c]? = some (.cells #[.int .i64 W, .int .i64 H, v] 24 (0, 0)) := by
    rw [hg.block c (by have := h.siz; simp; omega) (fun e => by have := (World.ownsRow.lt (w := w2) h.own c e.symm).1; omega), Below.heap_alloc _ _ _ h.siz, h.blk]
  refine ⟨e, ?_, ?_⟩
  all_goals simp [World.cell?, World.frozen?, e]
theorem Acc.push {c : Nat} {w0 w2 w3 : World} {W H : Int} {v v' : Value} {qs : List Int} {x : Int} {o : Obj} (h : Acc c w0 w2 W H v qs) (hg : (w2.alloc o).grownBy w3 v.ownBlock)
    (h' : w3.ownsRow (c + 1) 3 1 v' (qs.length + 1) (qs.map (Value.int .i64) ++ [.int .i64 x])) : Acc c w0 (w3.setCell ⟨c, 2, none⟩ v') W H v' (qs ++ [x]) := by
  have hs : c < w3.heap.size := by have h1 := h.siz; have h2 := hg.size; simp at h2; omega
  refine ⟨?_, ?_, ?_, by simpa [World.setCell] using hs⟩
  · exact ownsRow_setCell_below (show w3.ownsRow (c + 1) 3 1 v' (qs ++ [x]).length ((qs ++ [x]).map (Value.int .i64)) by simpa using h') (by simp) _
  · simp [World.setCell, Array.getElem?_modify, (h.mid hg).1]
  · exact (((h.bel.alloc (Nat.le_of_lt h.siz) o).grown hg (by have := h.siz; simp; omega) (fun k hk => by have := (World.ownsRow.lt (w := w2) h.own k hk).1; omega))).setCell (Nat.le_refl _) _
end Go.Proofs.Ytfpkiimlaepnhaa
