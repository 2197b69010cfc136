/-
  DRAW: image.draw makes the image that a function of places tells.
-/
import Derived.Test.YtfpkiimlaepnhaaSame
namespace Go.Proofs.Ytfpkiimlaepnhaa
set_option maxRecDepth 100000
open Go.RowKit Im

/-- The slice value v is nil or the head of a row of the call's own, from block 'base' on, whose numbers are qs. -/
def Owns (base : Nat) (w : World) (v : Value) (qs : List Int) : Prop := w.ownsRow base 3 1 v qs.length (qs.map (Value.int .i64))

theorem Owns.ints {base : Nat} {w : World} {v : Value} {qs : List Int} (h : Owns base w v qs) (hb : qs.length ≤ 9223372036854775807) : ∃ a cap, v = .slice a qs.length cap ∧ Ints base w a qs.length qs := by
  obtain ⟨h1, h2⟩ := h
  rcases h2 with ⟨rfl, h0⟩ | ⟨g, cap, cur, rfl, hg, hh, hc, hm, hs, ht⟩
  · have : qs = [] := by simpa using h0
    subst this
    exact ⟨none, 0, rfl, rfl, by simp, .inl rfl⟩
  · refine ⟨_, cap, rfl, rfl, hb, .inr ⟨g, 0, rfl, hg, ?_, fun j hj => ?_⟩⟩
    · rcases Nat.lt_or_ge g w.heap.size with h | h
      · exact h
      · rw [Array.getElem?_eq_none h] at hh; cases hh
    · have := World.ownsRow.cellAt (base := base) (e := 3) (size := 1) ⟨h1, .inr ⟨g, cap, cur, rfl, hg, hh, hc, hm, hs, ht⟩⟩ j (by simpa using hj)
      rw [Nat.zero_add, this]
      simp [hj]

theorem Owns.push {base : Nat} {w wx w1 : World} {v v' : Value} {qs : List Int} {x : Int} {B0 : World} {o : Obj} (h : Owns base w v qs) (hb : Below base B0 w) (hB : base ≤ w.heap.size)
    (h' : w1.ownsRow base 3 1 v' (qs.length + 1) (qs.map (Value.int .i64) ++ [.int .i64 x])) (hx : wx = w.alloc o) (hg : wx.grownBy w1 v.ownBlock) : Owns base w1 v' (qs ++ [x]) ∧ Below base B0 w1 := by
  subst hx
  refine ⟨by unfold Owns; simpa using h', ?_⟩
  exact (hb.alloc hB o).grown hg (by simp; omega) (fun j hj => (World.ownsRow.lt (w := w) h j hj).1)
theorem Owns.below {base B : Nat} {w w' : World} {v : Value} {qs : List Int} (h : Owns base w v qs) (hb : Below B w w') (hB : w.heap.size ≤ B) : Owns base w' v qs := by
  obtain ⟨h1, h2⟩ := h
  refine ⟨h1, ?_⟩
  rcases h2 with h2 | ⟨g, cap, cur, hv, hg, hh, r⟩
  · exact .inl h2
  · refine .inr ⟨g, cap, cur, hv, hg, ?_, r⟩
    rw [hb.block g ?_]
    · exact hh
    · rcases Nat.lt_or_ge g w.heap.size with h | h
      · omega
      · rw [Array.getElem?_eq_none h] at hh; cases hh

/-- A function value tells, of column x and row y of W columns and H rows, the number g x y: in every world that has all that w has. -/
structure Tells (w : World) (n : Nat) (caps : Array Value) (W H : Nat) (g : Nat → Nat → Int) : Prop where
  enters : ∀ args w, (callFunc n args).run Try.prog w = .ok (.enter n args) w
  tells : ∀ (x y : Nat) (w1 : World), x < W → y < H → Below w.heap.size w w1 → Calls Try.prog n (#[.int .i64 x, .int .i64 y] ++ caps) w1 fun e w2 => e = .returned (.int .i64 (g x y)) ∧ Below w1.heap.size w1 w2

set_option maxHeartbeats 1000000 in
theorem draw_any (W H : Nat) (n : Nat) (caps : Array Value) (g : Nat → Nat → Int) (w : World) (hW : 1 ≤ W ∧ W ≤ 16) (hH : 1 ≤ H ∧ H ≤ 16) (hf : Tells w n caps W H g) :
    Calls Try.prog 58 #[.int .i64 W, .int .i64 H, .func (.func n) #[] caps] w fun e w' =>
      ∃ a cap, e = .returned (.agg #[.int .i64 W, .int .i64 H, .slice a (W * H) cap]) ∧ Ints w.heap.size w' a (W * H) (pix W g (W * H)) ∧ Below w.heap.size w w' := by
  obtain ⟨i0, hi, hz0, hz1, hz2⟩ := info_parts Try.info3
  have hWH : 1 ≤ (W : Int) * H ∧ (W : Int) * H ≤ 256 := side_mul (by simp [sideB]; omega) (by simp [sideB]; omega)
  have hWN : W * H ≤ 256 := by have := hWH.2; rw [← Int.natCast_mul] at this; omega
  obtain ⟨k1, k2⟩ := hWH
  have hent := hf.enters
  go_enter Try.func58, Try.ntmps58
  go_wp2_with (at_make; refine wpList_make_own _ rfl _ _ 22 rfl (w.heap.size + 1) 3 i0 (.int .i64 0) 1 Try.underlying22 hi hz0 hz1 .i64 .i64 _ (W * H) rfl rfl (by simp) (by rw [hz2]; omega) (by unfold maxLen; omega) (by simp) ?_; intro w1 hown hgrow)
  have hb1 : Below (w.heap.size + 1) (w.alloc (.cells #[.int .i64 0, .int .i64 0, .slice none 0 0] 24)) w1 := (Below.refl _ _).grown hgrow (by simp) (by simp)
  go_loopw [7, 15] (fun v i wr => ∃ y : Nat, y ≤ H ∧ i = .int .i64 y ∧ Owns (w.heap.size + 1) wr v (pix W g (y * W)) ∧ Below (w.heap.size + 1) (w.alloc (.cells #[.int .i64 0, .int .i64 0, .slice none 0 0] 24)) wr) (fun _ i _ => H - (intOf i).toNat)
  case atStart => exact ⟨0, Nat.zero_le _, rfl, by rw [Nat.zero_mul]; simpa [Owns, pix] using hown, hb1⟩
  case round =>
    obtain ⟨y, hy, rfl, hownr, hbr⟩ := hrel
    by_cases hlt : y < H
    · go_wp2
      go_loopw [7, 19] (fun v i ws => ∃ x : Nat, x ≤ W ∧ i = .int .i64 x ∧ Owns (w.heap.size + 1) ws v (pix W g (y * W + x)) ∧ Below (w.heap.size + 1) (w.alloc (.cells #[.int .i64 0, .int .i64 0, .slice none 0 0] 24)) ws) (fun _ i _ => W - (intOf i).toNat)
      case atStart => exact ⟨0, Nat.zero_le _, rfl, hownr, hbr⟩
      case round =>
        obtain ⟨x, hx, rfl, howns, hbs⟩ := hrel
        by_cases hlx : x < W
        · have hsz : w.heap.size + 1 ≤ wr.heap.size := by have := hbs.size; simpa using this
          have hbw : Below w.heap.size w wr := ((Below.refl _ _).alloc (Nat.le_refl _) _).trans (hbs.mono (by omega))
          have hpl : y * W + x < W * H := place_lt hlx hlt
          have hlen : (pix W g (y * W + x)).length = y * W + x := pix_length _ _ _
          go_wp2_with (first
            | (refine (hf.tells x y _ hlx hlt hbw).mono ?_; rintro e w2 ⟨rfl, hb2⟩; have hown2 := howns.below hb2 (Nat.le_refl _))
            | (at_builtin; refine wpList_append_own _ rfl _ _ 22 rfl (w.heap.size + 1) 3 i0 (.int .i64 0) 1 8 Try.underlying22 hi hz0 hz1 hz2 rfl (by decide) _ _ _ rfl (World.ownsRow.alloc hown2 _) ⟨w2.heap.size, 0, none⟩ 1 1 [.int .i64 (g x y)] rfl rfl (cell_one_new _ _ _) (by intro u hu; simp at hu; subst hu; rfl) (by rw [hlen]; unfold maxLen; omega) (by rw [hlen]; omega) (by have := hb2.size; simp; omega) ?_; intro v' w3 hown3 hgrow3 _))
          have R := Owns.push hown2 (hbs.trans (hb2.mono hsz)) (by have := hb2.size; omega) hown3 rfl hgrow3
          go_roundw
          case rel => exact ⟨x + 1, by omega, by go_num, by rw [← Nat.add_assoc, pix_succ W g x y hlx]; exact R.1, R.2⟩
          case measure => simp [intOf]; omega
        · have hxW : x = W := by omega
          subst hxW
          go_wp2
          go_roundw
          case rel => exact ⟨y + 1, by omega, by go_num, by rw [Nat.add_mul, Nat.one_mul]; exact howns, hbs⟩
          case measure => simp [intOf]; omega
    · have hyH : y = H := by omega
      subst hyH
      have hlen : (pix W g (y * W)).length = y * W := pix_length _ _ _
      obtain ⟨a, cap, hv, hints⟩ := hownr.ints (by rw [hlen, Nat.mul_comm]; omega)
      have c0 : wr.cell? ⟨w.heap.size, 0, none⟩ = some (.int .i64 0) := by rw [hbr.cell (by simp)]; simp [go_sem]
      have c1 : wr.cell? ⟨w.heap.size, 1, none⟩ = some (.int .i64 0) := by rw [hbr.cell (by simp)]; simp [go_sem]
      have c2 : wr.cell? ⟨w.heap.size, 2, none⟩ = some (.slice none 0 0) := by rw [hbr.cell (by simp)]; simp [go_sem]
      have f0 : wr.frozen? ⟨w.heap.size, 0, none⟩ = false := by rw [hbr.frozen (by simp)]; simp [go_sem]
      have f1 : wr.frozen? ⟨w.heap.size, 1, none⟩ = false := by rw [hbr.frozen (by simp)]; simp [go_sem]
      have f2 : wr.frozen? ⟨w.heap.size, 2, none⟩ = false := by rw [hbr.frozen (by simp)]; simp [go_sem]
      rw [hv]
      go_wp2
      rw [hlen, Nat.mul_comm] at hints
      refine bodyPost_ret (v := .agg #[.int .i64 W, .int .i64 y, .slice a (W * y) cap]) (by simp [results, Try.results58, go_sem, c0, c1, c2]; exact Nat.mul_comm _ _) rfl ⟨a, cap, rfl, ?_, ?_⟩
      · exact (((hints.setCell (by simp) _).setCell (by simp) _).setCell (by simp) _).mono (by omega)
      · exact (((((Below.refl _ _).alloc (Nat.le_refl _) _).trans (hbr.mono (by omega))).setCell (by simp) _).setCell (by simp) _).setCell (by simp) _
end Go.Proofs.Ytfpkiimlaepnhaa
