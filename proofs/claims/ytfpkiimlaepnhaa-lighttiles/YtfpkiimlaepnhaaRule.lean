/-
  RULE: the functions of places of image.One.
-/
import Derived.Test.YtfpkiimlaepnhaaMean
namespace Go.Proofs.Ytfpkiimlaepnhaa
set_option maxRecDepth 100000
open Go.RowKit Im

/-- A right image of W columns and H rows, its numbers ps from the offset off of block b on. -/
structure Fine (w : World) (b off : Nat) (W H : Nat) (ps : List Int) : Prop where
  hW : 1 ≤ W ∧ W ≤ 16
  hH : 1 ≤ H ∧ H ≤ 16
  hb : b < w.heap.size
  len : ps.length = W * H
  cell : ∀ j, j < W * H → w.cell? ⟨b, off + j, none⟩ = some (.int .i64 (ps.getD j 0))
  num : ∀ n ∈ ps, 0 ≤ n ∧ n ≤ 65535

theorem Fine.below {w w' : World} {b off W H : Nat} {ps : List Int} (h : Fine w b off W H ps) (hb : Below w.heap.size w w') : Fine w' b off W H ps :=
  ⟨h.hW, h.hH, Nat.lt_of_lt_of_le h.hb hb.size, h.len, fun j hj => (hb.cell (p := ⟨b, off + j, none⟩) h.hb).trans (h.cell j hj), h.num⟩
theorem Fine.small {w : World} {b off W H : Nat} {ps : List Int} (h : Fine w b off W H ps) : 1 ≤ W * H ∧ W * H ≤ 256 := by
  have := side_mul (W := (W : Int)) (H := (H : Int)) (by have := h.hW; simp [sideB]; omega) (by have := h.hH; simp [sideB]; omega)
  rw [← Int.natCast_mul] at this
  omega
theorem Fine.px_bd {w : World} {b off W H : Nat} {ps : List Int} (h : Fine w b off W H ps) (x y : Nat) (hx : x < W) (hy : y < H) : 0 ≤ px W ps x y ∧ px W ps x y ≤ 65535 := by
  have hl : y * W + x < ps.length := by rw [h.len]; exact place_lt hx hy
  unfold px
  rw [List.getD_eq_getElem?_getD, List.getElem?_eq_getElem hl]
  exact h.num _ (List.getElem_mem hl)
theorem Fine.ints {w : World} {b off W H : Nat} {ps : List Int} (h : Fine w b off W H ps) : Ints 0 w (some ⟨b, off, none⟩) (W * H) ps :=
  ⟨h.len, by have := h.small; omega, .inr ⟨b, off, rfl, Nat.zero_le _, h.hb, h.cell⟩⟩
theorem Fine.fineB {w : World} {b off W H : Nat} {ps : List Int} (h : Fine w b off W H ps) : fineB W H ps = true := by
  rw [fine_iff]
  exact ⟨by have := h.hW; omega, by have := h.hH; omega, by rw [h.len, Int.natCast_mul], h.num⟩
theorem fine_of {w : World} {a : Option Addr} {len : Nat} {W H : Int} {ps : List Int} (h : Ints 0 w a len ps) (hf : fineB W H ps = true) :
    ∃ (W' H' b off : Nat), W = W' ∧ H = H' ∧ a = some ⟨b, off, none⟩ ∧ len = W' * H' ∧ Fine w b off W' H' ps := by
  obtain ⟨h1, h2, h3, h4⟩ := (fine_iff W H ps).1 hf
  obtain ⟨W', rfl⟩ := Int.eq_ofNat_of_zero_le (show 0 ≤ W by omega)
  obtain ⟨H', rfl⟩ := Int.eq_ofNat_of_zero_le (show 0 ≤ H by omega)
  have hl : ps.length = W' * H' := by rw [← Int.natCast_mul] at h3; omega
  have hl' := h.leng
  rcases h.cells with e | ⟨b, off, ha, _, hb, hc⟩
  · subst e
    have : 1 * 1 ≤ W' * H' := Nat.mul_le_mul (by omega) (by omega)
    simp at hl; omega
  · exact ⟨W', H', b, off, rfl, rfl, ha, by omega, by omega, by omega, hb, hl, fun j hj => hc j (by omega), h4⟩

theorem numbers_enters : ∀ args w, (callFunc 104 args).run Try.prog w = .ok (.enter 104 args) w := fun _ _ => by kernel_rfl
theorem numbersOf_any (W H : Int) (a : Option Addr) (len cap : Nat) (w : World) :
    Calls Try.prog 70 #[.agg #[.int .i64 W, .int .i64 H, .slice a len cap]] w fun e w' => e = .returned (.func (.func 104) #[] #[.pointer (some ⟨w.heap.size, 0, none⟩)]) ∧ w' = w.alloc (.cells #[.int .i64 W, .int .i64 H, .slice a len cap] 24) := by
  go_enter Try.func70, Try.ntmps70
  go_wp2
  go_ret
  exact ⟨rfl, rfl⟩
/-- The image lies in the box c. -/
structure Boxed (w : World) (c b off cap W H : Nat) : Prop where
  lt : c < w.heap.size
  c0 : w.cell? ⟨c, 0, none⟩ = some (.int .i64 W)
  c1 : w.cell? ⟨c, 1, none⟩ = some (.int .i64 H)
  c2 : w.cell? ⟨c, 2, none⟩ = some (.slice (some ⟨b, off, none⟩) (W * H) cap)
theorem Boxed.below {w w' : World} {c b off cap W H : Nat} (h : Boxed w c b off cap W H) (hb : Below w.heap.size w w') : Boxed w' c b off cap W H :=
  ⟨Nat.lt_of_lt_of_le h.lt hb.size, (hb.cell (p := ⟨c, 0, none⟩) h.lt).trans h.c0, (hb.cell (p := ⟨c, 1, none⟩) h.lt).trans h.c1, (hb.cell (p := ⟨c, 2, none⟩) h.lt).trans h.c2⟩
theorem numbers_tells {w : World} {c b off cap W H : Nat} {ps : List Int} (hB : Boxed w c b off cap W H) (hF : Fine w b off W H ps) : Tells w 104 #[.pointer (some ⟨c, 0, none⟩)] W H (px W ps) := by
  refine ⟨numbers_enters, fun x y w1 hx hy hbel => ?_⟩
  obtain ⟨hlt, c0, c1, c2⟩ := hB.below hbel
  have hc := (hF.below hbel).cell (y * W + x) (place_lt hx hy)
  have hpl := place_lt hx hy
  obtain ⟨hm, hM⟩ := hF.small
  have hb1 := hF.hW
  have hb2 := hF.hH
  have hpi : (y : Int) * (W : Int) + (x : Int) < (W : Int) * (H : Int) := by rw [← Int.natCast_mul, ← Int.natCast_mul]; omega
  have hp0 : 0 ≤ (y : Int) * (W : Int) := Int.mul_nonneg (by omega) (by omega)
  have hpM : (W : Int) * (H : Int) ≤ 256 := by rw [← Int.natCast_mul]; omega
  obtain ⟨v, hv⟩ : ∃ v, v = px W ps x y := ⟨_, rfl⟩
  have hc' : w1.cell? ⟨b, off + (y * W + x), none⟩ = some (.int .i64 v) := by rw [hv]; exact hc
  show Calls Try.prog 104 #[.int .i64 x, .int .i64 y, .pointer (some ⟨c, 0, none⟩)] w1 _
  rw [← hv]
  clear hc hv hF hB hpl
  go_enter Try.func104, Try.ntmps104
  go_wp2
  go_ret
  exact ⟨rfl, Below.refl _ _⟩
end Go.Proofs.Ytfpkiimlaepnhaa
