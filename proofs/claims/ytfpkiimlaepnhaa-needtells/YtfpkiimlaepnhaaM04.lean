/- Rule, Rules, Blur, Make: joined, in this order. -/
import Derived.Test.YtfpkiimlaepnhaaM03
/-
  RULE: the functions of places of image.One.
-/
namespace Go.Proofs.Ytfpkiimlaepnhaa
set_option maxRecDepth 100000
open Go.RowKit Im

/-- A right image of W columns and H rows, its numbers ps from the offset off of block b on. -/
structure Fine (w : World) (b off : Nat) (W H : Nat) (ps : List Int) : Prop where
  hW : 1 ≤ W ∧ W ≤ 16
  hH : 1 ≤ H ∧ H ≤ 16
  hb : b < w.heap.size
  len : ps.length = W * H
  cell : ∀ j, j < W * H → w.cell? ⟨b, off + j, none⟩ = some (.int .i64 (ps.getD j 0))
  num : ∀ n ∈ ps, 0 ≤ n ∧ n ≤ 65535

theorem Fine.below {w w' : World} {b off W H : Nat} {ps : List Int} (h : Fine w b off W H ps) (hb : Below w.heap.size w w') : Fine w' b off W H ps :=
  ⟨h.hW, h.hH, Nat.lt_of_lt_of_le h.hb hb.size, h.len, fun j hj => (hb.cell (p := ⟨b, off + j, none⟩) h.hb).trans (h.cell j hj), h.num⟩
theorem Fine.small {w : World} {b off W H : Nat} {ps : List Int} (h : Fine w b off W H ps) : 1 ≤ W * H ∧ W * H ≤ 256 := by
  have := side_mul (W := (W : Int)) (H := (H : Int)) (by have := h.hW; simp [sideB]; omega) (by have := h.hH; simp [sideB]; omega)
  rw [← Int.natCast_mul] at this
  omega
theorem Fine.px_bd {w : World} {b off W H : Nat} {ps : List Int} (h : Fine w b off W H ps) (x y : Nat) (hx : x < W) (hy : y < H) : 0 ≤ px W ps x y ∧ px W ps x y ≤ 65535 := by
  have hl : y * W + x < ps.length := by rw [h.len]; exact place_lt hx hy
  unfold px
  rw [List.getD_eq_getElem?_getD, List.getElem?_eq_getElem hl]
  exact h.num _ (List.getElem_mem hl)
theorem Fine.ints {w : World} {b off W H : Nat} {ps : List Int} (h : Fine w b off W H ps) : Ints 0 w (some ⟨b, off, none⟩) (W * H) ps :=
  ⟨h.len, by have := h.small; omega, .inr ⟨b, off, rfl, Nat.zero_le _, h.hb, h.cell⟩⟩
theorem Fine.fineB {w : World} {b off W H : Nat} {ps : List Int} (h : Fine w b off W H ps) : fineB W H ps = true := by
  rw [fine_iff]
  exact ⟨by have := h.hW; omega, by have := h.hH; omega, by rw [h.len, Int.natCast_mul], h.num⟩
theorem fine_of {w : World} {a : Option Addr} {len : Nat} {W H : Int} {ps : List Int} (h : Ints 0 w a len ps) (hf : fineB W H ps = true) :
    ∃ (W' H' b off : Nat), W = W' ∧ H = H' ∧ a = some ⟨b, off, none⟩ ∧ len = W' * H' ∧ Fine w b off W' H' ps := by
  obtain ⟨h1, h2, h3, h4⟩ := (fine_iff W H ps).1 hf
  obtain ⟨W', rfl⟩ := Int.eq_ofNat_of_zero_le (show 0 ≤ W by omega)
  obtain ⟨H', rfl⟩ := Int.eq_ofNat_of_zero_le (show 0 ≤ H by omega)
  have hl : ps.length = W' * H' := by rw [← Int.natCast_mul] at h3; omega
  have hl' := h.leng
  rcases h.cells with e | ⟨b, off, ha, _, hb, hc⟩
  · subst e
    have : 1 * 1 ≤ W' * H' := Nat.mul_le_mul (by omega) (by omega)
    simp at hl; omega
  · exact ⟨W', H', b, off, rfl, rfl, ha, by omega, by omega, by omega, hb, hl, fun j hj => hc j (by omega), h4⟩

theorem numbers_enters : ∀ args w, (callFunc 104 args).run Try.prog w = .ok (.enter 104 args) w := fun _ _ => by kernel_rfl
theorem numbersOf_any (W H : Int) (a : Option Addr) (len cap : Nat) (w : World) :
    Calls Try.prog 70 #[.agg #[.int .i64 W, .int .i64 H, .slice a len cap]] w fun e w' => e = .returned (.func (.func 104) #[] #[.pointer (some ⟨w.heap.size, 0, none⟩)]) ∧ w' = w.alloc (.cells #[.int .i64 W, .int .i64 H, .slice a len cap] 24) := by
  go_enter Try.func70, Try.ntmps70
  go_wp2
  go_ret
  exact ⟨rfl, rfl⟩
/-- The image lies in the box c. -/
structure Boxed (w : World) (c b off cap W H : Nat) : Prop where
  lt : c < w.heap.size
  c0 : w.cell? ⟨c, 0, none⟩ = some (.int .i64 W)
  c1 : w.cell? ⟨c, 1, none⟩ = some (.int .i64 H)
  c2 : w.cell? ⟨c, 2, none⟩ = some (.slice (some ⟨b, off, none⟩) (W * H) cap)
theorem Boxed.below {w w' : World} {c b off cap W H : Nat} (h : Boxed w c b off cap W H) (hb : Below w.heap.size w w') : Boxed w' c b off cap W H :=
  ⟨Nat.lt_of_lt_of_le h.lt hb.size, (hb.cell (p := ⟨c, 0, none⟩) h.lt).trans h.c0, (hb.cell (p := ⟨c, 1, none⟩) h.lt).trans h.c1, (hb.cell (p := ⟨c, 2, none⟩) h.lt).trans h.c2⟩
theorem numbers_tells {w : World} {c b off cap W H : Nat} {ps : List Int} (hB : Boxed w c b off cap W H) (hF : Fine w b off W H ps) : Tells w 104 #[.pointer (some ⟨c, 0, none⟩)] W H (px W ps) := by
  refine ⟨numbers_enters, fun x y w1 hx hy hbel => ?_⟩
  obtain ⟨hlt, c0, c1, c2⟩ := hB.below hbel
  have hc := (hF.below hbel).cell (y * W + x) (place_lt hx hy)
  have hpl := place_lt hx hy
  obtain ⟨hm, hM⟩ := hF.small
  have hb1 := hF.hW
  have hb2 := hF.hH
  have hpi : (y : Int) * (W : Int) + (x : Int) < (W : Int) * (H : Int) := by rw [← Int.natCast_mul, ← Int.natCast_mul]; omega
  have hp0 : 0 ≤ (y : Int) * (W : Int) := Int.mul_nonneg (by omega) (by omega)
  have hpM : (W : Int) * (H : Int) ≤ 256 := by rw [← Int.natCast_mul]; omega
  obtain ⟨v, hv⟩ : ∃ v, v = px W ps x y := ⟨_, rfl⟩
  have hc' : w1.cell? ⟨b, off + (y * W + x), none⟩ = some (.int .i64 v) := by rw [hv]; exact hc
  show Calls Try.prog 104 #[.int .i64 x, .int .i64 y, .pointer (some ⟨c, 0, none⟩)] w1 _
  rw [← hv]
  clear hc hv hF hB hpl
  go_enter Try.func104, Try.ntmps104
  go_wp2
  go_ret
  exact ⟨rfl, Below.refl _ _⟩
end Go.Proofs.Ytfpkiimlaepnhaa
/-
  RULES: what stands where in what image.One makes, operation by operation.
-/
namespace Go.Proofs.Ytfpkiimlaepnhaa
set_option maxRecDepth 100000
open Go.RowKit Im

/-- The column that stands for x - k. -/
def colX (x : Nat) (k : Int) (W : Nat) : Nat := (min (max ((x : Int) - k) 0) ((W : Int) - 1)).toNat
/-- What stands at column x and row y of what One makes of an image of W columns and H rows. -/
def oneG (op : Int) (W H : Nat) (k : Int) (ps : List Int) (x y : Nat) : Int :=
  if op = 8 then (if k ≤ px W ps x y then px W ps x y else 0)
  else if op = 9 then px W ps (colX x k W) y
  else if op = 10 then meanP (px W ps) (x - 1) (y - 1) (min (x + 1) (W - 1)) (min (y + 1) (H - 1))
  else if op = 11 then meanP (px W ps) (2 * x) (2 * y) (2 * x + 1) (2 * y + 1)
  else if op = 12 then px W ps (x / 2) (y / 2)
  else px W ps x y
/-- How many columns, or rows, One makes of n. -/
def oneN (op : Int) (n : Nat) : Nat := if op = 11 then n / 2 else if op = 12 then 2 * n else n

/-- In the box d lies the function value that tells the numbers of the image. -/
structure Old (w : World) (d c b off cap W H : Nat) (ps : List Int) : Prop where
  lt : d < w.heap.size
  cd : w.cell? ⟨d, 0, none⟩ = some (.func (.func 104) #[] #[.pointer (some ⟨c, 0, none⟩)])
  bx : Boxed w c b off cap W H
  fn : Fine w b off W H ps
theorem Old.below {w w' : World} {d c b off cap W H : Nat} {ps : List Int} (h : Old w d c b off cap W H ps) (hb : Below w.heap.size w w') : Old w' d c b off cap W H ps :=
  ⟨Nat.lt_of_lt_of_le h.lt hb.size, (hb.cell (p := ⟨d, 0, none⟩) h.lt).trans h.cd, h.bx.below hb, h.fn.below hb⟩
theorem Old.call {w : World} {d c b off cap W H : Nat} {ps : List Int} (h : Old w d c b off cap W H ps) (x y : Nat) (hx : x < W) (hy : y < H) :
    Calls Try.prog 104 #[.int .i64 x, .int .i64 y, .pointer (some ⟨c, 0, none⟩)] w fun e w2 => e = .returned (.int .i64 (px W ps x y)) ∧ Below w.heap.size w w2 :=
  (numbers_tells h.bx h.fn).tells x y w hx hy (Below.refl _ _)

theorem Old.callI {w : World} {d c b off cap W H : Nat} {ps : List Int} (h : Old w d c b off cap W H ps) (X Y : Int) (x y : Nat) (hX : X = x) (hY : Y = y) (hx : x < W) (hy : y < H) :
    Calls Try.prog 104 #[.int .i64 X, .int .i64 Y, .pointer (some ⟨c, 0, none⟩)] w fun e w2 => e = .returned (.int .i64 (px W ps x y)) ∧ Below w.heap.size w w2 := by
  subst hX hY; exact h.call x y hx hy

theorem rule1_enters : ∀ args w, (callFunc 94 args).run Try.prog w = .ok (.enter 94 args) w := fun _ _ => by kernel_rfl
theorem rule2_enters : ∀ args w, (callFunc 95 args).run Try.prog w = .ok (.enter 95 args) w := fun _ _ => by kernel_rfl
theorem rule3_enters : ∀ args w, (callFunc 96 args).run Try.prog w = .ok (.enter 96 args) w := fun _ _ => by kernel_rfl
theorem rule4_enters : ∀ args w, (callFunc 98 args).run Try.prog w = .ok (.enter 98 args) w := fun _ _ => by kernel_rfl
theorem rule5_enters : ∀ args w, (callFunc 99 args).run Try.prog w = .ok (.enter 99 args) w := fun _ _ => by kernel_rfl

theorem rule1_tells {w : World} {d c b off cap W H kb : Nat} {ps : List Int} {k : Int} (hO : Old w d c b off cap W H ps) (hk : w.cell? ⟨kb, 0, none⟩ = some (.int .i64 k)) (hkl : kb < w.heap.size) :
    Tells w 94 #[.pointer (some ⟨d, 0, none⟩), .pointer (some ⟨kb, 0, none⟩)] W H (oneG 8 W H k ps) := by
  refine ⟨rule1_enters, fun x y w1 hx hy hbel => ?_⟩
  have hO1 := hO.below hbel
  have hcd := hO1.cd
  have hk1 : w1.cell? ⟨kb, 0, none⟩ = some (.int .i64 k) := (hbel.cell (p := ⟨kb, 0, none⟩) hkl).trans hk
  have hcall := hO1.call x y hx hy
  have hkl1 := Nat.lt_of_lt_of_le hkl hbel.size
  obtain ⟨v, hv⟩ : ∃ v, v = px W ps x y := ⟨_, rfl⟩
  have hg : oneG 8 W H k ps x y = if k ≤ v then v else 0 := by rw [hv]; rfl
  rw [← hv] at hcall
  rw [hg]
  clear hg hv hO hbel hk
  show Calls Try.prog 94 #[.int .i64 x, .int .i64 y, .pointer (some ⟨d, 0, none⟩), .pointer (some ⟨kb, 0, none⟩)] w1 _
  by_cases hkv : k ≤ v
  · rw [if_pos hkv]
    go_enter Try.func94, Try.ntmps94
    go_wp2_with (go_at_call 104; refine hcall.mono ?_; rintro e w2 ⟨rfl, hb2⟩; have hk2 := (hb2.cell (p := ⟨kb, 0, none⟩) hkl1).trans hk1)
    go_ret
    exact ⟨rfl, hb2⟩
  · rw [if_neg hkv]
    go_enter Try.func94, Try.ntmps94
    go_wp2_with (go_at_call 104; refine hcall.mono ?_; rintro e w2 ⟨rfl, hb2⟩; have hk2 := (hb2.cell (p := ⟨kb, 0, none⟩) hkl1).trans hk1)
    go_ret
    exact ⟨rfl, hb2⟩

theorem colX_lt (x : Nat) (k : Int) (W : Nat) (h : 1 ≤ W) : colX x k W < W := by unfold colX; omega
theorem colX_int (x : Nat) (k : Int) (W : Nat) (h : 1 ≤ W) : min (max ((x : Int) - k) 0) ((W : Int) - 1) = (colX x k W : Int) := by unfold colX; omega

theorem rule2_tells {w : World} {d c b off cap W H kb ib : Nat} {ps : List Int} {k : Int} (hO : Old w d c b off cap W H ps) (hk : w.cell? ⟨kb, 0, none⟩ = some (.int .i64 k)) (hkl : kb < w.heap.size) (hk16 : -16 ≤ k ∧ k ≤ 16)
    (hI : Boxed w ib b off cap W H) :
    Tells w 95 #[.pointer (some ⟨d, 0, none⟩), .pointer (some ⟨kb, 0, none⟩), .pointer (some ⟨ib, 0, none⟩)] W H (oneG 9 W H k ps) := by
  refine ⟨rule2_enters, fun x y w1 hx hy hbel => ?_⟩
  have hO1 := hO.below hbel
  have hcd := hO1.cd
  obtain ⟨hw1, hw2⟩ := hO.fn.hW
  have hk1 : w1.cell? ⟨kb, 0, none⟩ = some (.int .i64 k) := (hbel.cell (p := ⟨kb, 0, none⟩) hkl).trans hk
  have hi0 := (hI.below hbel).c0
  clear hO hbel hk hI
  have hl := colX_lt x k W hw1
  show Calls Try.prog 95 #[.int .i64 x, .int .i64 y, .pointer (some ⟨d, 0, none⟩), .pointer (some ⟨kb, 0, none⟩), .pointer (some ⟨ib, 0, none⟩)] w1 fun e w2 => e = .returned (.int .i64 (px W ps (colX x k W) y)) ∧ _
  by_cases h0 : (x : Int) - k < 0
  · have hcall := (hO1.callI 0 y (colX x k W) y (by unfold colX; omega) rfl hl hy)
    have h0' : 0 ≤ (W : Int) - 1 := by omega
    go_enter Try.func95, Try.ntmps95
    go_wp2_with (go_at_call 104; refine hcall.mono ?_; rintro e w2 ⟨rfl, hb2⟩)
    go_ret
    exact ⟨rfl, hb2⟩
  · by_cases h1 : (W : Int) - 1 < (x : Int) - k
    · have hcall := (hO1.callI ((W : Int) - 1) y (colX x k W) y (by unfold colX; omega) rfl hl hy)
      go_enter Try.func95, Try.ntmps95
      go_wp2_with (go_at_call 104; refine hcall.mono ?_; rintro e w2 ⟨rfl, hb2⟩)
      go_ret
      exact ⟨rfl, hb2⟩
    · have hcall := (hO1.callI ((x : Int) - k) y (colX x k W) y (by unfold colX; omega) rfl hl hy)
      go_enter Try.func95, Try.ntmps95
      go_wp2_with (go_at_call 104; refine hcall.mono ?_; rintro e w2 ⟨rfl, hb2⟩)
      go_ret
      exact ⟨rfl, hb2⟩

theorem rule5_tells {w : World} {d c b off cap W H : Nat} {ps : List Int} (k : Int) (hO : Old w d c b off cap W H ps) :
    Tells w 99 #[.pointer (some ⟨d, 0, none⟩)] (2 * W) (2 * H) (oneG 12 W H k ps) := by
  refine ⟨rule5_enters, fun x y w1 hx hy hbel => ?_⟩
  have hO1 := hO.below hbel
  have hcd := hO1.cd
  obtain ⟨hw1, hw2⟩ := hO.fn.hW
  obtain ⟨hh1, hh2⟩ := hO.fn.hH
  have hcall := (hO1.callI ((x : Int) / 2) ((y : Int) / 2) (x / 2) (y / 2) (by omega) (by omega) (by omega) (by omega))
  clear hO hbel
  show Calls Try.prog 99 #[.int .i64 x, .int .i64 y, .pointer (some ⟨d, 0, none⟩)] w1 fun e w2 => e = .returned (.int .i64 (px W ps (x / 2) (y / 2))) ∧ _
  go_enter Try.func99, Try.ntmps99
  go_wp2_with (go_at_call 104; refine hcall.mono ?_; rintro e w2 ⟨rfl, hb2⟩)
  go_ret
  exact ⟨rfl, hb2⟩
theorem mean_anyI (W H : Nat) (n : Nat) (caps : Array Value) (p : Nat → Nat → Int) (w : World) (L T R B : Int) (l t r b : Nat) (e1 : L = l) (e2 : T = t) (e3 : R = r) (e4 : B = b) (hW : W ≤ 16) (hH : H ≤ 16) (h1 : l ≤ r) (h2 : r < W) (h3 : t ≤ b) (h4 : b < H)
    (hp : ∀ x y, x < W → y < H → 0 ≤ p x y ∧ p x y ≤ 65535) (hf : Tells w n caps W H p) :
    Calls Try.prog 97 #[.func (.func n) #[] caps, .int .i64 L, .int .i64 T, .int .i64 R, .int .i64 B] w fun e w' => e = .returned (.int .i64 (meanP p l t r b)) ∧ Below w.heap.size w w' := by
  subst e1 e2 e3 e4; exact mean_any W H n caps p w l t r b hW hH h1 h2 h3 h4 hp hf
theorem rule4_tells {w : World} {d c b off cap W H : Nat} {ps : List Int} (k : Int) (hO : Old w d c b off cap W H ps) :
    Tells w 98 #[.pointer (some ⟨d, 0, none⟩)] (W / 2) (H / 2) (oneG 11 W H k ps) := by
  refine ⟨rule4_enters, fun x y w1 hx hy hbel => ?_⟩
  have hO1 := hO.below hbel
  have hcd := hO1.cd
  obtain ⟨hw1, hw2⟩ := hO.fn.hW
  obtain ⟨hh1, hh2⟩ := hO.fn.hH
  have hcall := (mean_anyI W H _ _ _ w1 (2 * (x : Int)) (2 * (y : Int)) (2 * (x : Int) + 1) (2 * (y : Int) + 1) (2 * x) (2 * y) (2 * x + 1) (2 * y + 1) (by omega) (by omega) (by omega) (by omega) hw2 hh2 (by omega) (by omega) (by omega) (by omega) hO1.fn.px_bd (numbers_tells hO1.bx hO1.fn))
  clear hO hbel
  show Calls Try.prog 98 #[.int .i64 x, .int .i64 y, .pointer (some ⟨d, 0, none⟩)] w1 fun e w2 => e = .returned (.int .i64 (meanP (px W ps) (2 * x) (2 * y) (2 * x + 1) (2 * y + 1))) ∧ _
  go_enter Try.func98, Try.ntmps98
  go_wp2_with (go_at_call 97; refine hcall.mono ?_; rintro e w2 ⟨rfl, hb2⟩)
  go_ret
  exact ⟨rfl, hb2⟩
end Go.Proofs.Ytfpkiimlaepnhaa
/-
  BLUR: what image.One makes of an image by Blur.
-/
namespace Go.Proofs.Ytfpkiimlaepnhaa
set_option maxRecDepth 100000
open Go.RowKit Im

theorem rule3_tells {w : World} {d c b off cap W H ib : Nat} {ps : List Int} (k : Int) (hO : Old w d c b off cap W H ps) (hI : Boxed w ib b off cap W H) :
    Tells w 96 #[.pointer (some ⟨d, 0, none⟩), .pointer (some ⟨ib, 0, none⟩)] W H (oneG 10 W H k ps) := by
  refine ⟨rule3_enters, fun x y w1 hx hy hbel => ?_⟩
  have hO1 := hO.below hbel
  have hcd := hO1.cd
  obtain ⟨hw1, hw2⟩ := hO.fn.hW
  obtain ⟨hh1, hh2⟩ := hO.fn.hH
  have hi0 := (hI.below hbel).c0
  have hi1 := (hI.below hbel).c1
  obtain ⟨L, hL⟩ : ∃ L : Int, (if (x : Int) - 1 < 0 then 0 else (x : Int) - 1) = L := ⟨_, rfl⟩
  obtain ⟨T, hT⟩ : ∃ L : Int, (if (y : Int) - 1 < 0 then 0 else (y : Int) - 1) = L := ⟨_, rfl⟩
  obtain ⟨R, hR⟩ : ∃ L : Int, (if (W : Int) - 1 < (x : Int) + 1 then (W : Int) - 1 else (x : Int) + 1) = L := ⟨_, rfl⟩
  obtain ⟨B, hB⟩ : ∃ L : Int, (if (H : Int) - 1 < (y : Int) + 1 then (H : Int) - 1 else (y : Int) + 1) = L := ⟨_, rfl⟩
  have hcall := mean_anyI W H _ _ _ w1 L T R B (x - 1) (y - 1) (min (x + 1) (W - 1)) (min (y + 1) (H - 1)) (by subst hL; split <;> omega) (by subst hT; split <;> omega) (by subst hR; split <;> omega) (by subst hB; split <;> omega) hw2 hh2 (by omega) (by omega) (by omega) (by omega) hO1.fn.px_bd (numbers_tells hO1.bx hO1.fn)
  clear hO hbel hI hO1
  show Calls Try.prog 96 #[.int .i64 x, .int .i64 y, .pointer (some ⟨d, 0, none⟩), .pointer (some ⟨ib, 0, none⟩)] w1 fun e w2 => e = .returned (.int .i64 (meanP (px W ps) (x - 1) (y - 1) (min (x + 1) (W - 1)) (min (y + 1) (H - 1)))) ∧ _
  go_enter Try.func96, Try.ntmps96
  go_wp2_with (go_at_call 97; refine hcall.mono ?_; rintro e w2 ⟨rfl, hb2⟩)
  go_ret
  exact ⟨rfl, hb2⟩
end Go.Proofs.Ytfpkiimlaepnhaa
/-
  MAKE: image.Make, and the reference's MakeError and MakeOf.
-/
namespace Go.Proofs.Ytfpkiimlaepnhaa
set_option maxRecDepth 100000
open Go.RowKit Im

/-- What stands at column x and row y of what Make makes. -/
def makeG (op k : Int) (x y : Nat) : Int := if op = 1 then k else ((x : Int) * k + y) % 65536

/-- The zero value of an image. -/
abbrev noImage : Value := .agg #[.int .i64 0, .int .i64 0, .slice none 0 0]

theorem make1_enters : ∀ args w, (callFunc 59 args).run Try.prog w = .ok (.enter 59 args) w := fun _ _ => by kernel_rfl
theorem make2_enters : ∀ args w, (callFunc 60 args).run Try.prog w = .ok (.enter 60 args) w := fun _ _ => by kernel_rfl

theorem make1_tells (w : World) (b W H : Nat) (k : Int) (hb : b < w.heap.size) (hc : w.cell? ⟨b, 0, none⟩ = some (.int .i64 k)) : Tells w 59 #[.pointer (some ⟨b, 0, none⟩)] W H (makeG 1 k) := by
  refine ⟨make1_enters, fun x y w1 _ _ hbel => ?_⟩
  have hc1 : w1.cell? ⟨b, 0, none⟩ = some (.int .i64 k) := (hbel.cell (p := ⟨b, 0, none⟩) hb).trans hc
  show Calls Try.prog 59 #[.int .i64 x, .int .i64 y, .pointer (some ⟨b, 0, none⟩)] w1 _
  go_enter Try.func59, Try.ntmps59
  go_wp2
  go_ret
  exact ⟨rfl, Below.refl _ _⟩
theorem make2_tells (w : World) (b W H : Nat) (k : Int) (hb : b < w.heap.size) (hc : w.cell? ⟨b, 0, none⟩ = some (.int .i64 k)) (hW : W ≤ 16) (hH : H ≤ 16) (hk : 0 ≤ k ∧ k ≤ 65535) : Tells w 60 #[.pointer (some ⟨b, 0, none⟩)] W H (makeG 2 k) := by
  refine ⟨make2_enters, fun x y w1 hx hy hbel => ?_⟩
  have hc1 : w1.cell? ⟨b, 0, none⟩ = some (.int .i64 k) := (hbel.cell (p := ⟨b, 0, none⟩) hb).trans hc
  have hm1 : 0 ≤ (x : Int) * k := Int.mul_nonneg (by omega) hk.1
  have hm2 : (x : Int) * k ≤ 16 * 65535 := Int.mul_le_mul (by omega) hk.2 hk.1 (by omega)
  show Calls Try.prog 60 #[.int .i64 x, .int .i64 y, .pointer (some ⟨b, 0, none⟩)] w1 _
  go_enter Try.func60, Try.ntmps60
  go_wp2
  go_ret
  exact ⟨rfl, Below.refl _ _⟩

theorem make_kind (op W H k : Int) (w : World) (h : ¬ op = 1) (h' : ¬ op = 2) :
    Calls Try.prog 15 #[.int .i64 op, .int .i64 W, .int .i64 H, .int .i64 k] w fun e w' => e = .returned (.tuple #[noImage, .int .i64 4]) ∧ Below w.heap.size w w' := by
  have hb : (op != 1) = true := by simpa using h
  have hb' : (op != 2) = true := by simpa using h'
  go_enter Try.func15, Try.ntmps15
  go_wp2
  exact bodyPost_ret (v := .tuple #[noImage, .int .i64 4]) (by simp [results, Try.results15, go_sem]) rfl ⟨rfl, ((Below.refl _ _).alloc (Nat.le_refl _) _).alloc (by simp) _⟩

theorem make_range (op W H k : Int) (w : World) (h : op = 1 ∨ op = 2) (hr : (sideB W && sideB H && numB k) = false) :
    Calls Try.prog 15 #[.int .i64 op, .int .i64 W, .int .i64 H, .int .i64 k] w fun e w' => e = .returned (.tuple #[noImage, .int .i64 3]) ∧ Below w.heap.size w w' := by
  rcases h with rfl | rfl
  all_goals
    by_cases h1 : sideB W = true
    · by_cases h2 : sideB H = true
      · have h3 : numB k = false := by rw [h1, h2] at hr; simpa using hr
        clear hr
        go_enter Try.func15, Try.ntmps15
        go_wp2_with (first | (go_at_call 56; refine (isSide_any _ _).mono ?_; rintro e w' ⟨rfl, rfl⟩) | (go_at_call 57; refine (isNumber_any _ _).mono ?_; rintro e w' ⟨rfl, rfl⟩))
        exact bodyPost_ret (v := .tuple #[noImage, .int .i64 3]) (by simp [results, Try.results15, go_sem]) rfl ⟨rfl, ((Below.refl _ _).alloc (Nat.le_refl _) _).alloc (by simp) _⟩
      · have h2' : sideB H = false := by simpa using h2
        clear hr
        go_enter Try.func15, Try.ntmps15
        go_wp2_with (first | (go_at_call 56; refine (isSide_any _ _).mono ?_; rintro e w' ⟨rfl, rfl⟩) | (go_at_call 57; refine (isNumber_any _ _).mono ?_; rintro e w' ⟨rfl, rfl⟩))
        exact bodyPost_ret (v := .tuple #[noImage, .int .i64 3]) (by simp [results, Try.results15, go_sem]) rfl ⟨rfl, ((Below.refl _ _).alloc (Nat.le_refl _) _).alloc (by simp) _⟩
    · have h1' : sideB W = false := by simpa using h1
      clear hr
      go_enter Try.func15, Try.ntmps15
      go_wp2_with (first | (go_at_call 56; refine (isSide_any _ _).mono ?_; rintro e w' ⟨rfl, rfl⟩) | (go_at_call 57; refine (isNumber_any _ _).mono ?_; rintro e w' ⟨rfl, rfl⟩))
      exact bodyPost_ret (v := .tuple #[noImage, .int .i64 3]) (by simp [results, Try.results15, go_sem]) rfl ⟨rfl, ((Below.refl _ _).alloc (Nat.le_refl _) _).alloc (by simp) _⟩
set_option maxHeartbeats 1000000 in
theorem make_ok (op : Int) (W H : Nat) (k : Int) (w : World) (h : op = 1 ∨ op = 2) (h1 : sideB W = true) (h2 : sideB H = true) (h3 : numB k = true) :
    Calls Try.prog 15 #[.int .i64 op, .int .i64 W, .int .i64 H, .int .i64 k] w fun e w' =>
      ∃ a cap, e = .returned (.tuple #[.agg #[.int .i64 W, .int .i64 H, .slice a (W * H) cap], .int .i64 0]) ∧ Ints w.heap.size w' a (W * H) (pix W (makeG op k) (W * H)) ∧ Below w.heap.size w w' := by
  have b1 := (side_iff _).1 h1
  have b2 := (side_iff _).1 h2
  have b3 := (num_iff _).1 h3
  have hB : Below w.heap.size w ((w.alloc (.cells #[.int .i64 k] 3)).alloc (.cells #[.int .i64 0, .int .i64 0, .slice none 0 0] 24)) := ((Below.refl _ _).alloc (Nat.le_refl _) _).alloc (by simp) _
  have hk : ((w.alloc (.cells #[.int .i64 k] 3)).alloc (.cells #[.int .i64 0, .int .i64 0, .slice none 0 0] 24)).cell? ⟨w.heap.size, 0, none⟩ = some (.int .i64 k) := by simp [go_sem]
  rcases h with rfl | rfl
  · have t := make1_tells _ w.heap.size W H k (by simp; omega) hk
    go_enter Try.func15, Try.ntmps15
    go_wp2_with (first
      | (go_at_call 56; refine (isSide_any _ _).mono ?_; rintro e w' ⟨rfl, rfl⟩)
      | (go_at_call 57; refine (isNumber_any _ _).mono ?_; rintro e w' ⟨rfl, rfl⟩)
      | (go_at_call 58; refine (draw_any W H _ _ _ _ (by omega) (by omega) t).mono ?_; rintro e w2 ⟨a, cap, rfl, hints, hbel⟩; obtain ⟨hcc, hff⟩ := bcell hbel; have hsz : w.heap.size + 1 < w2.heap.size := by have := hbel.size; simp at this; omega))
    have e1 : w2.cell? ⟨w.heap.size + 1, 0, none⟩ = some (.int .i64 0) := by rw [hcc _ _ (by simp)]; simp [go_sem]
    have e2 : w2.cell? ⟨w.heap.size + 1, 1, none⟩ = some (.int .i64 0) := by rw [hcc _ _ (by simp)]; simp [go_sem]
    have e3 : w2.cell? ⟨w.heap.size + 1, 2, none⟩ = some (.slice none 0 0) := by rw [hcc _ _ (by simp)]; simp [go_sem]
    refine bodyPost_ret (v := .tuple #[.agg #[.int .i64 W, .int .i64 H, .slice a (W * H) cap], .int .i64 0]) (by simp [results, Try.results15, go_sem, e1, e2, e3]) rfl ⟨a, cap, rfl, ?_, ?_⟩
    · exact (((hints.setCell (by simp) _).setCell (by simp) _).setCell (by simp) _).mono (by simp; omega)
    · exact (((hB.trans (hbel.mono (by simp; omega))).setCell (by simp) _).setCell (by simp) _).setCell (by simp) _
  · have t := make2_tells _ w.heap.size W H k (by simp; omega) hk (by omega) (by omega) b3
    go_enter Try.func15, Try.ntmps15
    go_wp2_with (first
      | (go_at_call 56; refine (isSide_any _ _).mono ?_; rintro e w' ⟨rfl, rfl⟩)
      | (go_at_call 57; refine (isNumber_any _ _).mono ?_; rintro e w' ⟨rfl, rfl⟩)
      | (go_at_call 58; refine (draw_any W H _ _ _ _ (by omega) (by omega) t).mono ?_; rintro e w2 ⟨a, cap, rfl, hints, hbel⟩; obtain ⟨hcc, hff⟩ := bcell hbel; have hsz : w.heap.size + 1 < w2.heap.size := by have := hbel.size; simp at this; omega))
    have e1 : w2.cell? ⟨w.heap.size + 1, 0, none⟩ = some (.int .i64 0) := by rw [hcc _ _ (by simp)]; simp [go_sem]
    have e2 : w2.cell? ⟨w.heap.size + 1, 1, none⟩ = some (.int .i64 0) := by rw [hcc _ _ (by simp)]; simp [go_sem]
    have e3 : w2.cell? ⟨w.heap.size + 1, 2, none⟩ = some (.slice none 0 0) := by rw [hcc _ _ (by simp)]; simp [go_sem]
    refine bodyPost_ret (v := .tuple #[.agg #[.int .i64 W, .int .i64 H, .slice a (W * H) cap], .int .i64 0]) (by simp [results, Try.results15, go_sem, e1, e2, e3]) rfl ⟨a, cap, rfl, ?_, ?_⟩
    · exact (((hints.setCell (by simp) _).setCell (by simp) _).setCell (by simp) _).mono (by simp; omega)
    · exact (((hB.trans (hbel.mono (by simp; omega))).setCell (by simp) _).setCell (by simp) _).setCell (by simp) _

end Go.Proofs.Ytfpkiimlaepnhaa
