/- Rule, Rules, Blur, Make, One, One2, One3, Two: joined, in this order. -/
import Derived.Test.YtaenpgdmiaekcaaGreatDoorM01
import Derived.Laws.EntriesVeiled
import Derived.MapKept
/-
  RULE: the functions of places of image.One.
-/
namespace Go.Proofs.YtaenpgdmiaekcaaGreatDoor
set_option maxRecDepth 100000
open Go.RowKit Im

/-- A right image of W columns and H rows, its numbers ps from the offset off of block b on. -/
structure Fine (w : World) (b off : Nat) (W H : Nat) (ps : List Int) : Prop where
  hW : 1 ≤ W ∧ W ≤ 16
  hH : 1 ≤ H ∧ H ≤ 16
  hb : b < w.heap.size
  len : ps.length = W * H
  cell : ∀ j, j < W * H → w.cell? ⟨b, off + j, none⟩ = some (.int .i64 (ps.getD j 0))
  num : ∀ n ∈ ps, 0 ≤ n ∧ n ≤ 65535

theorem Fine.below {w w' : World} {b off W H : Nat} {ps : List Int} (h : Fine w b off W H ps) (hb : Below w.heap.size w w') : Fine w' b off W H ps :=
  ⟨h.hW, h.hH, Nat.lt_of_lt_of_le h.hb hb.size, h.len, fun j hj => (hb.cell (p := ⟨b, off + j, none⟩) h.hb).trans (h.cell j hj), h.num⟩
theorem Fine.small {w : World} {b off W H : Nat} {ps : List Int} (h : Fine w b off W H ps) : 1 ≤ W * H ∧ W * H ≤ 256 := by
  have := side_mul (W := (W : Int)) (H := (H : Int)) (by have := h.hW; simp [sideB]; omega) (by have := h.hH; simp [sideB]; omega)
  rw [← Int.natCast_mul] at this
  omega
theorem Fine.px_bd {w : World} {b off W H : Nat} {ps : List Int} (h : Fine w b off W H ps) (x y : Nat) (hx : x < W) (hy : y < H) : 0 ≤ px W ps x y ∧ px W ps x y ≤ 65535 := by
  have hl : y * W + x < ps.length := by rw [h.len]; exact place_lt hx hy
  unfold px
  rw [List.getD_eq_getElem?_getD, List.getElem?_eq_getElem hl]
  exact h.num _ (List.getElem_mem hl)
theorem Fine.ints {w : World} {b off W H : Nat} {ps : List Int} (h : Fine w b off W H ps) : Ints 0 w (some ⟨b, off, none⟩) (W * H) ps :=
  ⟨h.len, by have := h.small; omega, .inr ⟨b, off, rfl, Nat.zero_le _, h.hb, h.cell⟩⟩
theorem Fine.fineB {w : World} {b off W H : Nat} {ps : List Int} (h : Fine w b off W H ps) : fineB W H ps = true := by
  rw [fine_iff]
  exact ⟨by have := h.hW; omega, by have := h.hH; omega, by rw [h.len, Int.natCast_mul], h.num⟩
theorem fine_of {w : World} {a : Option Addr} {len : Nat} {W H : Int} {ps : List Int} (h : Ints 0 w a len ps) (hf : fineB W H ps = true) :
    ∃ (W' H' b off : Nat), W = W' ∧ H = H' ∧ a = some ⟨b, off, none⟩ ∧ len = W' * H' ∧ Fine w b off W' H' ps := by
  obtain ⟨h1, h2, h3, h4⟩ := (fine_iff W H ps).1 hf
  obtain ⟨W', rfl⟩ := Int.eq_ofNat_of_zero_le (show 0 ≤ W by omega)
  obtain ⟨H', rfl⟩ := Int.eq_ofNat_of_zero_le (show 0 ≤ H by omega)
  have hl : ps.length = W' * H' := by rw [← Int.natCast_mul] at h3; omega
  have hl' := h.leng
  rcases h.cells with e | ⟨b, off, ha, _, hb, hc⟩
  · subst e
    have : 1 * 1 ≤ W' * H' := Nat.mul_le_mul (by omega) (by omega)
    simp at hl; omega
  · exact ⟨W', H', b, off, rfl, rfl, ha, by omega, by omega, by omega, hb, hl, fun j hj => hc j (by omega), h4⟩

theorem numbers_enters : ∀ args w, (callFunc 147 args).run Tryz.prog w = .ok (.enter 147 args) w := fun _ _ => by kernel_rfl
theorem numbersOf_any (W H : Int) (a : Option Addr) (len cap : Nat) (w : World) :
    Calls Tryz.prog 110 #[.agg #[.int .i64 W, .int .i64 H, .slice a len cap]] w fun e w' => e = .returned (.func (.func 147) #[] #[.pointer (some ⟨w.heap.size, 0, none⟩)]) ∧ w' = w.alloc (.cells #[.int .i64 W, .int .i64 H, .slice a len cap] 24) := by
  go_enter Tryz.func110, Tryz.ntmps110
  go_wp2
  go_ret
  exact ⟨rfl, rfl⟩
/-- The image lies in the box c. -/
structure Boxed (w : World) (c b off cap W H : Nat) : Prop where
  lt : c < w.heap.size
  c0 : w.cell? ⟨c, 0, none⟩ = some (.int .i64 W)
  c1 : w.cell? ⟨c, 1, none⟩ = some (.int .i64 H)
  c2 : w.cell? ⟨c, 2, none⟩ = some (.slice (some ⟨b, off, none⟩) (W * H) cap)
theorem Boxed.below {w w' : World} {c b off cap W H : Nat} (h : Boxed w c b off cap W H) (hb : Below w.heap.size w w') : Boxed w' c b off cap W H :=
  ⟨Nat.lt_of_lt_of_le h.lt hb.size, (hb.cell (p := ⟨c, 0, none⟩) h.lt).trans h.c0, (hb.cell (p := ⟨c, 1, none⟩) h.lt).trans h.c1, (hb.cell (p := ⟨c, 2, none⟩) h.lt).trans h.c2⟩
theorem numbers_tells {w : World} {c b off cap W H : Nat} {ps : List Int} (hB : Boxed w c b off cap W H) (hF : Fine w b off W H ps) : Tells w 147 #[.pointer (some ⟨c, 0, none⟩)] W H (px W ps) := by
  refine ⟨numbers_enters, fun x y w1 hx hy hbel => ?_⟩
  obtain ⟨hlt, c0, c1, c2⟩ := hB.below hbel
  have hc := (hF.below hbel).cell (y * W + x) (place_lt hx hy)
  have hpl := place_lt hx hy
  obtain ⟨hm, hM⟩ := hF.small
  have hb1 := hF.hW
  have hb2 := hF.hH
  have hpi : (y : Int) * (W : Int) + (x : Int) < (W : Int) * (H : Int) := by rw [← Int.natCast_mul, ← Int.natCast_mul]; omega
  have hp0 : 0 ≤ (y : Int) * (W : Int) := Int.mul_nonneg (by omega) (by omega)
  have hpM : (W : Int) * (H : Int) ≤ 256 := by rw [← Int.natCast_mul]; omega
  obtain ⟨v, hv⟩ : ∃ v, v = px W ps x y := ⟨_, rfl⟩
  have hc' : w1.cell? ⟨b, off + (y * W + x), none⟩ = some (.int .i64 v) := by rw [hv]; exact hc
  show Calls Tryz.prog 147 #[.int .i64 x, .int .i64 y, .pointer (some ⟨c, 0, none⟩)] w1 _
  rw [← hv]
  clear hc hv hF hB hpl
  go_enter Tryz.func147, Tryz.ntmps147
  go_wp2
  go_ret
  exact ⟨rfl, Below.refl _ _⟩
end Go.Proofs.YtaenpgdmiaekcaaGreatDoor
/-
  RULES: what stands where in what image.One makes, operation by operation.
-/
namespace Go.Proofs.YtaenpgdmiaekcaaGreatDoor
set_option maxRecDepth 100000
open Go.RowKit Im

/-- The column that stands for x - k. -/
def colX (x : Nat) (k : Int) (W : Nat) : Nat := (min (max ((x : Int) - k) 0) ((W : Int) - 1)).toNat
/-- What stands at column x and row y of what One makes of an image of W columns and H rows. -/
def oneG (op : Int) (W H : Nat) (k : Int) (ps : List Int) (x y : Nat) : Int :=
  if op = 8 then (if k ≤ px W ps x y then px W ps x y else 0)
  else if op = 9 then px W ps (colX x k W) y
  else if op = 10 then meanP (px W ps) (x - 1) (y - 1) (min (x + 1) (W - 1)) (min (y + 1) (H - 1))
  else if op = 11 then meanP (px W ps) (2 * x) (2 * y) (2 * x + 1) (2 * y + 1)
  else if op = 12 then px W ps (x / 2) (y / 2)
  else px W ps x y
/-- How many columns, or rows, One makes of n. -/
def oneN (op : Int) (n : Nat) : Nat := if op = 11 then n / 2 else if op = 12 then 2 * n else n

/-- In the box d lies the function value that tells the numbers of the image. -/
structure Old (w : World) (d c b off cap W H : Nat) (ps : List Int) : Prop where
  lt : d < w.heap.size
  cd : w.cell? ⟨d, 0, none⟩ = some (.func (.func 147) #[] #[.pointer (some ⟨c, 0, none⟩)])
  bx : Boxed w c b off cap W H
  fn : Fine w b off W H ps
theorem Old.below {w w' : World} {d c b off cap W H : Nat} {ps : List Int} (h : Old w d c b off cap W H ps) (hb : Below w.heap.size w w') : Old w' d c b off cap W H ps :=
  ⟨Nat.lt_of_lt_of_le h.lt hb.size, (hb.cell (p := ⟨d, 0, none⟩) h.lt).trans h.cd, h.bx.below hb, h.fn.below hb⟩
theorem Old.call {w : World} {d c b off cap W H : Nat} {ps : List Int} (h : Old w d c b off cap W H ps) (x y : Nat) (hx : x < W) (hy : y < H) :
    Calls Tryz.prog 147 #[.int .i64 x, .int .i64 y, .pointer (some ⟨c, 0, none⟩)] w fun e w2 => e = .returned (.int .i64 (px W ps x y)) ∧ Below w.heap.size w w2 :=
  (numbers_tells h.bx h.fn).tells x y w hx hy (Below.refl _ _)

theorem Old.callI {w : World} {d c b off cap W H : Nat} {ps : List Int} (h : Old w d c b off cap W H ps) (X Y : Int) (x y : Nat) (hX : X = x) (hY : Y = y) (hx : x < W) (hy : y < H) :
    Calls Tryz.prog 147 #[.int .i64 X, .int .i64 Y, .pointer (some ⟨c, 0, none⟩)] w fun e w2 => e = .returned (.int .i64 (px W ps x y)) ∧ Below w.heap.size w w2 := by
  subst hX hY; exact h.call x y hx hy

theorem rule1_enters : ∀ args w, (callFunc 151 args).run Tryz.prog w = .ok (.enter 151 args) w := fun _ _ => by kernel_rfl
theorem rule2_enters : ∀ args w, (callFunc 152 args).run Tryz.prog w = .ok (.enter 152 args) w := fun _ _ => by kernel_rfl
theorem rule3_enters : ∀ args w, (callFunc 153 args).run Tryz.prog w = .ok (.enter 153 args) w := fun _ _ => by kernel_rfl
theorem rule4_enters : ∀ args w, (callFunc 155 args).run Tryz.prog w = .ok (.enter 155 args) w := fun _ _ => by kernel_rfl
theorem rule5_enters : ∀ args w, (callFunc 156 args).run Tryz.prog w = .ok (.enter 156 args) w := fun _ _ => by kernel_rfl

theorem rule1_tells {w : World} {d c b off cap W H kb : Nat} {ps : List Int} {k : Int} (hO : Old w d c b off cap W H ps) (hk : w.cell? ⟨kb, 0, none⟩ = some (.int .i64 k)) (hkl : kb < w.heap.size) :
    Tells w 151 #[.pointer (some ⟨d, 0, none⟩), .pointer (some ⟨kb, 0, none⟩)] W H (oneG 8 W H k ps) := by
  refine ⟨rule1_enters, fun x y w1 hx hy hbel => ?_⟩
  have hO1 := hO.below hbel
  have hcd := hO1.cd
  have hk1 : w1.cell? ⟨kb, 0, none⟩ = some (.int .i64 k) := (hbel.cell (p := ⟨kb, 0, none⟩) hkl).trans hk
  have hcall := hO1.call x y hx hy
  have hkl1 := Nat.lt_of_lt_of_le hkl hbel.size
  obtain ⟨v, hv⟩ : ∃ v, v = px W ps x y := ⟨_, rfl⟩
  have hg : oneG 8 W H k ps x y = if k ≤ v then v else 0 := by rw [hv]; rfl
  rw [← hv] at hcall
  rw [hg]
  clear hg hv hO hbel hk
  show Calls Tryz.prog 151 #[.int .i64 x, .int .i64 y, .pointer (some ⟨d, 0, none⟩), .pointer (some ⟨kb, 0, none⟩)] w1 _
  by_cases hkv : k ≤ v
  · rw [if_pos hkv]
    go_enter Tryz.func151, Tryz.ntmps151
    go_wp2_with (go_at_call 147; refine hcall.mono ?_; rintro e w2 ⟨rfl, hb2⟩; have hk2 := (hb2.cell (p := ⟨kb, 0, none⟩) hkl1).trans hk1)
    go_ret
    exact ⟨rfl, hb2⟩
  · rw [if_neg hkv]
    go_enter Tryz.func151, Tryz.ntmps151
    go_wp2_with (go_at_call 147; refine hcall.mono ?_; rintro e w2 ⟨rfl, hb2⟩; have hk2 := (hb2.cell (p := ⟨kb, 0, none⟩) hkl1).trans hk1)
    go_ret
    exact ⟨rfl, hb2⟩

theorem colX_lt (x : Nat) (k : Int) (W : Nat) (h : 1 ≤ W) : colX x k W < W := by unfold colX; omega
theorem colX_int (x : Nat) (k : Int) (W : Nat) (h : 1 ≤ W) : min (max ((x : Int) - k) 0) ((W : Int) - 1) = (colX x k W : Int) := by unfold colX; omega

theorem rule2_tells {w : World} {d c b off cap W H kb ib : Nat} {ps : List Int} {k : Int} (hO : Old w d c b off cap W H ps) (hk : w.cell? ⟨kb, 0, none⟩ = some (.int .i64 k)) (hkl : kb < w.heap.size) (hk16 : -16 ≤ k ∧ k ≤ 16)
    (hI : Boxed w ib b off cap W H) :
    Tells w 152 #[.pointer (some ⟨d, 0, none⟩), .pointer (some ⟨kb, 0, none⟩), .pointer (some ⟨ib, 0, none⟩)] W H (oneG 9 W H k ps) := by
  refine ⟨rule2_enters, fun x y w1 hx hy hbel => ?_⟩
  have hO1 := hO.below hbel
  have hcd := hO1.cd
  obtain ⟨hw1, hw2⟩ := hO.fn.hW
  have hk1 : w1.cell? ⟨kb, 0, none⟩ = some (.int .i64 k) := (hbel.cell (p := ⟨kb, 0, none⟩) hkl).trans hk
  have hi0 := (hI.below hbel).c0
  clear hO hbel hk hI
  have hl := colX_lt x k W hw1
  show Calls Tryz.prog 152 #[.int .i64 x, .int .i64 y, .pointer (some ⟨d, 0, none⟩), .pointer (some ⟨kb, 0, none⟩), .pointer (some ⟨ib, 0, none⟩)] w1 fun e w2 => e = .returned (.int .i64 (px W ps (colX x k W) y)) ∧ _
  by_cases h0 : (x : Int) - k < 0
  · have hcall := (hO1.callI 0 y (colX x k W) y (by unfold colX; omega) rfl hl hy)
    have h0' : 0 ≤ (W : Int) - 1 := by omega
    go_enter Tryz.func152, Tryz.ntmps152
    go_wp2_with (go_at_call 147; refine hcall.mono ?_; rintro e w2 ⟨rfl, hb2⟩)
    go_ret
    exact ⟨rfl, hb2⟩
  · by_cases h1 : (W : Int) - 1 < (x : Int) - k
    · have hcall := (hO1.callI ((W : Int) - 1) y (colX x k W) y (by unfold colX; omega) rfl hl hy)
      go_enter Tryz.func152, Tryz.ntmps152
      go_wp2_with (go_at_call 147; refine hcall.mono ?_; rintro e w2 ⟨rfl, hb2⟩)
      go_ret
      exact ⟨rfl, hb2⟩
    · have hcall := (hO1.callI ((x : Int) - k) y (colX x k W) y (by unfold colX; omega) rfl hl hy)
      go_enter Tryz.func152, Tryz.ntmps152
      go_wp2_with (go_at_call 147; refine hcall.mono ?_; rintro e w2 ⟨rfl, hb2⟩)
      go_ret
      exact ⟨rfl, hb2⟩

theorem rule5_tells {w : World} {d c b off cap W H : Nat} {ps : List Int} (k : Int) (hO : Old w d c b off cap W H ps) :
    Tells w 156 #[.pointer (some ⟨d, 0, none⟩)] (2 * W) (2 * H) (oneG 12 W H k ps) := by
  refine ⟨rule5_enters, fun x y w1 hx hy hbel => ?_⟩
  have hO1 := hO.below hbel
  have hcd := hO1.cd
  obtain ⟨hw1, hw2⟩ := hO.fn.hW
  obtain ⟨hh1, hh2⟩ := hO.fn.hH
  have hcall := (hO1.callI ((x : Int) / 2) ((y : Int) / 2) (x / 2) (y / 2) (by omega) (by omega) (by omega) (by omega))
  clear hO hbel
  show Calls Tryz.prog 156 #[.int .i64 x, .int .i64 y, .pointer (some ⟨d, 0, none⟩)] w1 fun e w2 => e = .returned (.int .i64 (px W ps (x / 2) (y / 2))) ∧ _
  go_enter Tryz.func156, Tryz.ntmps156
  go_wp2_with (go_at_call 147; refine hcall.mono ?_; rintro e w2 ⟨rfl, hb2⟩)
  go_ret
  exact ⟨rfl, hb2⟩
theorem mean_anyI (W H : Nat) (n : Nat) (caps : Array Value) (p : Nat → Nat → Int) (w : World) (L T R B : Int) (l t r b : Nat) (e1 : L = l) (e2 : T = t) (e3 : R = r) (e4 : B = b) (hW : W ≤ 16) (hH : H ≤ 16) (h1 : l ≤ r) (h2 : r < W) (h3 : t ≤ b) (h4 : b < H)
    (hp : ∀ x y, x < W → y < H → 0 ≤ p x y ∧ p x y ≤ 65535) (hf : Tells w n caps W H p) :
    Calls Tryz.prog 154 #[.func (.func n) #[] caps, .int .i64 L, .int .i64 T, .int .i64 R, .int .i64 B] w fun e w' => e = .returned (.int .i64 (meanP p l t r b)) ∧ Below w.heap.size w w' := by
  subst e1 e2 e3 e4; exact mean_any W H n caps p w l t r b hW hH h1 h2 h3 h4 hp hf
theorem rule4_tells {w : World} {d c b off cap W H : Nat} {ps : List Int} (k : Int) (hO : Old w d c b off cap W H ps) :
    Tells w 155 #[.pointer (some ⟨d, 0, none⟩)] (W / 2) (H / 2) (oneG 11 W H k ps) := by
  refine ⟨rule4_enters, fun x y w1 hx hy hbel => ?_⟩
  have hO1 := hO.below hbel
  have hcd := hO1.cd
  obtain ⟨hw1, hw2⟩ := hO.fn.hW
  obtain ⟨hh1, hh2⟩ := hO.fn.hH
  have hcall := (mean_anyI W H _ _ _ w1 (2 * (x : Int)) (2 * (y : Int)) (2 * (x : Int) + 1) (2 * (y : Int) + 1) (2 * x) (2 * y) (2 * x + 1) (2 * y + 1) (by omega) (by omega) (by omega) (by omega) hw2 hh2 (by omega) (by omega) (by omega) (by omega) hO1.fn.px_bd (numbers_tells hO1.bx hO1.fn))
  clear hO hbel
  show Calls Tryz.prog 155 #[.int .i64 x, .int .i64 y, .pointer (some ⟨d, 0, none⟩)] w1 fun e w2 => e = .returned (.int .i64 (meanP (px W ps) (2 * x) (2 * y) (2 * x + 1) (2 * y + 1))) ∧ _
  go_enter Tryz.func155, Tryz.ntmps155
  go_wp2_with (go_at_call 154; refine hcall.mono ?_; rintro e w2 ⟨rfl, hb2⟩)
  go_ret
  exact ⟨rfl, hb2⟩
end Go.Proofs.YtaenpgdmiaekcaaGreatDoor
/-
  BLUR: what image.One makes of an image by Blur.
-/
namespace Go.Proofs.YtaenpgdmiaekcaaGreatDoor
set_option maxRecDepth 100000
open Go.RowKit Im

theorem rule3_tells {w : World} {d c b off cap W H ib : Nat} {ps : List Int} (k : Int) (hO : Old w d c b off cap W H ps) (hI : Boxed w ib b off cap W H) :
    Tells w 153 #[.pointer (some ⟨d, 0, none⟩), .pointer (some ⟨ib, 0, none⟩)] W H (oneG 10 W H k ps) := by
  refine ⟨rule3_enters, fun x y w1 hx hy hbel => ?_⟩
  have hO1 := hO.below hbel
  have hcd := hO1.cd
  obtain ⟨hw1, hw2⟩ := hO.fn.hW
  obtain ⟨hh1, hh2⟩ := hO.fn.hH
  have hi0 := (hI.below hbel).c0
  have hi1 := (hI.below hbel).c1
  obtain ⟨L, hL⟩ : ∃ L : Int, (if (x : Int) - 1 < 0 then 0 else (x : Int) - 1) = L := ⟨_, rfl⟩
  obtain ⟨T, hT⟩ : ∃ L : Int, (if (y : Int) - 1 < 0 then 0 else (y : Int) - 1) = L := ⟨_, rfl⟩
  obtain ⟨R, hR⟩ : ∃ L : Int, (if (W : Int) - 1 < (x : Int) + 1 then (W : Int) - 1 else (x : Int) + 1) = L := ⟨_, rfl⟩
  obtain ⟨B, hB⟩ : ∃ L : Int, (if (H : Int) - 1 < (y : Int) + 1 then (H : Int) - 1 else (y : Int) + 1) = L := ⟨_, rfl⟩
  have hcall := mean_anyI W H _ _ _ w1 L T R B (x - 1) (y - 1) (min (x + 1) (W - 1)) (min (y + 1) (H - 1)) (by subst hL; split <;> omega) (by subst hT; split <;> omega) (by subst hR; split <;> omega) (by subst hB; split <;> omega) hw2 hh2 (by omega) (by omega) (by omega) (by omega) hO1.fn.px_bd (numbers_tells hO1.bx hO1.fn)
  clear hO hbel hI hO1
  show Calls Tryz.prog 153 #[.int .i64 x, .int .i64 y, .pointer (some ⟨d, 0, none⟩), .pointer (some ⟨ib, 0, none⟩)] w1 fun e w2 => e = .returned (.int .i64 (meanP (px W ps) (x - 1) (y - 1) (min (x + 1) (W - 1)) (min (y + 1) (H - 1)))) ∧ _
  go_enter Tryz.func153, Tryz.ntmps153
  go_wp2_with (go_at_call 154; refine hcall.mono ?_; rintro e w2 ⟨rfl, hb2⟩)
  go_ret
  exact ⟨rfl, hb2⟩
end Go.Proofs.YtaenpgdmiaekcaaGreatDoor
/-
  MAKE: image.Make, and the reference's MakeError and MakeOf.
-/
namespace Go.Proofs.YtaenpgdmiaekcaaGreatDoor
set_option maxRecDepth 100000
open Go.RowKit Im

/-- What stands at column x and row y of what Make makes. -/
def makeG (op k : Int) (x y : Nat) : Int := if op = 1 then k else ((x : Int) * k + y) % 65536

/-- The zero value of an image. -/
abbrev noImage : Value := .agg #[.int .i64 0, .int .i64 0, .slice none 0 0]

theorem make1_enters : ∀ args w, (callFunc 107 args).run Tryz.prog w = .ok (.enter 107 args) w := fun _ _ => by kernel_rfl
theorem make2_enters : ∀ args w, (callFunc 108 args).run Tryz.prog w = .ok (.enter 108 args) w := fun _ _ => by kernel_rfl

theorem make1_tells (w : World) (b W H : Nat) (k : Int) (hb : b < w.heap.size) (hc : w.cell? ⟨b, 0, none⟩ = some (.int .i64 k)) : Tells w 107 #[.pointer (some ⟨b, 0, none⟩)] W H (makeG 1 k) := by
  refine ⟨make1_enters, fun x y w1 _ _ hbel => ?_⟩
  have hc1 : w1.cell? ⟨b, 0, none⟩ = some (.int .i64 k) := (hbel.cell (p := ⟨b, 0, none⟩) hb).trans hc
  show Calls Tryz.prog 107 #[.int .i64 x, .int .i64 y, .pointer (some ⟨b, 0, none⟩)] w1 _
  go_enter Tryz.func107, Tryz.ntmps107
  go_wp2
  go_ret
  exact ⟨rfl, Below.refl _ _⟩
theorem make2_tells (w : World) (b W H : Nat) (k : Int) (hb : b < w.heap.size) (hc : w.cell? ⟨b, 0, none⟩ = some (.int .i64 k)) (hW : W ≤ 16) (hH : H ≤ 16) (hk : 0 ≤ k ∧ k ≤ 65535) : Tells w 108 #[.pointer (some ⟨b, 0, none⟩)] W H (makeG 2 k) := by
  refine ⟨make2_enters, fun x y w1 hx hy hbel => ?_⟩
  have hc1 : w1.cell? ⟨b, 0, none⟩ = some (.int .i64 k) := (hbel.cell (p := ⟨b, 0, none⟩) hb).trans hc
  have hm1 : 0 ≤ (x : Int) * k := Int.mul_nonneg (by omega) hk.1
  have hm2 : (x : Int) * k ≤ 16 * 65535 := Int.mul_le_mul (by omega) hk.2 hk.1 (by omega)
  show Calls Tryz.prog 108 #[.int .i64 x, .int .i64 y, .pointer (some ⟨b, 0, none⟩)] w1 _
  go_enter Tryz.func108, Tryz.ntmps108
  go_wp2
  go_ret
  exact ⟨rfl, Below.refl _ _⟩

theorem make_kind (op W H k : Int) (w : World) (h : ¬ op = 1) (h' : ¬ op = 2) :
    Calls Tryz.prog 68 #[.int .i64 op, .int .i64 W, .int .i64 H, .int .i64 k] w fun e w' => e = .returned (.tuple #[noImage, .int .i64 4]) ∧ Below w.heap.size w w' := by
  have hb : (op != 1) = true := by simpa using h
  have hb' : (op != 2) = true := by simpa using h'
  go_enter Tryz.func68, Tryz.ntmps68
  go_wp2
  exact bodyPost_ret (v := .tuple #[noImage, .int .i64 4]) (by simp [results, Tryz.results68, go_sem]) rfl ⟨rfl, ((Below.refl _ _).alloc (Nat.le_refl _) _).alloc (by simp) _⟩

theorem make_range (op W H k : Int) (w : World) (h : op = 1 ∨ op = 2) (hr : (sideB W && sideB H && numB k) = false) :
    Calls Tryz.prog 68 #[.int .i64 op, .int .i64 W, .int .i64 H, .int .i64 k] w fun e w' => e = .returned (.tuple #[noImage, .int .i64 3]) ∧ Below w.heap.size w w' := by
  rcases h with rfl | rfl
  all_goals
    by_cases h1 : sideB W = true
    · by_cases h2 : sideB H = true
      · have h3 : numB k = false := by rw [h1, h2] at hr; simpa using hr
        clear hr
        go_enter Tryz.func68, Tryz.ntmps68
        go_wp2_with (first | (go_at_call 33; refine (isSide_any _ _).mono ?_; rintro e w' ⟨rfl, rfl⟩) | (go_at_call 34; refine (isNumber_any _ _).mono ?_; rintro e w' ⟨rfl, rfl⟩))
        exact bodyPost_ret (v := .tuple #[noImage, .int .i64 3]) (by simp [results, Tryz.results68, go_sem]) rfl ⟨rfl, ((Below.refl _ _).alloc (Nat.le_refl _) _).alloc (by simp) _⟩
      · have h2' : sideB H = false := by simpa using h2
        clear hr
        go_enter Tryz.func68, Tryz.ntmps68
        go_wp2_with (first | (go_at_call 33; refine (isSide_any _ _).mono ?_; rintro e w' ⟨rfl, rfl⟩) | (go_at_call 34; refine (isNumber_any _ _).mono ?_; rintro e w' ⟨rfl, rfl⟩))
        exact bodyPost_ret (v := .tuple #[noImage, .int .i64 3]) (by simp [results, Tryz.results68, go_sem]) rfl ⟨rfl, ((Below.refl _ _).alloc (Nat.le_refl _) _).alloc (by simp) _⟩
    · have h1' : sideB W = false := by simpa using h1
      clear hr
      go_enter Tryz.func68, Tryz.ntmps68
      go_wp2_with (first | (go_at_call 33; refine (isSide_any _ _).mono ?_; rintro e w' ⟨rfl, rfl⟩) | (go_at_call 34; refine (isNumber_any _ _).mono ?_; rintro e w' ⟨rfl, rfl⟩))
      exact bodyPost_ret (v := .tuple #[noImage, .int .i64 3]) (by simp [results, Tryz.results68, go_sem]) rfl ⟨rfl, ((Below.refl _ _).alloc (Nat.le_refl _) _).alloc (by simp) _⟩
set_option maxHeartbeats 1000000 in
theorem make_ok (op : Int) (W H : Nat) (k : Int) (w : World) (h : op = 1 ∨ op = 2) (h1 : sideB W = true) (h2 : sideB H = true) (h3 : numB k = true) :
    Calls Tryz.prog 68 #[.int .i64 op, .int .i64 W, .int .i64 H, .int .i64 k] w fun e w' =>
      ∃ a cap, e = .returned (.tuple #[.agg #[.int .i64 W, .int .i64 H, .slice a (W * H) cap], .int .i64 0]) ∧ Ints w.heap.size w' a (W * H) (pix W (makeG op k) (W * H)) ∧ Below w.heap.size w w' := by
  have b1 := (side_iff _).1 h1
  have b2 := (side_iff _).1 h2
  have b3 := (num_iff _).1 h3
  have hB : Below w.heap.size w ((w.alloc (.cells #[.int .i64 k] 3)).alloc (.cells #[.int .i64 0, .int .i64 0, .slice none 0 0] 24)) := ((Below.refl _ _).alloc (Nat.le_refl _) _).alloc (by simp) _
  have hk : ((w.alloc (.cells #[.int .i64 k] 3)).alloc (.cells #[.int .i64 0, .int .i64 0, .slice none 0 0] 24)).cell? ⟨w.heap.size, 0, none⟩ = some (.int .i64 k) := by simp [go_sem]
  rcases h with rfl | rfl
  · have t := make1_tells _ w.heap.size W H k (by simp; omega) hk
    go_enter Tryz.func68, Tryz.ntmps68
    go_wp2_with (first
      | (go_at_call 33; refine (isSide_any _ _).mono ?_; rintro e w' ⟨rfl, rfl⟩)
      | (go_at_call 34; refine (isNumber_any _ _).mono ?_; rintro e w' ⟨rfl, rfl⟩)
      | (go_at_call 106; refine (draw_any W H _ _ _ _ (by omega) (by omega) t).mono ?_; rintro e w2 ⟨a, cap, rfl, hints, hbel⟩; obtain ⟨hcc, hff⟩ := bcell hbel; have hsz : w.heap.size + 1 < w2.heap.size := by have := hbel.size; simp at this; omega))
    have e1 : w2.cell? ⟨w.heap.size + 1, 0, none⟩ = some (.int .i64 0) := by rw [hcc _ _ (by simp)]; simp [go_sem]
    have e2 : w2.cell? ⟨w.heap.size + 1, 1, none⟩ = some (.int .i64 0) := by rw [hcc _ _ (by simp)]; simp [go_sem]
    have e3 : w2.cell? ⟨w.heap.size + 1, 2, none⟩ = some (.slice none 0 0) := by rw [hcc _ _ (by simp)]; simp [go_sem]
    refine bodyPost_ret (v := .tuple #[.agg #[.int .i64 W, .int .i64 H, .slice a (W * H) cap], .int .i64 0]) (by simp [results, Tryz.results68, go_sem, e1, e2, e3]) rfl ⟨a, cap, rfl, ?_, ?_⟩
    · exact (((hints.setCell (by simp) _).setCell (by simp) _).setCell (by simp) _).mono (by simp; omega)
    · exact (((hB.trans (hbel.mono (by simp; omega))).setCell (by simp) _).setCell (by simp) _).setCell (by simp) _
  · have t := make2_tells _ w.heap.size W H k (by simp; omega) hk (by omega) (by omega) b3
    go_enter Tryz.func68, Tryz.ntmps68
    go_wp2_with (first
      | (go_at_call 33; refine (isSide_any _ _).mono ?_; rintro e w' ⟨rfl, rfl⟩)
      | (go_at_call 34; refine (isNumber_any _ _).mono ?_; rintro e w' ⟨rfl, rfl⟩)
      | (go_at_call 106; refine (draw_any W H _ _ _ _ (by omega) (by omega) t).mono ?_; rintro e w2 ⟨a, cap, rfl, hints, hbel⟩; obtain ⟨hcc, hff⟩ := bcell hbel; have hsz : w.heap.size + 1 < w2.heap.size := by have := hbel.size; simp at this; omega))
    have e1 : w2.cell? ⟨w.heap.size + 1, 0, none⟩ = some (.int .i64 0) := by rw [hcc _ _ (by simp)]; simp [go_sem]
    have e2 : w2.cell? ⟨w.heap.size + 1, 1, none⟩ = some (.int .i64 0) := by rw [hcc _ _ (by simp)]; simp [go_sem]
    have e3 : w2.cell? ⟨w.heap.size + 1, 2, none⟩ = some (.slice none 0 0) := by rw [hcc _ _ (by simp)]; simp [go_sem]
    refine bodyPost_ret (v := .tuple #[.agg #[.int .i64 W, .int .i64 H, .slice a (W * H) cap], .int .i64 0]) (by simp [results, Tryz.results68, go_sem, e1, e2, e3]) rfl ⟨a, cap, rfl, ?_, ?_⟩
    · exact (((hints.setCell (by simp) _).setCell (by simp) _).setCell (by simp) _).mono (by simp; omega)
    · exact (((hB.trans (hbel.mono (by simp; omega))).setCell (by simp) _).setCell (by simp) _).setCell (by simp) _

end Go.Proofs.YtaenpgdmiaekcaaGreatDoor
/-
  ONE: image.One makes what the document says of one image.
-/
namespace Go.Proofs.YtaenpgdmiaekcaaGreatDoor
set_option maxRecDepth 100000
open Go.RowKit Im

/-- The error of One, of a right image of W columns and H rows. -/
def oneErr (op : Int) (W H : Nat) (k : Int) : Int :=
  if op = 3 then 0 else if op = 10 then 0 else if op = 8 then okIf (numB k) 3 else if op = 9 then okIf (withinB k (-16) 16) 3
  else if op = 11 then okIf (decide (W % 2 = 0) && decide (H % 2 = 0)) 6 else if op = 12 then okIf (decide (2 * W ≤ 16) && decide (2 * H ≤ 16)) 6 else 4
theorem oneErr_none {op : Int} (W H : Nat) (k : Int) (h3 : ¬ op = 3) (h10 : ¬ op = 10) (h8 : ¬ op = 8) (h9 : ¬ op = 9) (h11 : ¬ op = 11) (h12 : ¬ op = 12) : oneErr op W H k = 4 := by
  simp [oneErr, h3, h10, h8, h9, h11, h12]

theorem unless_any (r : Bool) (E : Int) (w : World) : Calls Tryz.prog 150 #[.bool r, .int .i64 E] w fun e w' => e = .returned (.int .i64 (okIf r E)) ∧ w = w' := by
  cases r
  all_goals
    go_enter Tryz.func150, Tryz.ntmps150
    go_wp2
    go_ret
    exact ⟨rfl, rfl⟩

theorem checkOne_none (op : Int) (W H : Nat) (k : Int) (a : Option Addr) (len cap : Nat) (w : World) (h3 : ¬ op = 3) (h10 : ¬ op = 10) (h8 : ¬ op = 8) (h9 : ¬ op = 9) (h11 : ¬ op = 11) (h12 : ¬ op = 12) :
    Calls Tryz.prog 118 #[.int .i64 op, .agg #[.int .i64 W, .int .i64 H, .slice a len cap], .int .i64 k] w fun e w' => e = .returned (.int .i64 4) ∧ Below w.heap.size w w' := by
  have g3 : (op == 3) = false := by simpa using h3
  have g10 : (op == 10) = false := by simpa using h10
  have g8 : (op == 8) = false := by simpa using h8
  have g9 : (op == 9) = false := by simpa using h9
  have g11 : (op == 11) = false := by simpa using h11
  have g12 : (op == 12) = false := by simpa using h12
  go_enter Tryz.func118, Tryz.ntmps118
  go_wp2
  go_ret
  exact ⟨rfl, (Below.refl _ _).alloc (Nat.le_refl _) _⟩
theorem checkOne_free (op : Int) (W H : Nat) (k : Int) (a : Option Addr) (len cap : Nat) (w : World) (h : op = 3 ∨ op = 10) :
    Calls Tryz.prog 118 #[.int .i64 op, .agg #[.int .i64 W, .int .i64 H, .slice a len cap], .int .i64 k] w fun e w' => e = .returned (.int .i64 0) ∧ Below w.heap.size w w' := by
  rcases h with rfl | rfl
  all_goals
    go_enter Tryz.func118, Tryz.ntmps118
    go_wp2
    go_ret
    exact ⟨rfl, (Below.refl _ _).alloc (Nat.le_refl _) _⟩
theorem checkOne_cut (W H : Nat) (k : Int) (a : Option Addr) (len cap : Nat) (w : World) :
    Calls Tryz.prog 118 #[.int .i64 8, .agg #[.int .i64 W, .int .i64 H, .slice a len cap], .int .i64 k] w fun e w' => e = .returned (.int .i64 (okIf (numB k) 3)) ∧ Below w.heap.size w w' := by
  go_enter Tryz.func118, Tryz.ntmps118
  go_wp2_with (first | (go_at_call 34; refine (isNumber_any _ _).mono ?_; rintro e w' ⟨rfl, rfl⟩) | (go_at_call 150; refine (unless_any _ _ _).mono ?_; rintro e w' ⟨rfl, rfl⟩))
  go_ret
  exact ⟨rfl, (Below.refl _ _).alloc (Nat.le_refl _) _⟩
theorem checkOne_shift (W H : Nat) (k : Int) (a : Option Addr) (len cap : Nat) (w : World) :
    Calls Tryz.prog 118 #[.int .i64 9, .agg #[.int .i64 W, .int .i64 H, .slice a len cap], .int .i64 k] w fun e w' => e = .returned (.int .i64 (okIf (withinB k (-16) 16) 3)) ∧ Below w.heap.size w w' := by
  by_cases h1 : -16 ≤ k
  · by_cases h2 : k ≤ 16
    · have e : withinB k (-16) 16 = true := by simp [withinB, h1, h2]
      rw [e]; clear e
      go_enter Tryz.func118, Tryz.ntmps118
      go_wp2_with (go_at_call 150; refine (unless_any _ _ _).mono ?_; rintro e w' ⟨rfl, rfl⟩)
      go_ret
      exact ⟨rfl, (Below.refl _ _).alloc (Nat.le_refl _) _⟩
    · have e : withinB k (-16) 16 = false := by simp [withinB, h2]
      rw [e]; clear e
      go_enter Tryz.func118, Tryz.ntmps118
      go_wp2_with (go_at_call 150; refine (unless_any _ _ _).mono ?_; rintro e w' ⟨rfl, rfl⟩)
      go_ret
      exact ⟨rfl, (Below.refl _ _).alloc (Nat.le_refl _) _⟩
  · have e : withinB k (-16) 16 = false := by simp [withinB, h1]
    rw [e]; clear e
    go_enter Tryz.func118, Tryz.ntmps118
    go_wp2_with (go_at_call 150; refine (unless_any _ _ _).mono ?_; rintro e w' ⟨rfl, rfl⟩)
    go_ret
    exact ⟨rfl, (Below.refl _ _).alloc (Nat.le_refl _) _⟩
theorem checkOne_down (W H : Nat) (k : Int) (a : Option Addr) (len cap : Nat) (w : World) (hW : W ≤ 16) (hH : H ≤ 16) :
    Calls Tryz.prog 118 #[.int .i64 11, .agg #[.int .i64 W, .int .i64 H, .slice a len cap], .int .i64 k] w fun e w' => e = .returned (.int .i64 (okIf (decide (W % 2 = 0) && decide (H % 2 = 0)) 6)) ∧ Below w.heap.size w w' := by
  by_cases h1 : W % 2 = 0
  · have g1 : ((W : Int) % 2 == 0) = true := by simp; omega
    by_cases h2 : H % 2 = 0
    · have g2 : ((H : Int) % 2 == 0) = true := by simp; omega
      have e : (decide (W % 2 = 0) && decide (H % 2 = 0)) = true := by simp [h1, h2]
      rw [e]; clear e
      go_enter Tryz.func118, Tryz.ntmps118
      go_wp2_with (go_at_call 150; refine (unless_any _ _ _).mono ?_; rintro e w' ⟨rfl, rfl⟩)
      go_ret
      exact ⟨rfl, (Below.refl _ _).alloc (Nat.le_refl _) _⟩
    · have g2 : ((H : Int) % 2 == 0) = false := by simp; omega
      have e : (decide (W % 2 = 0) && decide (H % 2 = 0)) = false := by simp [h2]
      rw [e]; clear e
      go_enter Tryz.func118, Tryz.ntmps118
      go_wp2_with (go_at_call 150; refine (unless_any _ _ _).mono ?_; rintro e w' ⟨rfl, rfl⟩)
      go_ret
      exact ⟨rfl, (Below.refl _ _).alloc (Nat.le_refl _) _⟩
  · have g1 : ((W : Int) % 2 == 0) = false := by simp; omega
    have e : (decide (W % 2 = 0) && decide (H % 2 = 0)) = false := by simp [h1]
    rw [e]; clear e
    go_enter Tryz.func118, Tryz.ntmps118
    go_wp2_with (go_at_call 150; refine (unless_any _ _ _).mono ?_; rintro e w' ⟨rfl, rfl⟩)
    go_ret
    exact ⟨rfl, (Below.refl _ _).alloc (Nat.le_refl _) _⟩
theorem side_two (n : Nat) (h : 1 ≤ n) : sideB (2 * (n : Int)) = decide (2 * n ≤ 16) := by
  rw [Bool.eq_iff_iff]; simp [sideB]; omega
theorem checkOne_up (W H : Nat) (k : Int) (a : Option Addr) (len cap : Nat) (w : World) (hW : 1 ≤ W ∧ W ≤ 16) (hH : 1 ≤ H ∧ H ≤ 16) :
    Calls Tryz.prog 118 #[.int .i64 12, .agg #[.int .i64 W, .int .i64 H, .slice a len cap], .int .i64 k] w fun e w' => e = .returned (.int .i64 (okIf (decide (2 * W ≤ 16) && decide (2 * H ≤ 16)) 6)) ∧ Below w.heap.size w w' := by
  rw [← side_two W hW.1, ← side_two H hH.1]
  by_cases h1 : sideB (2 * (W : Int)) = true
  · rw [h1, Bool.true_and]
    go_enter Tryz.func118, Tryz.ntmps118
    go_wp2_with (first | (go_at_call 33; refine (isSide_any _ _).mono ?_; rintro e w' ⟨rfl, rfl⟩) | (go_at_call 150; refine (unless_any _ _ _).mono ?_; rintro e w' ⟨rfl, rfl⟩))
    go_ret
    exact ⟨rfl, (Below.refl _ _).alloc (Nat.le_refl _) _⟩
  · have h1' : sideB (2 * (W : Int)) = false := by simpa using h1
    rw [h1', Bool.false_and]
    go_enter Tryz.func118, Tryz.ntmps118
    go_wp2_with (first | (go_at_call 33; refine (isSide_any _ _).mono ?_; rintro e w' ⟨rfl, rfl⟩) | (go_at_call 150; refine (unless_any _ _ _).mono ?_; rintro e w' ⟨rfl, rfl⟩))
    go_ret
    exact ⟨rfl, (Below.refl _ _).alloc (Nat.le_refl _) _⟩
/-- The operations of One. -/
theorem ones_cases (op : Int) : (op = 3 ∨ op = 10) ∨ op = 8 ∨ op = 9 ∨ op = 11 ∨ op = 12 ∨ (¬ op = 3 ∧ ¬ op = 10 ∧ ¬ op = 8 ∧ ¬ op = 9 ∧ ¬ op = 11 ∧ ¬ op = 12) := by omega
theorem checkOne_any (op : Int) (W H : Nat) (k : Int) (a : Option Addr) (len cap : Nat) (w : World) (hW : 1 ≤ W ∧ W ≤ 16) (hH : 1 ≤ H ∧ H ≤ 16) :
    Calls Tryz.prog 118 #[.int .i64 op, .agg #[.int .i64 W, .int .i64 H, .slice a len cap], .int .i64 k] w fun e w' => e = .returned (.int .i64 (oneErr op W H k)) ∧ Below w.heap.size w w' := by
  rcases ones_cases op with h | rfl | rfl | rfl | rfl | ⟨h3, h10, h8, h9, h11, h12⟩
  · have e : oneErr op W H k = 0 := by rcases h with rfl | rfl <;> rfl
    rw [e]; exact checkOne_free op W H k a len cap w h
  · exact checkOne_cut W H k a len cap w
  · exact checkOne_shift W H k a len cap w
  · exact checkOne_down W H k a len cap w hW.2 hH.2
  · exact checkOne_up W H k a len cap w hW hH
  · rw [oneErr_none W H k h3 h10 h8 h9 h11 h12]; exact checkOne_none op W H k a len cap w h3 h10 h8 h9 h11 h12
end Go.Proofs.YtaenpgdmiaekcaaGreatDoor
/-
  ONE2: image.One, whole.
-/
namespace Go.Proofs.YtaenpgdmiaekcaaGreatDoor
set_option maxRecDepth 100000
open Go.RowKit Im

theorem sizeOfOne_any (op : Int) (W H : Nat) (a : Option Addr) (len cap : Nat) (w : World) (hW : W ≤ 16) (hH : H ≤ 16) :
    Calls Tryz.prog 119 #[.int .i64 op, .agg #[.int .i64 W, .int .i64 H, .slice a len cap]] w fun e w' => e = .returned (.tuple #[.int .i64 (oneN op W), .int .i64 (oneN op H)]) ∧ Below w.heap.size w w' := by
  have hB : ∀ n, Below w.heap.size w ((w.alloc (.cells #[.int .i64 W, .int .i64 H, .slice a len cap] 24)).drewN n) := fun n => below_drewN ((Below.refl _ _).alloc (Nat.le_refl _) _) n
  by_cases h11 : op = 11
  · subst h11
    have e1 : (oneN 11 W : Int) = (W : Int) / 2 := by simp [oneN]
    have e2 : (oneN 11 H : Int) = (H : Int) / 2 := by simp [oneN]
    rw [e1, e2]; clear e1 e2
    go_enter Tryz.func119, Tryz.ntmps119
    go_wp2
    go_quiet (fail)
    go_wp2
    go_ret2
    exact ⟨rfl, hB _⟩
  by_cases h12 : op = 12
  · subst h12
    have e1 : (oneN 12 W : Int) = 2 * (W : Int) := by simp [oneN]
    have e2 : (oneN 12 H : Int) = 2 * (H : Int) := by simp [oneN]
    rw [e1, e2]; clear e1 e2
    go_enter Tryz.func119, Tryz.ntmps119
    go_wp2
    go_quiet (fail)
    go_wp2
    go_ret2
    exact ⟨rfl, hB _⟩
  · have g11 : (op == 11) = false := by simpa using h11
    have g12 : (op == 12) = false := by simpa using h12
    have e1 : oneN op W = W := by simp [oneN, h11, h12]
    have e2 : oneN op H = H := by simp [oneN, h11, h12]
    rw [e1, e2]; clear e1 e2
    go_enter Tryz.func119, Tryz.ntmps119
    go_wp2
    go_quiet (fail)
    go_wp2
    go_ret2
    exact ⟨rfl, hB _⟩

/-- The world of ruleOfOne, behind numbersOf: the image's box, k's box, the image's second box, the box of the function value. -/
theorem ruleOfOne_any (op : Int) (W H b off cap : Nat) (k : Int) (ps : List Int) (w : World) (hF : Fine w b off W H ps) (he : oneErr op W H k = 0) :
    Calls Tryz.prog 120 #[.int .i64 op, .agg #[.int .i64 W, .int .i64 H, .slice (some ⟨b, off, none⟩) (W * H) cap], .int .i64 k] w fun e w' =>
      ∃ n caps, e = .returned (.func (.func n) #[] caps) ∧ Tells w' n caps (oneN op W) (oneN op H) (oneG op W H k ps) ∧ Below w.heap.size w w' := by
  have hB : ∀ o1 o2 o3 o4, Below w.heap.size w ((((w.alloc o1).alloc o2).alloc o3).alloc o4) := fun o1 o2 o3 o4 => ((((Below.refl _ _).alloc (Nat.le_refl _) _).alloc (by simp) _).alloc (by simp; omega) _).alloc (by simp; omega) _
  obtain ⟨w4, hw4⟩ : ∃ w4, w4 = (((w.alloc (.cells #[.int .i64 W, .int .i64 H, .slice (some ⟨b, off, none⟩) (W * H) cap] 24)).alloc (.cells #[.int .i64 k] 3)).alloc (.cells #[.int .i64 W, .int .i64 H, .slice (some ⟨b, off, none⟩) (W * H) cap] 24)).alloc (.cells #[.func (.func 147) #[] #[.pointer (some ⟨w.heap.size + 1 + 1, 0, none⟩)]] 144) := ⟨_, rfl⟩
  have hb4 : Below w.heap.size w w4 := by rw [hw4]; exact hB _ _ _ _
  have s4 : w4.heap.size = w.heap.size + 4 := by rw [hw4]; simp
  have hF4 := hF.below hb4
  have hI : Boxed w4 w.heap.size b off cap W H := by refine ⟨by omega, ?_, ?_, ?_⟩ <;> (rw [hw4]; simp [go_sem])
  have hJ : Boxed w4 (w.heap.size + 1 + 1) b off cap W H := by refine ⟨by omega, ?_, ?_, ?_⟩ <;> (rw [hw4]; simp [go_sem])
  have hK : w4.cell? ⟨w.heap.size + 1, 0, none⟩ = some (.int .i64 k) := by rw [hw4]; simp [go_sem]
  have hO : Old w4 (w.heap.size + 1 + 1 + 1) (w.heap.size + 1 + 1) b off cap W H ps := ⟨by omega, by rw [hw4]; simp [go_sem], hJ, hF4⟩
  rcases ones_cases op with (rfl | rfl) | rfl | rfl | rfl | rfl | ⟨h3, h10, h8, h9, h11, h12⟩
  · have T := numbers_tells hJ hF4
    subst hw4
    go_enter Tryz.func120, Tryz.ntmps120
    go_wp2_with (go_at_call 110; refine (numbersOf_any _ _ _ _ _ _).mono ?_; rintro e w' ⟨rfl, rfl⟩)
    go_ret
    exact ⟨_, _, rfl, T, hb4⟩
  · have T := rule3_tells k hO hI
    subst hw4
    go_enter Tryz.func120, Tryz.ntmps120
    go_wp2_with (go_at_call 110; refine (numbersOf_any _ _ _ _ _ _).mono ?_; rintro e w' ⟨rfl, rfl⟩)
    go_ret
    exact ⟨_, _, rfl, T, hb4⟩
  · have T := rule1_tells hO hK (by omega)
    subst hw4
    go_enter Tryz.func120, Tryz.ntmps120
    go_wp2_with (go_at_call 110; refine (numbersOf_any _ _ _ _ _ _).mono ?_; rintro e w' ⟨rfl, rfl⟩)
    go_ret
    exact ⟨_, _, rfl, T, hb4⟩
  · have hk9 : -16 ≤ k ∧ k ≤ 16 := by
      by_cases h : withinB k (-16) 16 = true
      · simpa [withinB] using h
      · have e : oneErr 9 W H k = okIf (withinB k (-16) 16) 3 := rfl
        rw [e, eq_false_of_ne_true h] at he; cases he
    have T := rule2_tells hO hK (by omega) hk9 hI
    subst hw4
    go_enter Tryz.func120, Tryz.ntmps120
    go_wp2_with (go_at_call 110; refine (numbersOf_any _ _ _ _ _ _).mono ?_; rintro e w' ⟨rfl, rfl⟩)
    go_ret
    exact ⟨_, _, rfl, T, hb4⟩
  · have T := rule4_tells k hO
    subst hw4
    go_enter Tryz.func120, Tryz.ntmps120
    go_wp2_with (go_at_call 110; refine (numbersOf_any _ _ _ _ _ _).mono ?_; rintro e w' ⟨rfl, rfl⟩)
    go_ret
    exact ⟨_, _, rfl, T, hb4⟩
  · have T := rule5_tells k hO
    subst hw4
    go_enter Tryz.func120, Tryz.ntmps120
    go_wp2_with (go_at_call 110; refine (numbersOf_any _ _ _ _ _ _).mono ?_; rintro e w' ⟨rfl, rfl⟩)
    go_ret
    exact ⟨_, _, rfl, T, hb4⟩
  · rw [oneErr_none W H k h3 h10 h8 h9 h11 h12] at he; omega
end Go.Proofs.YtaenpgdmiaekcaaGreatDoor
/-
  ONE3: image.One answers what the document says.
-/
namespace Go.Proofs.YtaenpgdmiaekcaaGreatDoor
set_option maxRecDepth 100000
open Go.RowKit Im

/-- image.One, of an image that is not right. -/
theorem one_not {W H : Int} {a : Option Addr} {len : Nat} (op : Int) (cap : Nat) (k : Int) {ps : List Int} {w : World} (h : Ints 0 w a len ps) (hf : fineB W H ps = false) :
    Calls Tryz.prog 71 #[.int .i64 op, .agg #[.int .i64 W, .int .i64 H, .slice a len cap], .int .i64 k] w fun e w' => e = .returned (.tuple #[noImage, .int .i64 1]) ∧ Below w.heap.size w w' := by
  have hB : ∀ o o', Below w.heap.size w ((w.alloc o).alloc o') := fun o o' => ((Below.refl _ _).alloc (Nat.le_refl _) _).alloc (by simp) _
  have h1 := h.below (Nat.le_refl _) (hB (.cells #[.int .i64 W, .int .i64 H, .slice a len cap] 24) (.cells #[.int .i64 0, .int .i64 0, .slice none 0 0] 24))
  go_enter Tryz.func71, Tryz.ntmps71
  go_wp2_with (go_at_call 13; refine (check_not cap h1 hf).mono ?_; rintro e wA ⟨rfl, hbA⟩; obtain ⟨cA, fA⟩ := bcell hbA; have sA : w.heap.size + 1 < wA.heap.size := by have := hbA.size; simp at this; omega)
  refine bodyPost_ret (v := .tuple #[noImage, .int .i64 1]) (by simp [results, Tryz.results71, go_sem, cA]) rfl ⟨rfl, ?_⟩
  exact ((((hB _ _).trans (hbA.mono (by simp; omega))).setCell (by simp) _).setCell (by simp) _).setCell (by simp) _
/-- image.One, where it tells an error of a right image. -/
theorem one_err {W H b off : Nat} (op : Int) (cap : Nat) (k : Int) {ps : List Int} {w : World} (hF : Fine w b off W H ps) (E : Int) (hE : oneErr op W H k = E) (h0 : ¬ E = 0) :
    Calls Tryz.prog 71 #[.int .i64 op, .agg #[.int .i64 W, .int .i64 H, .slice (some ⟨b, off, none⟩) (W * H) cap], .int .i64 k] w fun e w' => e = .returned (.tuple #[noImage, .int .i64 E]) ∧ Below w.heap.size w w' := by
  have hB : ∀ o o', Below w.heap.size w ((w.alloc o).alloc o') := fun o o' => ((Below.refl _ _).alloc (Nat.le_refl _) _).alloc (by simp) _
  have hF1 := hF.below (hB (.cells #[.int .i64 W, .int .i64 H, .slice (some ⟨b, off, none⟩) (W * H) cap] 24) (.cells #[.int .i64 0, .int .i64 0, .slice none 0 0] 24))
  have hne : (E != 0) = true := by simpa using h0
  have hcO := fun wx => checkOne_any op W H k (some ⟨b, off, none⟩) (W * H) cap wx hF.hW hF.hH
  rw [hE] at hcO
  clear hE h0
  go_enter Tryz.func71, Tryz.ntmps71
  go_wp2_with (first
    | (go_at_call 13; refine (check_fine cap hF1.ints hF1.fineB).mono ?_; rintro e wA ⟨rfl, hbA⟩; obtain ⟨cA, fA⟩ := bcell hbA; have sA : w.heap.size + 1 < wA.heap.size := by have := hbA.size; simp at this; omega)
    | (go_at_call 118; refine (hcO _).mono ?_; rintro e wB ⟨rfl, hbB⟩; have hbB' := hbA.trans (hbB.mono hbA.size); obtain ⟨cB, fB⟩ := bcell hbB'; have sB : w.heap.size + 1 < wB.heap.size := by have := hbB.size; omega))
  refine bodyPost_ret (v := .tuple #[noImage, .int .i64 E]) (by simp [results, Tryz.results71, go_sem, cB]) rfl ⟨rfl, ?_⟩
  exact ((((hB _ _).trans (hbB'.mono (by simp; omega))).setCell (by simp) _).setCell (by simp) _).setCell (by simp) _
theorem okIf_zero {b : Bool} {e : Int} (he : ¬ e = 0) (h : okIf b e = 0) : b = true := by
  cases b
  · exact absurd h he
  · rfl
theorem oneN_side {op : Int} {W H : Nat} {k : Int} (hW : 1 ≤ W ∧ W ≤ 16) (hH : 1 ≤ H ∧ H ≤ 16) (hE : oneErr op W H k = 0) : (1 ≤ oneN op W ∧ oneN op W ≤ 16) ∧ 1 ≤ oneN op H ∧ oneN op H ≤ 16 := by
  rcases ones_cases op with (rfl | rfl) | rfl | rfl | rfl | rfl | ⟨h3, h10, h8, h9, h11, h12⟩
  · exact ⟨hW, hH⟩
  · exact ⟨hW, hH⟩
  · exact ⟨hW, hH⟩
  · exact ⟨hW, hH⟩
  · have h := okIf_zero (by decide) (show okIf (decide (W % 2 = 0) && decide (H % 2 = 0)) 6 = 0 from hE)
    simp at h
    show (1 ≤ W / 2 ∧ W / 2 ≤ 16) ∧ 1 ≤ H / 2 ∧ H / 2 ≤ 16
    omega
  · have h := okIf_zero (by decide) (show okIf (decide (2 * W ≤ 16) && decide (2 * H ≤ 16)) 6 = 0 from hE)
    simp at h
    show (1 ≤ 2 * W ∧ 2 * W ≤ 16) ∧ 1 ≤ 2 * H ∧ 2 * H ≤ 16
    omega
  · rw [oneErr_none W H k h3 h10 h8 h9 h11 h12] at hE; omega
/-- image.One, of a right image and with no error. -/
theorem one_ok {W H b off : Nat} (op : Int) (cap : Nat) (k : Int) {ps : List Int} {w : World} (hF : Fine w b off W H ps) (hE : oneErr op W H k = 0) :
    Calls Tryz.prog 71 #[.int .i64 op, .agg #[.int .i64 W, .int .i64 H, .slice (some ⟨b, off, none⟩) (W * H) cap], .int .i64 k] w fun e w' =>
      ∃ a cap', e = .returned (.tuple #[.agg #[.int .i64 (oneN op W), .int .i64 (oneN op H), .slice a (oneN op W * oneN op H) cap'], .int .i64 0]) ∧ Ints w.heap.size w' a (oneN op W * oneN op H) (pix (oneN op W) (oneG op W H k ps) (oneN op W * oneN op H)) ∧ Below w.heap.size w w' := by
  have hB : ∀ o o', Below w.heap.size w ((w.alloc o).alloc o') := fun o o' => ((Below.refl _ _).alloc (Nat.le_refl _) _).alloc (by simp) _
  have hF1 := hF.below (hB (.cells #[.int .i64 W, .int .i64 H, .slice (some ⟨b, off, none⟩) (W * H) cap] 24) (.cells #[.int .i64 0, .int .i64 0, .slice none 0 0] 24))
  have hcO := fun wx => checkOne_any op W H k (some ⟨b, off, none⟩) (W * H) cap wx hF.hW hF.hH
  have hs := oneN_side hF.hW hF.hH hE
  have hsO := fun wx => sizeOfOne_any op W H (some ⟨b, off, none⟩) (W * H) cap wx hF.hW.2 hF.hH.2
  have hrO := fun wx h => ruleOfOne_any op W H b off cap k ps wx h hE
  rw [hE] at hcO
  clear hE
  go_enter Tryz.func71, Tryz.ntmps71
  go_wp2_with (first
    | (go_at_call 13; refine (check_fine cap hF1.ints hF1.fineB).mono ?_; rintro e wA ⟨rfl, hbA⟩; obtain ⟨cA, fA⟩ := bcell hbA; have sA : w.heap.size + 1 < wA.heap.size := by have := hbA.size; simp at this; omega)
    | (go_at_call 118; refine (hcO _).mono ?_; rintro e wB ⟨rfl, hbB⟩; have hbB' := hbA.trans (hbB.mono hbA.size); obtain ⟨cB, fB⟩ := bcell hbB'; have sB : w.heap.size + 1 < wB.heap.size := by have := hbB.size; omega)
    | (go_at_call 119; refine (hsO _).mono ?_; rintro e wC ⟨rfl, hbC⟩; have hbC' := hbB'.trans (hbC.mono hbB'.size); obtain ⟨cC, fC⟩ := bcell hbC'; have sC : w.heap.size + 1 < wC.heap.size := by have := hbC.size; omega)
    | (go_at_call 120; refine (hrO _ (hF1.below hbC')).mono ?_; rintro e wD ⟨fn, caps, rfl, hT, hbD⟩; have hbD' := hbC'.trans (hbD.mono hbC'.size); obtain ⟨cD, fD⟩ := bcell hbD'; have sD : w.heap.size + 1 < wD.heap.size := by have := hbD.size; omega)
    | (go_at_call 106; refine (draw_any _ _ _ _ _ _ hs.1 hs.2 hT).mono ?_; rintro e wE ⟨a, cap', rfl, hints, hbE⟩; have hbE' := hbD'.trans (hbE.mono hbD'.size); obtain ⟨cE, fE⟩ := bcell hbE'; have sE : w.heap.size + 1 < wE.heap.size := by have := hbE.size; omega))
  refine bodyPost_ret (v := .tuple #[.agg #[.int .i64 (oneN op W), .int .i64 (oneN op H), .slice a (oneN op W * oneN op H) cap'], .int .i64 0]) (by simp [results, Tryz.results71, go_sem, cE]) rfl ⟨a, cap', rfl, ?_, ?_⟩
  · exact (((hints.setCell (by simpa using sD) _).setCell (by simpa using sD) _).setCell (by simpa using sD) _).mono (by omega)
  · exact ((((hB _ _).trans (hbE'.mono (by simp; omega))).setCell (by simp) _).setCell (by simp) _).setCell (by simp) _
end Go.Proofs.YtaenpgdmiaekcaaGreatDoor
/-
  TWO: the rules of image.Two: a map of functions of two numbers.
-/
namespace Go.Proofs.YtaenpgdmiaekcaaGreatDoor
set_option maxRecDepth 100000
open Go.RowKit Im

abbrev mapT : Nat := 181
theorem run_put (w : World) (es : Array MapEntry) (n : Nat) (k : Int) (v : Value) (hf : Instr.findNow (.int .i64) (.int .i64 k) es.toList 0 = some none) :
    (Instr.mapUpdate mapT (.map (some w.heap.size)) (.int .i64 k) v).run Tryz.prog (w.alloc (.map es n)) = .ok () (w.alloc (.map (es.push { key := .int .i64 k, val := v, born := n }) (n + 1))) := by
  have hb : (w.alloc (.map es n)).heap[w.heap.size]? = some (.map es n) := (MapKept.heap_alloc w _).1
  have hc : (Instr.checkKey false 10000 3 (.int .i64 k)).run Tryz.prog (w.alloc (.map es n)) = .ok () (w.alloc (.map es n)) := MapKept.run_checkKey (k := .int .i64 k) Tryz.underlying3 (by simp [MapKept.IsKey]) false 9999
  have e : ∀ o : Obj, (w.heap.push (.map es n)).setIfInBounds w.heap.size o = w.heap.push o := fun o => by
    rw [← Array.toList_inj]
    simp
  simp [Instr.mapUpdate, run_underlying Tryz.underlying181, MapKept.run_getObj_map hb, hc, MapKept.run_findKey Tryz.underlying3 hf, MapKept.run_setObj_map _ hb, Result.andThen]
  show World.mk _ _ _ _ _ = World.mk _ _ _ _ _
  congr 1
  exact e _

/-- The entries of the map that rulesOfTwo makes. -/
def twoEntries : Array MapEntry := #[⟨.int .i64 4, .func (.func 143) #[] #[], 0⟩, ⟨.int .i64 5, .func (.func 144) #[] #[], 1⟩, ⟨.int .i64 6, .func (.func 145) #[] #[], 2⟩, ⟨.int .i64 7, .func (.func 146) #[] #[], 3⟩]
theorem rules_any (w : World) : Calls Tryz.prog 109 #[] w fun e w' => e = .returned (.map (some w.heap.size)) ∧ w' = w.alloc (.map twoEntries 4) := by
  have hmm := @run_makeMap Tryz.prog
  have p0 := run_put w #[] 0 4 (.func (.func 143) #[] #[]) rfl
  have p1 := run_put w #[⟨.int .i64 4, .func (.func 143) #[] #[], 0⟩] 1 5 (.func (.func 144) #[] #[]) rfl
  have p2 := run_put w #[⟨.int .i64 4, .func (.func 143) #[] #[], 0⟩, ⟨.int .i64 5, .func (.func 144) #[] #[], 1⟩] 2 6 (.func (.func 145) #[] #[]) rfl
  have p3 := run_put w #[⟨.int .i64 4, .func (.func 143) #[] #[], 0⟩, ⟨.int .i64 5, .func (.func 144) #[] #[], 1⟩, ⟨.int .i64 6, .func (.func 145) #[] #[], 2⟩] 3 7 (.func (.func 146) #[] #[]) rfl
  simp only [List.push_toArray, List.cons_append, List.nil_append, Nat.zero_add, Nat.reduceAdd] at p0 p1 p2 p3
  go_enter Tryz.func109, Tryz.ntmps109
  go_wp2
  go_ret
  exact ⟨rfl, rfl⟩

theorem run_find (w : World) (r : Nat) (op : Int) (u : Option (Nat × Value)) (hb : w.heap[r]? = some (.map twoEntries 4)) (hf : Instr.findNow (.int .i64) (.int .i64 op) twoEntries.toList 0 = some u) :
    (Instr.lookup mapT (.map (some r)) (.int .i64 op) true).run Tryz.prog w = .ok (match u with | some (_, v) => .tuple #[v, .bool true] | none => .tuple #[.nilFunc, .bool false]) w := by
  have hc : (Instr.checkKey twoEntries.isEmpty 10000 3 (.int .i64 op)).run Tryz.prog w = .ok () w := MapKept.run_checkKey (k := .int .i64 op) Tryz.underlying3 (by simp [MapKept.IsKey]) _ 9999
  rcases u with _ | ⟨i, v⟩
  · simp [Instr.lookup, run_underlying Tryz.underlying181, MapKept.run_getObj_map hb, hc, MapKept.run_findKey Tryz.underlying3 hf, Result.andThen]
  · simp [Instr.lookup, run_underlying Tryz.underlying181, MapKept.run_getObj_map hb, hc, MapKept.run_findKey Tryz.underlying3 hf, Result.andThen]

/-- What becomes of two numbers. -/
def twoG (op m n : Int) : Int := if op = 4 then min (m + n) 65535 else if op = 5 then max (m - n) 0 else if op = 6 then m * n / 65535 else max m n
/-- The function of the map at the operation. -/
def twoF (op : Int) : Nat := if op = 4 then 143 else if op = 5 then 144 else if op = 6 then 145 else 146
theorem two4 (m n : Int) (w : World) (hm : 0 ≤ m ∧ m ≤ 65535) (hn : 0 ≤ n ∧ n ≤ 65535) : Calls Tryz.prog 143 #[.int .i64 m, .int .i64 n] w fun e w' => e = .returned (.int .i64 (twoG 4 m n)) ∧ w' = w := by
  have e : twoG 4 m n = if 65535 < m + n then 65535 else m + n := by unfold twoG; simp; split <;> omega
  rw [e]
  by_cases h : 65535 < m + n
  · rw [if_pos h]
    go_enter Tryz.func143, Tryz.ntmps143
    go_wp2
    go_ret
    exact ⟨rfl, rfl⟩
  · rw [if_neg h]
    go_enter Tryz.func143, Tryz.ntmps143
    go_wp2
    go_ret
    exact ⟨rfl, rfl⟩
theorem two5 (m n : Int) (w : World) (hm : 0 ≤ m ∧ m ≤ 65535) (hn : 0 ≤ n ∧ n ≤ 65535) : Calls Tryz.prog 144 #[.int .i64 m, .int .i64 n] w fun e w' => e = .returned (.int .i64 (twoG 5 m n)) ∧ w' = w := by
  have e : twoG 5 m n = if m - n < 0 then 0 else m - n := by unfold twoG; simp; split <;> omega
  rw [e]
  by_cases h : m - n < 0
  · rw [if_pos h]
    go_enter Tryz.func144, Tryz.ntmps144
    go_wp2
    go_ret
    exact ⟨rfl, rfl⟩
  · rw [if_neg h]
    go_enter Tryz.func144, Tryz.ntmps144
    go_wp2
    go_ret
    exact ⟨rfl, rfl⟩
theorem two6 (m n : Int) (w : World) (hm : 0 ≤ m ∧ m ≤ 65535) (hn : 0 ≤ n ∧ n ≤ 65535) : Calls Tryz.prog 145 #[.int .i64 m, .int .i64 n] w fun e w' => e = .returned (.int .i64 (twoG 6 m n)) ∧ w' = w := by
  have e : twoG 6 m n = m * n / 65535 := by simp [twoG]
  have h1 : 0 ≤ m * n := Int.mul_nonneg hm.1 hn.1
  have h2 : m * n ≤ 65535 * 65535 := Int.mul_le_mul hm.2 hn.2 hn.1 (by omega)
  rw [e]
  clear e
  go_enter Tryz.func145, Tryz.ntmps145
  go_wp2
  go_ret
  exact ⟨rfl, rfl⟩
theorem two7 (m n : Int) (w : World) : Calls Tryz.prog 146 #[.int .i64 m, .int .i64 n] w fun e w' => e = .returned (.int .i64 (twoG 7 m n)) ∧ w' = w := by
  have e : twoG 7 m n = if m < n then n else m := by unfold twoG; simp; split <;> omega
  rw [e]
  by_cases h : m < n
  · rw [if_pos h]
    go_enter Tryz.func146, Tryz.ntmps146
    go_wp2
    go_ret
    exact ⟨rfl, rfl⟩
  · rw [if_neg h]
    go_enter Tryz.func146, Tryz.ntmps146
    go_wp2
    go_ret
    exact ⟨rfl, rfl⟩
theorem numbers_same {w : World} {c b off cap W H : Nat} {ps : List Int} (hB : Boxed w c b off cap W H) (hF : Fine w b off W H ps) (x y : Nat) (hx : x < W) (hy : y < H) :
    Calls Tryz.prog 147 #[.int .i64 x, .int .i64 y, .pointer (some ⟨c, 0, none⟩)] w fun e w' => e = .returned (.int .i64 (px W ps x y)) ∧ w' = w := by
  obtain ⟨hlt, c0, c1, c2⟩ := hB
  have hc := hF.cell (y * W + x) (place_lt hx hy)
  have hpl := place_lt hx hy
  obtain ⟨hm, hM⟩ := hF.small
  have hb1 := hF.hW
  have hb2 := hF.hH
  have hpi : (y : Int) * (W : Int) + (x : Int) < (W : Int) * (H : Int) := by rw [← Int.natCast_mul, ← Int.natCast_mul]; omega
  have hp0 : 0 ≤ (y : Int) * (W : Int) := Int.mul_nonneg (by omega) (by omega)
  have hpM : (W : Int) * (H : Int) ≤ 256 := by rw [← Int.natCast_mul]; omega
  obtain ⟨v, hv⟩ : ∃ v, v = px W ps x y := ⟨_, rfl⟩
  have hc' : w.cell? ⟨b, off + (y * W + x), none⟩ = some (.int .i64 v) := by rw [hv]; exact hc
  rw [← hv]
  clear hc hv hF hpl
  go_enter Tryz.func147, Tryz.ntmps147
  go_wp2
  go_ret
  exact ⟨rfl, rfl⟩
end Go.Proofs.YtaenpgdmiaekcaaGreatDoor
