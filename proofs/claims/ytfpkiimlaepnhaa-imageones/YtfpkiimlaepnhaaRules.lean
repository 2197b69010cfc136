/-
  RULES: what stands where in what image.One makes, operation by operation.
-/
import Derived.Test.YtfpkiimlaepnhaaRule
namespace Go.Proofs.Ytfpkiimlaepnhaa
set_option maxRecDepth 100000
open Go.RowKit Im

/-- The column that stands for x - k. -/
def colX (x : Nat) (k : Int) (W : Nat) : Nat := (min (max ((x : Int) - k) 0) ((W : Int) - 1)).toNat
/-- What stands at column x and row y of what One makes of an image of W columns and H rows. -/
def oneG (op : Int) (W H : Nat) (k : Int) (ps : List Int) (x y : Nat) : Int :=
  if op = 8 then (if k ≤ px W ps x y then px W ps x y else 0)
  else if op = 9 then px W ps (colX x k W) y
  else if op = 10 then meanP (px W ps) (x - 1) (y - 1) (min (x + 1) (W - 1)) (min (y + 1) (H - 1))
  else if op = 11 then meanP (px W ps) (2 * x) (2 * y) (2 * x + 1) (2 * y + 1)
  else if op = 12 then px W ps (x / 2) (y / 2)
  else px W ps x y
/-- How many columns, or rows, One makes of n. -/
def oneN (op : Int) (n : Nat) : Nat := if op = 11 then n / 2 else if op = 12 then 2 * n else n

/-- In the box d lies the function value that tells the numbers of the image. -/
structure Old (w : World) (d c b off cap W H : Nat) (ps : List Int) : Prop where
  lt : d < w.heap.size
  cd : w.cell? ⟨d, 0, none⟩ = some (.func (.func 104) #[] #[.pointer (some ⟨c, 0, none⟩)])
  bx : Boxed w c b off cap W H
  fn : Fine w b off W H ps
theorem Old.below {w w' : World} {d c b off cap W H : Nat} {ps : List Int} (h : Old w d c b off cap W H ps) (hb : Below w.heap.size w w') : Old w' d c b off cap W H ps :=
  ⟨Nat.lt_of_lt_of_le h.lt hb.size, (hb.cell (p := ⟨d, 0, none⟩) h.lt).trans h.cd, h.bx.below hb, h.fn.below hb⟩
theorem Old.call {w : World} {d c b off cap W H : Nat} {ps : List Int} (h : Old w d c b off cap W H ps) (x y : Nat) (hx : x < W) (hy : y < H) :
    Calls Try.prog 104 #[.int .i64 x, .int .i64 y, .pointer (some ⟨c, 0, none⟩)] w fun e w2 => e = .returned (.int .i64 (px W ps x y)) ∧ Below w.heap.size w w2 :=
  (numbers_tells h.bx h.fn).tells x y w hx hy (Below.refl _ _)

theorem Old.callI {w : World} {d c b off cap W H : Nat} {ps : List Int} (h : Old w d c b off cap W H ps) (X Y : Int) (x y : Nat) (hX : X = x) (hY : Y = y) (hx : x < W) (hy : y < H) :
    Calls Try.prog 104 #[.int .i64 X, .int .i64 Y, .pointer (some ⟨c, 0, none⟩)] w fun e w2 => e = .returned (.int .i64 (px W ps x y)) ∧ Below w.heap.size w w2 := by
  subst hX hY; exact h.call x y hx hy

theorem rule1_enters : ∀ args w, (callFunc 94 args).run Try.prog w = .ok (.enter 94 args) w := fun _ _ => by kernel_rfl
theorem rule2_enters : ∀ args w, (callFunc 95 args).run Try.prog w = .ok (.enter 95 args) w := fun _ _ => by kernel_rfl
theorem rule3_enters : ∀ args w, (callFunc 96 args).run Try.prog w = .ok (.enter 96 args) w := fun _ _ => by kernel_rfl
theorem rule4_enters : ∀ args w, (callFunc 98 args).run Try.prog w = .ok (.enter 98 args) w := fun _ _ => by kernel_rfl
theorem rule5_enters : ∀ args w, (callFunc 99 args).run Try.prog w = .ok (.enter 99 args) w := fun _ _ => by kernel_rfl

theorem rule1_tells {w : World} {d c b off cap W H kb : Nat} {ps : List Int} {k : Int} (hO : Old w d c b off cap W H ps) (hk : w.cell? ⟨kb, 0, none⟩ = some (.int .i64 k)) (hkl : kb < w.heap.size) :
    Tells w 94 #[.pointer (some ⟨d, 0, none⟩), .pointer (some ⟨kb, 0, none⟩)] W H (oneG 8 W H k ps) := by
  refine ⟨rule1_enters, fun x y w1 hx hy hbel => ?_⟩
  have hO1 := hO.below hbel
  have hcd := hO1.cd
  have hk1 : w1.cell? ⟨kb, 0, none⟩ = some (.int .i64 k) := (hbel.cell (p := ⟨kb, 0, none⟩) hkl).trans hk
  have hcall := hO1.call x y hx hy
  have hkl1 := Nat.lt_of_lt_of_le hkl hbel.size
  obtain ⟨v, hv⟩ : ∃ v, v = px W ps x y := ⟨_, rfl⟩
  have hg : oneG 8 W H k ps x y = if k ≤ v then v else 0 := by rw [hv]; rfl
  rw [← hv] at hcall
  rw [hg]
  clear hg hv hO hbel hk
  show Calls Try.prog 94 #[.int .i64 x, .int .i64 y, .pointer (some ⟨d, 0, none⟩), .pointer (some ⟨kb, 0, none⟩)] w1 _
  by_cases hkv : k ≤ v
  · rw [if_pos hkv]
    go_enter Try.func94, Try.ntmps94
    go_wp2_with (go_at_call 104; refine hcall.mono ?_; rintro e w2 ⟨rfl, hb2⟩; have hk2 := (hb2.cell (p := ⟨kb, 0, none⟩) hkl1).trans hk1)
    go_ret
    exact ⟨rfl, hb2⟩
  · rw [if_neg hkv]
    go_enter Try.func94, Try.ntmps94
    go_wp2_with (go_at_call 104; refine hcall.mono ?_; rintro e w2 ⟨rfl, hb2⟩; have hk2 := (hb2.cell (p := ⟨kb, 0, none⟩) hkl1).trans hk1)
    go_ret
    exact ⟨rfl, hb2⟩

theorem colX_lt (x : Nat) (k : Int) (W : Nat) (h : 1 ≤ W) : colX x k W < W := by unfold colX; omega
theorem colX_int (x : Nat) (k : Int) (W : Nat) (h : 1 ≤ W) : min (max ((x : Int) - k) 0) ((W : Int) - 1) = (colX x k W : Int) := by unfold colX; omega

theorem rule2_tells {w : World} {d c b off cap W H kb ib : Nat} {ps : List Int} {k : Int} (hO : Old w d c b off cap W H ps) (hk : w.cell? ⟨kb, 0, none⟩ = some (.int .i64 k)) (hkl : kb < w.heap.size) (hk16 : -16 ≤ k ∧ k ≤ 16)
    (hI : Boxed w ib b off cap W H) :
    Tells w 95 #[.pointer (some ⟨d, 0, none⟩), .pointer (some ⟨kb, 0, none⟩), .pointer (some ⟨ib, 0, none⟩)] W H (oneG 9 W H k ps) := by
  refine ⟨rule2_enters, fun x y w1 hx hy hbel => ?_⟩
  have hO1 := hO.below hbel
  have hcd := hO1.cd
  obtain ⟨hw1, hw2⟩ := hO.fn.hW
  have hk1 : w1.cell? ⟨kb, 0, none⟩ = some (.int .i64 k) := (hbel.cell (p := ⟨kb, 0, none⟩) hkl).trans hk
  have hi0 := (hI.below hbel).c0
  clear hO hbel hk hI
  have hl := colX_lt x k W hw1
  show Calls Try.prog 95 #[.int .i64 x, .int .i64 y, .pointer (some ⟨d, 0, none⟩), .pointer (some ⟨kb, 0, none⟩), .pointer (some ⟨ib, 0, none⟩)] w1 fun e w2 => e = .returned (.int .i64 (px W ps (colX x k W) y)) ∧ _
  by_cases h0 : (x : Int) - k < 0
  · have hcall := (hO1.callI 0 y (colX x k W) y (by unfold colX; omega) rfl hl hy)
    have h0' : 0 ≤ (W : Int) - 1 := by omega
    go_enter Try.func95, Try.ntmps95
    go_wp2_with (go_at_call 104; refine hcall.mono ?_; rintro e w2 ⟨rfl, hb2⟩)
    go_ret
    exact ⟨rfl, hb2⟩
  · by_cases h1 : (W : Int) - 1 < (x : Int) - k
    · have hcall := (hO1.callI ((W : Int) - 1) y (colX x k W) y (by unfold colX; omega) rfl hl hy)
      go_enter Try.func95, Try.ntmps95
      go_wp2_with (go_at_call 104; refine hcall.mono ?_; rintro e w2 ⟨rfl, hb2⟩)
      go_ret
      exact ⟨rfl, hb2⟩
    · have hcall := (hO1.callI ((x : Int) - k) y (colX x k W) y (by unfold colX; omega) rfl hl hy)
      go_enter Try.func95, Try.ntmps95
      go_wp2_with (go_at_call 104; refine hcall.mono ?_; rintro e w2 ⟨rfl, hb2⟩)
      go_ret
      exact ⟨rfl, hb2⟩

theorem rule5_tells {w : World} {d c b off cap W H : Nat} {ps : List Int} (k : Int) (hO : Old w d c b off cap W H ps) :
    Tells w 99 #[.pointer (some ⟨d, 0, none⟩)] (2 * W) (2 * H) (oneG 12 W H k ps) := by
  refine ⟨rule5_enters, fun x y w1 hx hy hbel => ?_⟩
  have hO1 := hO.below hbel
  have hcd := hO1.cd
  obtain ⟨hw1, hw2⟩ := hO.fn.hW
  obtain ⟨hh1, hh2⟩ := hO.fn.hH
  have hcall := (hO1.callI ((x : Int) / 2) ((y : Int) / 2) (x / 2) (y / 2) (by omega) (by omega) (by omega) (by omega))
  clear hO hbel
  show Calls Try.prog 99 #[.int .i64 x, .int .i64 y, .pointer (some ⟨d, 0, none⟩)] w1 fun e w2 => e = .returned (.int .i64 (px W ps (x / 2) (y / 2))) ∧ _
  go_enter Try.func99, Try.ntmps99
  go_wp2_with (go_at_call 104; refine hcall.mono ?_; rintro e w2 ⟨rfl, hb2⟩)
  go_ret
  exact ⟨rfl, hb2⟩
theorem mean_anyI (W H : Nat) (n : Nat) (caps : Array Value) (p : Nat → Nat → Int) (w : World) (L T R B : Int) (l t r b : Nat) (e1 : L = l) (e2 : T = t) (e3 : R = r) (e4 : B = b) (hW : W ≤ 16) (hH : H ≤ 16) (h1 : l ≤ r) (h2 : r < W) (h3 : t ≤ b) (h4 : b < H)
    (hp : ∀ x y, x < W → y < H → 0 ≤ p x y ∧ p x y ≤ 65535) (hf : Tells w n caps W H p) :
    Calls Try.prog 97 #[.func (.func n) #[] caps, .int .i64 L, .int .i64 T, .int .i64 R, .int .i64 B] w fun e w' => e = .returned (.int .i64 (meanP p l t r b)) ∧ Below w.heap.size w w' := by
  subst e1 e2 e3 e4; exact mean_any W H n caps p w l t r b hW hH h1 h2 h3 h4 hp hf
theorem rule4_tells {w : World} {d c b off cap W H : Nat} {ps : List Int} (k : Int) (hO : Old w d c b off cap W H ps) :
    Tells w 98 #[.pointer (some ⟨d, 0, none⟩)] (W / 2) (H / 2) (oneG 11 W H k ps) := by
  refine ⟨rule4_enters, fun x y w1 hx hy hbel => ?_⟩
  have hO1 := hO.below hbel
  have hcd := hO1.cd
  obtain ⟨hw1, hw2⟩ := hO.fn.hW
  obtain ⟨hh1, hh2⟩ := hO.fn.hH
  have hcall := (mean_anyI W H _ _ _ w1 (2 * (x : Int)) (2 * (y : Int)) (2 * (x : Int) + 1) (2 * (y : Int) + 1) (2 * x) (2 * y) (2 * x + 1) (2 * y + 1) (by omega) (by omega) (by omega) (by omega) hw2 hh2 (by omega) (by omega) (by omega) (by omega) hO1.fn.px_bd (numbers_tells hO1.bx hO1.fn))
  clear hO hbel
  show Calls Try.prog 98 #[.int .i64 x, .int .i64 y, .pointer (some ⟨d, 0, none⟩)] w1 fun e w2 => e = .returned (.int .i64 (meanP (px W ps) (2 * x) (2 * y) (2 * x + 1) (2 * y + 1))) ∧ _
  go_enter Try.func98, Try.ntmps98
  go_wp2_with (go_at_call 97; refine hcall.mono ?_; rintro e w2 ⟨rfl, hb2⟩)
  go_ret
  exact ⟨rfl, hb2⟩
end Go.Proofs.Ytfpkiimlaepnhaa
