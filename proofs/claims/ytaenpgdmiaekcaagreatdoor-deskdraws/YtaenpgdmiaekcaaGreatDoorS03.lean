/- Rules, MeanRef, DeskRef, DeskText, Blur, Make, One, One2, One3: joined, in this order. -/
import Derived.Test.YtaenpgdmiaekcaaGreatDoorS02
import Derived.Test.YtaenpgdmiaekcaaGreatDoorS01
import Derived.Laws.Concat
import Derived.Deep.Cut
import Derived.Laws.EntriesVeiled
/-
  RULES: what stands where in what image.One makes, operation by operation.
-/
namespace Go.Proofs.YtaenpgdmiaekcaaGreatDoor
set_option maxRecDepth 100000
open Go.RowKit Im

/-- The column that stands for x - k. -/
def colX (x : Nat) (k : Int) (W : Nat) : Nat := (min (max ((x : Int) - k) 0) ((W : Int) - 1)).toNat
/-- What stands at column x and row y of what One makes of an image of W columns and H rows. -/
def oneG (op : Int) (W H : Nat) (k : Int) (ps : List Int) (x y : Nat) : Int :=
  if op = 8 then (if k ≤ px W ps x y then px W ps x y else 0)
  else if op = 9 then px W ps (colX x k W) y
  else if op = 10 then meanP (px W ps) (x - 1) (y - 1) (min (x + 1) (W - 1)) (min (y + 1) (H - 1))
  else if op = 11 then meanP (px W ps) (2 * x) (2 * y) (2 * x + 1) (2 * y + 1)
  else if op = 12 then px W ps (x / 2) (y / 2)
  else px W ps x y
/-- How many columns, or rows, One makes of n. -/
def oneN (op : Int) (n : Nat) : Nat := if op = 11 then n / 2 else if op = 12 then 2 * n else n

/-- In the box d lies the function value that tells the numbers of the image. -/
structure Old (w : World) (d c b off cap W H : Nat) (ps : List Int) : Prop where
  lt : d < w.heap.size
  cd : w.cell? ⟨d, 0, none⟩ = some (.func (.func 147) #[] #[.pointer (some ⟨c, 0, none⟩)])
  bx : Boxed w c b off cap W H
  fn : Fine w b off W H ps
theorem Old.below {w w' : World} {d c b off cap W H : Nat} {ps : List Int} (h : Old w d c b off cap W H ps) (hb : Below w.heap.size w w') : Old w' d c b off cap W H ps :=
  ⟨Nat.lt_of_lt_of_le h.lt hb.size, (hb.cell (p := ⟨d, 0, none⟩) h.lt).trans h.cd, h.bx.below hb, h.fn.below hb⟩
theorem Old.call {w : World} {d c b off cap W H : Nat} {ps : List Int} (h : Old w d c b off cap W H ps) (x y : Nat) (hx : x < W) (hy : y < H) :
    Calls Tryz.prog 147 #[.int .i64 x, .int .i64 y, .pointer (some ⟨c, 0, none⟩)] w fun e w2 => e = .returned (.int .i64 (px W ps x y)) ∧ Below w.heap.size w w2 :=
  (numbers_tells h.bx h.fn).tells x y w hx hy (Below.refl _ _)

theorem Old.callI {w : World} {d c b off cap W H : Nat} {ps : List Int} (h : Old w d c b off cap W H ps) (X Y : Int) (x y : Nat) (hX : X = x) (hY : Y = y) (hx : x < W) (hy : y < H) :
    Calls Tryz.prog 147 #[.int .i64 X, .int .i64 Y, .pointer (some ⟨c, 0, none⟩)] w fun e w2 => e = .returned (.int .i64 (px W ps x y)) ∧ Below w.heap.size w w2 := by
  subst hX hY; exact h.call x y hx hy

theorem rule1_enters : ∀ args w, (callFunc 151 args).run Tryz.prog w = .ok (.enter 151 args) w := fun _ _ => by kernel_rfl
theorem rule2_enters : ∀ args w, (callFunc 152 args).run Tryz.prog w = .ok (.enter 152 args) w := fun _ _ => by kernel_rfl
theorem rule3_enters : ∀ args w, (callFunc 153 args).run Tryz.prog w = .ok (.enter 153 args) w := fun _ _ => by kernel_rfl
theorem rule4_enters : ∀ args w, (callFunc 155 args).run Tryz.prog w = .ok (.enter 155 args) w := fun _ _ => by kernel_rfl
theorem rule5_enters : ∀ args w, (callFunc 156 args).run Tryz.prog w = .ok (.enter 156 args) w := fun _ _ => by kernel_rfl

theorem rule1_tells {w : World} {d c b off cap W H kb : Nat} {ps : List Int} {k : Int} (hO : Old w d c b off cap W H ps) (hk : w.cell? ⟨kb, 0, none⟩ = some (.int .i64 k)) (hkl : kb < w.heap.size) :
    Tells w 151 #[.pointer (some ⟨d, 0, none⟩), .pointer (some ⟨kb, 0, none⟩)] W H (oneG 8 W H k ps) := by
  refine ⟨rule1_enters, fun x y w1 hx hy hbel => ?_⟩
  have hO1 := hO.below hbel
  have hcd := hO1.cd
  have hk1 : w1.cell? ⟨kb, 0, none⟩ = some (.int .i64 k) := (hbel.cell (p := ⟨kb, 0, none⟩) hkl).trans hk
  have hcall := hO1.call x y hx hy
  have hkl1 := Nat.lt_of_lt_of_le hkl hbel.size
  obtain ⟨v, hv⟩ : ∃ v, v = px W ps x y := ⟨_, rfl⟩
  have hg : oneG 8 W H k ps x y = if k ≤ v then v else 0 := by rw [hv]; rfl
  rw [← hv] at hcall
  rw [hg]
  clear hg hv hO hbel hk
  show Calls Tryz.prog 151 #[.int .i64 x, .int .i64 y, .pointer (some ⟨d, 0, none⟩), .pointer (some ⟨kb, 0, none⟩)] w1 _
  by_cases hkv : k ≤ v
  · rw [if_pos hkv]
    go_enter Tryz.func151, Tryz.ntmps151
    go_wp2_with (go_at_call 147; refine hcall.mono ?_; rintro e w2 ⟨rfl, hb2⟩; have hk2 := (hb2.cell (p := ⟨kb, 0, none⟩) hkl1).trans hk1)
    go_ret
    exact ⟨rfl, hb2⟩
  · rw [if_neg hkv]
    go_enter Tryz.func151, Tryz.ntmps151
    go_wp2_with (go_at_call 147; refine hcall.mono ?_; rintro e w2 ⟨rfl, hb2⟩; have hk2 := (hb2.cell (p := ⟨kb, 0, none⟩) hkl1).trans hk1)
    go_ret
    exact ⟨rfl, hb2⟩

theorem colX_lt (x : Nat) (k : Int) (W : Nat) (h : 1 ≤ W) : colX x k W < W := by unfold colX; omega
theorem rule2_tells {w : World} {d c b off cap W H kb ib : Nat} {ps : List Int} {k : Int} (hO : Old w d c b off cap W H ps) (hk : w.cell? ⟨kb, 0, none⟩ = some (.int .i64 k)) (hkl : kb < w.heap.size) (hk16 : -16 ≤ k ∧ k ≤ 16)
    (hI : Boxed w ib b off cap W H) :
    Tells w 152 #[.pointer (some ⟨d, 0, none⟩), .pointer (some ⟨kb, 0, none⟩), .pointer (some ⟨ib, 0, none⟩)] W H (oneG 9 W H k ps) := by
  refine ⟨rule2_enters, fun x y w1 hx hy hbel => ?_⟩
  have hO1 := hO.below hbel
  have hcd := hO1.cd
  obtain ⟨hw1, hw2⟩ := hO.fn.hW
  have hk1 : w1.cell? ⟨kb, 0, none⟩ = some (.int .i64 k) := (hbel.cell (p := ⟨kb, 0, none⟩) hkl).trans hk
  have hi0 := (hI.below hbel).c0
  clear hO hbel hk hI
  have hl := colX_lt x k W hw1
  show Calls Tryz.prog 152 #[.int .i64 x, .int .i64 y, .pointer (some ⟨d, 0, none⟩), .pointer (some ⟨kb, 0, none⟩), .pointer (some ⟨ib, 0, none⟩)] w1 fun e w2 => e = .returned (.int .i64 (px W ps (colX x k W) y)) ∧ _
  by_cases h0 : (x : Int) - k < 0
  · have hcall := (hO1.callI 0 y (colX x k W) y (by unfold colX; omega) rfl hl hy)
    have h0' : 0 ≤ (W : Int) - 1 := by omega
    go_enter Tryz.func152, Tryz.ntmps152
    go_wp2_with (go_at_call 147; refine hcall.mono ?_; rintro e w2 ⟨rfl, hb2⟩)
    go_ret
    exact ⟨rfl, hb2⟩
  · by_cases h1 : (W : Int) - 1 < (x : Int) - k
    · have hcall := (hO1.callI ((W : Int) - 1) y (colX x k W) y (by unfold colX; omega) rfl hl hy)
      go_enter Tryz.func152, Tryz.ntmps152
      go_wp2_with (go_at_call 147; refine hcall.mono ?_; rintro e w2 ⟨rfl, hb2⟩)
      go_ret
      exact ⟨rfl, hb2⟩
    · have hcall := (hO1.callI ((x : Int) - k) y (colX x k W) y (by unfold colX; omega) rfl hl hy)
      go_enter Tryz.func152, Tryz.ntmps152
      go_wp2_with (go_at_call 147; refine hcall.mono ?_; rintro e w2 ⟨rfl, hb2⟩)
      go_ret
      exact ⟨rfl, hb2⟩

theorem rule5_tells {w : World} {d c b off cap W H : Nat} {ps : List Int} (k : Int) (hO : Old w d c b off cap W H ps) :
    Tells w 156 #[.pointer (some ⟨d, 0, none⟩)] (2 * W) (2 * H) (oneG 12 W H k ps) := by
  refine ⟨rule5_enters, fun x y w1 hx hy hbel => ?_⟩
  have hO1 := hO.below hbel
  have hcd := hO1.cd
  obtain ⟨hw1, hw2⟩ := hO.fn.hW
  obtain ⟨hh1, hh2⟩ := hO.fn.hH
  have hcall := (hO1.callI ((x : Int) / 2) ((y : Int) / 2) (x / 2) (y / 2) (by omega) (by omega) (by omega) (by omega))
  clear hO hbel
  show Calls Tryz.prog 156 #[.int .i64 x, .int .i64 y, .pointer (some ⟨d, 0, none⟩)] w1 fun e w2 => e = .returned (.int .i64 (px W ps (x / 2) (y / 2))) ∧ _
  go_enter Tryz.func156, Tryz.ntmps156
  go_wp2_with (go_at_call 147; refine hcall.mono ?_; rintro e w2 ⟨rfl, hb2⟩)
  go_ret
  exact ⟨rfl, hb2⟩
theorem mean_anyI (W H : Nat) (n : Nat) (caps : Array Value) (p : Nat → Nat → Int) (w : World) (L T R B : Int) (l t r b : Nat) (e1 : L = l) (e2 : T = t) (e3 : R = r) (e4 : B = b) (hW : W ≤ 16) (hH : H ≤ 16) (h1 : l ≤ r) (h2 : r < W) (h3 : t ≤ b) (h4 : b < H)
    (hp : ∀ x y, x < W → y < H → 0 ≤ p x y ∧ p x y ≤ 65535) (hf : Tells w n caps W H p) :
    Calls Tryz.prog 154 #[.func (.func n) #[] caps, .int .i64 L, .int .i64 T, .int .i64 R, .int .i64 B] w fun e w' => e = .returned (.int .i64 (meanP p l t r b)) ∧ Below w.heap.size w w' := by
  subst e1 e2 e3 e4; exact mean_any W H n caps p w l t r b hW hH h1 h2 h3 h4 hp hf
theorem rule4_tells {w : World} {d c b off cap W H : Nat} {ps : List Int} (k : Int) (hO : Old w d c b off cap W H ps) :
    Tells w 155 #[.pointer (some ⟨d, 0, none⟩)] (W / 2) (H / 2) (oneG 11 W H k ps) := by
  refine ⟨rule4_enters, fun x y w1 hx hy hbel => ?_⟩
  have hO1 := hO.below hbel
  have hcd := hO1.cd
  obtain ⟨hw1, hw2⟩ := hO.fn.hW
  obtain ⟨hh1, hh2⟩ := hO.fn.hH
  have hcall := (mean_anyI W H _ _ _ w1 (2 * (x : Int)) (2 * (y : Int)) (2 * (x : Int) + 1) (2 * (y : Int) + 1) (2 * x) (2 * y) (2 * x + 1) (2 * y + 1) (by omega) (by omega) (by omega) (by omega) hw2 hh2 (by omega) (by omega) (by omega) (by omega) hO1.fn.px_bd (numbers_tells hO1.bx hO1.fn))
  clear hO hbel
  show Calls Tryz.prog 155 #[.int .i64 x, .int .i64 y, .pointer (some ⟨d, 0, none⟩)] w1 fun e w2 => e = .returned (.int .i64 (meanP (px W ps) (2 * x) (2 * y) (2 * x + 1) (2 * y + 1))) ∧ _
  go_enter Tryz.func155, Tryz.ntmps155
  go_wp2_with (go_at_call 154; refine hcall.mono ?_; rintro e w2 ⟨rfl, hb2⟩)
  go_ret
  exact ⟨rfl, hb2⟩
end Go.Proofs.YtaenpgdmiaekcaaGreatDoor
/-
  MEANREF: the reference's at and mean.
-/
namespace Go.Proofs.YtaenpgdmiaekcaaGreatDoor
set_option maxRecDepth 100000
open Go.RowKit Im

/-- The reference's at. -/
theorem at_any {w : World} {b off cap W H : Nat} {ps : List Int} (hF : Fine w b off W H ps) (X Y : Int) (x y : Nat) (hX : X = x) (hY : Y = y) (hx : x < W) (hy : y < H) :
    Calls Tryz.prog 17 #[.agg #[.int .i64 W, .int .i64 H, .slice (some ⟨b, off, none⟩) (W * H) cap], .int .i64 X, .int .i64 Y] w fun e w' => e = .returned (.int .i64 (px W ps x y)) ∧ Below w.heap.size w w' := by
  subst hX hY
  have hbel := (Below.refl w.heap.size w).alloc (Nat.le_refl _) (.cells #[.int .i64 W, .int .i64 H, .slice (some ⟨b, off, none⟩) (W * H) cap] 24)
  have hc := (hF.below hbel).cell (y * W + x) (place_lt hx hy)
  have hpl := place_lt hx hy
  obtain ⟨hm, hM⟩ := hF.small
  have hb1 := hF.hW
  have hb2 := hF.hH
  have hpi : (y : Int) * (W : Int) + (x : Int) < (W : Int) * (H : Int) := by rw [← Int.natCast_mul, ← Int.natCast_mul]; omega
  have hp0 : 0 ≤ (y : Int) * (W : Int) := Int.mul_nonneg (by omega) (by omega)
  have hpM : (W : Int) * (H : Int) ≤ 256 := by rw [← Int.natCast_mul]; omega
  obtain ⟨v, hv⟩ : ∃ v, v = px W ps x y := ⟨_, rfl⟩
  have hc' : (w.alloc (.cells #[.int .i64 W, .int .i64 H, .slice (some ⟨b, off, none⟩) (W * H) cap] 24)).cell? ⟨b, off + (y * W + x), none⟩ = some (.int .i64 v) := by rw [hv]; exact hc
  rw [← hv]
  clear hc hv hF hpl
  go_enter Tryz.func17, Tryz.ntmps17
  go_wp2
  go_ret
  exact ⟨rfl, hbel⟩

set_option maxHeartbeats 1000000 in
/-- The reference's mean, of the m columns from l on and the q rows from t on. -/
theorem meanRef_any {w : World} {b off cap W H : Nat} {ps : List Int} (hF : Fine w b off W H ps) (X Y U V : Int) (l m t q : Nat) (hL : (if X < 0 then 0 else X) = (l : Int)) (hT : (if Y < 0 then 0 else Y) = (t : Int))
    (hR : (if (W : Int) - 1 < U then (W : Int) - 1 else U) = (l : Int) + m - 1) (hV : (if (H : Int) - 1 < V then (H : Int) - 1 else V) = (t : Int) + q - 1) (h1 : 1 ≤ m) (h2 : l + m ≤ W) (h3 : 1 ≤ q) (h4 : t + q ≤ H) :
    Calls Tryz.prog 173 #[.agg #[.int .i64 W, .int .i64 H, .slice (some ⟨b, off, none⟩) (W * H) cap], .int .i64 X, .int .i64 Y, .int .i64 U, .int .i64 V] w fun e w' =>
      e = .returned (.int .i64 (sumBox (px W ps) l t m q / ((q : Int) * (m : Int)))) ∧ Below w.heap.size w w' := by
  have hbel := (Below.refl w.heap.size w).alloc (Nat.le_refl _) (.cells #[.int .i64 W, .int .i64 H, .slice (some ⟨b, off, none⟩) (W * H) cap] 24)
  have hF1 := hF.below hbel
  have hBx : Boxed (w.alloc (.cells #[.int .i64 W, .int .i64 H, .slice (some ⟨b, off, none⟩) (W * H) cap] 24)) w.heap.size b off cap W H := ⟨by simp, by simp [go_sem], by simp [go_sem], by simp [go_sem]⟩
  obtain ⟨w1, w2⟩ := hF.hW
  obtain ⟨g1, g2⟩ := hF.hH
  have hp := hF.px_bd
  clear hF
  go_enter Tryz.func173, Tryz.ntmps173
  go_wp2
  generalize (w.alloc (.cells #[.int .i64 W, .int .i64 H, .slice (some ⟨b, off, none⟩) (W * H) cap] 24)) = wb at hF1 hBx hbel ⊢
  go_loopw [11, 12, 13] (fun s n i wr => ∃ j : Nat, j ≤ q ∧ i = .int .i64 ((t : Int) + (j : Int)) ∧ s = .int .i64 (sumBox (px W ps) l t m j) ∧ n = .int .i64 ((j : Int) * (m : Int)) ∧ Below wb.heap.size wb wr) (fun _ _ i _ => t + q - (intOf i).toNat)
  case atStart => exact ⟨0, Nat.zero_le _, by simp, rfl, by simp, Below.refl _ _⟩
  case round =>
    obtain ⟨j, hj, rfl, rfl, rfl, hbr⟩ := hrel
    have sb := sumBox_bd (p := px W ps) (l := l) (t := t) (n := m) (by omega) (m := j) (fun x y _ _ _ _ => hp x y (by omega) (by omega))
    obtain ⟨_, k0, k1, k2⟩ := hBx.below hbr
    have n0 : 0 ≤ (j : Int) * (m : Int) := Int.mul_nonneg (by omega) (by omega)
    have n1 : (j : Int) * (m : Int) ≤ 16 * 16 := Int.mul_le_mul (by omega) (by omega) (by omega) (by omega)
    by_cases hlt : j < q
    · have hle : (t : Int) + (j : Int) ≤ (t : Int) + (q : Int) - 1 := by omega
      go_wp2
      go_loopw [11, 12, 14] (fun s n i wr => ∃ i' : Nat, i' ≤ m ∧ i = .int .i64 ((l : Int) + (i' : Int)) ∧ s = .int .i64 (sumBox (px W ps) l t m j + sumRow (px W ps) (t + j) l i') ∧ n = .int .i64 ((j : Int) * (m : Int) + (i' : Int)) ∧ Below wb.heap.size wb wr) (fun _ _ i _ => l + m - (intOf i).toNat)
      case atStart => exact ⟨0, Nat.zero_le _, by simp, by simp [sumRow], by simp, hbr⟩
      case round =>
        obtain ⟨i, hi, rfl, rfl, rfl, hbs⟩ := hrel
        have sr := sumRow_bd (p := px W ps) (y := t + j) (l := l) (n := i) (fun x _ _ => hp x (t + j) (by omega) (by omega))
        obtain ⟨_, kk0, kk1, kk2⟩ := hBx.below hbs
        by_cases hli : i < m
        · have hli2 : (l : Int) + (i : Int) ≤ (l : Int) + (m : Int) - 1 := by omega
          have hpp := hp (l + i) (t + j) (by omega) (by omega)
          go_wp2_with (go_at_call 17; refine (at_any (hF1.below hbs) _ _ (l + i) (t + j) (by omega) (by omega) (by omega) (by omega)).mono ?_; rintro e w2 ⟨rfl, hb2⟩)
          have hbw := hbs.trans (hb2.mono hbs.size)
          go_roundw
          case rel => exact ⟨i + 1, by omega, by go_num, by show _ = Value.int .i64 (_ + (sumRow (px W ps) (t + j) l i + px W ps (l + i) (t + j))); go_num, by go_num, hbw⟩
          case measure => simp [intOf]; omega
        · have hie : i = m := by omega
          subst hie
          go_wp2
          go_roundw
          case rel => exact ⟨j + 1, by omega, by go_num, rfl, by congr 1; show _ = ((j + 1 : Nat) : Int) * _; rw [Int.natCast_add, Int.add_mul]; simp, hbs⟩
          case measure => simp [intOf]; omega
    · have hje : j = q := by omega
      subst hje
      have m1 : 1 ≤ (j : Int) * (m : Int) := (side_mul (by simp [sideB]; omega) (by simp [sideB]; omega)).1
      go_wp2
      go_ret
      exact ⟨rfl, hbel.trans (hbr.mono hbel.size)⟩
end Go.Proofs.YtaenpgdmiaekcaaGreatDoor
/-
  DESKREF: the reference's Digits.
-/
namespace Go.Proofs.YtaenpgdmiaekcaaGreatDoor
set_option maxRecDepth 100000
open Go.RowKit Im

theorem digits_next (n : Nat) (h : ¬ n < 10) : Lib.decDigits n = Lib.decDigits (n / 10) ++ [UInt8.ofNat (48 + n % 10)] := by
  conv => lhs; rw [Lib.decDigits, dif_neg h]
theorem digits_few : ∀ (k n : Nat), n < 10 ^ k → 0 < k → (Lib.decDigits n).length ≤ k
  | 0, n, _, h => by omega
  | k + 1, n, hn, _ => by
    by_cases h : n < 10
    · rw [Lib.decDigits_one h]; simp
    · rw [digits_next n h, List.length_append]
      by_cases hk : k = 0
      · subst hk; simp at hn; omega
      · have := digits_few k (n / 10) (by rw [Nat.pow_succ] at hn; omega) (by omega)
        simp; omega
set_option maxHeartbeats 4000000 in
theorem digits_any : ∀ (n : Nat) (_hn : n ≤ 65535) (w : World), Calls Tryz.prog 16 #[.int .i64 n] w fun e w' => e = .returned (.string ⟨(Lib.decDigits n).toArray⟩) ∧ Below w.heap.size w w' := by
  intro n
  induction n using Nat.strongRecOn with
  | _ n ih =>
    intro hn w
    have HDV : Hid ((n : Int) / 10 = ((n / 10 : Nat) : Int)) := by show _ = _; omega
    have hcv : (convert 42 9 (.slice (some ⟨w.heap.size, 0, none⟩) 1 1)).run Tryz.prog (w.alloc (.cells #[.int .u8 (48 + (n : Int) % 10)] 5)) = .ok (.string ⟨[UInt8.ofNat (48 + n % 10)].toArray⟩) (w.alloc (.cells #[.int .u8 (48 + (n : Int) % 10)] 5)) :=
      run_convert_bytes_back (P := Tryz.prog) (w.alloc (.cells #[.int .u8 (48 + (n : Int) % 10)] 5)) 42 9 5 ⟨w.heap.size, 0, none⟩ 1 [UInt8.ofNat (48 + n % 10)] Tryz.underlying42 Tryz.underlying5 Tryz.underlying9 (fun j hj => by
        obtain rfl : j = 0 := by simpa using hj
        have : (48 + (n : Int) % 10) % 256 = 48 + (n : Int) % 10 := by omega
        simp [go_sem, Addr.add, this])
    have hb0 := (Below.refl w.heap.size w).alloc (Nat.le_refl _) (.cells #[.int .u8 (48 + (n : Int) % 10)] 5)
    by_cases h10 : n < 10
    · have HD : Hid (Lib.decDigits n = [UInt8.ofNat (48 + n % 10)]) := by
        show _ = _
        rw [Lib.decDigits_one h10, Nat.mod_eq_of_lt h10]
      generalize [UInt8.ofNat (48 + n % 10)] = dl at *
      have hlt : (n : Int) < 10 := by omega
      clear ih
      go_enter Tryz.func16, Tryz.ntmps16
      go_wp2
      go_ret
      exact ⟨by rw [HD.out]; rfl, hb0⟩
    · have HD : Hid (Lib.decDigits n = _) := digits_next n h10
      have hdl : [UInt8.ofNat (48 + n % 10)].length = 1 := rfl
      generalize [UInt8.ofNat (48 + n % 10)] = dl at *
      have hf1 := digits_few 5 (n / 10) (by omega) (by omega)
      have hlt : ¬ (n : Int) < 10 := by omega
      have hr := ih (n / 10) (by omega) (by omega) (w.alloc (.cells #[.int .u8 (48 + (n : Int) % 10)] 5))
      have had := fun wx => run_string_add_lists (P := Tryz.prog) wx (Lib.decDigits (n / 10)) dl (by omega) (by omega)
      clear ih h10
      go_enter Tryz.func16, Tryz.ntmps16
      go_wp2_with fail
      rw [HDV.out]
      refine hr.mono ?_
      rintro e w1 ⟨rfl, b1⟩
      go_wp2
      go_ret
      exact ⟨by rw [HD.out]; rfl, below_stepL hb0 b1⟩
end Go.Proofs.YtaenpgdmiaekcaaGreatDoor
/-
  DESKTEXT: the reference's ImageText.
-/
namespace Go.Proofs.YtaenpgdmiaekcaaGreatDoor
set_option maxRecDepth 100000
open Go.RowKit Im

theorem line_len {W : Nat} {ps : List Int} (h : ∀ k, (showN W ps k).length ≤ 22 * k) (hd : ∀ k, (Lib.itoa (ps.getD k 0)).length ≤ 21) (y x : Nat) : (lineN W ps y x).length ≤ 22 * (y * W + x) := by
  unfold lineN
  by_cases hx : x = 0
  · rw [if_pos hx, hx]; exact h _
  · rw [if_neg hx, List.length_append]
    have h1 := h (y * W + (x - 1))
    have h2 := hd (y * W + (x - 1))
    omega
set_option maxHeartbeats 8000000 in
theorem imageText_fine (W H b off cap : Nat) (ps : List Int) (w : World) (hF : Fine w b off W H ps) :
    Calls Tryz.prog 7 #[.agg #[.int .i64 W, .int .i64 H, .slice (some ⟨b, off, none⟩) (W * H) cap]] w fun e w' => e = .returned (.string ⟨(showN W ps ps.length).toArray⟩) ∧ Below w.heap.size w w' := by
  have hn := hF.num
  have hW := hF.hW
  have hH := hF.hH
  have hd : ∀ k, (Lib.itoa (ps.getD k 0)).length ≤ 21 := fun k => by
    have := num_bd hn k
    exact Lib.itoa_length_le _ (by omega) (by omega)
  have hLL := line_len (show_len W ps hd) hd
  have HR : Hid (lineN W ps H 0 = showN W ps ps.length) := by show _ = _; rw [line_all, hF.len]
  have hb0 := (Below.refl w.heap.size w).alloc (Nat.le_refl _) (.cells #[.int .i64 W, .int .i64 H, .slice (some ⟨b, off, none⟩) (W * H) cap] 24)
  have c0 : (w.alloc (.cells #[.int .i64 W, .int .i64 H, .slice (some ⟨b, off, none⟩) (W * H) cap] 24)).cell? ⟨w.heap.size, 0, none⟩ = some (.int .i64 W) := by simp [go_sem]
  have c1 : (w.alloc (.cells #[.int .i64 W, .int .i64 H, .slice (some ⟨b, off, none⟩) (W * H) cap] 24)).cell? ⟨w.heap.size, 1, none⟩ = some (.int .i64 H) := by simp [go_sem]
  have c2 : (w.alloc (.cells #[.int .i64 W, .int .i64 H, .slice (some ⟨b, off, none⟩) (W * H) cap] 24)).cell? ⟨w.heap.size, 2, none⟩ = some (.slice (some ⟨b, off, none⟩) (W * H) cap) := by simp [go_sem]
  have hlt : w.heap.size < (w.alloc (.cells #[.int .i64 W, .int .i64 H, .slice (some ⟨b, off, none⟩) (W * H) cap] 24)).heap.size := by simp
  have hF1 := hF.below hb0
  clear hd hF
  go_enter Tryz.func7, Tryz.ntmps7
  go_upto_region 1 with fail
  generalize w.alloc (.cells #[.int .i64 W, .int .i64 H, .slice (some ⟨b, off, none⟩) (W * H) cap] 24) = w1 at *
  go_wp2_with fail
  go_loopw [3, 4] (fun u i wr => ∃ y : Nat, y ≤ H ∧ i = .int .i64 y ∧ u = .string ⟨(lineN W ps y 0).toArray⟩ ∧ Below w1.heap.size w1 wr) (fun _ i _ => H - (intOf i).toNat)
  case atStart => exact ⟨0, Nat.zero_le _, rfl, by unfold lineN; simp [showN], Below.refl _ _⟩
  case round =>
    obtain ⟨y, hy, rfl, rfl, hbr⟩ := hrel
    have d0 := (hbr.cell (p := ⟨w.heap.size, 0, none⟩) hlt).trans c0
    have d1 := (hbr.cell (p := ⟨w.heap.size, 1, none⟩) hlt).trans c1
    obtain ⟨wO, e0⟩ : ∃ z, z = wr := ⟨_, rfl⟩
    subst e0
    by_cases hyl : y < H
    · have hyI : (y : Int) < (H : Int) := by omega
      go_wp2_with fail
      go_loopw [3, 5] (fun u i ws => ∃ x : Nat, x ≤ W ∧ i = .int .i64 x ∧ u = .string ⟨(lineN W ps y x).toArray⟩ ∧ Below w1.heap.size w1 ws) (fun _ i _ => W - (intOf i).toNat)
      case atStart => exact ⟨0, Nat.zero_le _, rfl, rfl, hbr⟩
      case round =>
        obtain ⟨x, hx, rfl, rfl, hbs⟩ := hrel
        have e0 := (hbs.cell (p := ⟨w.heap.size, 0, none⟩) hlt).trans c0
        have e1 := (hbs.cell (p := ⟨w.heap.size, 1, none⟩) hlt).trans c1
        have e2 := (hbs.cell (p := ⟨w.heap.size, 2, none⟩) hlt).trans c2
        have hyW : y * W + x ≤ 256 := by
          have : y * W ≤ 15 * 16 := Nat.mul_le_mul (by omega) (by omega)
          omega
        have hLx := hLL y x
        by_cases hxl : x < W
        · have hxI : (x : Int) < (W : Int) := by omega
          have hat := at_any (cap := cap) (hF1.below hbs) (x : Int) (y : Int) x y rfl rfl hxl hyl
          have hq := num_bd hn (y * W + x)
          have HP : Hid (px W ps x y = ps.getD (y * W + x) 0) := rfl
          obtain ⟨q, hq'⟩ : ∃ q : Nat, ps.getD (y * W + x) 0 = q := ⟨(ps.getD (y * W + x) 0).toNat, by omega⟩
          have hpx : px W ps x y = (q : Int) := hq'
          have hit : Lib.itoa (ps.getD (y * W + x) 0) = Lib.decDigits q := by rw [hq']; exact Lib.itoa_nonneg q
          have hq5 : q ≤ 65535 := by omega
          have hdl := digits_few 5 q (by omega) (by omega)
          rw [hpx] at hat
          have hdg := digits_any q hq5
          by_cases hx0 : x = 0
          · subst hx0
            have HL : Hid (lineN W ps y (0 + 1) = lineN W ps y 0 ++ Lib.decDigits q) := by
              show _ = _
              rw [← hit]
              exact line_first W ps y
            have had := fun wx => run_string_add_lists (P := Tryz.prog) wx (lineN W ps y 0) (Lib.decDigits q) (by omega) (by omega)
            clear hit hpx hq' HP hq hLL hLx
            generalize lineN W ps y 0 ++ Lib.decDigits q = M2 at *
            generalize lineN W ps y 0 = M at *
            generalize Lib.decDigits q = D at *
            go_wp2_with fail
            refine hat.mono ?_
            rintro e w2 ⟨rfl, b2⟩
            go_wp2_with fail
            refine (hdg w2).mono ?_
            rintro e w3 ⟨rfl, b3⟩
            have hb3 := below_stepL (below_stepL hbs b2) b3
            go_wp2
            go_roundw
            case rel => exact ⟨0 + 1, by omega, by go_num, by rw [HL.out], hb3⟩
            case measure => simp [intOf]; omega
          · have HL : Hid (lineN W ps y (x + 1) = (lineN W ps y x ++ [32]) ++ Lib.decDigits q) := by
              show _ = _
              rw [← hit, line_next W ps y x (by omega) hxl]
              simp
            have hx0I : (0 : Int) < (x : Int) := by omega
            have hsp : ∀ wx, (Op.stringOp .add ⟨(lineN W ps y x).toArray⟩ ⟨#[32]⟩).run Tryz.prog wx = .ok (.string ⟨(lineN W ps y x ++ [32]).toArray⟩) wx := fun wx => run_string_add_lists (P := Tryz.prog) wx (lineN W ps y x) [32] (by omega) (by simp)
            have had := fun wx => run_string_add_lists (P := Tryz.prog) wx (lineN W ps y x ++ [32]) (Lib.decDigits q) (by rw [List.length_append]; simp; omega) (by omega)
            clear hit hpx hq' HP hq hLL hLx
            generalize (lineN W ps y x ++ [32]) ++ Lib.decDigits q = M2 at *
            generalize lineN W ps y x ++ [32] = M1 at *
            generalize lineN W ps y x = M at *
            generalize Lib.decDigits q = D at *
            go_wp2_with fail
            refine hat.mono ?_
            rintro e w2 ⟨rfl, b2⟩
            go_wp2_with fail
            refine (hdg w2).mono ?_
            rintro e w3 ⟨rfl, b3⟩
            have hb3 := below_stepL (below_stepL hbs b2) b3
            go_wp2
            go_roundw
            case rel => exact ⟨x + 1, by omega, by go_num, by rw [HL.out], hb3⟩
            case measure => simp [intOf]; omega
        · have hxe : x = W := by omega
          subst hxe
          have HL : Hid (lineN x ps y x ++ [10] = lineN x ps (y + 1) 0) := line_end x ps y (by omega)
          have hsp : ∀ wx, (Op.stringOp .add ⟨(lineN x ps y x).toArray⟩ ⟨#[10]⟩).run Tryz.prog wx = .ok (.string ⟨(lineN x ps y x ++ [10]).toArray⟩) wx := fun wx => run_string_add_lists (P := Tryz.prog) wx (lineN x ps y x) [10] (by omega) (by simp)
          clear hLL hLx
          generalize lineN x ps y x ++ [10] = M1 at *
          generalize lineN x ps y x = M at *
          go_wp2
          go_roundw
          case rel => exact ⟨y + 1, by omega, by go_num, by rw [HL.out], hbs⟩
          case measure => simp [intOf]; omega
    · have hye : y = H := by omega
      subst hye
      have HB : Hid (_) := below_stepL hb0 hbr
      clear hLL
      generalize lineN W ps y 0 = M at *
      go_wp2
      go_ret
      exact ⟨by rw [← HR.out]; rfl, HB.out⟩
theorem imageText_any (W H : Int) (a : Option Addr) (len cap : Nat) (ps : List Int) (w : World) (h : Ints 0 w a len ps) (hf : fineB W H ps = true) :
    Calls Tryz.prog 7 #[.agg #[.int .i64 W, .int .i64 H, .slice a len cap]] w fun e w' => e = .returned (.string (textS W H ps)) ∧ Below w.heap.size w w' := by
  obtain ⟨W', H', b, off, rfl, rfl, rfl, rfl, hF⟩ := fine_of h hf
  unfold textS
  rw [if_pos hf]
  exact imageText_fine W' H' b off cap ps w hF
end Go.Proofs.YtaenpgdmiaekcaaGreatDoor
/-
  BLUR: what image.One makes of an image by Blur.
-/
namespace Go.Proofs.YtaenpgdmiaekcaaGreatDoor
set_option maxRecDepth 100000
open Go.RowKit Im

theorem rule3_tells {w : World} {d c b off cap W H ib : Nat} {ps : List Int} (k : Int) (hO : Old w d c b off cap W H ps) (hI : Boxed w ib b off cap W H) :
    Tells w 153 #[.pointer (some ⟨d, 0, none⟩), .pointer (some ⟨ib, 0, none⟩)] W H (oneG 10 W H k ps) := by
  refine ⟨rule3_enters, fun x y w1 hx hy hbel => ?_⟩
  have hO1 := hO.below hbel
  have hcd := hO1.cd
  obtain ⟨hw1, hw2⟩ := hO.fn.hW
  obtain ⟨hh1, hh2⟩ := hO.fn.hH
  have hi0 := (hI.below hbel).c0
  have hi1 := (hI.below hbel).c1
  obtain ⟨L, hL⟩ : ∃ L : Int, (if (x : Int) - 1 < 0 then 0 else (x : Int) - 1) = L := ⟨_, rfl⟩
  obtain ⟨T, hT⟩ : ∃ L : Int, (if (y : Int) - 1 < 0 then 0 else (y : Int) - 1) = L := ⟨_, rfl⟩
  obtain ⟨R, hR⟩ : ∃ L : Int, (if (W : Int) - 1 < (x : Int) + 1 then (W : Int) - 1 else (x : Int) + 1) = L := ⟨_, rfl⟩
  obtain ⟨B, hB⟩ : ∃ L : Int, (if (H : Int) - 1 < (y : Int) + 1 then (H : Int) - 1 else (y : Int) + 1) = L := ⟨_, rfl⟩
  have hcall := mean_anyI W H _ _ _ w1 L T R B (x - 1) (y - 1) (min (x + 1) (W - 1)) (min (y + 1) (H - 1)) (by subst hL; split <;> omega) (by subst hT; split <;> omega) (by subst hR; split <;> omega) (by subst hB; split <;> omega) hw2 hh2 (by omega) (by omega) (by omega) (by omega) hO1.fn.px_bd (numbers_tells hO1.bx hO1.fn)
  clear hO hbel hI hO1
  show Calls Tryz.prog 153 #[.int .i64 x, .int .i64 y, .pointer (some ⟨d, 0, none⟩), .pointer (some ⟨ib, 0, none⟩)] w1 fun e w2 => e = .returned (.int .i64 (meanP (px W ps) (x - 1) (y - 1) (min (x + 1) (W - 1)) (min (y + 1) (H - 1)))) ∧ _
  go_enter Tryz.func153, Tryz.ntmps153
  go_wp2_with (go_at_call 154; refine hcall.mono ?_; rintro e w2 ⟨rfl, hb2⟩)
  go_ret
  exact ⟨rfl, hb2⟩
end Go.Proofs.YtaenpgdmiaekcaaGreatDoor
/-
  MAKE: image.Make, and the reference's MakeError and MakeOf.
-/
namespace Go.Proofs.YtaenpgdmiaekcaaGreatDoor
set_option maxRecDepth 100000
open Go.RowKit Im

/-- What stands at column x and row y of what Make makes. -/
def makeG (op k : Int) (x y : Nat) : Int := if op = 1 then k else ((x : Int) * k + y) % 65536

/-- The zero value of an image. -/
abbrev noImage : Value := .agg #[.int .i64 0, .int .i64 0, .slice none 0 0]

theorem make1_enters : ∀ args w, (callFunc 107 args).run Tryz.prog w = .ok (.enter 107 args) w := fun _ _ => by kernel_rfl
theorem make2_enters : ∀ args w, (callFunc 108 args).run Tryz.prog w = .ok (.enter 108 args) w := fun _ _ => by kernel_rfl

theorem make1_tells (w : World) (b W H : Nat) (k : Int) (hb : b < w.heap.size) (hc : w.cell? ⟨b, 0, none⟩ = some (.int .i64 k)) : Tells w 107 #[.pointer (some ⟨b, 0, none⟩)] W H (makeG 1 k) := by
  refine ⟨make1_enters, fun x y w1 _ _ hbel => ?_⟩
  have hc1 : w1.cell? ⟨b, 0, none⟩ = some (.int .i64 k) := (hbel.cell (p := ⟨b, 0, none⟩) hb).trans hc
  show Calls Tryz.prog 107 #[.int .i64 x, .int .i64 y, .pointer (some ⟨b, 0, none⟩)] w1 _
  go_enter Tryz.func107, Tryz.ntmps107
  go_wp2
  go_ret
  exact ⟨rfl, Below.refl _ _⟩
theorem make2_tells (w : World) (b W H : Nat) (k : Int) (hb : b < w.heap.size) (hc : w.cell? ⟨b, 0, none⟩ = some (.int .i64 k)) (hW : W ≤ 16) (hH : H ≤ 16) (hk : 0 ≤ k ∧ k ≤ 65535) : Tells w 108 #[.pointer (some ⟨b, 0, none⟩)] W H (makeG 2 k) := by
  refine ⟨make2_enters, fun x y w1 hx hy hbel => ?_⟩
  have hc1 : w1.cell? ⟨b, 0, none⟩ = some (.int .i64 k) := (hbel.cell (p := ⟨b, 0, none⟩) hb).trans hc
  have hm1 : 0 ≤ (x : Int) * k := Int.mul_nonneg (by omega) hk.1
  have hm2 : (x : Int) * k ≤ 16 * 65535 := Int.mul_le_mul (by omega) hk.2 hk.1 (by omega)
  show Calls Tryz.prog 108 #[.int .i64 x, .int .i64 y, .pointer (some ⟨b, 0, none⟩)] w1 _
  go_enter Tryz.func108, Tryz.ntmps108
  go_wp2
  go_ret
  exact ⟨rfl, Below.refl _ _⟩

theorem make_kind (op W H k : Int) (w : World) (h : ¬ op = 1) (h' : ¬ op = 2) :
    Calls Tryz.prog 68 #[.int .i64 op, .int .i64 W, .int .i64 H, .int .i64 k] w fun e w' => e = .returned (.tuple #[noImage, .int .i64 4]) ∧ Below w.heap.size w w' := by
  have hb : (op != 1) = true := by simpa using h
  have hb' : (op != 2) = true := by simpa using h'
  go_enter Tryz.func68, Tryz.ntmps68
  go_wp2
  exact bodyPost_ret (v := .tuple #[noImage, .int .i64 4]) (by simp [results, Tryz.results68, go_sem]) rfl ⟨rfl, ((Below.refl _ _).alloc (Nat.le_refl _) _).alloc (by simp) _⟩

theorem make_range (op W H k : Int) (w : World) (h : op = 1 ∨ op = 2) (hr : (sideB W && sideB H && numB k) = false) :
    Calls Tryz.prog 68 #[.int .i64 op, .int .i64 W, .int .i64 H, .int .i64 k] w fun e w' => e = .returned (.tuple #[noImage, .int .i64 3]) ∧ Below w.heap.size w w' := by
  rcases h with rfl | rfl
  all_goals
    by_cases h1 : sideB W = true
    · by_cases h2 : sideB H = true
      · have h3 : numB k = false := by rw [h1, h2] at hr; simpa using hr
        clear hr
        go_enter Tryz.func68, Tryz.ntmps68
        go_wp2_with (first | (go_at_call 33; refine (isSide_any _ _).mono ?_; rintro e w' ⟨rfl, rfl⟩) | (go_at_call 34; refine (isNumber_any _ _).mono ?_; rintro e w' ⟨rfl, rfl⟩))
        exact bodyPost_ret (v := .tuple #[noImage, .int .i64 3]) (by simp [results, Tryz.results68, go_sem]) rfl ⟨rfl, ((Below.refl _ _).alloc (Nat.le_refl _) _).alloc (by simp) _⟩
      · have h2' : sideB H = false := by simpa using h2
        clear hr
        go_enter Tryz.func68, Tryz.ntmps68
        go_wp2_with (first | (go_at_call 33; refine (isSide_any _ _).mono ?_; rintro e w' ⟨rfl, rfl⟩) | (go_at_call 34; refine (isNumber_any _ _).mono ?_; rintro e w' ⟨rfl, rfl⟩))
        exact bodyPost_ret (v := .tuple #[noImage, .int .i64 3]) (by simp [results, Tryz.results68, go_sem]) rfl ⟨rfl, ((Below.refl _ _).alloc (Nat.le_refl _) _).alloc (by simp) _⟩
    · have h1' : sideB W = false := by simpa using h1
      clear hr
      go_enter Tryz.func68, Tryz.ntmps68
      go_wp2_with (first | (go_at_call 33; refine (isSide_any _ _).mono ?_; rintro e w' ⟨rfl, rfl⟩) | (go_at_call 34; refine (isNumber_any _ _).mono ?_; rintro e w' ⟨rfl, rfl⟩))
      exact bodyPost_ret (v := .tuple #[noImage, .int .i64 3]) (by simp [results, Tryz.results68, go_sem]) rfl ⟨rfl, ((Below.refl _ _).alloc (Nat.le_refl _) _).alloc (by simp) _⟩
set_option maxHeartbeats 1000000 in
theorem make_ok (op : Int) (W H : Nat) (k : Int) (w : World) (h : op = 1 ∨ op = 2) (h1 : sideB W = true) (h2 : sideB H = true) (h3 : numB k = true) :
    Calls Tryz.prog 68 #[.int .i64 op, .int .i64 W, .int .i64 H, .int .i64 k] w fun e w' =>
      ∃ a cap, e = .returned (.tuple #[.agg #[.int .i64 W, .int .i64 H, .slice a (W * H) cap], .int .i64 0]) ∧ Ints w.heap.size w' a (W * H) (pix W (makeG op k) (W * H)) ∧ Below w.heap.size w w' := by
  have b1 := (side_iff _).1 h1
  have b2 := (side_iff _).1 h2
  have b3 := (num_iff _).1 h3
  have hB : Below w.heap.size w ((w.alloc (.cells #[.int .i64 k] 3)).alloc (.cells #[.int .i64 0, .int .i64 0, .slice none 0 0] 24)) := ((Below.refl _ _).alloc (Nat.le_refl _) _).alloc (by simp) _
  have hk : ((w.alloc (.cells #[.int .i64 k] 3)).alloc (.cells #[.int .i64 0, .int .i64 0, .slice none 0 0] 24)).cell? ⟨w.heap.size, 0, none⟩ = some (.int .i64 k) := by simp [go_sem]
  rcases h with rfl | rfl
  · have t := make1_tells _ w.heap.size W H k (by simp; omega) hk
    go_enter Tryz.func68, Tryz.ntmps68
    go_wp2_with (first
      | (go_at_call 33; refine (isSide_any _ _).mono ?_; rintro e w' ⟨rfl, rfl⟩)
      | (go_at_call 34; refine (isNumber_any _ _).mono ?_; rintro e w' ⟨rfl, rfl⟩)
      | (go_at_call 106; refine (draw_any W H _ _ _ _ (by omega) (by omega) t).mono ?_; rintro e w2 ⟨a, cap, rfl, hints, hbel⟩; obtain ⟨hcc, hff⟩ := bcell hbel; have hsz : w.heap.size + 1 < w2.heap.size := by have := hbel.size; simp at this; omega))
    have e1 : w2.cell? ⟨w.heap.size + 1, 0, none⟩ = some (.int .i64 0) := by rw [hcc _ _ (by simp)]; simp [go_sem]
    have e2 : w2.cell? ⟨w.heap.size + 1, 1, none⟩ = some (.int .i64 0) := by rw [hcc _ _ (by simp)]; simp [go_sem]
    have e3 : w2.cell? ⟨w.heap.size + 1, 2, none⟩ = some (.slice none 0 0) := by rw [hcc _ _ (by simp)]; simp [go_sem]
    refine bodyPost_ret (v := .tuple #[.agg #[.int .i64 W, .int .i64 H, .slice a (W * H) cap], .int .i64 0]) (by simp [results, Tryz.results68, go_sem, e1, e2, e3]) rfl ⟨a, cap, rfl, ?_, ?_⟩
    · exact (((hints.setCell (by simp) _).setCell (by simp) _).setCell (by simp) _).mono (by simp; omega)
    · exact (((hB.trans (hbel.mono (by simp; omega))).setCell (by simp) _).setCell (by simp) _).setCell (by simp) _
  · have t := make2_tells _ w.heap.size W H k (by simp; omega) hk (by omega) (by omega) b3
    go_enter Tryz.func68, Tryz.ntmps68
    go_wp2_with (first
      | (go_at_call 33; refine (isSide_any _ _).mono ?_; rintro e w' ⟨rfl, rfl⟩)
      | (go_at_call 34; refine (isNumber_any _ _).mono ?_; rintro e w' ⟨rfl, rfl⟩)
      | (go_at_call 106; refine (draw_any W H _ _ _ _ (by omega) (by omega) t).mono ?_; rintro e w2 ⟨a, cap, rfl, hints, hbel⟩; obtain ⟨hcc, hff⟩ := bcell hbel; have hsz : w.heap.size + 1 < w2.heap.size := by have := hbel.size; simp at this; omega))
    have e1 : w2.cell? ⟨w.heap.size + 1, 0, none⟩ = some (.int .i64 0) := by rw [hcc _ _ (by simp)]; simp [go_sem]
    have e2 : w2.cell? ⟨w.heap.size + 1, 1, none⟩ = some (.int .i64 0) := by rw [hcc _ _ (by simp)]; simp [go_sem]
    have e3 : w2.cell? ⟨w.heap.size + 1, 2, none⟩ = some (.slice none 0 0) := by rw [hcc _ _ (by simp)]; simp [go_sem]
    refine bodyPost_ret (v := .tuple #[.agg #[.int .i64 W, .int .i64 H, .slice a (W * H) cap], .int .i64 0]) (by simp [results, Tryz.results68, go_sem, e1, e2, e3]) rfl ⟨a, cap, rfl, ?_, ?_⟩
    · exact (((hints.setCell (by simp) _).setCell (by simp) _).setCell (by simp) _).mono (by simp; omega)
    · exact (((hB.trans (hbel.mono (by simp; omega))).setCell (by simp) _).setCell (by simp) _).setCell (by simp) _

end Go.Proofs.YtaenpgdmiaekcaaGreatDoor
/-
  ONE: image.One makes what the document says of one image.
-/
namespace Go.Proofs.YtaenpgdmiaekcaaGreatDoor
set_option maxRecDepth 100000
open Go.RowKit Im

/-- The error of One, of a right image of W columns and H rows. -/
def oneErr (op : Int) (W H : Nat) (k : Int) : Int :=
  if op = 3 then 0 else if op = 10 then 0 else if op = 8 then okIf (numB k) 3 else if op = 9 then okIf (withinB k (-16) 16) 3
  else if op = 11 then okIf (decide (W % 2 = 0) && decide (H % 2 = 0)) 6 else if op = 12 then okIf (decide (2 * W ≤ 16) && decide (2 * H ≤ 16)) 6 else 4
theorem oneErr_none {op : Int} (W H : Nat) (k : Int) (h3 : ¬ op = 3) (h10 : ¬ op = 10) (h8 : ¬ op = 8) (h9 : ¬ op = 9) (h11 : ¬ op = 11) (h12 : ¬ op = 12) : oneErr op W H k = 4 := by
  simp [oneErr, h3, h10, h8, h9, h11, h12]

theorem unless_any (r : Bool) (E : Int) (w : World) : Calls Tryz.prog 150 #[.bool r, .int .i64 E] w fun e w' => e = .returned (.int .i64 (okIf r E)) ∧ w = w' := by
  cases r
  all_goals
    go_enter Tryz.func150, Tryz.ntmps150
    go_wp2
    go_ret
    exact ⟨rfl, rfl⟩

theorem checkOne_none (op : Int) (W H : Nat) (k : Int) (a : Option Addr) (len cap : Nat) (w : World) (h3 : ¬ op = 3) (h10 : ¬ op = 10) (h8 : ¬ op = 8) (h9 : ¬ op = 9) (h11 : ¬ op = 11) (h12 : ¬ op = 12) :
    Calls Tryz.prog 118 #[.int .i64 op, .agg #[.int .i64 W, .int .i64 H, .slice a len cap], .int .i64 k] w fun e w' => e = .returned (.int .i64 4) ∧ Below w.heap.size w w' := by
  have g3 : (op == 3) = false := by simpa using h3
  have g10 : (op == 10) = false := by simpa using h10
  have g8 : (op == 8) = false := by simpa using h8
  have g9 : (op == 9) = false := by simpa using h9
  have g11 : (op == 11) = false := by simpa using h11
  have g12 : (op == 12) = false := by simpa using h12
  go_enter Tryz.func118, Tryz.ntmps118
  go_wp2
  go_ret
  exact ⟨rfl, (Below.refl _ _).alloc (Nat.le_refl _) _⟩
theorem checkOne_free (op : Int) (W H : Nat) (k : Int) (a : Option Addr) (len cap : Nat) (w : World) (h : op = 3 ∨ op = 10) :
    Calls Tryz.prog 118 #[.int .i64 op, .agg #[.int .i64 W, .int .i64 H, .slice a len cap], .int .i64 k] w fun e w' => e = .returned (.int .i64 0) ∧ Below w.heap.size w w' := by
  rcases h with rfl | rfl
  all_goals
    go_enter Tryz.func118, Tryz.ntmps118
    go_wp2
    go_ret
    exact ⟨rfl, (Below.refl _ _).alloc (Nat.le_refl _) _⟩
theorem checkOne_cut (W H : Nat) (k : Int) (a : Option Addr) (len cap : Nat) (w : World) :
    Calls Tryz.prog 118 #[.int .i64 8, .agg #[.int .i64 W, .int .i64 H, .slice a len cap], .int .i64 k] w fun e w' => e = .returned (.int .i64 (okIf (numB k) 3)) ∧ Below w.heap.size w w' := by
  go_enter Tryz.func118, Tryz.ntmps118
  go_wp2_with (first | (go_at_call 34; refine (isNumber_any _ _).mono ?_; rintro e w' ⟨rfl, rfl⟩) | (go_at_call 150; refine (unless_any _ _ _).mono ?_; rintro e w' ⟨rfl, rfl⟩))
  go_ret
  exact ⟨rfl, (Below.refl _ _).alloc (Nat.le_refl _) _⟩
theorem checkOne_shift (W H : Nat) (k : Int) (a : Option Addr) (len cap : Nat) (w : World) :
    Calls Tryz.prog 118 #[.int .i64 9, .agg #[.int .i64 W, .int .i64 H, .slice a len cap], .int .i64 k] w fun e w' => e = .returned (.int .i64 (okIf (withinB k (-16) 16) 3)) ∧ Below w.heap.size w w' := by
  by_cases h1 : -16 ≤ k
  · by_cases h2 : k ≤ 16
    · have e : withinB k (-16) 16 = true := by simp [withinB, h1, h2]
      rw [e]; clear e
      go_enter Tryz.func118, Tryz.ntmps118
      go_wp2_with (go_at_call 150; refine (unless_any _ _ _).mono ?_; rintro e w' ⟨rfl, rfl⟩)
      go_ret
      exact ⟨rfl, (Below.refl _ _).alloc (Nat.le_refl _) _⟩
    · have e : withinB k (-16) 16 = false := by simp [withinB, h2]
      rw [e]; clear e
      go_enter Tryz.func118, Tryz.ntmps118
      go_wp2_with (go_at_call 150; refine (unless_any _ _ _).mono ?_; rintro e w' ⟨rfl, rfl⟩)
      go_ret
      exact ⟨rfl, (Below.refl _ _).alloc (Nat.le_refl _) _⟩
  · have e : withinB k (-16) 16 = false := by simp [withinB, h1]
    rw [e]; clear e
    go_enter Tryz.func118, Tryz.ntmps118
    go_wp2_with (go_at_call 150; refine (unless_any _ _ _).mono ?_; rintro e w' ⟨rfl, rfl⟩)
    go_ret
    exact ⟨rfl, (Below.refl _ _).alloc (Nat.le_refl _) _⟩
theorem checkOne_down (W H : Nat) (k : Int) (a : Option Addr) (len cap : Nat) (w : World) (hW : W ≤ 16) (hH : H ≤ 16) :
    Calls Tryz.prog 118 #[.int .i64 11, .agg #[.int .i64 W, .int .i64 H, .slice a len cap], .int .i64 k] w fun e w' => e = .returned (.int .i64 (okIf (decide (W % 2 = 0) && decide (H % 2 = 0)) 6)) ∧ Below w.heap.size w w' := by
  by_cases h1 : W % 2 = 0
  · have g1 : ((W : Int) % 2 == 0) = true := by simp; omega
    by_cases h2 : H % 2 = 0
    · have g2 : ((H : Int) % 2 == 0) = true := by simp; omega
      have e : (decide (W % 2 = 0) && decide (H % 2 = 0)) = true := by simp [h1, h2]
      rw [e]; clear e
      go_enter Tryz.func118, Tryz.ntmps118
      go_wp2_with (go_at_call 150; refine (unless_any _ _ _).mono ?_; rintro e w' ⟨rfl, rfl⟩)
      go_ret
      exact ⟨rfl, (Below.refl _ _).alloc (Nat.le_refl _) _⟩
    · have g2 : ((H : Int) % 2 == 0) = false := by simp; omega
      have e : (decide (W % 2 = 0) && decide (H % 2 = 0)) = false := by simp [h2]
      rw [e]; clear e
      go_enter Tryz.func118, Tryz.ntmps118
      go_wp2_with (go_at_call 150; refine (unless_any _ _ _).mono ?_; rintro e w' ⟨rfl, rfl⟩)
      go_ret
      exact ⟨rfl, (Below.refl _ _).alloc (Nat.le_refl _) _⟩
  · have g1 : ((W : Int) % 2 == 0) = false := by simp; omega
    have e : (decide (W % 2 = 0) && decide (H % 2 = 0)) = false := by simp [h1]
    rw [e]; clear e
    go_enter Tryz.func118, Tryz.ntmps118
    go_wp2_with (go_at_call 150; refine (unless_any _ _ _).mono ?_; rintro e w' ⟨rfl, rfl⟩)
    go_ret
    exact ⟨rfl, (Below.refl _ _).alloc (Nat.le_refl _) _⟩
theorem side_two (n : Nat) (h : 1 ≤ n) : sideB (2 * (n : Int)) = decide (2 * n ≤ 16) := by
  rw [Bool.eq_iff_iff]; simp [sideB]; omega
theorem checkOne_up (W H : Nat) (k : Int) (a : Option Addr) (len cap : Nat) (w : World) (hW : 1 ≤ W ∧ W ≤ 16) (hH : 1 ≤ H ∧ H ≤ 16) :
    Calls Tryz.prog 118 #[.int .i64 12, .agg #[.int .i64 W, .int .i64 H, .slice a len cap], .int .i64 k] w fun e w' => e = .returned (.int .i64 (okIf (decide (2 * W ≤ 16) && decide (2 * H ≤ 16)) 6)) ∧ Below w.heap.size w w' := by
  rw [← side_two W hW.1, ← side_two H hH.1]
  by_cases h1 : sideB (2 * (W : Int)) = true
  · rw [h1, Bool.true_and]
    go_enter Tryz.func118, Tryz.ntmps118
    go_wp2_with (first | (go_at_call 33; refine (isSide_any _ _).mono ?_; rintro e w' ⟨rfl, rfl⟩) | (go_at_call 150; refine (unless_any _ _ _).mono ?_; rintro e w' ⟨rfl, rfl⟩))
    go_ret
    exact ⟨rfl, (Below.refl _ _).alloc (Nat.le_refl _) _⟩
  · have h1' : sideB (2 * (W : Int)) = false := by simpa using h1
    rw [h1', Bool.false_and]
    go_enter Tryz.func118, Tryz.ntmps118
    go_wp2_with (first | (go_at_call 33; refine (isSide_any _ _).mono ?_; rintro e w' ⟨rfl, rfl⟩) | (go_at_call 150; refine (unless_any _ _ _).mono ?_; rintro e w' ⟨rfl, rfl⟩))
    go_ret
    exact ⟨rfl, (Below.refl _ _).alloc (Nat.le_refl _) _⟩
/-- The operations of One. -/
theorem ones_cases (op : Int) : (op = 3 ∨ op = 10) ∨ op = 8 ∨ op = 9 ∨ op = 11 ∨ op = 12 ∨ (¬ op = 3 ∧ ¬ op = 10 ∧ ¬ op = 8 ∧ ¬ op = 9 ∧ ¬ op = 11 ∧ ¬ op = 12) := by omega
theorem checkOne_any (op : Int) (W H : Nat) (k : Int) (a : Option Addr) (len cap : Nat) (w : World) (hW : 1 ≤ W ∧ W ≤ 16) (hH : 1 ≤ H ∧ H ≤ 16) :
    Calls Tryz.prog 118 #[.int .i64 op, .agg #[.int .i64 W, .int .i64 H, .slice a len cap], .int .i64 k] w fun e w' => e = .returned (.int .i64 (oneErr op W H k)) ∧ Below w.heap.size w w' := by
  rcases ones_cases op with h | rfl | rfl | rfl | rfl | ⟨h3, h10, h8, h9, h11, h12⟩
  · have e : oneErr op W H k = 0 := by rcases h with rfl | rfl <;> rfl
    rw [e]; exact checkOne_free op W H k a len cap w h
  · exact checkOne_cut W H k a len cap w
  · exact checkOne_shift W H k a len cap w
  · exact checkOne_down W H k a len cap w hW.2 hH.2
  · exact checkOne_up W H k a len cap w hW hH
  · rw [oneErr_none W H k h3 h10 h8 h9 h11 h12]; exact checkOne_none op W H k a len cap w h3 h10 h8 h9 h11 h12
end Go.Proofs.YtaenpgdmiaekcaaGreatDoor
/-
  ONE2: image.One, whole.
-/
namespace Go.Proofs.YtaenpgdmiaekcaaGreatDoor
set_option maxRecDepth 100000
open Go.RowKit Im

theorem sizeOfOne_any (op : Int) (W H : Nat) (a : Option Addr) (len cap : Nat) (w : World) (hW : W ≤ 16) (hH : H ≤ 16) :
    Calls Tryz.prog 119 #[.int .i64 op, .agg #[.int .i64 W, .int .i64 H, .slice a len cap]] w fun e w' => e = .returned (.tuple #[.int .i64 (oneN op W), .int .i64 (oneN op H)]) ∧ Below w.heap.size w w' := by
  have hB : ∀ n, Below w.heap.size w ((w.alloc (.cells #[.int .i64 W, .int .i64 H, .slice a len cap] 24)).drewN n) := fun n => below_drewN ((Below.refl _ _).alloc (Nat.le_refl _) _) n
  by_cases h11 : op = 11
  · subst h11
    have e1 : (oneN 11 W : Int) = (W : Int) / 2 := by simp [oneN]
    have e2 : (oneN 11 H : Int) = (H : Int) / 2 := by simp [oneN]
    rw [e1, e2]; clear e1 e2
    go_enter Tryz.func119, Tryz.ntmps119
    go_wp2
    go_quiet (fail)
    go_wp2
    go_ret2
    exact ⟨rfl, hB _⟩
  by_cases h12 : op = 12
  · subst h12
    have e1 : (oneN 12 W : Int) = 2 * (W : Int) := by simp [oneN]
    have e2 : (oneN 12 H : Int) = 2 * (H : Int) := by simp [oneN]
    rw [e1, e2]; clear e1 e2
    go_enter Tryz.func119, Tryz.ntmps119
    go_wp2
    go_quiet (fail)
    go_wp2
    go_ret2
    exact ⟨rfl, hB _⟩
  · have g11 : (op == 11) = false := by simpa using h11
    have g12 : (op == 12) = false := by simpa using h12
    have e1 : oneN op W = W := by simp [oneN, h11, h12]
    have e2 : oneN op H = H := by simp [oneN, h11, h12]
    rw [e1, e2]; clear e1 e2
    go_enter Tryz.func119, Tryz.ntmps119
    go_wp2
    go_quiet (fail)
    go_wp2
    go_ret2
    exact ⟨rfl, hB _⟩

/-- The world of ruleOfOne, behind numbersOf: the image's box, k's box, the image's second box, the box of the function value. -/
theorem ruleOfOne_any (op : Int) (W H b off cap : Nat) (k : Int) (ps : List Int) (w : World) (hF : Fine w b off W H ps) (he : oneErr op W H k = 0) :
    Calls Tryz.prog 120 #[.int .i64 op, .agg #[.int .i64 W, .int .i64 H, .slice (some ⟨b, off, none⟩) (W * H) cap], .int .i64 k] w fun e w' =>
      ∃ n caps, e = .returned (.func (.func n) #[] caps) ∧ Tells w' n caps (oneN op W) (oneN op H) (oneG op W H k ps) ∧ Below w.heap.size w w' := by
  have hB : ∀ o1 o2 o3 o4, Below w.heap.size w ((((w.alloc o1).alloc o2).alloc o3).alloc o4) := fun o1 o2 o3 o4 => ((((Below.refl _ _).alloc (Nat.le_refl _) _).alloc (by simp) _).alloc (by simp; omega) _).alloc (by simp; omega) _
  obtain ⟨w4, hw4⟩ : ∃ w4, w4 = (((w.alloc (.cells #[.int .i64 W, .int .i64 H, .slice (some ⟨b, off, none⟩) (W * H) cap] 24)).alloc (.cells #[.int .i64 k] 3)).alloc (.cells #[.int .i64 W, .int .i64 H, .slice (some ⟨b, off, none⟩) (W * H) cap] 24)).alloc (.cells #[.func (.func 147) #[] #[.pointer (some ⟨w.heap.size + 1 + 1, 0, none⟩)]] 144) := ⟨_, rfl⟩
  have hb4 : Below w.heap.size w w4 := by rw [hw4]; exact hB _ _ _ _
  have s4 : w4.heap.size = w.heap.size + 4 := by rw [hw4]; simp
  have hF4 := hF.below hb4
  have hI : Boxed w4 w.heap.size b off cap W H := by refine ⟨by omega, ?_, ?_, ?_⟩ <;> (rw [hw4]; simp [go_sem])
  have hJ : Boxed w4 (w.heap.size + 1 + 1) b off cap W H := by refine ⟨by omega, ?_, ?_, ?_⟩ <;> (rw [hw4]; simp [go_sem])
  have hK : w4.cell? ⟨w.heap.size + 1, 0, none⟩ = some (.int .i64 k) := by rw [hw4]; simp [go_sem]
  have hO : Old w4 (w.heap.size + 1 + 1 + 1) (w.heap.size + 1 + 1) b off cap W H ps := ⟨by omega, by rw [hw4]; simp [go_sem], hJ, hF4⟩
  rcases ones_cases op with (rfl | rfl) | rfl | rfl | rfl | rfl | ⟨h3, h10, h8, h9, h11, h12⟩
  · have T := numbers_tells hJ hF4
    subst hw4
    go_enter Tryz.func120, Tryz.ntmps120
    go_wp2_with (go_at_call 110; refine (numbersOf_any _ _ _ _ _ _).mono ?_; rintro e w' ⟨rfl, rfl⟩)
    go_ret
    exact ⟨_, _, rfl, T, hb4⟩
  · have T := rule3_tells k hO hI
    subst hw4
    go_enter Tryz.func120, Tryz.ntmps120
    go_wp2_with (go_at_call 110; refine (numbersOf_any _ _ _ _ _ _).mono ?_; rintro e w' ⟨rfl, rfl⟩)
    go_ret
    exact ⟨_, _, rfl, T, hb4⟩
  · have T := rule1_tells hO hK (by omega)
    subst hw4
    go_enter Tryz.func120, Tryz.ntmps120
    go_wp2_with (go_at_call 110; refine (numbersOf_any _ _ _ _ _ _).mono ?_; rintro e w' ⟨rfl, rfl⟩)
    go_ret
    exact ⟨_, _, rfl, T, hb4⟩
  · have hk9 : -16 ≤ k ∧ k ≤ 16 := by
      by_cases h : withinB k (-16) 16 = true
      · simpa [withinB] using h
      · have e : oneErr 9 W H k = okIf (withinB k (-16) 16) 3 := rfl
        rw [e, eq_false_of_ne_true h] at he; cases he
    have T := rule2_tells hO hK (by omega) hk9 hI
    subst hw4
    go_enter Tryz.func120, Tryz.ntmps120
    go_wp2_with (go_at_call 110; refine (numbersOf_any _ _ _ _ _ _).mono ?_; rintro e w' ⟨rfl, rfl⟩)
    go_ret
    exact ⟨_, _, rfl, T, hb4⟩
  · have T := rule4_tells k hO
    subst hw4
    go_enter Tryz.func120, Tryz.ntmps120
    go_wp2_with (go_at_call 110; refine (numbersOf_any _ _ _ _ _ _).mono ?_; rintro e w' ⟨rfl, rfl⟩)
    go_ret
    exact ⟨_, _, rfl, T, hb4⟩
  · have T := rule5_tells k hO
    subst hw4
    go_enter Tryz.func120, Tryz.ntmps120
    go_wp2_with (go_at_call 110; refine (numbersOf_any _ _ _ _ _ _).mono ?_; rintro e w' ⟨rfl, rfl⟩)
    go_ret
    exact ⟨_, _, rfl, T, hb4⟩
  · rw [oneErr_none W H k h3 h10 h8 h9 h11 h12] at he; omega
end Go.Proofs.YtaenpgdmiaekcaaGreatDoor
/-
  ONE3: image.One answers what the document says.
-/
namespace Go.Proofs.YtaenpgdmiaekcaaGreatDoor
set_option maxRecDepth 100000
open Go.RowKit Im

/-- image.One, of an image that is not right. -/
theorem one_not {W H : Int} {a : Option Addr} {len : Nat} (op : Int) (cap : Nat) (k : Int) {ps : List Int} {w : World} (h : Ints 0 w a len ps) (hf : fineB W H ps = false) :
    Calls Tryz.prog 71 #[.int .i64 op, .agg #[.int .i64 W, .int .i64 H, .slice a len cap], .int .i64 k] w fun e w' => e = .returned (.tuple #[noImage, .int .i64 1]) ∧ Below w.heap.size w w' := by
  have hB : ∀ o o', Below w.heap.size w ((w.alloc o).alloc o') := fun o o' => ((Below.refl _ _).alloc (Nat.le_refl _) _).alloc (by simp) _
  have h1 := h.below (Nat.le_refl _) (hB (.cells #[.int .i64 W, .int .i64 H, .slice a len cap] 24) (.cells #[.int .i64 0, .int .i64 0, .slice none 0 0] 24))
  go_enter Tryz.func71, Tryz.ntmps71
  go_wp2_with (go_at_call 13; refine (check_not cap h1 hf).mono ?_; rintro e wA ⟨rfl, hbA⟩; obtain ⟨cA, fA⟩ := bcell hbA; have sA : w.heap.size + 1 < wA.heap.size := by have := hbA.size; simp at this; omega)
  refine bodyPost_ret (v := .tuple #[noImage, .int .i64 1]) (by simp [results, Tryz.results71, go_sem, cA]) rfl ⟨rfl, ?_⟩
  exact ((((hB _ _).trans (hbA.mono (by simp; omega))).setCell (by simp) _).setCell (by simp) _).setCell (by simp) _
/-- image.One, where it tells an error of a right image. -/
theorem one_err {W H b off : Nat} (op : Int) (cap : Nat) (k : Int) {ps : List Int} {w : World} (hF : Fine w b off W H ps) (E : Int) (hE : oneErr op W H k = E) (h0 : ¬ E = 0) :
    Calls Tryz.prog 71 #[.int .i64 op, .agg #[.int .i64 W, .int .i64 H, .slice (some ⟨b, off, none⟩) (W * H) cap], .int .i64 k] w fun e w' => e = .returned (.tuple #[noImage, .int .i64 E]) ∧ Below w.heap.size w w' := by
  have hB : ∀ o o', Below w.heap.size w ((w.alloc o).alloc o') := fun o o' => ((Below.refl _ _).alloc (Nat.le_refl _) _).alloc (by simp) _
  have hF1 := hF.below (hB (.cells #[.int .i64 W, .int .i64 H, .slice (some ⟨b, off, none⟩) (W * H) cap] 24) (.cells #[.int .i64 0, .int .i64 0, .slice none 0 0] 24))
  have hne : (E != 0) = true := by simpa using h0
  have hcO := fun wx => checkOne_any op W H k (some ⟨b, off, none⟩) (W * H) cap wx hF.hW hF.hH
  rw [hE] at hcO
  clear hE h0
  go_enter Tryz.func71, Tryz.ntmps71
  go_wp2_with (first
    | (go_at_call 13; refine (check_fine cap hF1.ints hF1.fineB).mono ?_; rintro e wA ⟨rfl, hbA⟩; obtain ⟨cA, fA⟩ := bcell hbA; have sA : w.heap.size + 1 < wA.heap.size := by have := hbA.size; simp at this; omega)
    | (go_at_call 118; refine (hcO _).mono ?_; rintro e wB ⟨rfl, hbB⟩; have hbB' := hbA.trans (hbB.mono hbA.size); obtain ⟨cB, fB⟩ := bcell hbB'; have sB : w.heap.size + 1 < wB.heap.size := by have := hbB.size; omega))
  refine bodyPost_ret (v := .tuple #[noImage, .int .i64 E]) (by simp [results, Tryz.results71, go_sem, cB]) rfl ⟨rfl, ?_⟩
  exact ((((hB _ _).trans (hbB'.mono (by simp; omega))).setCell (by simp) _).setCell (by simp) _).setCell (by simp) _
theorem okIf_zero {b : Bool} {e : Int} (he : ¬ e = 0) (h : okIf b e = 0) : b = true := by
  cases b
  · exact absurd h he
  · rfl
theorem oneN_side {op : Int} {W H : Nat} {k : Int} (hW : 1 ≤ W ∧ W ≤ 16) (hH : 1 ≤ H ∧ H ≤ 16) (hE : oneErr op W H k = 0) : (1 ≤ oneN op W ∧ oneN op W ≤ 16) ∧ 1 ≤ oneN op H ∧ oneN op H ≤ 16 := by
  rcases ones_cases op with (rfl | rfl) | rfl | rfl | rfl | rfl | ⟨h3, h10, h8, h9, h11, h12⟩
  · exact ⟨hW, hH⟩
  · exact ⟨hW, hH⟩
  · exact ⟨hW, hH⟩
  · exact ⟨hW, hH⟩
  · have h := okIf_zero (by decide) (show okIf (decide (W % 2 = 0) && decide (H % 2 = 0)) 6 = 0 from hE)
    simp at h
    show (1 ≤ W / 2 ∧ W / 2 ≤ 16) ∧ 1 ≤ H / 2 ∧ H / 2 ≤ 16
    omega
  · have h := okIf_zero (by decide) (show okIf (decide (2 * W ≤ 16) && decide (2 * H ≤ 16)) 6 = 0 from hE)
    simp at h
    show (1 ≤ 2 * W ∧ 2 * W ≤ 16) ∧ 1 ≤ 2 * H ∧ 2 * H ≤ 16
    omega
  · rw [oneErr_none W H k h3 h10 h8 h9 h11 h12] at hE; omega
/-- image.One, of a right image and with no error. -/
theorem one_ok {W H b off : Nat} (op : Int) (cap : Nat) (k : Int) {ps : List Int} {w : World} (hF : Fine w b off W H ps) (hE : oneErr op W H k = 0) :
    Calls Tryz.prog 71 #[.int .i64 op, .agg #[.int .i64 W, .int .i64 H, .slice (some ⟨b, off, none⟩) (W * H) cap], .int .i64 k] w fun e w' =>
      ∃ a cap', e = .returned (.tuple #[.agg #[.int .i64 (oneN op W), .int .i64 (oneN op H), .slice a (oneN op W * oneN op H) cap'], .int .i64 0]) ∧ Ints w.heap.size w' a (oneN op W * oneN op H) (pix (oneN op W) (oneG op W H k ps) (oneN op W * oneN op H)) ∧ Below w.heap.size w w' := by
  have hB : ∀ o o', Below w.heap.size w ((w.alloc o).alloc o') := fun o o' => ((Below.refl _ _).alloc (Nat.le_refl _) _).alloc (by simp) _
  have hF1 := hF.below (hB (.cells #[.int .i64 W, .int .i64 H, .slice (some ⟨b, off, none⟩) (W * H) cap] 24) (.cells #[.int .i64 0, .int .i64 0, .slice none 0 0] 24))
  have hcO := fun wx => checkOne_any op W H k (some ⟨b, off, none⟩) (W * H) cap wx hF.hW hF.hH
  have hs := oneN_side hF.hW hF.hH hE
  have hsO := fun wx => sizeOfOne_any op W H (some ⟨b, off, none⟩) (W * H) cap wx hF.hW.2 hF.hH.2
  have hrO := fun wx h => ruleOfOne_any op W H b off cap k ps wx h hE
  rw [hE] at hcO
  clear hE
  go_enter Tryz.func71, Tryz.ntmps71
  go_wp2_with (first
    | (go_at_call 13; refine (check_fine cap hF1.ints hF1.fineB).mono ?_; rintro e wA ⟨rfl, hbA⟩; obtain ⟨cA, fA⟩ := bcell hbA; have sA : w.heap.size + 1 < wA.heap.size := by have := hbA.size; simp at this; omega)
    | (go_at_call 118; refine (hcO _).mono ?_; rintro e wB ⟨rfl, hbB⟩; have hbB' := hbA.trans (hbB.mono hbA.size); obtain ⟨cB, fB⟩ := bcell hbB'; have sB : w.heap.size + 1 < wB.heap.size := by have := hbB.size; omega)
    | (go_at_call 119; refine (hsO _).mono ?_; rintro e wC ⟨rfl, hbC⟩; have hbC' := hbB'.trans (hbC.mono hbB'.size); obtain ⟨cC, fC⟩ := bcell hbC'; have sC : w.heap.size + 1 < wC.heap.size := by have := hbC.size; omega)
    | (go_at_call 120; refine (hrO _ (hF1.below hbC')).mono ?_; rintro e wD ⟨fn, caps, rfl, hT, hbD⟩; have hbD' := hbC'.trans (hbD.mono hbC'.size); obtain ⟨cD, fD⟩ := bcell hbD'; have sD : w.heap.size + 1 < wD.heap.size := by have := hbD.size; omega)
    | (go_at_call 106; refine (draw_any _ _ _ _ _ _ hs.1 hs.2 hT).mono ?_; rintro e wE ⟨a, cap', rfl, hints, hbE⟩; have hbE' := hbD'.trans (hbE.mono hbD'.size); obtain ⟨cE, fE⟩ := bcell hbE'; have sE : w.heap.size + 1 < wE.heap.size := by have := hbE.size; omega))
  refine bodyPost_ret (v := .tuple #[.agg #[.int .i64 (oneN op W), .int .i64 (oneN op H), .slice a (oneN op W * oneN op H) cap'], .int .i64 0]) (by simp [results, Tryz.results71, go_sem, cE]) rfl ⟨a, cap', rfl, ?_, ?_⟩
  · exact (((hints.setCell (by simpa using sD) _).setCell (by simpa using sD) _).setCell (by simpa using sD) _).mono (by omega)
  · exact ((((hB _ _).trans (hbE'.mono (by simp; omega))).setCell (by simp) _).setCell (by simp) _).setCell (by simp) _
end Go.Proofs.YtaenpgdmiaekcaaGreatDoor
