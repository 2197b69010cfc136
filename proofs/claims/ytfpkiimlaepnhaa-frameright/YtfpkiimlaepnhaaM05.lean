/- Tile, Mean, Rule, Pan: joined, in this order. -/
import Derived.Test.YtfpkiimlaepnhaaM01
import Derived.Test.YtfpkiimlaepnhaaM04
/-
  TILE: light.eachPlace and light.eachTile go through all places, and all tiles.
-/
namespace Go.Proofs.Ytfpkiimlaepnhaa
set_option maxRecDepth 100000
open Go.RowKit Im

/-- A function value does its work at each place of a part: what I says of the places that are done holds behind it of one more. -/
structure DoesP (n : Nat) (caps : Array Value) (I : (Nat → Prop) → World → Prop) (W x0 y0 pw ph : Nat) : Prop where
  enters : ∀ args w, (callFunc n args).run Try.prog w = .ok (.enter n args) w
  does : ∀ (x y : Nat) (D : Nat → Prop) (w1 : World), x0 ≤ x → x < x0 + pw → y0 ≤ y → y < y0 + ph → I D w1 → Calls Try.prog n (#[.int .i64 x, .int .i64 y] ++ caps) w1 fun e w2 => e = .returned (.tuple #[]) ∧ I (fun i => D i ∨ (i / W = y ∧ i % W = x)) w2

theorem DoesP.doesI {n : Nat} {caps : Array Value} {I : (Nat → Prop) → World → Prop} {W x0 y0 pw ph : Nat} (h : DoesP n caps I W x0 y0 pw ph) (x y : Nat) (X Y : Int) (hX : X = x) (hY : Y = y) (D : Nat → Prop) (w1 : World) (h1 : x0 ≤ x) (h2 : x < x0 + pw) (h3 : y0 ≤ y) (h4 : y < y0 + ph) (hI : I D w1) :
    Calls Try.prog n (#[.int .i64 X, .int .i64 Y] ++ caps) w1 fun e w2 => e = .returned (.tuple #[]) ∧ I (fun i => D i ∨ (i / W = y ∧ i % W = x)) w2 := by
  subst hX hY; exact h.does x y D w1 h1 h2 h3 h4 hI

set_option maxHeartbeats 1000000 in
theorem eachPlace_any (n : Nat) (caps : Array Value) (I : (Nat → Prop) → World → Prop) (W x0 y0 pw ph : Nat) (D : Nat → Prop) (w : World) (hb : x0 ≤ 16 ∧ y0 ≤ 16 ∧ pw ≤ 16 ∧ ph ≤ 16)
    (mono : ∀ (A B : Nat → Prop) (v : World), (∀ i, B i → A i) → I A v → I B v) (hd : DoesP n caps I W x0 y0 pw ph) (hI : I D w) :
    Calls Try.prog 81 #[.int .i64 x0, .int .i64 y0, .int .i64 pw, .int .i64 ph, .func (.func n) #[] caps] w fun e w' => e = .returned (.tuple #[]) ∧ I (fun i => D i ∨ (y0 ≤ i / W ∧ i / W < y0 + ph ∧ x0 ≤ i % W ∧ i % W < x0 + pw)) w' := by
  have hent := hd.enters
  obtain ⟨hb1, hb2, hb3, hb4⟩ := hb
  go_enter Try.func81, Try.ntmps81
  go_wp2
  go_loopw [13] (fun i wr => ∃ j : Nat, j ≤ ph ∧ i = .int .i64 j ∧ I (fun i => D i ∨ (y0 ≤ i / W ∧ i / W < y0 + j ∧ x0 ≤ i % W ∧ i % W < x0 + pw)) wr) (fun i _ => ph - (intOf i).toNat)
  case atStart => exact ⟨0, Nat.zero_le _, rfl, mono _ _ _ (fun i h => by rcases h with h | h; · exact h
                                                                          · omega) hI⟩
  case round =>
    obtain ⟨j, hj, rfl, hIr⟩ := hrel
    by_cases hlt : j < ph
    · go_wp2
      go_loopw [17] (fun i wr => ∃ c : Nat, c ≤ pw ∧ i = .int .i64 c ∧ I (fun i => (D i ∨ (y0 ≤ i / W ∧ i / W < y0 + j ∧ x0 ≤ i % W ∧ i % W < x0 + pw)) ∨ (i / W = y0 + j ∧ x0 ≤ i % W ∧ i % W < x0 + c)) wr) (fun i _ => pw - (intOf i).toNat)
      case atStart => exact ⟨0, Nat.zero_le _, rfl, mono _ _ _ (fun i h => by rcases h with h | h; · exact h
                                                                              · omega) hIr⟩
      case round =>
        obtain ⟨c, hcc, rfl, hIs⟩ := hrel
        by_cases hlc : c < pw
        · go_wp2_with (refine (hd.doesI (x0 + c) (y0 + j) _ _ (by omega) (by omega) _ _ (by omega) (by omega) (by omega) (by omega) hIs).mono ?_; rintro e w2 ⟨rfl, hI2⟩)
          go_roundw
          case rel => exact ⟨c + 1, by omega, by go_num, mono _ _ _ (fun i h => by
            rcases h with h | h
            · exact .inl (.inl h)
            · by_cases e : i % W = x0 + c
              · exact .inr ⟨h.1, e⟩
              · exact .inl (.inr ⟨h.1, h.2.1, by omega⟩)) hI2⟩
          case measure => simp [intOf]; omega
        · have hce : c = pw := by omega
          subst hce
          go_wp2
          go_roundw
          case rel => exact ⟨j + 1, by omega, by go_num, mono _ _ _ (fun i h => by
            rcases h with h | h
            · exact .inl (.inl h)
            · by_cases e : i / W = y0 + j
              · exact .inr ⟨e, h.2.2⟩
              · exact .inl (.inr ⟨h.1, by omega, h.2.2⟩)) hIs⟩
          case measure => simp [intOf]; omega
    · have hje : j = ph := by omega
      subst hje
      go_wp2
      go_end0
      exact ⟨rfl, hIr⟩

/-- A function value does its work on each tile. -/
structure DoesT (n : Nat) (caps : Array Value) (I : (Nat → Prop) → World → Prop) (W H : Nat) : Prop where
  enters : ∀ args w, (callFunc n args).run Try.prog w = .ok (.enter n args) w
  does : ∀ (x y pw ph : Nat) (D : Nat → Prop) (w1 : World), 1 ≤ pw → x + pw ≤ W → 1 ≤ ph → y + ph ≤ H → I D w1 → Calls Try.prog n (#[.int .i64 x, .int .i64 y, .int .i64 pw, .int .i64 ph] ++ caps) w1 fun e w2 => e = .returned (.tuple #[]) ∧ I (fun i => D i ∨ (y ≤ i / W ∧ i / W < y + ph ∧ x ≤ i % W ∧ i % W < x + pw)) w2
theorem DoesT.doesI {n : Nat} {caps : Array Value} {I : (Nat → Prop) → World → Prop} {W H : Nat} (h : DoesT n caps I W H) (x y pw ph : Nat) (PW PH : Int) (e1 : PW = pw) (e2 : PH = ph) (D : Nat → Prop) (w1 : World) (h1 : 1 ≤ pw) (h2 : x + pw ≤ W) (h3 : 1 ≤ ph) (h4 : y + ph ≤ H) (hI : I D w1) :
    Calls Try.prog n (#[.int .i64 x, .int .i64 y, .int .i64 PW, .int .i64 PH] ++ caps) w1 fun e w2 => e = .returned (.tuple #[]) ∧ I (fun i => D i ∨ (y ≤ i / W ∧ i / W < y + ph ∧ x ≤ i % W ∧ i % W < x + pw)) w2 := by
  subst e1 e2; exact h.does x y pw ph D w1 h1 h2 h3 h4 hI

set_option maxHeartbeats 1000000 in
theorem eachTile_any (n : Nat) (caps : Array Value) (I : (Nat → Prop) → World → Prop) (W H tile : Nat) (w : World) (hW : 1 ≤ W ∧ W ≤ 16) (hH : 1 ≤ H ∧ H ≤ 16) (ht : 1 ≤ tile ∧ tile ≤ 16)
    (mono : ∀ (A B : Nat → Prop) (v : World), (∀ i, B i → A i) → I A v → I B v) (hd : DoesT n caps I W H) (hI : I (fun _ => False) w) :
    Calls Try.prog 79 #[.int .i64 W, .int .i64 H, .int .i64 tile, .func (.func n) #[] caps] w fun e w' => e = .returned (.tuple #[]) ∧ I (fun i => i / W < H) w' := by
  have hent := hd.enters
  obtain ⟨hW1, hW2⟩ := hW
  obtain ⟨hH1, hH2⟩ := hH
  obtain ⟨ht1, ht2⟩ := ht
  have hmod : ∀ i, i % W < W := fun i => Nat.mod_lt _ (by omega)
  go_enter Try.func79, Try.ntmps79
  go_wp2
  go_loopw [8] (fun i wr => ∃ y : Nat, y ≤ H + 16 ∧ i = .int .i64 y ∧ I (fun i => i / W < y ∧ i / W < H) wr) (fun i _ => H + 16 - (intOf i).toNat)
  case atStart => exact ⟨0, by omega, rfl, mono _ _ _ (fun i h => absurd h.1 (Nat.not_lt_zero _)) hI⟩
  case round =>
    obtain ⟨y, hy, rfl, hIr⟩ := hrel
    by_cases hlt : y < H
    · obtain ⟨ph, hph⟩ : ∃ ph, ph = min tile (H - y) := ⟨_, rfl⟩
      have p1 : 1 ≤ ph ∧ y + ph ≤ H ∧ ph ≤ tile := by omega
      have P1 : Hid (y + tile ≤ y + ph ∨ H ≤ y + ph) := by show _ ∨ _; omega
      have hmn : (if (H : Int) - (y : Int) < (tile : Int) then (H : Int) - (y : Int) else (tile : Int)) = (ph : Int) := by rw [hph]; split <;> omega
      clear hph
      go_wp2
      go_loopw [9] (fun i wr => ∃ x : Nat, x ≤ W + 16 ∧ i = .int .i64 x ∧ I (fun i => (i / W < y ∧ i / W < H) ∨ (y ≤ i / W ∧ i / W < y + ph ∧ i % W < x)) wr) (fun i _ => W + 16 - (intOf i).toNat)
      case atStart => exact ⟨0, by omega, rfl, mono _ _ _ (fun i h => by rcases h with h | h; · exact h
                                                                         · exact absurd h.2.2 (Nat.not_lt_zero _)) hIr⟩
      case round =>
        obtain ⟨x, hx, rfl, hIs⟩ := hrel
        by_cases hlx : x < W
        · obtain ⟨pw, hpw⟩ : ∃ pw, pw = min tile (W - x) := ⟨_, rfl⟩
          have p2 : 1 ≤ pw ∧ x + pw ≤ W := by omega
          have P2 : Hid (x + tile ≤ x + pw ∨ W ≤ x + pw) := by show _ ∨ _; omega
          have hmx : (if (W : Int) - (x : Int) < (tile : Int) then (W : Int) - (x : Int) else (tile : Int)) = (pw : Int) := by rw [hpw]; split <;> omega
          clear hpw
          go_wp2_with (refine (hd.doesI x y pw ph _ _ rfl rfl _ _ p2.1 p2.2 p1.1 p1.2.1 hIs).mono ?_; rintro e w2 ⟨rfl, hI2⟩)
          go_roundw
          case rel => exact ⟨x + tile, by omega, by go_num, mono _ _ _ (fun i h => by
            have h2 := P2.out
            have h3 := hmod i
            rcases h with h | h
            · exact .inl (.inl h)
            · by_cases e : i % W < x
              · exact .inl (.inr ⟨h.1, h.2.1, e⟩)
              · exact .inr ⟨h.1, h.2.1, by omega, by omega⟩) hI2⟩
          case measure => simp [intOf]; omega
        · go_wp2
          go_roundw
          case rel => exact ⟨y + tile, by omega, by go_num, mono _ _ _ (fun i h => by
            have h1 := P1.out
            have h3 := hmod i
            by_cases e : i / W < y
            · exact .inl ⟨e, h.2⟩
            · exact .inr ⟨by omega, by omega, by omega⟩) hIs⟩
          case measure => simp [intOf]; omega
    · go_wp2
      go_end0
      exact ⟨rfl, mono _ _ _ (fun i h => ⟨by omega, h⟩) hIr⟩
end Go.Proofs.Ytfpkiimlaepnhaa
/-
  MEAN: image.mean, of a function that tells the number of a place.
-/
namespace Go.Proofs.Ytfpkiimlaepnhaa
set_option maxRecDepth 100000
open Go.RowKit Im

set_option maxHeartbeats 1000000 in
theorem mean_any (W H : Nat) (n : Nat) (caps : Array Value) (p : Nat → Nat → Int) (w : World) (l t r b : Nat) (hW : W ≤ 16) (hH : H ≤ 16) (h1 : l ≤ r) (h2 : r < W) (h3 : t ≤ b) (h4 : b < H)
    (hp : ∀ x y, x < W → y < H → 0 ≤ p x y ∧ p x y ≤ 65535) (hf : Tells w n caps W H p) :
    Calls Try.prog 97 #[.func (.func n) #[] caps, .int .i64 l, .int .i64 t, .int .i64 r, .int .i64 b] w fun e w' => e = .returned (.int .i64 (meanP p l t r b)) ∧ Below w.heap.size w w' := by
  have hent := hf.enters
  go_enter Try.func97, Try.ntmps97
  go_wp2
  go_loopw [11, 12] (fun s i wr => ∃ j : Nat, j ≤ b + 1 - t ∧ i = .int .i64 ((t : Int) + (j : Int)) ∧ s = .int .i64 (sumBox p l t (r + 1 - l) j) ∧ Below w.heap.size w wr) (fun _ i _ => b + 1 - (intOf i).toNat)
  case atStart => exact ⟨0, Nat.zero_le _, by simp, rfl, Below.refl _ _⟩
  case round =>
    obtain ⟨j, hj, rfl, rfl, hbr⟩ := hrel
    have sb := sumBox_bd (p := p) (l := l) (t := t) (n := r + 1 - l) (by omega) (m := j) (fun x y _ _ _ _ => hp x y (by omega) (by omega))
    by_cases hlt : j < b + 1 - t
    · have hle : (t : Int) + (j : Int) ≤ b := by omega
      go_wp2
      go_loopw [11, 13] (fun s i wr => ∃ i' : Nat, i' ≤ r + 1 - l ∧ i = .int .i64 ((l : Int) + (i' : Int)) ∧ s = .int .i64 (sumBox p l t (r + 1 - l) j + sumRow p (t + j) l i') ∧ Below w.heap.size w wr) (fun _ i _ => r + 1 - (intOf i).toNat)
      case atStart => exact ⟨0, Nat.zero_le _, by simp, by simp [sumRow], hbr⟩
      case round =>
        obtain ⟨i, hi, rfl, rfl, hbs⟩ := hrel
        have sr := sumRow_bd (p := p) (y := t + j) (l := l) (n := i) (fun x _ _ => hp x (t + j) (by omega) (by omega))
        by_cases hli : i < r + 1 - l
        · have hli2 : (l : Int) + (i : Int) ≤ r := by omega
          have hpp := hp (l + i) (t + j) (by omega) (by omega)
          go_wp2_with (refine (hf.tells (l + i) (t + j) _ (by omega) (by omega) hbs).mono ?_; rintro e w2 ⟨rfl, hb2⟩)
          have hbw := hbs.trans (hb2.mono (by have := hbs.size; omega))
          go_roundw
          case rel => exact ⟨i + 1, by omega, by go_num, by show _ = Value.int .i64 (_ + (sumRow p (t + j) l i + p (l + i) (t + j))); go_num, hbw⟩
          case measure => simp [intOf]; omega
        · have hie : i = r + 1 - l := by omega
          subst hie
          go_wp2
          go_roundw
          case rel => exact ⟨j + 1, by omega, by go_num, rfl, hbs⟩
          case measure => simp [intOf]; omega
    · have hje : j = b + 1 - t := by omega
      subst hje
      have m1 : 1 ≤ ((r : Int) - l + 1) * ((b : Int) - t + 1) := (side_mul (by simp [sideB]; omega) (by simp [sideB]; omega)).1
      have m2 : ((r : Int) - l + 1) * ((b : Int) - t + 1) ≤ 256 := (side_mul (by simp [sideB]; omega) (by simp [sideB]; omega)).2
      go_wp2
      go_ret
      exact ⟨rfl, hbr⟩
end Go.Proofs.Ytfpkiimlaepnhaa
/-
  RULE: the functions of places of image.One.
-/
namespace Go.Proofs.Ytfpkiimlaepnhaa
set_option maxRecDepth 100000
open Go.RowKit Im

/-- A right image of W columns and H rows, its numbers ps from the offset off of block b on. -/
structure Fine (w : World) (b off : Nat) (W H : Nat) (ps : List Int) : Prop where
  hW : 1 ≤ W ∧ W ≤ 16
  hH : 1 ≤ H ∧ H ≤ 16
  hb : b < w.heap.size
  len : ps.length = W * H
  cell : ∀ j, j < W * H → w.cell? ⟨b, off + j, none⟩ = some (.int .i64 (ps.getD j 0))
  num : ∀ n ∈ ps, 0 ≤ n ∧ n ≤ 65535

theorem Fine.below {w w' : World} {b off W H : Nat} {ps : List Int} (h : Fine w b off W H ps) (hb : Below w.heap.size w w') : Fine w' b off W H ps :=
  ⟨h.hW, h.hH, Nat.lt_of_lt_of_le h.hb hb.size, h.len, fun j hj => (hb.cell (p := ⟨b, off + j, none⟩) h.hb).trans (h.cell j hj), h.num⟩
theorem Fine.small {w : World} {b off W H : Nat} {ps : List Int} (h : Fine w b off W H ps) : 1 ≤ W * H ∧ W * H ≤ 256 := by
  have := side_mul (W := (W : Int)) (H := (H : Int)) (by have := h.hW; simp [sideB]; omega) (by have := h.hH; simp [sideB]; omega)
  rw [← Int.natCast_mul] at this
  omega
theorem Fine.px_bd {w : World} {b off W H : Nat} {ps : List Int} (h : Fine w b off W H ps) (x y : Nat) (hx : x < W) (hy : y < H) : 0 ≤ px W ps x y ∧ px W ps x y ≤ 65535 := by
  have hl : y * W + x < ps.length := by rw [h.len]; exact place_lt hx hy
  unfold px
  rw [List.getD_eq_getElem?_getD, List.getElem?_eq_getElem hl]
  exact h.num _ (List.getElem_mem hl)
theorem Fine.ints {w : World} {b off W H : Nat} {ps : List Int} (h : Fine w b off W H ps) : Ints 0 w (some ⟨b, off, none⟩) (W * H) ps :=
  ⟨h.len, by have := h.small; omega, .inr ⟨b, off, rfl, Nat.zero_le _, h.hb, h.cell⟩⟩
theorem Fine.fineB {w : World} {b off W H : Nat} {ps : List Int} (h : Fine w b off W H ps) : fineB W H ps = true := by
  rw [fine_iff]
  exact ⟨by have := h.hW; omega, by have := h.hH; omega, by rw [h.len, Int.natCast_mul], h.num⟩
theorem fine_of {w : World} {a : Option Addr} {len : Nat} {W H : Int} {ps : List Int} (h : Ints 0 w a len ps) (hf : fineB W H ps = true) :
    ∃ (W' H' b off : Nat), W = W' ∧ H = H' ∧ a = some ⟨b, off, none⟩ ∧ len = W' * H' ∧ Fine w b off W' H' ps := by
  obtain ⟨h1, h2, h3, h4⟩ := (fine_iff W H ps).1 hf
  obtain ⟨W', rfl⟩ := Int.eq_ofNat_of_zero_le (show 0 ≤ W by omega)
  obtain ⟨H', rfl⟩ := Int.eq_ofNat_of_zero_le (show 0 ≤ H by omega)
  have hl : ps.length = W' * H' := by rw [← Int.natCast_mul] at h3; omega
  have hl' := h.leng
  rcases h.cells with e | ⟨b, off, ha, _, hb, hc⟩
  · subst e
    have : 1 * 1 ≤ W' * H' := Nat.mul_le_mul (by omega) (by omega)
    simp at hl; omega
  · exact ⟨W', H', b, off, rfl, rfl, ha, by omega, by omega, by omega, hb, hl, fun j hj => hc j (by omega), h4⟩

theorem numbers_enters : ∀ args w, (callFunc 104 args).run Try.prog w = .ok (.enter 104 args) w := fun _ _ => by kernel_rfl
theorem numbersOf_any (W H : Int) (a : Option Addr) (len cap : Nat) (w : World) :
    Calls Try.prog 70 #[.agg #[.int .i64 W, .int .i64 H, .slice a len cap]] w fun e w' => e = .returned (.func (.func 104) #[] #[.pointer (some ⟨w.heap.size, 0, none⟩)]) ∧ w' = w.alloc (.cells #[.int .i64 W, .int .i64 H, .slice a len cap] 24) := by
  go_enter Try.func70, Try.ntmps70
  go_wp2
  go_ret
  exact ⟨rfl, rfl⟩
/-- The image lies in the box c. -/
structure Boxed (w : World) (c b off cap W H : Nat) : Prop where
  lt : c < w.heap.size
  c0 : w.cell? ⟨c, 0, none⟩ = some (.int .i64 W)
  c1 : w.cell? ⟨c, 1, none⟩ = some (.int .i64 H)
  c2 : w.cell? ⟨c, 2, none⟩ = some (.slice (some ⟨b, off, none⟩) (W * H) cap)
theorem Boxed.below {w w' : World} {c b off cap W H : Nat} (h : Boxed w c b off cap W H) (hb : Below w.heap.size w w') : Boxed w' c b off cap W H :=
  ⟨Nat.lt_of_lt_of_le h.lt hb.size, (hb.cell (p := ⟨c, 0, none⟩) h.lt).trans h.c0, (hb.cell (p := ⟨c, 1, none⟩) h.lt).trans h.c1, (hb.cell (p := ⟨c, 2, none⟩) h.lt).trans h.c2⟩
theorem numbers_tells {w : World} {c b off cap W H : Nat} {ps : List Int} (hB : Boxed w c b off cap W H) (hF : Fine w b off W H ps) : Tells w 104 #[.pointer (some ⟨c, 0, none⟩)] W H (px W ps) := by
  refine ⟨numbers_enters, fun x y w1 hx hy hbel => ?_⟩
  obtain ⟨hlt, c0, c1, c2⟩ := hB.below hbel
  have hc := (hF.below hbel).cell (y * W + x) (place_lt hx hy)
  have hpl := place_lt hx hy
  obtain ⟨hm, hM⟩ := hF.small
  have hb1 := hF.hW
  have hb2 := hF.hH
  have hpi : (y : Int) * (W : Int) + (x : Int) < (W : Int) * (H : Int) := by rw [← Int.natCast_mul, ← Int.natCast_mul]; omega
  have hp0 : 0 ≤ (y : Int) * (W : Int) := Int.mul_nonneg (by omega) (by omega)
  have hpM : (W : Int) * (H : Int) ≤ 256 := by rw [← Int.natCast_mul]; omega
  obtain ⟨v, hv⟩ : ∃ v, v = px W ps x y := ⟨_, rfl⟩
  have hc' : w1.cell? ⟨b, off + (y * W + x), none⟩ = some (.int .i64 v) := by rw [hv]; exact hc
  show Calls Try.prog 104 #[.int .i64 x, .int .i64 y, .pointer (some ⟨c, 0, none⟩)] w1 _
  rw [← hv]
  clear hc hv hF hB hpl
  go_enter Try.func104, Try.ntmps104
  go_wp2
  go_ret
  exact ⟨rfl, Below.refl _ _⟩
end Go.Proofs.Ytfpkiimlaepnhaa
/-
  PAN: the row of numbers that light.Lit fills, place by place; what one place gets.
-/
namespace Go.Proofs.Ytfpkiimlaepnhaa
set_option maxRecDepth 100000
open Go.RowKit Im

/-- Behind all that lay in wB: a row of L numbers, q of them, and the box of the slice that tells it. -/
structure Pan (wB w' : World) (L pb : Nat) (q : Nat → Int) : Prop where
  bel : Below wB.heap.size wB w'
  lo : wB.heap.size < pb
  siz : pb < w'.heap.size
  row : ∃ arr : Array Value, w'.heap[wB.heap.size]? = some (.cells arr 3 (0, 0)) ∧ arr.size = L ∧ ∀ j, j < L → arr[j]? = some (.int .i64 (q j))
  box : w'.cell? ⟨pb, 0, none⟩ = some (.slice (some ⟨wB.heap.size, 0, none⟩) L L)
theorem Pan.below {wB w' w2 : World} {L pb : Nat} {q : Nat → Int} (h : Pan wB w' L pb q) (hb : Below w'.heap.size w' w2) : Pan wB w2 L pb q := by
  have hs := h.siz
  have hlo := h.lo
  obtain ⟨arr, h1, h2, h3⟩ := h.row
  refine ⟨h.bel.trans (hb.mono (by omega)), hlo, Nat.lt_of_lt_of_le hs hb.size, ⟨arr, ?_, h2, h3⟩, (hb.cell (p := ⟨pb, 0, none⟩) hs).trans h.box⟩
  rw [hb.block _ (by omega)]; exact h1
theorem Pan.cell {wB w' : World} {L pb : Nat} {q : Nat → Int} (h : Pan wB w' L pb q) (j : Nat) (hj : j < L) : w'.cell? ⟨wB.heap.size, j, none⟩ = some (.int .i64 (q j)) ∧ w'.frozen? ⟨wB.heap.size, j, none⟩ = false := by
  obtain ⟨arr, h1, h2, h3⟩ := h.row
  unfold World.cell? World.frozen?
  rw [h1]
  simp [h3 j hj]
theorem Pan.store {wB w' : World} {L pb : Nat} {q : Nat → Int} (h : Pan wB w' L pb q) (j : Nat) (v : Int) (hj : j < L) : Pan wB (w'.setCell ⟨wB.heap.size, j, none⟩ (.int .i64 v)) L pb (fun i => if i = j then v else q i) := by
  obtain ⟨arr, h1, h2, h3⟩ := h.row
  have hlo := h.lo
  refine ⟨h.bel.setCell (Nat.le_refl _) _, hlo, by simpa [World.setCell] using h.siz, ⟨arr.setIfInBounds j (.int .i64 v), ?_, by simpa using h2, fun i hi => ?_⟩, ?_⟩
  · simp [World.setCell, Array.getElem?_modify, h1]
  · rw [Array.getElem?_setIfInBounds]
    by_cases e : j = i
    · subst e; simp [h2, hj]
    · rw [if_neg e, if_neg (fun h => e h.symm)]; exact h3 i hi
  · rw [World.cell?_of_block (w := w') (Below.heap_setCell w' _ _ _ (by show pb ≠ wB.heap.size; omega))]; exact h.box
/-- Of the places in D the numbers are those of G. -/
def Done (wB : World) (L pb : Nat) (G : Nat → Int) (D : Nat → Prop) (w' : World) : Prop := ∃ q, Pan wB w' L pb q ∧ ∀ i, i < L → D i → q i = G i

/-- What the lights of a list of numbers give to a place. -/
def sumN (x y : Int) (ls : List Lt) : List Int → Int
  | [] => 0
  | i :: r => givenP (ls.getD i.toNat Lt.zero) x y + sumN x y ls r
theorem sumN_snoc (x y : Int) (ls : List Lt) (i : Int) : ∀ l, sumN x y ls (l ++ [i]) = sumN x y ls l + givenP (ls.getD i.toNat Lt.zero) x y
  | [] => by simp [sumN]
  | m :: r => by simp [sumN, sumN_snoc x y ls i r, Int.add_assoc]
theorem sumN_pick (x y : Int) (f : Lt → Bool) (ls : List Lt) : ∀ n, n ≤ ls.length → (∀ k, k < n → f (ls.getD k Lt.zero) = false → givenP (ls.getD k Lt.zero) x y = 0) → sumN x y ls (pickL f ls n) = sumG x y (ls.take n)
  | 0, _, _ => by simp [pickL, sumN, sumG]
  | n + 1, hn, h => by
    have ih := sumN_pick x y f ls n (by omega) (fun k hk => h k (by omega))
    rw [take_snocL ls n (by omega), sumG_snoc]
    cases hf : f (ls.getD n Lt.zero) with
    | true => rw [pickL_yes f ls n hf, sumN_snoc, ih]; simp
    | false => rw [pickL_no f ls n hf, ih, h n (by omega) hf, Int.add_zero]
theorem pickL_get (f : Lt → Bool) (ls : List Lt) (n t : Nat) (ht : t < (pickL f ls n).length) : ∃ m : Nat, m < n ∧ (pickL f ls n).getD t 0 = m := by
  have hm : (pickL f ls n).getD t 0 ∈ pickL f ls n := by
    rw [List.getD_eq_getElem?_getD, List.getElem?_eq_getElem ht]; exact List.getElem_mem ht
  unfold pickL at hm
  simp only [List.mem_map, List.mem_filter, List.mem_range] at hm
  obtain ⟨m, ⟨h1, _⟩, h2⟩ := hm
  exact ⟨m, h1, h2.symm⟩
/-- Who is not near a part gives its places nothing. -/
theorem not_near {l : Lt} (x0 y0 : Int) (pw ph : Nat) (x y : Nat) (hx : x < pw) (hy : y < ph) (h : nearB x0 y0 pw ph l = false) : givenP l (x0 + x) (y0 + y) = 0 := by
  unfold nearB at h
  simp only [decide_eq_false_iff_not] at h
  refine given_zero rfl (fun hd => h ?_)
  have h1 : awayP l.X x0 pw ≤ awayP l.X (x0 + x) 1 := by unfold awayP; omega
  have h2 : awayP l.Y y0 ph ≤ awayP l.Y (y0 + y) 1 := by unfold awayP; omega
  omega
end Go.Proofs.Ytfpkiimlaepnhaa
