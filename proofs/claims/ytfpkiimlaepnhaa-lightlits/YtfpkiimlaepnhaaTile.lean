/-
  TILE: light.eachPlace and light.eachTile go through all places, and all tiles.
-/
import Derived.Test.YtfpkiimlaepnhaaBase
namespace Go.Proofs.Ytfpkiimlaepnhaa
set_option maxRecDepth 100000
open Go.RowKit Im

/-- A function value does its work at each place of a part: what I says of the places that are done holds behind it of one more. -/
structure DoesP (n : Nat) (caps : Array Value) (I : (Nat → Prop) → World → Prop) (W x0 y0 pw ph : Nat) : Prop where
  enters : ∀ args w, (callFunc n args).run Try.prog w = .ok (.enter n args) w
  does : ∀ (x y : Nat) (D : Nat → Prop) (w1 : World), x0 ≤ x → x < x0 + pw → y0 ≤ y → y < y0 + ph → I D w1 → Calls Try.prog n (#[.int .i64 x, .int .i64 y] ++ caps) w1 fun e w2 => e = .returned (.tuple #[]) ∧ I (fun i => D i ∨ (i / W = y ∧ i % W = x)) w2

theorem DoesP.doesI {n : Nat} {caps : Array Value} {I : (Nat → Prop) → World → Prop} {W x0 y0 pw ph : Nat} (h : DoesP n caps I W x0 y0 pw ph) (x y : Nat) (X Y : Int) (hX : X = x) (hY : Y = y) (D : Nat → Prop) (w1 : World) (h1 : x0 ≤ x) (h2 : x < x0 + pw) (h3 : y0 ≤ y) (h4 : y < y0 + ph) (hI : I D w1) :
    Calls Try.prog n (#[.int .i64 X, .int .i64 Y] ++ caps) w1 fun e w2 => e = .returned (.tuple #[]) ∧ I (fun i => D i ∨ (i / W = y ∧ i % W = x)) w2 := by
  subst hX hY; exact h.does x y D w1 h1 h2 h3 h4 hI

set_option maxHeartbeats 1000000 in
theorem eachPlace_any (n : Nat) (caps : Array Value) (I : (Nat → Prop) → World → Prop) (W x0 y0 pw ph : Nat) (D : Nat → Prop) (w : World) (hb : x0 ≤ 16 ∧ y0 ≤ 16 ∧ pw ≤ 16 ∧ ph ≤ 16)
    (mono : ∀ (A B : Nat → Prop) (v : World), (∀ i, B i → A i) → I A v → I B v) (hd : DoesP n caps I W x0 y0 pw ph) (hI : I D w) :
    Calls Try.prog 81 #[.int .i64 x0, .int .i64 y0, .int .i64 pw, .int .i64 ph, .func (.func n) #[] caps] w fun e w' => e = .returned (.tuple #[]) ∧ I (fun i => D i ∨ (y0 ≤ i / W ∧ i / W < y0 + ph ∧ x0 ≤ i % W ∧ i % W < x0 + pw)) w' := by
  have hent := hd.enters
  obtain ⟨hb1, hb2, hb3, hb4⟩ := hb
  go_enter Try.func81, Try.ntmps81
  go_wp2
  go_loopw [13] (fun i wr => ∃ j : Nat, j ≤ ph ∧ i = .int .i64 j ∧ I (fun i => D i ∨ (y0 ≤ i / W ∧ i / W < y0 + j ∧ x0 ≤ i % W ∧ i % W < x0 + pw)) wr) (fun i _ => ph - (intOf i).toNat)
  case atStart => exact ⟨0, Nat.zero_le _, rfl, mono _ _ _ (fun i h => by rcases h with h | h; · exact h
                                                                          · omega) hI⟩
  case round =>
    obtain ⟨j, hj, rfl, hIr⟩ := hrel
    by_cases hlt : j < ph
    · go_wp2
      go_loopw [17] (fun i wr => ∃ c : Nat, c ≤ pw ∧ i = .int .i64 c ∧ I (fun i => (D i ∨ (y0 ≤ i / W ∧ i / W < y0 + j ∧ x0 ≤ i % W ∧ i % W < x0 + pw)) ∨ (i / W = y0 + j ∧ x0 ≤ i % W ∧ i % W < x0 + c)) wr) (fun i _ => pw - (intOf i).toNat)
      case atStart => exact ⟨0, Nat.zero_le _, rfl, mono _ _ _ (fun i h => by rcases h with h | h; · exact h
                                                                              · omega) hIr⟩
      case round =>
        obtain ⟨c, hcc, rfl, hIs⟩ := hrel
        by_cases hlc : c < pw
        · go_wp2_with (refine (hd.doesI (x0 + c) (y0 + j) _ _ (by omega) (by omega) _ _ (by omega) (by omega) (by omega) (by omega) hIs).mono ?_; rintro e w2 ⟨rfl, hI2⟩)
          go_roundw
          case rel => exact ⟨c + 1, by omega, by go_num, mono _ _ _ (fun i h => by
            rcases h with h | h
            · exact .inl (.inl h)
            · by_cases e : i % W = x0 + c
              · exact .inr ⟨h.1, e⟩
              · exact .inl (.inr ⟨h.1, h.2.1, by omega⟩)) hI2⟩
          case measure => simp [intOf]; omega
        · have hce : c = pw := by omega
          subst hce
          go_wp2
          go_roundw
          case rel => exact ⟨j + 1, by omega, by go_num, mono _ _ _ (fun i h => by
            rcases h with h | h
            · exact .inl (.inl h)
            · by_cases e : i / W = y0 + j
              · exact .inr ⟨e, h.2.2⟩
              · exact .inl (.inr ⟨h.1, by omega, h.2.2⟩)) hIs⟩
          case measure => simp [intOf]; omega
    · have hje : j = ph := by omega
      subst hje
      go_wp2
      go_end0
      exact ⟨rfl, hIr⟩

/-- A function value does its work on each tile. -/
structure DoesT (n : Nat) (caps : Array Value) (I : (Nat → Prop) → World → Prop) (W H : Nat) : Prop where
  enters : ∀ args w, (callFunc n args).run Try.prog w = .ok (.enter n args) w
  does : ∀ (x y pw ph : Nat) (D : Nat → Prop) (w1 : World), 1 ≤ pw → x + pw ≤ W → 1 ≤ ph → y + ph ≤ H → I D w1 → Calls Try.prog n (#[.int .i64 x, .int .i64 y, .int .i64 pw, .int .i64 ph] ++ caps) w1 fun e w2 => e = .returned (.tuple #[]) ∧ I (fun i => D i ∨ (y ≤ i / W ∧ i / W < y + ph ∧ x ≤ i % W ∧ i % W < x + pw)) w2
theorem DoesT.doesI {n : Nat} {caps : Array Value} {I : (Nat → Prop) → World → Prop} {W H : Nat} (h : DoesT n caps I W H) (x y pw ph : Nat) (PW PH : Int) (e1 : PW = pw) (e2 : PH = ph) (D : Nat → Prop) (w1 : World) (h1 : 1 ≤ pw) (h2 : x + pw ≤ W) (h3 : 1 ≤ ph) (h4 : y + ph ≤ H) (hI : I D w1) :
    Calls Try.prog n (#[.int .i64 x, .int .i64 y, .int .i64 PW, .int .i64 PH] ++ caps) w1 fun e w2 => e = .returned (.tuple #[]) ∧ I (fun i => D i ∨ (y ≤ i / W ∧ i / W < y + ph ∧ x ≤ i % W ∧ i % W < x + pw)) w2 := by
  subst e1 e2; exact h.does x y pw ph D w1 h1 h2 h3 h4 hI

set_option maxHeartbeats 1000000 in
theorem eachTile_any (n : Nat) (caps : Array Value) (I : (Nat → Prop) → World → Prop) (W H tile : Nat) (w : World) (hW : 1 ≤ W ∧ W ≤ 16) (hH : 1 ≤ H ∧ H ≤ 16) (ht : 1 ≤ tile ∧ tile ≤ 16)
    (mono : ∀ (A B : Nat → Prop) (v : World), (∀ i, B i → A i) → I A v → I B v) (hd : DoesT n caps I W H) (hI : I (fun _ => False) w) :
    Calls Try.prog 79 #[.int .i64 W, .int .i64 H, .int .i64 tile, .func (.func n) #[] caps] w fun e w' => e = .returned (.tuple #[]) ∧ I (fun i => i / W < H) w' := by
  have hent := hd.enters
  obtain ⟨hW1, hW2⟩ := hW
  obtain ⟨hH1, hH2⟩ := hH
  obtain ⟨ht1, ht2⟩ := ht
  have hmod : ∀ i, i % W < W := fun i => Nat.mod_lt _ (by omega)
  go_enter Try.func79, Try.ntmps79
  go_wp2
  go_loopw [8] (fun i wr => ∃ y : Nat, y ≤ H + 16 ∧ i = .int .i64 y ∧ I (fun i => i / W < y ∧ i / W < H) wr) (fun i _ => H + 16 - (intOf i).toNat)
  case atStart => exact ⟨0, by omega, rfl, mono _ _ _ (fun i h => absurd h.1 (Nat.not_lt_zero _)) hI⟩
  case round =>
    obtain ⟨y, hy, rfl, hIr⟩ := hrel
    by_cases hlt : y < H
    · obtain ⟨ph, hph⟩ : ∃ ph, ph = min tile (H - y) := ⟨_, rfl⟩
      have p1 : 1 ≤ ph ∧ y + ph ≤ H ∧ ph ≤ tile := by omega
      have P1 : Hid (y + tile ≤ y + ph ∨ H ≤ y + ph) := by show _ ∨ _; omega
      have hmn : (if (H : Int) - (y : Int) < (tile : Int) then (H : Int) - (y : Int) else (tile : Int)) = (ph : Int) := by rw [hph]; split <;> omega
      clear hph
      go_wp2
      go_loopw [9] (fun i wr => ∃ x : Nat, x ≤ W + 16 ∧ i = .int .i64 x ∧ I (fun i => (i / W < y ∧ i / W < H) ∨ (y ≤ i / W ∧ i / W < y + ph ∧ i % W < x)) wr) (fun i _ => W + 16 - (intOf i).toNat)
      case atStart => exact ⟨0, by omega, rfl, mono _ _ _ (fun i h => by rcases h with h | h; · exact h
                                                                         · exact absurd h.2.2 (Nat.not_lt_zero _)) hIr⟩
      case round =>
        obtain ⟨x, hx, rfl, hIs⟩ := hrel
        by_cases hlx : x < W
        · obtain ⟨pw, hpw⟩ : ∃ pw, pw = min tile (W - x) := ⟨_, rfl⟩
          have p2 : 1 ≤ pw ∧ x + pw ≤ W := by omega
          have P2 : Hid (x + tile ≤ x + pw ∨ W ≤ x + pw) := by show _ ∨ _; omega
          have hmx : (if (W : Int) - (x : Int) < (tile : Int) then (W : Int) - (x : Int) else (tile : Int)) = (pw : Int) := by rw [hpw]; split <;> omega
          clear hpw
          go_wp2_with (refine (hd.doesI x y pw ph _ _ rfl rfl _ _ p2.1 p2.2 p1.1 p1.2.1 hIs).mono ?_; rintro e w2 ⟨rfl, hI2⟩)
          go_roundw
          case rel => exact ⟨x + tile, by omega, by go_num, mono _ _ _ (fun i h => by
            have h2 := P2.out
            have h3 := hmod i
            rcases h with h | h
            · exact .inl (.inl h)
            · by_cases e : i % W < x
              · exact .inl (.inr ⟨h.1, h.2.1, e⟩)
              · exact .inr ⟨h.1, h.2.1, by omega, by omega⟩) hI2⟩
          case measure => simp [intOf]; omega
        · go_wp2
          go_roundw
          case rel => exact ⟨y + tile, by omega, by go_num, mono _ _ _ (fun i h => by
            have h1 := P1.out
            have h3 := hmod i
            by_cases e : i / W < y
            · exact .inl ⟨e, h.2⟩
            · exact .inr ⟨by omega, by omega, by omega⟩) hIs⟩
          case measure => simp [intOf]; omega
    · go_wp2
      go_end0
      exact ⟨rfl, mono _ _ _ (fun i h => ⟨by omega, h⟩) hIr⟩
end Go.Proofs.Ytfpkiimlaepnhaa
