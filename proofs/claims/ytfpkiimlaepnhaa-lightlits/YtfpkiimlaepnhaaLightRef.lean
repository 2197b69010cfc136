/-
  LIGHTREF: the reference's CheckLights, far and LightAt.
-/
import Derived.Test.YtfpkiimlaepnhaaNear
namespace Go.Proofs.Ytfpkiimlaepnhaa
set_option maxRecDepth 100000
open Go.RowKit Im

theorem rightW (l : Lt) : rightB l = (withinB l.X 0 15 && withinB l.Y 0 15 && withinB l.R 1 32 && withinB l.P 0 65535) := by
  rw [Bool.eq_iff_iff, right_iff]; simp [withinB]; omega
theorem checkR_many (a : Option Addr) (len cap : Nat) (w : World) (h : 8 < len) (_hb : len ≤ 9223372036854775807) : Calls Try.prog 31 #[.slice a len cap] w fun e w' => e = .returned (.int .i64 2) ∧ Below w.heap.size w w' := by
  have h' : (8 : Int) < (len : Int) := by omega
  go_enter Try.func31, Try.ntmps31
  go_wp2
  go_ret
  exact ⟨rfl, Below.refl _ _⟩
theorem checkR_nil (a : Option Addr) (cap : Nat) (w : World) : Calls Try.prog 31 #[.slice a 0 cap] w fun e w' => e = .returned (.int .i64 0) ∧ Below w.heap.size w w' := by
  go_enter Try.func31, Try.ntmps31
  go_wp2
  go_loop [3] (fun i => i = .int .i64 0) (fun _ => 0)
  case atStart => rfl
  case round =>
    subst hrel
    go_wp2
    go_ret
    exact ⟨rfl, Below.refl _ _⟩
set_option maxHeartbeats 1000000 in
theorem checkR_row (b off len cap : Nat) (ls : List Lt) (w : World) (hl : ls.length = len) (h8 : len ≤ 8) (hc : ∀ j, j < len → w.cell? ⟨b, off + j * 4, none⟩ = some (.int .i64 (ls.getD j Lt.zero).X) ∧ w.cell? ⟨b, off + j * 4 + 1, none⟩ = some (.int .i64 (ls.getD j Lt.zero).Y) ∧ w.cell? ⟨b, off + j * 4 + 2, none⟩ = some (.int .i64 (ls.getD j Lt.zero).R) ∧ w.cell? ⟨b, off + j * 4 + 3, none⟩ = some (.int .i64 (ls.getD j Lt.zero).P)) :
    Calls Try.prog 31 #[.slice (some ⟨b, off, none⟩) len cap] w fun e w' => e = .returned (.int .i64 (okIf (ls.all rightB) 3)) ∧ Below w.heap.size w w' := by
  have h8' : ¬ (8 : Int) < (len : Int) := by omega
  go_enter Try.func31, Try.ntmps31
  go_wp2
  go_loop [3] (fun i => ∃ k : Nat, k ≤ len ∧ i = .int .i64 k ∧ (ls.take k).all rightB = true) (fun i => len - (intOf i).toNat)
  case atStart => exact ⟨0, Nat.zero_le _, rfl, rfl⟩
  case round =>
    obtain ⟨k, hk, rfl, hall⟩ := hrel
    by_cases hlt : k < len
    · obtain ⟨c0, c1, c2, c3⟩ := hc k hlt
      have n1 := rall_succ ls k (by omega) hall
      have n2 := rall_not ls k (by omega)
      rw [rightW] at n1 n2
      generalize ls.getD k Lt.zero = l at c0 c1 c2 c3 n1 n2
      obtain ⟨X, Y, R, P⟩ := l
      dsimp only at c0 c1 c2 c3 n1 n2
      clear hc
      by_cases h1 : withinB X 0 15 = true
      · by_cases h2 : withinB Y 0 15 = true
        · by_cases h3 : withinB R 1 32 = true
          · by_cases h4 : withinB P 0 65535 = true
            · have hx := n1 (by rw [h1, h2, h3, h4]; rfl)
              clear n1 n2
              go_wp2_with (go_at_call 61; refine (within_any _ _ _ _).mono ?_; rintro e w' ⟨rfl, rfl⟩)
              go_round
              case rel => exact ⟨k + 1, by omega, by go_num, hx⟩
              case measure => simp [intOf]; omega
            · have h4' := eq_false_of_ne_true h4
              have hx := n2 (by rw [h1, h2, h3, h4']; rfl)
              clear n1 n2
              go_wp2_with (go_at_call 61; refine (within_any _ _ _ _).mono ?_; rintro e w' ⟨rfl, rfl⟩)
              go_ret
              exact ⟨by first | rfl | (rw [hx]; rfl), Below.refl _ _⟩
          · have h3' := eq_false_of_ne_true h3
            have hx := n2 (by rw [h1, h2, h3']; rfl)
            clear n1 n2
            go_wp2_with (go_at_call 61; refine (within_any _ _ _ _).mono ?_; rintro e w' ⟨rfl, rfl⟩)
            go_ret
            exact ⟨by first | rfl | (rw [hx]; rfl), Below.refl _ _⟩
        · have h2' := eq_false_of_ne_true h2
          have hx := n2 (by rw [h1, h2']; rfl)
          clear n1 n2
          go_wp2_with (go_at_call 61; refine (within_any _ _ _ _).mono ?_; rintro e w' ⟨rfl, rfl⟩)
          go_ret
          exact ⟨by first | rfl | (rw [hx]; rfl), Below.refl _ _⟩
      · have h1' := eq_false_of_ne_true h1
        have hx := n2 (by rw [h1']; rfl)
        clear n1 n2
        go_wp2_with (go_at_call 61; refine (within_any _ _ _ _).mono ?_; rintro e w' ⟨rfl, rfl⟩)
        go_ret
        exact ⟨by first | rfl | (rw [hx]; rfl), Below.refl _ _⟩
    · have hx : ls.all rightB = true := by rw [List.take_of_length_le (by omega)] at hall; exact hall
      go_wp2
      go_ret
      exact ⟨by first | rfl | (rw [hx]; rfl), Below.refl _ _⟩
/-- The reference's CheckLights. -/
theorem checkR_any {a : Option Addr} {len : Nat} (cap : Nat) {ls : List Lt} {w : World} (h : Lights w a len ls) : Calls Try.prog 31 #[.slice a len cap] w fun e w' => e = .returned (.int .i64 (lightsErr ls)) ∧ Below w.heap.size w w' := by
  have hl := h.leng
  by_cases h8 : ls.length ≤ 8
  · have e : lightsErr ls = okIf (ls.all rightB) 3 := by simp [lightsErr, h8]
    rw [e]
    rcases h.cells with e | ⟨b, off, rfl, hb, hc⟩
    · subst e
      have : len = 0 := by simpa using hl.symm
      subst this
      exact checkR_nil a cap w
    · exact checkR_row b off len cap ls w hl (by omega) hc
  · have e : lightsErr ls = 2 := by simp [lightsErr, h8]
    rw [e]
    exact checkR_many a len cap w (by omega) h.big

theorem abs_any (n m : Int) (w : World) (hn : -100 ≤ n ∧ n ≤ 100) (hm : max n (-n) = m) : Calls Try.prog 105 #[.int .i64 n] w fun e w' => e = .returned (.int .i64 m) ∧ w' = w := by
  have h : (if n < -n then -n else n) = m := by rw [← hm]; split <;> omega
  clear hm
  go_enter Try.func105, Try.ntmps105
  go_wp2
  go_ret
  exact ⟨rfl, rfl⟩
/-- The reference's far: the distance. -/
theorem far_any (l : Lt) (x y : Int) (w : World) (hl : rightB l = true) (hx : 0 ≤ x ∧ x < 16) (hy : 0 ≤ y ∧ y < 16) :
    Calls Try.prog 76 #[.agg #[.int .i64 l.X, .int .i64 l.Y, .int .i64 l.R, .int .i64 l.P], .int .i64 x, .int .i64 y] w fun e w' => e = .returned (.int .i64 (awayP l.X x 1 + awayP l.Y y 1)) ∧ Below w.heap.size w w' := by
  obtain ⟨hX, hY, hR, hP⟩ := (right_iff l).1 hl
  have c1 := fun wx => abs_any (l.X - x) (awayP l.X x 1) wx (by omega) (by unfold awayP; omega)
  have c2 := fun wx => abs_any (l.Y - y) (awayP l.Y y 1) wx (by omega) (by unfold awayP; omega)
  have a1 := away_bd l.X x 1 hX hx (by omega)
  have a2 := away_bd l.Y y 1 hY hy (by omega)
  generalize awayP l.X x 1 = d1 at *
  generalize awayP l.Y y 1 = d2 at *
  obtain ⟨X, Y, R, P⟩ := l
  dsimp only at *
  clear hl
  go_enter Try.func76, Try.ntmps76
  go_wp2
  go_quiet ((first | (go_at_call 105; with_reducible exact Calls.quiet_of_same (c1 _)) | (go_at_call 105; with_reducible exact Calls.quiet_of_same (c2 _))))
  clear c1 c2
  go_wp2
  go_ret
  exact ⟨rfl, below_drewN ((Below.refl _ _).alloc (Nat.le_refl _) _) _⟩
set_option maxHeartbeats 1000000 in
/-- The reference's LightAt, of right lights and a place. -/
theorem lightAt_any {a : Option Addr} {len : Nat} (cap : Nat) {ls : List Lt} (x y : Int) {w : World} (h : Lights w a len ls) (h8 : ls.length ≤ 8) (hr : ls.all rightB = true) (hx : 0 ≤ x ∧ x < 16) (hy : 0 ≤ y ∧ y < 16) :
    Calls Try.prog 32 #[.slice a len cap, .int .i64 x, .int .i64 y] w fun e w' => e = .returned (.int .i64 (sumG x y ls)) ∧ Below w.heap.size w w' := by
  have hl := h.leng
  rcases h.cells with e | ⟨b, off, rfl, hb, hcl⟩
  · subst e
    have : len = 0 := by simpa using hl.symm
    subst this
    go_enter Try.func32, Try.ntmps32
    go_wp2
    go_loop [7, 8] (fun s i => s = .int .i64 0 ∧ i = .int .i64 0) (fun _ _ => 0)
    case atStart => exact ⟨rfl, rfl⟩
    case round =>
      obtain ⟨rfl, rfl⟩ := hrel
      go_wp2
      go_ret
      exact ⟨rfl, Below.refl _ _⟩
  · go_enter Try.func32, Try.ntmps32
    go_wp2
    go_loopw [7, 8] (fun s i wr => ∃ k : Nat, k ≤ len ∧ i = .int .i64 k ∧ s = .int .i64 (sumG x y (ls.take k)) ∧ Below w.heap.size w wr) (fun _ i _ => len - (intOf i).toNat)
    case atStart => exact ⟨0, Nat.zero_le _, rfl, rfl, Below.refl _ _⟩
    case round =>
      obtain ⟨k, hk, rfl, rfl, hbr⟩ := hrel
      have sb := sumG_bd x y hx hy (ls.take k) (all_take ls k hr)
      have sl : (ls.take k).length ≤ 8 := by rw [List.length_take]; omega
      have sb2 : sumG x y (ls.take k) ≤ 65535 * 8 := by omega
      obtain ⟨sb1, _⟩ := sb
      by_cases hlt : k < len
      · have hcw := fun (w2 : World) (hb2 : Below w.heap.size w w2) => (show w2.cell? ⟨b, off + k * 4, none⟩ = some (.int .i64 (ls.getD k Lt.zero).X) ∧ w2.cell? ⟨b, off + k * 4 + 1, none⟩ = some (.int .i64 (ls.getD k Lt.zero).Y) ∧ w2.cell? ⟨b, off + k * 4 + 2, none⟩ = some (.int .i64 (ls.getD k Lt.zero).R) ∧ w2.cell? ⟨b, off + k * 4 + 3, none⟩ = some (.int .i64 (ls.getD k Lt.zero).P) from ⟨(hb2.cell (p := ⟨b, off + k * 4, none⟩) hb).trans (hcl k hlt).1, (hb2.cell (p := ⟨b, off + k * 4 + 1, none⟩) hb).trans (hcl k hlt).2.1, (hb2.cell (p := ⟨b, off + k * 4 + 2, none⟩) hb).trans (hcl k hlt).2.2.1, (hb2.cell (p := ⟨b, off + k * 4 + 3, none⟩) hb).trans (hcl k hlt).2.2.2⟩)
        have hrk := all_getD ls k (by omega) hr
        have hgv := fun wx => far_any (ls.getD k Lt.zero) x y wx hrk hx hy
        have hgb := given_bd hrk x y hx hy
        have g1 := given_pos (l := ls.getD k Lt.zero) (x := x) (y := y) rfl
        have g2 := given_zero (l := ls.getD k Lt.zero) (x := x) (y := y) rfl
        have hsn : Hid (sumG x y (ls.take (k + 1)) = sumG x y (ls.take k) + givenP (ls.getD k Lt.zero) x y) := by show _ = _; rw [take_snocL ls k (by omega), sumG_snoc]
        obtain ⟨hX, hY, hR, hP⟩ := (right_iff _).1 hrk
        have a1 := away_bd (ls.getD k Lt.zero).X x 1 hX hx (by omega)
        have a2 := away_bd (ls.getD k Lt.zero).Y y 1 hY hy (by omega)
        have ad : 0 ≤ awayP (ls.getD k Lt.zero).X x 1 + awayP (ls.getD k Lt.zero).Y y 1 ∧ awayP (ls.getD k Lt.zero).X x 1 + awayP (ls.getD k Lt.zero).Y y 1 ≤ 30 := by omega
        clear hrk a1 a2
        generalize awayP (ls.getD k Lt.zero).X x 1 + awayP (ls.getD k Lt.zero).Y y 1 = d at hgv g1 g2 ad
        generalize givenP (ls.getD k Lt.zero) x y = gv at hgb hsn g1 g2
        generalize ls.getD k Lt.zero = l at hcw hgv g1 g2 hX hY hR hP
        obtain ⟨X, Y, R, P⟩ := l
        dsimp only at hcw hgv g1 g2 hX hY hR hP
        obtain ⟨c0, c1, c2, c3⟩ := hcw wr hbr
        clear hcl
        by_cases hd : d < R
        · have hg := g1 hd
          have m1 : 0 ≤ P * (R - d) := Int.mul_nonneg hP.1 (by omega)
          have m2 : P * (R - d) ≤ 65535 * 32 := Int.mul_le_mul hP.2 (by omega) (by omega) (by omega)
          have hg' : P * (R - d) / R = gv := hg.symm
          clear g1 g2 hg
          go_wp2_with (go_at_call 76; refine (hgv _).mono ?_; rintro e w2 ⟨rfl, hb2⟩; have hbn := below_stepL hbr hb2; obtain ⟨z0, z1, z2, z3⟩ := hcw w2 hbn)
          go_quiet (fail)
          go_wp2
          go_roundw
          case rel => exact ⟨k + 1, by omega, by go_num, by rw [hsn.out], below_drewN hbn _⟩
          case measure => simp [intOf]; omega
        · have hg := g2 hd
          subst hg
          clear g1 g2
          go_wp2_with (go_at_call 76; refine (hgv _).mono ?_; rintro e w2 ⟨rfl, hb2⟩; have hbn := below_stepL hbr hb2; obtain ⟨z0, z1, z2, z3⟩ := hcw w2 hbn)
          go_roundw
          case rel => exact ⟨k + 1, by omega, by go_num, by rw [hsn.out, Int.add_zero], hbn⟩
          case measure => simp [intOf]; omega
      · have e : ls.take k = ls := List.take_of_length_le (by omega)
        go_wp2
        go_ret
        exact ⟨by first | rfl | (rw [e]; rfl), hbr⟩
end Go.Proofs.Ytfpkiimlaepnhaa
