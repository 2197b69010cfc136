/-
  NEAR: light.Near.
-/
import Derived.Test.YtfpkiimlaepnhaaAt
import Derived.Test.YtfpkiimlaepnhaaDraw
namespace Go.Proofs.Ytfpkiimlaepnhaa
set_option maxRecDepth 100000
open Go.RowKit Im

/-- Is the light near the part? -/
def nearB (x y pw ph : Int) (l : Lt) : Bool := decide (awayP l.X x pw + awayP l.Y y ph < l.R)
/-- The numbers, below k, of the lights for which f holds. -/
def pickL (f : Lt → Bool) (ls : List Lt) (k : Nat) : List Int := ((List.range k).filter fun i => f (ls.getD i Lt.zero)).map (fun i : Nat => (i : Int))
theorem pickL_yes (f : Lt → Bool) (ls : List Lt) (k : Nat) (h : f (ls.getD k Lt.zero) = true) : pickL f ls (k + 1) = pickL f ls k ++ [(k : Int)] := by
  unfold pickL; rw [List.range_succ, List.filter_append, List.filter_cons, if_pos h]; simp
theorem pickL_no (f : Lt → Bool) (ls : List Lt) (k : Nat) (h : f (ls.getD k Lt.zero) = false) : pickL f ls (k + 1) = pickL f ls k := by
  unfold pickL; rw [List.range_succ, List.filter_append, List.filter_cons, if_neg (by rw [h]; simp)]; simp
theorem pickL_len (f : Lt → Bool) (ls : List Lt) (k : Nat) : (pickL f ls k).length ≤ k := by
  unfold pickL; rw [List.length_map]; exact Nat.le_trans (List.length_filter_le _ _) (by simp)

/-- The call's end tells a list of numbers and an error's number. -/
def ToldL (w : World) (ps : List Int) (E : Int) (e : Ending) (w' : World) : Prop :=
  ∃ a cap, e = .returned (.tuple #[.slice a ps.length cap, .int .i64 E]) ∧ Ints w.heap.size w' a ps.length ps ∧ Below w.heap.size w w'
theorem near_error {a : Option Addr} {len : Nat} (cap : Nat) {ls : List Lt} (x y pw ph : Int) {w : World} (h : Lights w a len ls) (hE : ¬ lightsErr ls = 0) :
    Calls Try.prog 30 #[.slice a len cap, .int .i64 x, .int .i64 y, .int .i64 pw, .int .i64 ph] w fun e w' => e = .returned (.tuple #[.slice none 0 0, .int .i64 (lightsErr ls)]) ∧ Below w.heap.size w w' := by
  have hc := checkL_any cap h
  generalize lightsErr ls = E at hc hE
  have hne : (E != 0) = true := by simpa using hE
  clear hE
  go_enter Try.func30, Try.ntmps30
  go_wp2_with (go_at_call 35; refine hc.mono ?_; rintro e wA ⟨rfl, bA⟩)
  go_ret2
  exact ⟨rfl, bA⟩
theorem near_range {a : Option Addr} {len : Nat} (cap : Nat) {ls : List Lt} (x y pw ph : Int) {w : World} (h : Lights w a len ls) (hE : lightsErr ls = 0) (hp : (stretchB x pw && stretchB y ph) = false) :
    Calls Try.prog 30 #[.slice a len cap, .int .i64 x, .int .i64 y, .int .i64 pw, .int .i64 ph] w fun e w' => e = .returned (.tuple #[.slice none 0 0, .int .i64 3]) ∧ Below w.heap.size w w' := by
  have hc := checkL_any cap h
  rw [hE] at hc
  clear hE
  by_cases h1 : stretchB x pw = true
  · have h2 : stretchB y ph = false := by rw [h1] at hp; simpa using hp
    clear hp
    go_enter Try.func30, Try.ntmps30
    go_wp2_with (first | (go_at_call 35; refine hc.mono ?_; rintro e wA ⟨rfl, bA⟩) | (go_at_call 74; refine (isStretch_any _ _ _).mono ?_; rintro e w' ⟨rfl, rfl⟩))
    go_ret2
    exact ⟨rfl, bA⟩
  · have h1' := eq_false_of_ne_true h1
    clear hp
    go_enter Try.func30, Try.ntmps30
    go_wp2_with (first | (go_at_call 35; refine hc.mono ?_; rintro e wA ⟨rfl, bA⟩) | (go_at_call 74; refine (isStretch_any _ _ _).mono ?_; rintro e w' ⟨rfl, rfl⟩))
    go_ret2
    exact ⟨rfl, bA⟩
theorem stretch_iff (f n : Int) : stretchB f n = true ↔ (0 ≤ f ∧ f < 16) ∧ 1 ≤ n ∧ n ≤ 16 - f := by simp [stretchB, place_iff, and_assoc]
set_option maxHeartbeats 1000000 in
theorem near_ok {a : Option Addr} {len : Nat} (cap : Nat) {ls : List Lt} (x y pw ph : Int) {w : World} (h : Lights w a len ls) (h8 : ls.length ≤ 8) (hr : ls.all rightB = true) (hx : stretchB x pw = true) (hy : stretchB y ph = true) :
    Calls Try.prog 30 #[.slice a len cap, .int .i64 x, .int .i64 y, .int .i64 pw, .int .i64 ph] w (ToldL w (pickL (nearB x y pw ph) ls len) 0) := by
  obtain ⟨i0, hi, hz0, hz1, hz2⟩ := info_parts Try.info3
  have hc := checkL_any cap h
  rw [show lightsErr ls = 0 by simp [lightsErr, h8, hr, okIf]] at hc
  have bx := (stretch_iff x pw).1 hx
  have by' := (stretch_iff y ph).1 hy
  have hl := h.leng
  rcases h.cells with e | ⟨b, off, rfl, hb, hcl⟩
  · subst e
    have : len = 0 := by simpa using hl.symm
    subst this
    go_enter Try.func30, Try.ntmps30
    go_wp2_with (first | (go_at_call 35; refine hc.mono ?_; rintro e wA ⟨rfl, bA⟩) | (go_at_call 74; refine (isStretch_any _ _ _).mono ?_; rintro e w' ⟨rfl, rfl⟩))
    go_loop [13, 33] (fun s i => s = .slice none 0 0 ∧ i = .int .i64 0) (fun _ _ => 0)
    case atStart => exact ⟨rfl, rfl⟩
    case round =>
      obtain ⟨rfl, rfl⟩ := hrel
      go_wp2
      go_ret2
      exact ⟨none, 0, rfl, Ints.nil _ _, bA⟩
  · go_enter Try.func30, Try.ntmps30
    go_wp2_with (first | (go_at_call 35; refine hc.mono ?_; rintro e wA ⟨rfl, bA⟩) | (go_at_call 74; refine (isStretch_any _ _ _).mono ?_; rintro e w' ⟨rfl, rfl⟩))
    go_loopw [13, 33] (fun s i wr => ∃ k : Nat, k ≤ len ∧ i = .int .i64 k ∧ Owns w.heap.size wr s (pickL (nearB x y pw ph) ls k) ∧ Below w.heap.size w wr) (fun _ i _ => len - (intOf i).toNat)
    case atStart => exact ⟨0, Nat.zero_le _, rfl, World.ownsRow_nil _ _ _ _, bA⟩
    case round =>
      obtain ⟨k, hk, rfl, hown, hbr⟩ := hrel
      have hlen := pickL_len (nearB x y pw ph) ls k
      by_cases hlt : k < len
      · obtain ⟨c0, c1, c2, c3⟩ := hcl k hlt
        replace c0 := (hbr.cell (p := ⟨b, off + k * 4, none⟩) hb).trans c0
        replace c1 := (hbr.cell (p := ⟨b, off + k * 4 + 1, none⟩) hb).trans c1
        replace c2 := (hbr.cell (p := ⟨b, off + k * 4 + 2, none⟩) hb).trans c2
        replace c3 := (hbr.cell (p := ⟨b, off + k * 4 + 3, none⟩) hb).trans c3
        obtain ⟨hX, hY, hR, _⟩ := (right_iff _).1 (all_getD ls k (by omega) hr)
        have y1 := pickL_yes (nearB x y pw ph) ls k
        have y2 := pickL_no (nearB x y pw ph) ls k
        have d1 := fun wx => away_any (ls.getD k Lt.zero).X x pw wx hX bx.1 (by omega)
        have d2 := fun wx => away_any (ls.getD k Lt.zero).Y y ph wx hY by'.1 (by omega)
        have e1 := away_bd (ls.getD k Lt.zero).X x pw hX bx.1 (by omega)
        have e2 := away_bd (ls.getD k Lt.zero).Y y ph hY by'.1 (by omega)
        have hnb : nearB x y pw ph (ls.getD k Lt.zero) = decide (awayP (ls.getD k Lt.zero).X x pw + awayP (ls.getD k Lt.zero).Y y ph < (ls.getD k Lt.zero).R) := rfl
        rw [hnb] at y1 y2
        clear hnb
        generalize awayP (ls.getD k Lt.zero).X x pw = f1 at d1 e1 y1 y2
        generalize awayP (ls.getD k Lt.zero).Y y ph = f2 at d2 e2 y1 y2
        generalize ls.getD k Lt.zero = l at c0 c1 c2 c3 d1 d2 hX hY hR y1 y2
        obtain ⟨X, Y, R, P⟩ := l
        dsimp only at c0 c1 c2 c3 d1 d2 hX hY hR y1 y2
        clear hcl hc
        have hsz := hbr.size
        by_cases hd : f1 + f2 < R
        · have HS : Hid (pickL (nearB x y pw ph) ls (k + 1) = pickL (nearB x y pw ph) ls k ++ [(k : Int)]) := y1 (by simpa using hd)
          clear y1 y2
          go_wp2
          go_quiet ((first | (go_at_call 75; with_reducible exact Calls.quiet_of_same (d1 _)) | (go_at_call 75; with_reducible exact Calls.quiet_of_same (d2 _))))
          have hown2 := hown.below (below_drewN ((Below.refl _ _).alloc (Nat.le_refl _) (.cells #[.int .i64 X, .int .i64 Y, .int .i64 R, .int .i64 P] 59)) nq) (Nat.le_refl _)
          have hb2 := below_drewN (hbr.alloc hbr.size (.cells #[.int .i64 X, .int .i64 Y, .int .i64 R, .int .i64 P] 59)) nq
          have hs2 := hb2.size
          generalize (wr.alloc (.cells #[.int .i64 X, .int .i64 Y, .int .i64 R, .int .i64 P] 59)).drewN nq = wq at hown2 hb2 hs2 ⊢
          go_wp2_with (at_builtin; refine wpList_append_own _ rfl _ _ 22 rfl w.heap.size 3 i0 (.int .i64 0) 1 8 Try.underlying22 hi hz0 hz1 hz2 rfl (by decide) _ _ _ rfl (World.ownsRow.alloc hown2 _) ⟨_, 0, none⟩ 1 1 [.int .i64 k] rfl rfl (cell_one_new _ _ _) (by intro u hu; simp at hu; subst hu; rfl) (by unfold maxLen; omega) (by omega) (by simp; omega) ?_; intro v' w9 hown9 hgrow9 _)
          have R := Owns.push hown2 hb2 hs2 hown9 rfl hgrow9
          go_roundw
          case rel => exact ⟨k + 1, by omega, by go_num, by rw [HS.out]; exact R.1, R.2⟩
          case measure => simp [intOf]; omega
        · have HS : Hid (pickL (nearB x y pw ph) ls (k + 1) = pickL (nearB x y pw ph) ls k) := y2 (by simpa using hd)
          clear y1 y2
          go_wp2
          go_quiet ((first | (go_at_call 75; with_reducible exact Calls.quiet_of_same (d1 _)) | (go_at_call 75; with_reducible exact Calls.quiet_of_same (d2 _))))
          have hown2 := hown.below (below_drewN ((Below.refl _ _).alloc (Nat.le_refl _) (.cells #[.int .i64 X, .int .i64 Y, .int .i64 R, .int .i64 P] 59)) nq) (Nat.le_refl _)
          have hb2 := below_drewN (hbr.alloc hbr.size (.cells #[.int .i64 X, .int .i64 Y, .int .i64 R, .int .i64 P] 59)) nq
          go_wp2
          go_roundw
          case rel => exact ⟨k + 1, by omega, by go_num, by rw [HS.out]; exact hown2, hb2⟩
          case measure => simp [intOf]; omega
      · have e : k = len := by omega
        subst e
        obtain ⟨a', cap', rfl, hints⟩ := hown.ints (by omega)
        go_wp2
        go_ret2
        exact ⟨a', cap', rfl, hints, hbr⟩
end Go.Proofs.Ytfpkiimlaepnhaa
