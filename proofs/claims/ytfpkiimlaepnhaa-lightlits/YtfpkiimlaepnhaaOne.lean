/-
  ONE: image.One makes what the document says of one image.
-/
import Derived.Test.YtfpkiimlaepnhaaBlur
import Derived.Test.YtfpkiimlaepnhaaMake
namespace Go.Proofs.Ytfpkiimlaepnhaa
set_option maxRecDepth 100000
open Go.RowKit Im

/-- The error of One, of a right image of W columns and H rows. -/
def oneErr (op : Int) (W H : Nat) (k : Int) : Int :=
  if op = 3 then 0 else if op = 10 then 0 else if op = 8 then okIf (numB k) 3 else if op = 9 then okIf (withinB k (-16) 16) 3
  else if op = 11 then okIf (decide (W % 2 = 0) && decide (H % 2 = 0)) 6 else if op = 12 then okIf (decide (2 * W ≤ 16) && decide (2 * H ≤ 16)) 6 else 4
theorem oneErr_none {op : Int} (W H : Nat) (k : Int) (h3 : ¬ op = 3) (h10 : ¬ op = 10) (h8 : ¬ op = 8) (h9 : ¬ op = 9) (h11 : ¬ op = 11) (h12 : ¬ op = 12) : oneErr op W H k = 4 := by
  simp [oneErr, h3, h10, h8, h9, h11, h12]

theorem unless_any (r : Bool) (E : Int) (w : World) : Calls Try.prog 93 #[.bool r, .int .i64 E] w fun e w' => e = .returned (.int .i64 (okIf r E)) ∧ w = w' := by
  cases r
  all_goals
    go_enter Try.func93, Try.ntmps93
    go_wp2
    go_ret
    exact ⟨rfl, rfl⟩

theorem checkOne_none (op : Int) (W H : Nat) (k : Int) (a : Option Addr) (len cap : Nat) (w : World) (h3 : ¬ op = 3) (h10 : ¬ op = 10) (h8 : ¬ op = 8) (h9 : ¬ op = 9) (h11 : ¬ op = 11) (h12 : ¬ op = 12) :
    Calls Try.prog 63 #[.int .i64 op, .agg #[.int .i64 W, .int .i64 H, .slice a len cap], .int .i64 k] w fun e w' => e = .returned (.int .i64 4) ∧ Below w.heap.size w w' := by
  have g3 : (op == 3) = false := by simpa using h3
  have g10 : (op == 10) = false := by simpa using h10
  have g8 : (op == 8) = false := by simpa using h8
  have g9 : (op == 9) = false := by simpa using h9
  have g11 : (op == 11) = false := by simpa using h11
  have g12 : (op == 12) = false := by simpa using h12
  go_enter Try.func63, Try.ntmps63
  go_wp2
  go_ret
  exact ⟨rfl, (Below.refl _ _).alloc (Nat.le_refl _) _⟩
theorem checkOne_free (op : Int) (W H : Nat) (k : Int) (a : Option Addr) (len cap : Nat) (w : World) (h : op = 3 ∨ op = 10) :
    Calls Try.prog 63 #[.int .i64 op, .agg #[.int .i64 W, .int .i64 H, .slice a len cap], .int .i64 k] w fun e w' => e = .returned (.int .i64 0) ∧ Below w.heap.size w w' := by
  rcases h with rfl | rfl
  all_goals
    go_enter Try.func63, Try.ntmps63
    go_wp2
    go_ret
    exact ⟨rfl, (Below.refl _ _).alloc (Nat.le_refl _) _⟩
theorem checkOne_cut (W H : Nat) (k : Int) (a : Option Addr) (len cap : Nat) (w : World) :
    Calls Try.prog 63 #[.int .i64 8, .agg #[.int .i64 W, .int .i64 H, .slice a len cap], .int .i64 k] w fun e w' => e = .returned (.int .i64 (okIf (numB k) 3)) ∧ Below w.heap.size w w' := by
  go_enter Try.func63, Try.ntmps63
  go_wp2_with (first | (go_at_call 57; refine (isNumber_any _ _).mono ?_; rintro e w' ⟨rfl, rfl⟩) | (go_at_call 93; refine (unless_any _ _ _).mono ?_; rintro e w' ⟨rfl, rfl⟩))
  go_ret
  exact ⟨rfl, (Below.refl _ _).alloc (Nat.le_refl _) _⟩
theorem checkOne_shift (W H : Nat) (k : Int) (a : Option Addr) (len cap : Nat) (w : World) :
    Calls Try.prog 63 #[.int .i64 9, .agg #[.int .i64 W, .int .i64 H, .slice a len cap], .int .i64 k] w fun e w' => e = .returned (.int .i64 (okIf (withinB k (-16) 16) 3)) ∧ Below w.heap.size w w' := by
  by_cases h1 : -16 ≤ k
  · by_cases h2 : k ≤ 16
    · have e : withinB k (-16) 16 = true := by simp [withinB, h1, h2]
      rw [e]; clear e
      go_enter Try.func63, Try.ntmps63
      go_wp2_with (go_at_call 93; refine (unless_any _ _ _).mono ?_; rintro e w' ⟨rfl, rfl⟩)
      go_ret
      exact ⟨rfl, (Below.refl _ _).alloc (Nat.le_refl _) _⟩
    · have e : withinB k (-16) 16 = false := by simp [withinB, h2]
      rw [e]; clear e
      go_enter Try.func63, Try.ntmps63
      go_wp2_with (go_at_call 93; refine (unless_any _ _ _).mono ?_; rintro e w' ⟨rfl, rfl⟩)
      go_ret
      exact ⟨rfl, (Below.refl _ _).alloc (Nat.le_refl _) _⟩
  · have e : withinB k (-16) 16 = false := by simp [withinB, h1]
    rw [e]; clear e
    go_enter Try.func63, Try.ntmps63
    go_wp2_with (go_at_call 93; refine (unless_any _ _ _).mono ?_; rintro e w' ⟨rfl, rfl⟩)
    go_ret
    exact ⟨rfl, (Below.refl _ _).alloc (Nat.le_refl _) _⟩
theorem checkOne_down (W H : Nat) (k : Int) (a : Option Addr) (len cap : Nat) (w : World) (hW : W ≤ 16) (hH : H ≤ 16) :
    Calls Try.prog 63 #[.int .i64 11, .agg #[.int .i64 W, .int .i64 H, .slice a len cap], .int .i64 k] w fun e w' => e = .returned (.int .i64 (okIf (decide (W % 2 = 0) && decide (H % 2 = 0)) 6)) ∧ Below w.heap.size w w' := by
  by_cases h1 : W % 2 = 0
  · have g1 : ((W : Int) % 2 == 0) = true := by simp; omega
    by_cases h2 : H % 2 = 0
    · have g2 : ((H : Int) % 2 == 0) = true := by simp; omega
      have e : (decide (W % 2 = 0) && decide (H % 2 = 0)) = true := by simp [h1, h2]
      rw [e]; clear e
      go_enter Try.func63, Try.ntmps63
      go_wp2_with (go_at_call 93; refine (unless_any _ _ _).mono ?_; rintro e w' ⟨rfl, rfl⟩)
      go_ret
      exact ⟨rfl, (Below.refl _ _).alloc (Nat.le_refl _) _⟩
    · have g2 : ((H : Int) % 2 == 0) = false := by simp; omega
      have e : (decide (W % 2 = 0) && decide (H % 2 = 0)) = false := by simp [h2]
      rw [e]; clear e
      go_enter Try.func63, Try.ntmps63
      go_wp2_with (go_at_call 93; refine (unless_any _ _ _).mono ?_; rintro e w' ⟨rfl, rfl⟩)
      go_ret
      exact ⟨rfl, (Below.refl _ _).alloc (Nat.le_refl _) _⟩
  · have g1 : ((W : Int) % 2 == 0) = false := by simp; omega
    have e : (decide (W % 2 = 0) && decide (H % 2 = 0)) = false := by simp [h1]
    rw [e]; clear e
    go_enter Try.func63, Try.ntmps63
    go_wp2_with (go_at_call 93; refine (unless_any _ _ _).mono ?_; rintro e w' ⟨rfl, rfl⟩)
    go_ret
    exact ⟨rfl, (Below.refl _ _).alloc (Nat.le_refl _) _⟩
theorem side_two (n : Nat) (h : 1 ≤ n) : sideB (2 * (n : Int)) = decide (2 * n ≤ 16) := by
  rw [Bool.eq_iff_iff]; simp [sideB]; omega
theorem checkOne_up (W H : Nat) (k : Int) (a : Option Addr) (len cap : Nat) (w : World) (hW : 1 ≤ W ∧ W ≤ 16) (hH : 1 ≤ H ∧ H ≤ 16) :
    Calls Try.prog 63 #[.int .i64 12, .agg #[.int .i64 W, .int .i64 H, .slice a len cap], .int .i64 k] w fun e w' => e = .returned (.int .i64 (okIf (decide (2 * W ≤ 16) && decide (2 * H ≤ 16)) 6)) ∧ Below w.heap.size w w' := by
  rw [← side_two W hW.1, ← side_two H hH.1]
  by_cases h1 : sideB (2 * (W : Int)) = true
  · rw [h1, Bool.true_and]
    go_enter Try.func63, Try.ntmps63
    go_wp2_with (first | (go_at_call 56; refine (isSide_any _ _).mono ?_; rintro e w' ⟨rfl, rfl⟩) | (go_at_call 93; refine (unless_any _ _ _).mono ?_; rintro e w' ⟨rfl, rfl⟩))
    go_ret
    exact ⟨rfl, (Below.refl _ _).alloc (Nat.le_refl _) _⟩
  · have h1' : sideB (2 * (W : Int)) = false := by simpa using h1
    rw [h1', Bool.false_and]
    go_enter Try.func63, Try.ntmps63
    go_wp2_with (first | (go_at_call 56; refine (isSide_any _ _).mono ?_; rintro e w' ⟨rfl, rfl⟩) | (go_at_call 93; refine (unless_any _ _ _).mono ?_; rintro e w' ⟨rfl, rfl⟩))
    go_ret
    exact ⟨rfl, (Below.refl _ _).alloc (Nat.le_refl _) _⟩
/-- The operations of One. -/
theorem ones_cases (op : Int) : (op = 3 ∨ op = 10) ∨ op = 8 ∨ op = 9 ∨ op = 11 ∨ op = 12 ∨ (¬ op = 3 ∧ ¬ op = 10 ∧ ¬ op = 8 ∧ ¬ op = 9 ∧ ¬ op = 11 ∧ ¬ op = 12) := by omega
theorem checkOne_any (op : Int) (W H : Nat) (k : Int) (a : Option Addr) (len cap : Nat) (w : World) (hW : 1 ≤ W ∧ W ≤ 16) (hH : 1 ≤ H ∧ H ≤ 16) :
    Calls Try.prog 63 #[.int .i64 op, .agg #[.int .i64 W, .int .i64 H, .slice a len cap], .int .i64 k] w fun e w' => e = .returned (.int .i64 (oneErr op W H k)) ∧ Below w.heap.size w w' := by
  rcases ones_cases op with h | rfl | rfl | rfl | rfl | ⟨h3, h10, h8, h9, h11, h12⟩
  · have e : oneErr op W H k = 0 := by rcases h with rfl | rfl <;> rfl
    rw [e]; exact checkOne_free op W H k a len cap w h
  · exact checkOne_cut W H k a len cap w
  · exact checkOne_shift W H k a len cap w
  · exact checkOne_down W H k a len cap w hW.2 hH.2
  · exact checkOne_up W H k a len cap w hW hH
  · rw [oneErr_none W H k h3 h10 h8 h9 h11 h12]; exact checkOne_none op W H k a len cap w h3 h10 h8 h9 h11 h12
end Go.Proofs.Ytfpkiimlaepnhaa
