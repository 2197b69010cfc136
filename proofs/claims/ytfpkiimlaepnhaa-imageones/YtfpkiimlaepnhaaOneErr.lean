/-
  ONEERR: the reference's OneError; OneOf whole.
-/
import Derived.Test.YtfpkiimlaepnhaaOneOfA
import Derived.Test.YtfpkiimlaepnhaaOneOfB
import Derived.Test.YtfpkiimlaepnhaaOneOfC
namespace Go.Proofs.Ytfpkiimlaepnhaa
set_option maxRecDepth 100000
open Go.RowKit Im

theorem oneError_none (op : Int) (W H : Nat) (k : Int) (a : Option Addr) (len cap : Nat) (w : World) (h3 : ¬ op = 3) (h10 : ¬ op = 10) (h8 : ¬ op = 8) (h9 : ¬ op = 9) (h11 : ¬ op = 11) (h12 : ¬ op = 12) :
    Calls Try.prog 23 #[.int .i64 op, .agg #[.int .i64 W, .int .i64 H, .slice a len cap], .int .i64 k] w fun e w' => e = .returned (.int .i64 4) ∧ Below w.heap.size w w' := by
  have g3 : (op == 3) = false := by simpa using h3
  have g10 : (op == 10) = false := by simpa using h10
  have g8 : (op == 8) = false := by simpa using h8
  have g9 : (op == 9) = false := by simpa using h9
  have g11 : (op == 11) = false := by simpa using h11
  have g12 : (op == 12) = false := by simpa using h12
  go_enter Try.func23, Try.ntmps23
  go_wp2_with (go_at_call 61; refine (within_any _ _ _ _).mono ?_; rintro e w' ⟨rfl, rfl⟩)
  go_ret
  exact ⟨rfl, (Below.refl _ _).alloc (Nat.le_refl _) _⟩
theorem oneError_free (op : Int) (W H : Nat) (k : Int) (a : Option Addr) (len cap : Nat) (w : World) (h : op = 3 ∨ op = 10) :
    Calls Try.prog 23 #[.int .i64 op, .agg #[.int .i64 W, .int .i64 H, .slice a len cap], .int .i64 k] w fun e w' => e = .returned (.int .i64 0) ∧ Below w.heap.size w w' := by
  rcases h with rfl | rfl
  all_goals
    go_enter Try.func23, Try.ntmps23
    go_wp2_with (go_at_call 61; refine (within_any _ _ _ _).mono ?_; rintro e w' ⟨rfl, rfl⟩)
    go_ret
    exact ⟨rfl, (Below.refl _ _).alloc (Nat.le_refl _) _⟩
theorem oneError_cut (W H : Nat) (k : Int) (a : Option Addr) (len cap : Nat) (w : World) :
    Calls Try.prog 23 #[.int .i64 8, .agg #[.int .i64 W, .int .i64 H, .slice a len cap], .int .i64 k] w fun e w' => e = .returned (.int .i64 (okIf (withinB k 0 65535) 3)) ∧ Below w.heap.size w w' := by
  by_cases h : withinB k 0 65535 = true
  · rw [h]
    go_enter Try.func23, Try.ntmps23
    go_wp2_with (go_at_call 61; refine (within_any _ _ _ _).mono ?_; rintro e w' ⟨rfl, rfl⟩)
    go_ret
    exact ⟨rfl, (Below.refl _ _).alloc (Nat.le_refl _) _⟩
  · have h' := eq_false_of_ne_true h
    rw [h']
    go_enter Try.func23, Try.ntmps23
    go_wp2_with (go_at_call 61; refine (within_any _ _ _ _).mono ?_; rintro e w' ⟨rfl, rfl⟩)
    go_ret
    exact ⟨rfl, (Below.refl _ _).alloc (Nat.le_refl _) _⟩
theorem oneError_shift (W H : Nat) (k : Int) (a : Option Addr) (len cap : Nat) (w : World) :
    Calls Try.prog 23 #[.int .i64 9, .agg #[.int .i64 W, .int .i64 H, .slice a len cap], .int .i64 k] w fun e w' => e = .returned (.int .i64 (okIf (withinB k (-16) 16) 3)) ∧ Below w.heap.size w w' := by
  by_cases h : withinB k (-16) 16 = true
  · rw [h]
    go_enter Try.func23, Try.ntmps23
    go_wp2_with (go_at_call 61; refine (within_any _ _ _ _).mono ?_; rintro e w' ⟨rfl, rfl⟩)
    go_ret
    exact ⟨rfl, (Below.refl _ _).alloc (Nat.le_refl _) _⟩
  · have h' := eq_false_of_ne_true h
    rw [h']
    go_enter Try.func23, Try.ntmps23
    go_wp2_with (go_at_call 61; refine (within_any _ _ _ _).mono ?_; rintro e w' ⟨rfl, rfl⟩)
    go_ret
    exact ⟨rfl, (Below.refl _ _).alloc (Nat.le_refl _) _⟩
theorem oneError_down (W H : Nat) (k : Int) (a : Option Addr) (len cap : Nat) (w : World) (hW : W ≤ 16) (hH : H ≤ 16) :
    Calls Try.prog 23 #[.int .i64 11, .agg #[.int .i64 W, .int .i64 H, .slice a len cap], .int .i64 k] w fun e w' => e = .returned (.int .i64 (okIf (decide (W % 2 = 0) && decide (H % 2 = 0)) 6)) ∧ Below w.heap.size w w' := by
  by_cases h1 : W % 2 = 0
  · have g1 : ((W : Int) % 2 == 1) = false := by simp; omega
    by_cases h2 : H % 2 = 0
    · have g2 : ((H : Int) % 2 == 1) = false := by simp; omega
      have e : (decide (W % 2 = 0) && decide (H % 2 = 0)) = true := by simp [h1, h2]
      rw [e]; clear e
      go_enter Try.func23, Try.ntmps23
      go_wp2_with (go_at_call 61; refine (within_any _ _ _ _).mono ?_; rintro e w' ⟨rfl, rfl⟩)
      go_ret
      exact ⟨rfl, (Below.refl _ _).alloc (Nat.le_refl _) _⟩
    · have g2 : ((H : Int) % 2 == 1) = true := by simp; omega
      have e : (decide (W % 2 = 0) && decide (H % 2 = 0)) = false := by simp [h2]
      rw [e]; clear e
      go_enter Try.func23, Try.ntmps23
      go_wp2_with (go_at_call 61; refine (within_any _ _ _ _).mono ?_; rintro e w' ⟨rfl, rfl⟩)
      go_ret
      exact ⟨rfl, (Below.refl _ _).alloc (Nat.le_refl _) _⟩
  · have g1 : ((W : Int) % 2 == 1) = true := by simp; omega
    have e : (decide (W % 2 = 0) && decide (H % 2 = 0)) = false := by simp [h1]
    rw [e]; clear e
    go_enter Try.func23, Try.ntmps23
    go_wp2_with (go_at_call 61; refine (within_any _ _ _ _).mono ?_; rintro e w' ⟨rfl, rfl⟩)
    go_ret
    exact ⟨rfl, (Below.refl _ _).alloc (Nat.le_refl _) _⟩
theorem oneError_up (W H : Nat) (k : Int) (a : Option Addr) (len cap : Nat) (w : World) (hW : W ≤ 16) (hH : H ≤ 16) :
    Calls Try.prog 23 #[.int .i64 12, .agg #[.int .i64 W, .int .i64 H, .slice a len cap], .int .i64 k] w fun e w' => e = .returned (.int .i64 (okIf (decide (2 * W ≤ 16) && decide (2 * H ≤ 16)) 6)) ∧ Below w.heap.size w w' := by
  by_cases h1 : 2 * W ≤ 16
  · have g1 : ¬ 16 < 2 * (W : Int) := by omega
    by_cases h2 : 2 * H ≤ 16
    · have g2 : ¬ 16 < 2 * (H : Int) := by omega
      have e : (decide (2 * W ≤ 16) && decide (2 * H ≤ 16)) = true := by simp [h1, h2]
      rw [e]; clear e
      go_enter Try.func23, Try.ntmps23
      go_wp2_with (go_at_call 61; refine (within_any _ _ _ _).mono ?_; rintro e w' ⟨rfl, rfl⟩)
      go_ret
      exact ⟨rfl, (Below.refl _ _).alloc (Nat.le_refl _) _⟩
    · have g2 : 16 < 2 * (H : Int) := by omega
      have e : (decide (2 * W ≤ 16) && decide (2 * H ≤ 16)) = false := by simp [h2]
      rw [e]; clear e
      go_enter Try.func23, Try.ntmps23
      go_wp2_with (go_at_call 61; refine (within_any _ _ _ _).mono ?_; rintro e w' ⟨rfl, rfl⟩)
      go_ret
      exact ⟨rfl, (Below.refl _ _).alloc (Nat.le_refl _) _⟩
  · have g1 : 16 < 2 * (W : Int) := by omega
    have e : (decide (2 * W ≤ 16) && decide (2 * H ≤ 16)) = false := by simp [h1]
    rw [e]; clear e
    go_enter Try.func23, Try.ntmps23
    go_wp2_with (go_at_call 61; refine (within_any _ _ _ _).mono ?_; rintro e w' ⟨rfl, rfl⟩)
    go_ret
    exact ⟨rfl, (Below.refl _ _).alloc (Nat.le_refl _) _⟩
theorem oneError_any (op : Int) (W H : Nat) (k : Int) (a : Option Addr) (len cap : Nat) (w : World) (hW : W ≤ 16) (hH : H ≤ 16) :
    Calls Try.prog 23 #[.int .i64 op, .agg #[.int .i64 W, .int .i64 H, .slice a len cap], .int .i64 k] w fun e w' => e = .returned (.int .i64 (oneErr op W H k)) ∧ Below w.heap.size w w' := by
  rcases ones_cases op with h | rfl | rfl | rfl | rfl | ⟨h3, h10, h8, h9, h11, h12⟩
  · have e : oneErr op W H k = 0 := by rcases h with rfl | rfl <;> rfl
    rw [e]; exact oneError_free op W H k a len cap w h
  · exact oneError_cut W H k a len cap w
  · exact oneError_shift W H k a len cap w
  · exact oneError_down W H k a len cap w hW hH
  · exact oneError_up W H k a len cap w hW hH
  · rw [oneErr_none W H k h3 h10 h8 h9 h11 h12]; exact oneError_none op W H k a len cap w h3 h10 h8 h9 h11 h12
/-- The reference's OneOf. -/
theorem oneOf_any {w : World} {b off W H : Nat} (op : Int) (cap : Nat) {ps : List Int} (k : Int) (hF : Fine w b off W H ps) (hE : oneErr op W H k = 0) :
    Calls Try.prog 24 #[.int .i64 op, .agg #[.int .i64 W, .int .i64 H, .slice (some ⟨b, off, none⟩) (W * H) cap], .int .i64 k] w fun e w' =>
      ∃ a cap', e = .returned (.agg #[.int .i64 (oneN op W), .int .i64 (oneN op H), .slice a (oneN op W * oneN op H) cap']) ∧ Ints w.heap.size w' a (oneN op W * oneN op H) (pix (oneN op W) (oneG op W H k ps) (oneN op W * oneN op H)) ∧ Below w.heap.size w w' := by
  rcases ones_cases op with (rfl | rfl) | rfl | rfl | rfl | rfl | ⟨h3, h10, h8, h9, h11, h12⟩
  · exact oneOf_3 k hF hE
  · exact oneOf_10 k hF hE
  · exact oneOf_8 k hF hE
  · exact oneOf_9 k hF hE
  · exact oneOf_11 k hF hE
  · exact oneOf_12 k hF hE
  · rw [oneErr_none W H k h3 h10 h8 h9 h11 h12] at hE; omega
end Go.Proofs.Ytfpkiimlaepnhaa
