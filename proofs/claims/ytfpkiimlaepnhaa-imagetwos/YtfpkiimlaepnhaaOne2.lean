/-
  ONE2: image.One, whole.
-/
import Derived.Test.YtfpkiimlaepnhaaOne
import Derived.Laws.EntriesVeiled
namespace Go.Proofs.Ytfpkiimlaepnhaa
set_option maxRecDepth 100000
open Go.RowKit Im

theorem sizeOfOne_any (op : Int) (W H : Nat) (a : Option Addr) (len cap : Nat) (w : World) (hW : W ≤ 16) (hH : H ≤ 16) :
    Calls Try.prog 64 #[.int .i64 op, .agg #[.int .i64 W, .int .i64 H, .slice a len cap]] w fun e w' => e = .returned (.tuple #[.int .i64 (oneN op W), .int .i64 (oneN op H)]) ∧ Below w.heap.size w w' := by
  have hB : ∀ n, Below w.heap.size w ((w.alloc (.cells #[.int .i64 W, .int .i64 H, .slice a len cap] 24)).drewN n) := fun n => below_drewN ((Below.refl _ _).alloc (Nat.le_refl _) _) n
  by_cases h11 : op = 11
  · subst h11
    have e1 : (oneN 11 W : Int) = (W : Int) / 2 := by simp [oneN]
    have e2 : (oneN 11 H : Int) = (H : Int) / 2 := by simp [oneN]
    rw [e1, e2]; clear e1 e2
    go_enter Try.func64, Try.ntmps64
    go_wp2
    go_quiet (fail)
    go_wp2
    go_ret2
    exact ⟨rfl, hB _⟩
  by_cases h12 : op = 12
  · subst h12
    have e1 : (oneN 12 W : Int) = 2 * (W : Int) := by simp [oneN]
    have e2 : (oneN 12 H : Int) = 2 * (H : Int) := by simp [oneN]
    rw [e1, e2]; clear e1 e2
    go_enter Try.func64, Try.ntmps64
    go_wp2
    go_quiet (fail)
    go_wp2
    go_ret2
    exact ⟨rfl, hB _⟩
  · have g11 : (op == 11) = false := by simpa using h11
    have g12 : (op == 12) = false := by simpa using h12
    have e1 : oneN op W = W := by simp [oneN, h11, h12]
    have e2 : oneN op H = H := by simp [oneN, h11, h12]
    rw [e1, e2]; clear e1 e2
    go_enter Try.func64, Try.ntmps64
    go_wp2
    go_quiet (fail)
    go_wp2
    go_ret2
    exact ⟨rfl, hB _⟩

/-- The world of ruleOfOne, behind numbersOf: the image's box, k's box, the image's second box, the box of the function value. -/
theorem ruleOfOne_any (op : Int) (W H b off cap : Nat) (k : Int) (ps : List Int) (w : World) (hF : Fine w b off W H ps) (he : oneErr op W H k = 0) :
    Calls Try.prog 65 #[.int .i64 op, .agg #[.int .i64 W, .int .i64 H, .slice (some ⟨b, off, none⟩) (W * H) cap], .int .i64 k] w fun e w' =>
      ∃ n caps, e = .returned (.func (.func n) #[] caps) ∧ Tells w' n caps (oneN op W) (oneN op H) (oneG op W H k ps) ∧ Below w.heap.size w w' := by
  have hB : ∀ o1 o2 o3 o4, Below w.heap.size w ((((w.alloc o1).alloc o2).alloc o3).alloc o4) := fun o1 o2 o3 o4 => ((((Below.refl _ _).alloc (Nat.le_refl _) _).alloc (by simp) _).alloc (by simp; omega) _).alloc (by simp; omega) _
  obtain ⟨w4, hw4⟩ : ∃ w4, w4 = (((w.alloc (.cells #[.int .i64 W, .int .i64 H, .slice (some ⟨b, off, none⟩) (W * H) cap] 24)).alloc (.cells #[.int .i64 k] 3)).alloc (.cells #[.int .i64 W, .int .i64 H, .slice (some ⟨b, off, none⟩) (W * H) cap] 24)).alloc (.cells #[.func (.func 104) #[] #[.pointer (some ⟨w.heap.size + 1 + 1, 0, none⟩)]] 43) := ⟨_, rfl⟩
  have hb4 : Below w.heap.size w w4 := by rw [hw4]; exact hB _ _ _ _
  have s4 : w4.heap.size = w.heap.size + 4 := by rw [hw4]; simp
  have hF4 := hF.below hb4
  have hI : Boxed w4 w.heap.size b off cap W H := by refine ⟨by omega, ?_, ?_, ?_⟩ <;> (rw [hw4]; simp [go_sem])
  have hJ : Boxed w4 (w.heap.size + 1 + 1) b off cap W H := by refine ⟨by omega, ?_, ?_, ?_⟩ <;> (rw [hw4]; simp [go_sem])
  have hK : w4.cell? ⟨w.heap.size + 1, 0, none⟩ = some (.int .i64 k) := by rw [hw4]; simp [go_sem]
  have hO : Old w4 (w.heap.size + 1 + 1 + 1) (w.heap.size + 1 + 1) b off cap W H ps := ⟨by omega, by rw [hw4]; simp [go_sem], hJ, hF4⟩
  rcases ones_cases op with (rfl | rfl) | rfl | rfl | rfl | rfl | ⟨h3, h10, h8, h9, h11, h12⟩
  · have T := numbers_tells hJ hF4
    subst hw4
    go_enter Try.func65, Try.ntmps65
    go_wp2_with (go_at_call 70; refine (numbersOf_any _ _ _ _ _ _).mono ?_; rintro e w' ⟨rfl, rfl⟩)
    go_ret
    exact ⟨_, _, rfl, T, hb4⟩
  · have T := rule3_tells k hO hI
    subst hw4
    go_enter Try.func65, Try.ntmps65
    go_wp2_with (go_at_call 70; refine (numbersOf_any _ _ _ _ _ _).mono ?_; rintro e w' ⟨rfl, rfl⟩)
    go_ret
    exact ⟨_, _, rfl, T, hb4⟩
  · have T := rule1_tells hO hK (by omega)
    subst hw4
    go_enter Try.func65, Try.ntmps65
    go_wp2_with (go_at_call 70; refine (numbersOf_any _ _ _ _ _ _).mono ?_; rintro e w' ⟨rfl, rfl⟩)
    go_ret
    exact ⟨_, _, rfl, T, hb4⟩
  · have hk9 : -16 ≤ k ∧ k ≤ 16 := by
      by_cases h : withinB k (-16) 16 = true
      · simpa [withinB] using h
      · have e : oneErr 9 W H k = okIf (withinB k (-16) 16) 3 := rfl
        rw [e, eq_false_of_ne_true h] at he; cases he
    have T := rule2_tells hO hK (by omega) hk9 hI
    subst hw4
    go_enter Try.func65, Try.ntmps65
    go_wp2_with (go_at_call 70; refine (numbersOf_any _ _ _ _ _ _).mono ?_; rintro e w' ⟨rfl, rfl⟩)
    go_ret
    exact ⟨_, _, rfl, T, hb4⟩
  · have T := rule4_tells k hO
    subst hw4
    go_enter Try.func65, Try.ntmps65
    go_wp2_with (go_at_call 70; refine (numbersOf_any _ _ _ _ _ _).mono ?_; rintro e w' ⟨rfl, rfl⟩)
    go_ret
    exact ⟨_, _, rfl, T, hb4⟩
  · have T := rule5_tells k hO
    subst hw4
    go_enter Try.func65, Try.ntmps65
    go_wp2_with (go_at_call 70; refine (numbersOf_any _ _ _ _ _ _).mono ?_; rintro e w' ⟨rfl, rfl⟩)
    go_ret
    exact ⟨_, _, rfl, T, hb4⟩
  · rw [oneErr_none W H k h3 h10 h8 h9 h11 h12] at he; omega
end Go.Proofs.Ytfpkiimlaepnhaa
