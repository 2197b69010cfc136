/- One, One2, One3, Two, Two2, Two3, Two4: joined, in this order. -/
import Derived.Test.YtihliofhhjjeaaaGreatM03
import Derived.Laws.EntriesVeiled
import Derived.MapKept
import Derived.Deep.RegionHeld3
import Derived.Deep.Cut
set_option maxRecDepth 100000
namespace Go.Proofs.YtihliofhhjjeaaaGreat
open Go.RowKit Im
def oneErr (op : Int) (W H : Nat) (k : Int) : Int :=
  if op = 3 then 0 else if op = 10 then 0 else if op = 8 then okIf (numB k) 3 else if op = 9 then okIf (withinB k (-16) 16) 3
  else if op = 11 then okIf (decide (W % 2 = 0) && decide (H % 2 = 0)) 6 else if op = 12 then okIf (decide (2 * W ≤ 16) && decide (2 * H ≤ 16)) 6 else 4
theorem oneErr_none {op : Int} (W H : Nat) (k : Int) (h3 : ¬ op = 3) (h10 : ¬ op = 10) (h8 : ¬ op = 8) (h9 : ¬ op = 9) (h11 : ¬ op = 11) (h12 : ¬ op = 12) : oneErr op W H k = 4 := by
  simp [oneErr, h3, h10, h8, h9, h11, h12]
theorem unless_any (r : Bool) (E : Int) (w : World) : Calls Tryz.prog 145 #[.bool r, .int .i64 E] w fun e w' => e = .returned (.int .i64 (okIf r E)) ∧ w = w' := by
  cases r
  all_goals
    go_enter Tryz.func145, Tryz.ntmps145
    go_wp2
    go_ret
    exact ⟨rfl, rfl⟩
theorem checkOne_none (op : Int) (W H : Nat) (k : Int) (a : Option Addr) (len cap : Nat) (w : World) (h3 : ¬ op = 3) (h10 : ¬ op = 10) (h8 : ¬ op = 8) (h9 : ¬ op = 9) (h11 : ¬ op = 11) (h12 : ¬ op = 12) :
    Calls Tryz.prog 118 #[.int .i64 op, .agg #[.int .i64 W, .int .i64 H, .slice a len cap], .int .i64 k] w fun e w' => e = .returned (.int .i64 4) ∧ Below w.heap.size w w' := by
  have g3 : (op == 3) = false := by simpa using h3
  have g10 : (op == 10) = false := by simpa using h10
  have g8 : (op == 8) = false := by simpa using h8
  have g9 : (op == 9) = false := by simpa using h9
  have g11 : (op == 11) = false := by simpa using h11
  have g12 : (op == 12) = false := by simpa using h12
  go_enter Tryz.func118, Tryz.ntmps118
  go_wp2
  go_ret
  exact ⟨rfl, (Below.refl _ _).alloc (Nat.le_refl _) _⟩
theorem checkOne_free (op : Int) (W H : Nat) (k : Int) (a : Option Addr) (len cap : Nat) (w : World) (h : op = 3 ∨ op = 10) :
    Calls Tryz.prog 118 #[.int .i64 op, .agg #[.int .i64 W, .int .i64 H, .slice a len cap], .int .i64 k] w fun e w' => e = .returned (.int .i64 0) ∧ Below w.heap.size w w' := by
  rcases h with rfl | rfl
  all_goals
    go_enter Tryz.func118, Tryz.ntmps118
    go_wp2
    go_ret
    exact ⟨rfl, (Below.refl _ _).alloc (Nat.le_refl _) _⟩
theorem checkOne_cut (W H : Nat) (k : Int) (a : Option Addr) (len cap : Nat) (w : World) :
    Calls Tryz.prog 118 #[.int .i64 8, .agg #[.int .i64 W, .int .i64 H, .slice a len cap], .int .i64 k] w fun e w' => e = .returned (.int .i64 (okIf (numB k) 3)) ∧ Below w.heap.size w w' := by
  go_enter Tryz.func118, Tryz.ntmps118
  go_wp2_with (first | (go_at_call 51; refine (isNumber_any _ _).mono ?_; rintro e w' ⟨rfl, rfl⟩) | (go_at_call 145; refine (unless_any _ _ _).mono ?_; rintro e w' ⟨rfl, rfl⟩))
  go_ret
  exact ⟨rfl, (Below.refl _ _).alloc (Nat.le_refl _) _⟩
theorem checkOne_shift (W H : Nat) (k : Int) (a : Option Addr) (len cap : Nat) (w : World) :
    Calls Tryz.prog 118 #[.int .i64 9, .agg #[.int .i64 W, .int .i64 H, .slice a len cap], .int .i64 k] w fun e w' => e = .returned (.int .i64 (okIf (withinB k (-16) 16) 3)) ∧ Below w.heap.size w w' := by
  by_cases h1 : -16 ≤ k
  · by_cases h2 : k ≤ 16
    · have e : withinB k (-16) 16 = true := by simp [withinB, h1, h2]
      rw [e]; clear e
      go_enter Tryz.func118, Tryz.ntmps118
      go_wp2_with (go_at_call 145; refine (unless_any _ _ _).mono ?_; rintro e w' ⟨rfl, rfl⟩)
      go_ret
      exact ⟨rfl, (Below.refl _ _).alloc (Nat.le_refl _) _⟩
    · have e : withinB k (-16) 16 = false := by simp [withinB, h2]
      rw [e]; clear e
      go_enter Tryz.func118, Tryz.ntmps118
      go_wp2_with (go_at_call 145; refine (unless_any _ _ _).mono ?_; rintro e w' ⟨rfl, rfl⟩)
      go_ret
      exact ⟨rfl, (Below.refl _ _).alloc (Nat.le_refl _) _⟩
  · have e : withinB k (-16) 16 = false := by simp [withinB, h1]
    rw [e]; clear e
    go_enter Tryz.func118, Tryz.ntmps118
    go_wp2_with (go_at_call 145; refine (unless_any _ _ _).mono ?_; rintro e w' ⟨rfl, rfl⟩)
    go_ret
    exact ⟨rfl, (Below.refl _ _).alloc (Nat.le_refl _) _⟩
theorem checkOne_down (W H : Nat) (k : Int) (a : Option Addr) (len cap : Nat) (w : World) (hW : W ≤ 16) (hH : H ≤ 16) :
    Calls Tryz.prog 118 #[.int .i64 11, .agg #[.int .i64 W, .int .i64 H, .slice a len cap], .int .i64 k] w fun e w' => e = .returned (.int .i64 (okIf (decide (W % 2 = 0) && decide (H % 2 = 0)) 6)) ∧ Below w.heap.size w w' := by
  by_cases h1 : W % 2 = 0
  · have g1 : ((W : Int) % 2 == 0) = true := by simp; omega
    by_cases h2 : H % 2 = 0
    · have g2 : ((H : Int) % 2 == 0) = true := by simp; omega
      have e : (decide (W % 2 = 0) && decide (H % 2 = 0)) = true := by simp [h1, h2]
      rw [e]; clear e
      go_enter Tryz.func118, Tryz.ntmps118
      go_wp2_with (go_at_call 145; refine (unless_any _ _ _).mono ?_; rintro e w' ⟨rfl, rfl⟩)
      go_ret
      exact ⟨rfl, (Below.refl _ _).alloc (Nat.le_refl _) _⟩
    · have g2 : ((H : Int) % 2 == 0) = false := by simp; omega
      have e : (decide (W % 2 = 0) && decide (H % 2 = 0)) = false := by simp [h2]
      rw [e]; clear e
      go_enter Tryz.func118, Tryz.ntmps118
      go_wp2_with (go_at_call 145; refine (unless_any _ _ _).mono ?_; rintro e w' ⟨rfl, rfl⟩)
      go_ret
      exact ⟨rfl, (Below.refl _ _).alloc (Nat.le_refl _) _⟩
  · have g1 : ((W : Int) % 2 == 0) = false := by simp; omega
    have e : (decide (W % 2 = 0) && decide (H % 2 = 0)) = false := by simp [h1]
    rw [e]; clear e
    go_enter Tryz.func118, Tryz.ntmps118
    go_wp2_with (go_at_call 145; refine (unless_any _ _ _).mono ?_; rintro e w' ⟨rfl, rfl⟩)
    go_ret
    exact ⟨rfl, (Below.refl _ _).alloc (Nat.le_refl _) _⟩
theorem side_two (n : Nat) (h : 1 ≤ n) : sideB (2 * (n : Int)) = decide (2 * n ≤ 16) := by
  rw [Bool.eq_iff_iff]; simp [sideB]; omega
theorem checkOne_up (W H : Nat) (k : Int) (a : Option Addr) (len cap : Nat) (w : World) (hW : 1 ≤ W ∧ W ≤ 16) (hH : 1 ≤ H ∧ H ≤ 16) :
    Calls Tryz.prog 118 #[.int .i64 12, .agg #[.int .i64 W, .int .i64 H, .slice a len cap], .int .i64 k] w fun e w' => e = .returned (.int .i64 (okIf (decide (2 * W ≤ 16) && decide (2 * H ≤ 16)) 6)) ∧ Below w.heap.size w w' := by
  rw [← side_two W hW.1, ← side_two H hH.1]
  by_cases h1 : sideB (2 * (W : Int)) = true
  · rw [h1, Bool.true_and]
    go_enter Tryz.func118, Tryz.ntmps118
    go_wp2_with (first | (go_at_call 50; refine (isSide_any _ _).mono ?_; rintro e w' ⟨rfl, rfl⟩) | (go_at_call 145; refine (unless_any _ _ _).mono ?_; rintro e w' ⟨rfl, rfl⟩))
    go_ret
    exact ⟨rfl, (Below.refl _ _).alloc (Nat.le_refl _) _⟩
  · have h1' : sideB (2 * (W : Int)) = false := by simpa using h1
    rw [h1', Bool.false_and]
    go_enter Tryz.func118, Tryz.ntmps118
    go_wp2_with (first | (go_at_call 50; refine (isSide_any _ _).mono ?_; rintro e w' ⟨rfl, rfl⟩) | (go_at_call 145; refine (unless_any _ _ _).mono ?_; rintro e w' ⟨rfl, rfl⟩))
    go_ret
    exact ⟨rfl, (Below.refl _ _).alloc (Nat.le_refl _) _⟩
theorem ones_cases (op : Int) : (op = 3 ∨ op = 10) ∨ op = 8 ∨ op = 9 ∨ op = 11 ∨ op = 12 ∨ (¬ op = 3 ∧ ¬ op = 10 ∧ ¬ op = 8 ∧ ¬ op = 9 ∧ ¬ op = 11 ∧ ¬ op = 12) := by omega
theorem checkOne_any (op : Int) (W H : Nat) (k : Int) (a : Option Addr) (len cap : Nat) (w : World) (hW : 1 ≤ W ∧ W ≤ 16) (hH : 1 ≤ H ∧ H ≤ 16) :
    Calls Tryz.prog 118 #[.int .i64 op, .agg #[.int .i64 W, .int .i64 H, .slice a len cap], .int .i64 k] w fun e w' => e = .returned (.int .i64 (oneErr op W H k)) ∧ Below w.heap.size w w' := by
  rcases ones_cases op with h | rfl | rfl | rfl | rfl | ⟨h3, h10, h8, h9, h11, h12⟩
  · have e : oneErr op W H k = 0 := by rcases h with rfl | rfl <;> rfl
    rw [e]; exact checkOne_free op W H k a len cap w h
  · exact checkOne_cut W H k a len cap w
  · exact checkOne_shift W H k a len cap w
  · exact checkOne_down W H k a len cap w hW.2 hH.2
  · exact checkOne_up W H k a len cap w hW hH
  · rw [oneErr_none W H k h3 h10 h8 h9 h11 h12]; exact checkOne_none op W H k a len cap w h3 h10 h8 h9 h11 h12
end Go.Proofs.YtihliofhhjjeaaaGreat
namespace Go.Proofs.YtihliofhhjjeaaaGreat
open Go.RowKit Im
theorem sizeOfOne_any (op : Int) (W H : Nat) (a : Option Addr) (len cap : Nat) (w : World) (hW : W ≤ 16) (hH : H ≤ 16) :
    Calls Tryz.prog 119 #[.int .i64 op, .agg #[.int .i64 W, .int .i64 H, .slice a len cap]] w fun e w' => e = .returned (.tuple #[.int .i64 (oneN op W), .int .i64 (oneN op H)]) ∧ Below w.heap.size w w' := by
  have hB : ∀ n, Below w.heap.size w ((w.alloc (.cells #[.int .i64 W, .int .i64 H, .slice a len cap] 31)).drewN n) := fun n => below_drewN ((Below.refl _ _).alloc (Nat.le_refl _) _) n
  by_cases h11 : op = 11
  · subst h11
    have e1 : (oneN 11 W : Int) = (W : Int) / 2 := by simp [oneN]
    have e2 : (oneN 11 H : Int) = (H : Int) / 2 := by simp [oneN]
    rw [e1, e2]; clear e1 e2
    go_enter Tryz.func119, Tryz.ntmps119
    go_wp2
    go_quiet (fail)
    go_wp2
    go_ret2
    exact ⟨rfl, hB _⟩
  by_cases h12 : op = 12
  · subst h12
    have e1 : (oneN 12 W : Int) = 2 * (W : Int) := by simp [oneN]
    have e2 : (oneN 12 H : Int) = 2 * (H : Int) := by simp [oneN]
    rw [e1, e2]; clear e1 e2
    go_enter Tryz.func119, Tryz.ntmps119
    go_wp2
    go_quiet (fail)
    go_wp2
    go_ret2
    exact ⟨rfl, hB _⟩
  · have g11 : (op == 11) = false := by simpa using h11
    have g12 : (op == 12) = false := by simpa using h12
    have e1 : oneN op W = W := by simp [oneN, h11, h12]
    have e2 : oneN op H = H := by simp [oneN, h11, h12]
    rw [e1, e2]; clear e1 e2
    go_enter Tryz.func119, Tryz.ntmps119
    go_wp2
    go_quiet (fail)
    go_wp2
    go_ret2
    exact ⟨rfl, hB _⟩
theorem ruleOfOne_any (op : Int) (W H b off cap : Nat) (k : Int) (ps : List Int) (w : World) (hF : Fine w b off W H ps) (he : oneErr op W H k = 0) :
    Calls Tryz.prog 120 #[.int .i64 op, .agg #[.int .i64 W, .int .i64 H, .slice (some ⟨b, off, none⟩) (W * H) cap], .int .i64 k] w fun e w' =>
      ∃ n caps, e = .returned (.func (.func n) #[] caps) ∧ Tells w' n caps (oneN op W) (oneN op H) (oneG op W H k ps) ∧ Below w.heap.size w w' := by
  have hB : ∀ o1 o2 o3 o4, Below w.heap.size w ((((w.alloc o1).alloc o2).alloc o3).alloc o4) := fun o1 o2 o3 o4 => ((((Below.refl _ _).alloc (Nat.le_refl _) _).alloc (by simp) _).alloc (by simp; omega) _).alloc (by simp; omega) _
  obtain ⟨w4, hw4⟩ : ∃ w4, w4 = (((w.alloc (.cells #[.int .i64 W, .int .i64 H, .slice (some ⟨b, off, none⟩) (W * H) cap] 31)).alloc (.cells #[.int .i64 k] 3)).alloc (.cells #[.int .i64 W, .int .i64 H, .slice (some ⟨b, off, none⟩) (W * H) cap] 31)).alloc (.cells #[.func (.func 142) #[] #[.pointer (some ⟨w.heap.size + 1 + 1, 0, none⟩)]] 105) := ⟨_, rfl⟩
  have hb4 : Below w.heap.size w w4 := by rw [hw4]; exact hB _ _ _ _
  have s4 : w4.heap.size = w.heap.size + 4 := by rw [hw4]; simp
  have hF4 := hF.below hb4
  have hI : Boxed w4 w.heap.size b off cap W H := by refine ⟨by omega, ?_, ?_, ?_⟩ <;> (rw [hw4]; simp [go_sem])
  have hJ : Boxed w4 (w.heap.size + 1 + 1) b off cap W H := by refine ⟨by omega, ?_, ?_, ?_⟩ <;> (rw [hw4]; simp [go_sem])
  have hK : w4.cell? ⟨w.heap.size + 1, 0, none⟩ = some (.int .i64 k) := by rw [hw4]; simp [go_sem]
  have hO : Old w4 (w.heap.size + 1 + 1 + 1) (w.heap.size + 1 + 1) b off cap W H ps := ⟨by omega, by rw [hw4]; simp [go_sem], hJ, hF4⟩
  rcases ones_cases op with (rfl | rfl) | rfl | rfl | rfl | rfl | ⟨h3, h10, h8, h9, h11, h12⟩
  · have T := numbers_tells hJ hF4
    subst hw4
    go_enter Tryz.func120, Tryz.ntmps120
    go_wp2_with (go_at_call 110; refine (numbersOf_any _ _ _ _ _ _).mono ?_; rintro e w' ⟨rfl, rfl⟩)
    go_ret
    exact ⟨_, _, rfl, T, hb4⟩
  · have T := rule3_tells k hO hI
    subst hw4
    go_enter Tryz.func120, Tryz.ntmps120
    go_wp2_with (go_at_call 110; refine (numbersOf_any _ _ _ _ _ _).mono ?_; rintro e w' ⟨rfl, rfl⟩)
    go_ret
    exact ⟨_, _, rfl, T, hb4⟩
  · have T := rule1_tells hO hK (by omega)
    subst hw4
    go_enter Tryz.func120, Tryz.ntmps120
    go_wp2_with (go_at_call 110; refine (numbersOf_any _ _ _ _ _ _).mono ?_; rintro e w' ⟨rfl, rfl⟩)
    go_ret
    exact ⟨_, _, rfl, T, hb4⟩
  · have hk9 : -16 ≤ k ∧ k ≤ 16 := by
      by_cases h : withinB k (-16) 16 = true
      · simpa [withinB] using h
      · have e : oneErr 9 W H k = okIf (withinB k (-16) 16) 3 := rfl
        rw [e, eq_false_of_ne_true h] at he; cases he
    have T := rule2_tells hO hK (by omega) hk9 hI
    subst hw4
    go_enter Tryz.func120, Tryz.ntmps120
    go_wp2_with (go_at_call 110; refine (numbersOf_any _ _ _ _ _ _).mono ?_; rintro e w' ⟨rfl, rfl⟩)
    go_ret
    exact ⟨_, _, rfl, T, hb4⟩
  · have T := rule4_tells k hO
    subst hw4
    go_enter Tryz.func120, Tryz.ntmps120
    go_wp2_with (go_at_call 110; refine (numbersOf_any _ _ _ _ _ _).mono ?_; rintro e w' ⟨rfl, rfl⟩)
    go_ret
    exact ⟨_, _, rfl, T, hb4⟩
  · have T := rule5_tells k hO
    subst hw4
    go_enter Tryz.func120, Tryz.ntmps120
    go_wp2_with (go_at_call 110; refine (numbersOf_any _ _ _ _ _ _).mono ?_; rintro e w' ⟨rfl, rfl⟩)
    go_ret
    exact ⟨_, _, rfl, T, hb4⟩
  · rw [oneErr_none W H k h3 h10 h8 h9 h11 h12] at he; omega
end Go.Proofs.YtihliofhhjjeaaaGreat
namespace Go.Proofs.YtihliofhhjjeaaaGreat
open Go.RowKit Im
theorem one_not {W H : Int} {a : Option Addr} {len : Nat} (op : Int) (cap : Nat) (k : Int) {ps : List Int} {w : World} (h : Ints 0 w a len ps) (hf : fineB W H ps = false) :
    Calls Tryz.prog 72 #[.int .i64 op, .agg #[.int .i64 W, .int .i64 H, .slice a len cap], .int .i64 k] w fun e w' => e = .returned (.tuple #[noImage, .int .i64 1]) ∧ Below w.heap.size w w' := by
  have hB : ∀ o o', Below w.heap.size w ((w.alloc o).alloc o') := fun o o' => ((Below.refl _ _).alloc (Nat.le_refl _) _).alloc (by simp) _
  have h1 := h.below (Nat.le_refl _) (hB (.cells #[.int .i64 W, .int .i64 H, .slice a len cap] 31) (.cells #[.int .i64 0, .int .i64 0, .slice none 0 0] 31))
  go_enter Tryz.func72, Tryz.ntmps72
  go_wp2_with (go_at_call 19; refine (check_not cap h1 hf).mono ?_; rintro e wA ⟨rfl, hbA⟩; obtain ⟨cA, fA⟩ := bcell hbA; have sA : w.heap.size + 1 < wA.heap.size := by have := hbA.size; simp at this; omega)
  refine bodyPost_ret (v := .tuple #[noImage, .int .i64 1]) (by simp [results, Tryz.results72, go_sem, cA]) rfl ⟨rfl, ?_⟩
  exact ((((hB _ _).trans (hbA.mono (by simp; omega))).setCell (by simp) _).setCell (by simp) _).setCell (by simp) _
theorem one_err {W H b off : Nat} (op : Int) (cap : Nat) (k : Int) {ps : List Int} {w : World} (hF : Fine w b off W H ps) (E : Int) (hE : oneErr op W H k = E) (h0 : ¬ E = 0) :
    Calls Tryz.prog 72 #[.int .i64 op, .agg #[.int .i64 W, .int .i64 H, .slice (some ⟨b, off, none⟩) (W * H) cap], .int .i64 k] w fun e w' => e = .returned (.tuple #[noImage, .int .i64 E]) ∧ Below w.heap.size w w' := by
  have hB : ∀ o o', Below w.heap.size w ((w.alloc o).alloc o') := fun o o' => ((Below.refl _ _).alloc (Nat.le_refl _) _).alloc (by simp) _
  have hF1 := hF.below (hB (.cells #[.int .i64 W, .int .i64 H, .slice (some ⟨b, off, none⟩) (W * H) cap] 31) (.cells #[.int .i64 0, .int .i64 0, .slice none 0 0] 31))
  have hne : (E != 0) = true := by simpa using h0
  have hcO := fun wx => checkOne_any op W H k (some ⟨b, off, none⟩) (W * H) cap wx hF.hW hF.hH
  rw [hE] at hcO
  clear hE h0
  go_enter Tryz.func72, Tryz.ntmps72
  go_wp2_with (first
    | (go_at_call 19; refine (check_fine cap hF1.ints hF1.fineB).mono ?_; rintro e wA ⟨rfl, hbA⟩; obtain ⟨cA, fA⟩ := bcell hbA; have sA : w.heap.size + 1 < wA.heap.size := by have := hbA.size; simp at this; omega)
    | (go_at_call 118; refine (hcO _).mono ?_; rintro e wB ⟨rfl, hbB⟩; have hbB' := hbA.trans (hbB.mono hbA.size); obtain ⟨cB, fB⟩ := bcell hbB'; have sB : w.heap.size + 1 < wB.heap.size := by have := hbB.size; omega))
  refine bodyPost_ret (v := .tuple #[noImage, .int .i64 E]) (by simp [results, Tryz.results72, go_sem, cB]) rfl ⟨rfl, ?_⟩
  exact ((((hB _ _).trans (hbB'.mono (by simp; omega))).setCell (by simp) _).setCell (by simp) _).setCell (by simp) _
theorem okIf_zero {b : Bool} {e : Int} (he : ¬ e = 0) (h : okIf b e = 0) : b = true := by
  cases b
  · exact absurd h he
  · rfl
theorem oneN_side {op : Int} {W H : Nat} {k : Int} (hW : 1 ≤ W ∧ W ≤ 16) (hH : 1 ≤ H ∧ H ≤ 16) (hE : oneErr op W H k = 0) : (1 ≤ oneN op W ∧ oneN op W ≤ 16) ∧ 1 ≤ oneN op H ∧ oneN op H ≤ 16 := by
  rcases ones_cases op with (rfl | rfl) | rfl | rfl | rfl | rfl | ⟨h3, h10, h8, h9, h11, h12⟩
  · exact ⟨hW, hH⟩
  · exact ⟨hW, hH⟩
  · exact ⟨hW, hH⟩
  · exact ⟨hW, hH⟩
  · have h := okIf_zero (by decide) (show okIf (decide (W % 2 = 0) && decide (H % 2 = 0)) 6 = 0 from hE)
    simp at h
    show (1 ≤ W / 2 ∧ W / 2 ≤ 16) ∧ 1 ≤ H / 2 ∧ H / 2 ≤ 16
    omega
  · have h := okIf_zero (by decide) (show okIf (decide (2 * W ≤ 16) && decide (2 * H ≤ 16)) 6 = 0 from hE)
    simp at h
    show (1 ≤ 2 * W ∧ 2 * W ≤ 16) ∧ 1 ≤ 2 * H ∧ 2 * H ≤ 16
    omega
  · rw [oneErr_none W H k h3 h10 h8 h9 h11 h12] at hE; omega
theorem one_ok {W H b off : Nat} (op : Int) (cap : Nat) (k : Int) {ps : List Int} {w : World} (hF : Fine w b off W H ps) (hE : oneErr op W H k = 0) :
    Calls Tryz.prog 72 #[.int .i64 op, .agg #[.int .i64 W, .int .i64 H, .slice (some ⟨b, off, none⟩) (W * H) cap], .int .i64 k] w fun e w' =>
      ∃ a cap', e = .returned (.tuple #[.agg #[.int .i64 (oneN op W), .int .i64 (oneN op H), .slice a (oneN op W * oneN op H) cap'], .int .i64 0]) ∧ Ints w.heap.size w' a (oneN op W * oneN op H) (pix (oneN op W) (oneG op W H k ps) (oneN op W * oneN op H)) ∧ Below w.heap.size w w' := by
  have hB : ∀ o o', Below w.heap.size w ((w.alloc o).alloc o') := fun o o' => ((Below.refl _ _).alloc (Nat.le_refl _) _).alloc (by simp) _
  have hF1 := hF.below (hB (.cells #[.int .i64 W, .int .i64 H, .slice (some ⟨b, off, none⟩) (W * H) cap] 31) (.cells #[.int .i64 0, .int .i64 0, .slice none 0 0] 31))
  have hcO := fun wx => checkOne_any op W H k (some ⟨b, off, none⟩) (W * H) cap wx hF.hW hF.hH
  have hs := oneN_side hF.hW hF.hH hE
  have hsO := fun wx => sizeOfOne_any op W H (some ⟨b, off, none⟩) (W * H) cap wx hF.hW.2 hF.hH.2
  have hrO := fun wx h => ruleOfOne_any op W H b off cap k ps wx h hE
  rw [hE] at hcO
  clear hE
  go_enter Tryz.func72, Tryz.ntmps72
  go_wp2_with (first
    | (go_at_call 19; refine (check_fine cap hF1.ints hF1.fineB).mono ?_; rintro e wA ⟨rfl, hbA⟩; obtain ⟨cA, fA⟩ := bcell hbA; have sA : w.heap.size + 1 < wA.heap.size := by have := hbA.size; simp at this; omega)
    | (go_at_call 118; refine (hcO _).mono ?_; rintro e wB ⟨rfl, hbB⟩; have hbB' := hbA.trans (hbB.mono hbA.size); obtain ⟨cB, fB⟩ := bcell hbB'; have sB : w.heap.size + 1 < wB.heap.size := by have := hbB.size; omega)
    | (go_at_call 119; refine (hsO _).mono ?_; rintro e wC ⟨rfl, hbC⟩; have hbC' := hbB'.trans (hbC.mono hbB'.size); obtain ⟨cC, fC⟩ := bcell hbC'; have sC : w.heap.size + 1 < wC.heap.size := by have := hbC.size; omega)
    | (go_at_call 120; refine (hrO _ (hF1.below hbC')).mono ?_; rintro e wD ⟨fn, caps, rfl, hT, hbD⟩; have hbD' := hbC'.trans (hbD.mono hbC'.size); obtain ⟨cD, fD⟩ := bcell hbD'; have sD : w.heap.size + 1 < wD.heap.size := by have := hbD.size; omega)
    | (go_at_call 106; refine (draw_any _ _ _ _ _ _ hs.1 hs.2 hT).mono ?_; rintro e wE ⟨a, cap', rfl, hints, hbE⟩; have hbE' := hbD'.trans (hbE.mono hbD'.size); obtain ⟨cE, fE⟩ := bcell hbE'; have sE : w.heap.size + 1 < wE.heap.size := by have := hbE.size; omega))
  refine bodyPost_ret (v := .tuple #[.agg #[.int .i64 (oneN op W), .int .i64 (oneN op H), .slice a (oneN op W * oneN op H) cap'], .int .i64 0]) (by simp [results, Tryz.results72, go_sem, cE]) rfl ⟨a, cap', rfl, ?_, ?_⟩
  · exact (((hints.setCell (by simpa using sD) _).setCell (by simpa using sD) _).setCell (by simpa using sD) _).mono (by omega)
  · exact ((((hB _ _).trans (hbE'.mono (by simp; omega))).setCell (by simp) _).setCell (by simp) _).setCell (by simp) _
end Go.Proofs.YtihliofhhjjeaaaGreat
namespace Go.Proofs.YtihliofhhjjeaaaGreat
open Go.RowKit Im
abbrev mapT : Nat := 171
theorem run_put (w : World) (es : Array MapEntry) (n : Nat) (k : Int) (v : Value) (hf : Instr.findNow (.int .i64) (.int .i64 k) es.toList 0 = some none) :
    (Instr.mapUpdate mapT (.map (some w.heap.size)) (.int .i64 k) v).run Tryz.prog (w.alloc (.map es n)) = .ok () (w.alloc (.map (es.push { key := .int .i64 k, val := v, born := n }) (n + 1))) := by
  have hb : (w.alloc (.map es n)).heap[w.heap.size]? = some (.map es n) := (MapKept.heap_alloc w _).1
  have hc : (Instr.checkKey false 10000 3 (.int .i64 k)).run Tryz.prog (w.alloc (.map es n)) = .ok () (w.alloc (.map es n)) := MapKept.run_checkKey (k := .int .i64 k) Tryz.underlying3 (by simp [MapKept.IsKey]) false 9999
  have e : ∀ o : Obj, (w.heap.push (.map es n)).setIfInBounds w.heap.size o = w.heap.push o := fun o => by
    rw [← Array.toList_inj]
    simp
  simp [Instr.mapUpdate, run_underlying Tryz.underlying171, MapKept.run_getObj_map hb, hc, MapKept.run_findKey Tryz.underlying3 hf, MapKept.run_setObj_map _ hb, Result.andThen]
  show World.mk _ _ _ _ _ = World.mk _ _ _ _ _
  congr 1
  exact e _
def twoEntries : Array MapEntry := #[⟨.int .i64 4, .func (.func 138) #[] #[], 0⟩, ⟨.int .i64 5, .func (.func 139) #[] #[], 1⟩, ⟨.int .i64 6, .func (.func 140) #[] #[], 2⟩, ⟨.int .i64 7, .func (.func 141) #[] #[], 3⟩]
theorem rules_any (w : World) : Calls Tryz.prog 109 #[] w fun e w' => e = .returned (.map (some w.heap.size)) ∧ w' = w.alloc (.map twoEntries 4) := by
  have hmm := @run_makeMap Tryz.prog
  have p0 := run_put w #[] 0 4 (.func (.func 138) #[] #[]) rfl
  have p1 := run_put w #[⟨.int .i64 4, .func (.func 138) #[] #[], 0⟩] 1 5 (.func (.func 139) #[] #[]) rfl
  have p2 := run_put w #[⟨.int .i64 4, .func (.func 138) #[] #[], 0⟩, ⟨.int .i64 5, .func (.func 139) #[] #[], 1⟩] 2 6 (.func (.func 140) #[] #[]) rfl
  have p3 := run_put w #[⟨.int .i64 4, .func (.func 138) #[] #[], 0⟩, ⟨.int .i64 5, .func (.func 139) #[] #[], 1⟩, ⟨.int .i64 6, .func (.func 140) #[] #[], 2⟩] 3 7 (.func (.func 141) #[] #[]) rfl
  simp only [List.push_toArray, List.cons_append, List.nil_append, Nat.zero_add, Nat.reduceAdd] at p0 p1 p2 p3
  go_enter Tryz.func109, Tryz.ntmps109
  go_wp2
  go_ret
  exact ⟨rfl, rfl⟩
theorem run_find (w : World) (r : Nat) (op : Int) (u : Option (Nat × Value)) (hb : w.heap[r]? = some (.map twoEntries 4)) (hf : Instr.findNow (.int .i64) (.int .i64 op) twoEntries.toList 0 = some u) :
    (Instr.lookup mapT (.map (some r)) (.int .i64 op) true).run Tryz.prog w = .ok (match u with | some (_, v) => .tuple #[v, .bool true] | none => .tuple #[.nilFunc, .bool false]) w := by
  have hc : (Instr.checkKey twoEntries.isEmpty 10000 3 (.int .i64 op)).run Tryz.prog w = .ok () w := MapKept.run_checkKey (k := .int .i64 op) Tryz.underlying3 (by simp [MapKept.IsKey]) _ 9999
  rcases u with _ | ⟨i, v⟩
  · simp [Instr.lookup, run_underlying Tryz.underlying171, MapKept.run_getObj_map hb, hc, MapKept.run_findKey Tryz.underlying3 hf, Result.andThen]
  · simp [Instr.lookup, run_underlying Tryz.underlying171, MapKept.run_getObj_map hb, hc, MapKept.run_findKey Tryz.underlying3 hf, Result.andThen]
def twoG (op m n : Int) : Int := if op = 4 then min (m + n) 65535 else if op = 5 then max (m - n) 0 else if op = 6 then m * n / 65535 else max m n
def twoF (op : Int) : Nat := if op = 4 then 138 else if op = 5 then 139 else if op = 6 then 140 else 141
theorem two4 (m n : Int) (w : World) (hm : 0 ≤ m ∧ m ≤ 65535) (hn : 0 ≤ n ∧ n ≤ 65535) : Calls Tryz.prog 138 #[.int .i64 m, .int .i64 n] w fun e w' => e = .returned (.int .i64 (twoG 4 m n)) ∧ w' = w := by
  have e : twoG 4 m n = if 65535 < m + n then 65535 else m + n := by unfold twoG; simp; split <;> omega
  rw [e]
  by_cases h : 65535 < m + n
  · rw [if_pos h]
    go_enter Tryz.func138, Tryz.ntmps138
    go_wp2
    go_ret
    exact ⟨rfl, rfl⟩
  · rw [if_neg h]
    go_enter Tryz.func138, Tryz.ntmps138
    go_wp2
    go_ret
    exact ⟨rfl, rfl⟩
theorem two5 (m n : Int) (w : World) (hm : 0 ≤ m ∧ m ≤ 65535) (hn : 0 ≤ n ∧ n ≤ 65535) : Calls Tryz.prog 139 #[.int .i64 m, .int .i64 n] w fun e w' => e = .returned (.int .i64 (twoG 5 m n)) ∧ w' = w := by
  have e : twoG 5 m n = if m - n < 0 then 0 else m - n := by unfold twoG; simp; split <;> omega
  rw [e]
  by_cases h : m - n < 0
  · rw [if_pos h]
    go_enter Tryz.func139, Tryz.ntmps139
    go_wp2
    go_ret
    exact ⟨rfl, rfl⟩
  · rw [if_neg h]
    go_enter Tryz.func139, Tryz.ntmps139
    go_wp2
    go_ret
    exact ⟨rfl, rfl⟩
theorem two6 (m n : Int) (w : World) (hm : 0 ≤ m ∧ m ≤ 65535) (hn : 0 ≤ n ∧ n ≤ 65535) : Calls Tryz.prog 140 #[.int .i64 m, .int .i64 n] w fun e w' => e = .returned (.int .i64 (twoG 6 m n)) ∧ w' = w := by
  have e : twoG 6 m n = m * n / 65535 := by simp [twoG]
  have h1 : 0 ≤ m * n := Int.mul_nonneg hm.1 hn.1
  have h2 : m * n ≤ 65535 * 65535 := Int.mul_le_mul hm.2 hn.2 hn.1 (by omega)
  rw [e]
  clear e
  go_enter Tryz.func140, Tryz.ntmps140
  go_wp2
  go_ret
  exact ⟨rfl, rfl⟩
theorem two7 (m n : Int) (w : World) : Calls Tryz.prog 141 #[.int .i64 m, .int .i64 n] w fun e w' => e = .returned (.int .i64 (twoG 7 m n)) ∧ w' = w := by
  have e : twoG 7 m n = if m < n then n else m := by unfold twoG; simp; split <;> omega
  rw [e]
  by_cases h : m < n
  · rw [if_pos h]
    go_enter Tryz.func141, Tryz.ntmps141
    go_wp2
    go_ret
    exact ⟨rfl, rfl⟩
  · rw [if_neg h]
    go_enter Tryz.func141, Tryz.ntmps141
    go_wp2
    go_ret
    exact ⟨rfl, rfl⟩
theorem numbers_same {w : World} {c b off cap W H : Nat} {ps : List Int} (hB : Boxed w c b off cap W H) (hF : Fine w b off W H ps) (x y : Nat) (hx : x < W) (hy : y < H) :
    Calls Tryz.prog 142 #[.int .i64 x, .int .i64 y, .pointer (some ⟨c, 0, none⟩)] w fun e w' => e = .returned (.int .i64 (px W ps x y)) ∧ w' = w := by
  obtain ⟨hlt, c0, c1, c2⟩ := hB
  have hc := hF.cell (y * W + x) (place_lt hx hy)
  have hpl := place_lt hx hy
  obtain ⟨hm, hM⟩ := hF.small
  have hb1 := hF.hW
  have hb2 := hF.hH
  have hpi : (y : Int) * (W : Int) + (x : Int) < (W : Int) * (H : Int) := by rw [← Int.natCast_mul, ← Int.natCast_mul]; omega
  have hp0 : 0 ≤ (y : Int) * (W : Int) := Int.mul_nonneg (by omega) (by omega)
  have hpM : (W : Int) * (H : Int) ≤ 256 := by rw [← Int.natCast_mul]; omega
  obtain ⟨v, hv⟩ : ∃ v, v = px W ps x y := ⟨_, rfl⟩
  have hc' : w.cell? ⟨b, off + (y * W + x), none⟩ = some (.int .i64 v) := by rw [hv]; exact hc
  rw [← hv]
  clear hc hv hF hpl
  go_enter Tryz.func142, Tryz.ntmps142
  go_wp2
  go_ret
  exact ⟨rfl, rfl⟩
end Go.Proofs.YtihliofhhjjeaaaGreat
namespace Go.Proofs.YtihliofhhjjeaaaGreat
open Go.RowKit Im
theorem two1_enters : ∀ args w, (callFunc 111 args).run Tryz.prog w = .ok (.enter 111 args) w := fun _ _ => by kernel_rfl
theorem two1_call4 {w : World} {rb d1 d2 c1 c2 b1 off1 cap1 b2 off2 cap2 W H : Nat} {ps qs : List Int} (hO1 : Old w d1 c1 b1 off1 cap1 W H ps) (hO2 : Old w d2 c2 b2 off2 cap2 W H qs)
    (hr : w.cell? ⟨rb, 0, none⟩ = some (.func (.func (twoF 4)) #[] #[])) (x y : Nat) (hx : x < W) (hy : y < H) :
    Calls Tryz.prog 111 #[.int .i64 x, .int .i64 y, .pointer (some ⟨rb, 0, none⟩), .pointer (some ⟨d1, 0, none⟩), .pointer (some ⟨d2, 0, none⟩)] w fun e w2 => e = .returned (.int .i64 (twoG 4 (px W ps x y) (px W qs x y))) ∧ Below w.heap.size w w2 := by
  have hr' : w.cell? ⟨rb, 0, none⟩ = some (.func (.func 138) #[] #[]) := hr
  have k1 := hO1.cd
  have k2 := hO2.cd
  have hp := hO1.fn.px_bd x y hx hy
  have hq := hO2.fn.px_bd x y hx hy
  have n1 := fun nq => numbers_same (w := w.drewN nq) (hO1.below (below_drewN (Below.refl _ _) nq)).bx (hO1.below (below_drewN (Below.refl _ _) nq)).fn x y hx hy
  have n2 := fun nq => numbers_same (w := w.drewN nq) (hO2.below (below_drewN (Below.refl _ _) nq)).bx (hO2.below (below_drewN (Below.refl _ _) nq)).fn x y hx hy
  clear hr hO1 hO2
  go_enter Tryz.func111, Tryz.ntmps111
  go_wp2
  go_quiet ((first | (go_at_call 142; with_reducible exact Calls.quiet_of_same (n1 _)) | (go_at_call 142; with_reducible exact Calls.quiet_of_same (n2 _)) | (go_at_call 138; with_reducible exact Calls.quiet_of_same (two4 _ _ _ hp hq))))
  go_wp2
  go_ret
  exact ⟨rfl, below_drewN (Below.refl _ _) _⟩
theorem two1_call5 {w : World} {rb d1 d2 c1 c2 b1 off1 cap1 b2 off2 cap2 W H : Nat} {ps qs : List Int} (hO1 : Old w d1 c1 b1 off1 cap1 W H ps) (hO2 : Old w d2 c2 b2 off2 cap2 W H qs)
    (hr : w.cell? ⟨rb, 0, none⟩ = some (.func (.func (twoF 5)) #[] #[])) (x y : Nat) (hx : x < W) (hy : y < H) :
    Calls Tryz.prog 111 #[.int .i64 x, .int .i64 y, .pointer (some ⟨rb, 0, none⟩), .pointer (some ⟨d1, 0, none⟩), .pointer (some ⟨d2, 0, none⟩)] w fun e w2 => e = .returned (.int .i64 (twoG 5 (px W ps x y) (px W qs x y))) ∧ Below w.heap.size w w2 := by
  have hr' : w.cell? ⟨rb, 0, none⟩ = some (.func (.func 139) #[] #[]) := hr
  have k1 := hO1.cd
  have k2 := hO2.cd
  have hp := hO1.fn.px_bd x y hx hy
  have hq := hO2.fn.px_bd x y hx hy
  have n1 := fun nq => numbers_same (w := w.drewN nq) (hO1.below (below_drewN (Below.refl _ _) nq)).bx (hO1.below (below_drewN (Below.refl _ _) nq)).fn x y hx hy
  have n2 := fun nq => numbers_same (w := w.drewN nq) (hO2.below (below_drewN (Below.refl _ _) nq)).bx (hO2.below (below_drewN (Below.refl _ _) nq)).fn x y hx hy
  clear hr hO1 hO2
  go_enter Tryz.func111, Tryz.ntmps111
  go_wp2
  go_quiet ((first | (go_at_call 142; with_reducible exact Calls.quiet_of_same (n1 _)) | (go_at_call 142; with_reducible exact Calls.quiet_of_same (n2 _)) | (go_at_call 139; with_reducible exact Calls.quiet_of_same (two5 _ _ _ hp hq))))
  go_wp2
  go_ret
  exact ⟨rfl, below_drewN (Below.refl _ _) _⟩
theorem two1_call6 {w : World} {rb d1 d2 c1 c2 b1 off1 cap1 b2 off2 cap2 W H : Nat} {ps qs : List Int} (hO1 : Old w d1 c1 b1 off1 cap1 W H ps) (hO2 : Old w d2 c2 b2 off2 cap2 W H qs)
    (hr : w.cell? ⟨rb, 0, none⟩ = some (.func (.func (twoF 6)) #[] #[])) (x y : Nat) (hx : x < W) (hy : y < H) :
    Calls Tryz.prog 111 #[.int .i64 x, .int .i64 y, .pointer (some ⟨rb, 0, none⟩), .pointer (some ⟨d1, 0, none⟩), .pointer (some ⟨d2, 0, none⟩)] w fun e w2 => e = .returned (.int .i64 (twoG 6 (px W ps x y) (px W qs x y))) ∧ Below w.heap.size w w2 := by
  have hr' : w.cell? ⟨rb, 0, none⟩ = some (.func (.func 140) #[] #[]) := hr
  have k1 := hO1.cd
  have k2 := hO2.cd
  have hp := hO1.fn.px_bd x y hx hy
  have hq := hO2.fn.px_bd x y hx hy
  have n1 := fun nq => numbers_same (w := w.drewN nq) (hO1.below (below_drewN (Below.refl _ _) nq)).bx (hO1.below (below_drewN (Below.refl _ _) nq)).fn x y hx hy
  have n2 := fun nq => numbers_same (w := w.drewN nq) (hO2.below (below_drewN (Below.refl _ _) nq)).bx (hO2.below (below_drewN (Below.refl _ _) nq)).fn x y hx hy
  clear hr hO1 hO2
  go_enter Tryz.func111, Tryz.ntmps111
  go_wp2
  go_quiet ((first | (go_at_call 142; with_reducible exact Calls.quiet_of_same (n1 _)) | (go_at_call 142; with_reducible exact Calls.quiet_of_same (n2 _)) | (go_at_call 140; with_reducible exact Calls.quiet_of_same (two6 _ _ _ hp hq))))
  go_wp2
  go_ret
  exact ⟨rfl, below_drewN (Below.refl _ _) _⟩
theorem two1_call7 {w : World} {rb d1 d2 c1 c2 b1 off1 cap1 b2 off2 cap2 W H : Nat} {ps qs : List Int} (hO1 : Old w d1 c1 b1 off1 cap1 W H ps) (hO2 : Old w d2 c2 b2 off2 cap2 W H qs)
    (hr : w.cell? ⟨rb, 0, none⟩ = some (.func (.func (twoF 7)) #[] #[])) (x y : Nat) (hx : x < W) (hy : y < H) :
    Calls Tryz.prog 111 #[.int .i64 x, .int .i64 y, .pointer (some ⟨rb, 0, none⟩), .pointer (some ⟨d1, 0, none⟩), .pointer (some ⟨d2, 0, none⟩)] w fun e w2 => e = .returned (.int .i64 (twoG 7 (px W ps x y) (px W qs x y))) ∧ Below w.heap.size w w2 := by
  have hr' : w.cell? ⟨rb, 0, none⟩ = some (.func (.func 141) #[] #[]) := hr
  have k1 := hO1.cd
  have k2 := hO2.cd
  have n1 := fun nq => numbers_same (w := w.drewN nq) (hO1.below (below_drewN (Below.refl _ _) nq)).bx (hO1.below (below_drewN (Below.refl _ _) nq)).fn x y hx hy
  have n2 := fun nq => numbers_same (w := w.drewN nq) (hO2.below (below_drewN (Below.refl _ _) nq)).bx (hO2.below (below_drewN (Below.refl _ _) nq)).fn x y hx hy
  clear hr hO1 hO2
  go_enter Tryz.func111, Tryz.ntmps111
  go_wp2
  go_quiet ((first | (go_at_call 142; with_reducible exact Calls.quiet_of_same (n1 _)) | (go_at_call 142; with_reducible exact Calls.quiet_of_same (n2 _)) | (go_at_call 141; with_reducible exact Calls.quiet_of_same (two7 _ _ _))))
  go_wp2
  go_ret
  exact ⟨rfl, below_drewN (Below.refl _ _) _⟩
theorem two1_tells {w : World} {op : Int} {rb d1 d2 c1 c2 b1 off1 cap1 b2 off2 cap2 W H : Nat} {ps qs : List Int} (hop : op = 4 ∨ op = 5 ∨ op = 6 ∨ op = 7) (hO1 : Old w d1 c1 b1 off1 cap1 W H ps) (hO2 : Old w d2 c2 b2 off2 cap2 W H qs)
    (hl : rb < w.heap.size) (hr : w.cell? ⟨rb, 0, none⟩ = some (.func (.func (twoF op)) #[] #[])) :
    Tells w 111 #[.pointer (some ⟨rb, 0, none⟩), .pointer (some ⟨d1, 0, none⟩), .pointer (some ⟨d2, 0, none⟩)] W H (fun x y => twoG op (px W ps x y) (px W qs x y)) := by
  refine ⟨two1_enters, fun x y w1 hx hy hbel => ?_⟩
  have hr1 := (hbel.cell (p := ⟨rb, 0, none⟩) hl).trans hr
  rcases hop with rfl | rfl | rfl | rfl
  · exact two1_call4 (hO1.below hbel) (hO2.below hbel) hr1 x y hx hy
  · exact two1_call5 (hO1.below hbel) (hO2.below hbel) hr1 x y hx hy
  · exact two1_call6 (hO1.below hbel) (hO2.below hbel) hr1 x y hx hy
  · exact two1_call7 (hO1.below hbel) (hO2.below hbel) hr1 x y hx hy
end Go.Proofs.YtihliofhhjjeaaaGreat
namespace Go.Proofs.YtihliofhhjjeaaaGreat
open Go.RowKit Im
theorem find_yes {op : Int} (hop : op = 4 ∨ op = 5 ∨ op = 6 ∨ op = 7) (wx : World) :
    (Instr.lookup 171 (.map (some wx.heap.size)) (.int .i64 op) true).run Tryz.prog (wx.alloc (.map twoEntries 4)) = .ok (.tuple #[.func (.func (twoF op)) #[] #[], .bool true]) (wx.alloc (.map twoEntries 4)) := by
  have hb := (MapKept.heap_alloc wx (.map twoEntries 4)).1
  rcases hop with rfl | rfl | rfl | rfl
  · exact run_find _ _ 4 (some (0, _)) hb rfl
  · exact run_find _ _ 5 (some (1, _)) hb rfl
  · exact run_find _ _ 6 (some (2, _)) hb rfl
  · exact run_find _ _ 7 (some (3, _)) hb rfl
theorem find_no {op : Int} (h4 : ¬ op = 4) (h5 : ¬ op = 5) (h6 : ¬ op = 6) (h7 : ¬ op = 7) (wx : World) :
    (Instr.lookup 171 (.map (some wx.heap.size)) (.int .i64 op) true).run Tryz.prog (wx.alloc (.map twoEntries 4)) = .ok (.tuple #[.nilFunc, .bool false]) (wx.alloc (.map twoEntries 4)) := by
  have hb := (MapKept.heap_alloc wx (.map twoEntries 4)).1
  refine run_find _ _ op none hb ?_
  have g4 : (op == 4) = false := by simpa using h4
  have g5 : (op == 5) = false := by simpa using h5
  have g6 : (op == 6) = false := by simpa using h6
  have g7 : (op == 7) = false := by simpa using h7
  simp [Instr.findNow, Instr.sameNow, twoEntries, g4, g5, g6, g7]
theorem two_B (w : World) (o o' o'' : Obj) : Below w.heap.size w (((w.alloc o).alloc o').alloc o'') := (((Below.refl _ _).alloc (Nat.le_refl _) _).alloc (by simp) _).alloc (by simp; omega) _
theorem two_form {W H W' H' : Int} {a a' : Option Addr} {len len' : Nat} (op : Int) (cap cap' : Nat) {ps qs : List Int} {w : World} (h : Ints 0 w a len ps) (h' : Ints 0 w a' len' qs) (hf : (fineB W H ps && fineB W' H' qs) = false) :
    Calls Tryz.prog 70 #[.int .i64 op, .agg #[.int .i64 W, .int .i64 H, .slice a len cap], .agg #[.int .i64 W', .int .i64 H', .slice a' len' cap']] w fun e w' => e = .returned (.tuple #[noImage, .int .i64 1]) ∧ Below w.heap.size w w' := by
  have hB := two_B w
  have h1 := h.below (Nat.le_refl _) (hB (.cells #[.int .i64 W, .int .i64 H, .slice a len cap] 31) (.cells #[.int .i64 W', .int .i64 H', .slice a' len' cap'] 31) (.cells #[.int .i64 0, .int .i64 0, .slice none 0 0] 31))
  have h2 := h'.below (Nat.le_refl _) (hB (.cells #[.int .i64 W, .int .i64 H, .slice a len cap] 31) (.cells #[.int .i64 W', .int .i64 H', .slice a' len' cap'] 31) (.cells #[.int .i64 0, .int .i64 0, .slice none 0 0] 31))
  by_cases hfa : fineB W H ps = true
  · have hfb : fineB W' H' qs = false := by rw [hfa] at hf; simpa using hf
    clear hf
    go_enter Tryz.func70, Tryz.ntmps70
    go_wp2_with (first
      | (go_at_call 19; with_reducible refine (check_fine cap h1 hfa).mono ?_; rintro e wA ⟨rfl, hbA⟩; obtain ⟨cA, fA⟩ := bcell hbA; have sA : w.heap.size + 1 + 1 < wA.heap.size := by have := hbA.size; simp at this; omega)
      | (go_at_call 19; with_reducible refine (check_not cap' (h2.below (Nat.le_refl _) hbA) hfb).mono ?_; rintro e wB ⟨rfl, hbB⟩; have hbB' := hbA.trans (hbB.mono hbA.size); obtain ⟨cB, fB⟩ := bcell hbB'; have sB : w.heap.size + 1 + 1 < wB.heap.size := by have := hbB.size; omega))
    refine bodyPost_ret (v := .tuple #[noImage, .int .i64 1]) (by simp [results, Tryz.results70, go_sem, cB]) rfl ⟨rfl, ?_⟩
    exact ((((hB _ _ _).trans (hbB'.mono (by simp; omega))).setCell (by simp; omega) _).setCell (by simp; omega) _).setCell (by simp; omega) _
  · have hfa' : fineB W H ps = false := by simpa using hfa
    clear hf
    go_enter Tryz.func70, Tryz.ntmps70
    go_wp2_with (go_at_call 19; refine (check_not cap h1 hfa').mono ?_; rintro e wA ⟨rfl, hbA⟩; obtain ⟨cA, fA⟩ := bcell hbA; have sA : w.heap.size + 1 + 1 < wA.heap.size := by have := hbA.size; simp at this; omega)
    refine bodyPost_ret (v := .tuple #[noImage, .int .i64 1]) (by simp [results, Tryz.results70, go_sem, cA]) rfl ⟨rfl, ?_⟩
    exact ((((hB _ _ _).trans (hbA.mono (by simp; omega))).setCell (by simp; omega) _).setCell (by simp; omega) _).setCell (by simp; omega) _
theorem two_kind {W H b off W' H' b' off' : Nat} {op : Int} (cap cap' : Nat) {ps qs : List Int} {w : World} (hF : Fine w b off W H ps) (hG : Fine w b' off' W' H' qs) (h4 : ¬ op = 4) (h5 : ¬ op = 5) (h6 : ¬ op = 6) (h7 : ¬ op = 7) :
    Calls Tryz.prog 70 #[.int .i64 op, .agg #[.int .i64 W, .int .i64 H, .slice (some ⟨b, off, none⟩) (W * H) cap], .agg #[.int .i64 W', .int .i64 H', .slice (some ⟨b', off', none⟩) (W' * H') cap']] w fun e w' => e = .returned (.tuple #[noImage, .int .i64 4]) ∧ Below w.heap.size w w' := by
  have hB := two_B w
  have hF1 := hF.below (hB (.cells #[.int .i64 W, .int .i64 H, .slice (some ⟨b, off, none⟩) (W * H) cap] 31) (.cells #[.int .i64 W', .int .i64 H', .slice (some ⟨b', off', none⟩) (W' * H') cap'] 31) (.cells #[.int .i64 0, .int .i64 0, .slice none 0 0] 31))
  have hG1 := hG.below (hB (.cells #[.int .i64 W, .int .i64 H, .slice (some ⟨b, off, none⟩) (W * H) cap] 31) (.cells #[.int .i64 W', .int .i64 H', .slice (some ⟨b', off', none⟩) (W' * H') cap'] 31) (.cells #[.int .i64 0, .int .i64 0, .slice none 0 0] 31))
  have hfind := find_no h4 h5 h6 h7
  clear h4 h5 h6 h7
  go_enter Tryz.func70, Tryz.ntmps70
  go_wp2_with (first
      | (go_at_call 19; with_reducible refine (check_fine cap hF1.ints hF1.fineB).mono ?_; rintro e wA ⟨rfl, hbA⟩; obtain ⟨cA, fA⟩ := bcell hbA; have sA : w.heap.size + 1 + 1 < wA.heap.size := by have := hbA.size; simp at this; omega)
      | (go_at_call 19; with_reducible refine (check_fine cap' (hG1.below hbA).ints (hG1.below hbA).fineB).mono ?_; rintro e wB ⟨rfl, hbB⟩; have hbB' := hbA.trans (hbB.mono hbA.size); clear cA fA; obtain ⟨cB, fB⟩ := bcell hbB'; have sB : w.heap.size + 1 + 1 < wB.heap.size := by have := hbB.size; omega)
      | (go_at_call 109; refine (rules_any _).mono ?_; rintro e wC ⟨rfl, hC⟩; have hfd := hfind wB; rw [← hC] at hfd; have hbC' := hbB'.alloc hbB'.size (.map twoEntries 4); rw [← hC] at hbC'; have sC : w.heap.size + 1 + 1 < wC.heap.size := (by rw [hC]; simp; omega); have sC1 : w.heap.size + 1 < wC.heap.size := (by omega); have sC0 : w.heap.size < wC.heap.size := (by omega); clear hC cB fB; obtain ⟨cC, fC⟩ := bcell hbC'))
  refine bodyPost_ret (v := .tuple #[noImage, .int .i64 4]) (by simp [results, Tryz.results70, go_sem, cC, sC]) rfl ⟨rfl, ?_⟩
  exact ((((((hB _ _ _).trans (hbC'.mono (by simp; omega))).setCell (p := ⟨w.heap.size + 1 + 1, 0, none⟩) (by simp; omega) _).setCell (p := ⟨w.heap.size + 1 + 1, 1, none⟩) (by simp; omega) _).setCell (p := ⟨w.heap.size + 1 + 1, 2, none⟩) (by simp; omega) _).alloc (by simp [World.setCell]; omega) _)
theorem two_size {W H b off W' H' b' off' : Nat} {op : Int} (cap cap' : Nat) {ps qs : List Int} {w : World} (hF : Fine w b off W H ps) (hG : Fine w b' off' W' H' qs) (hop : op = 4 ∨ op = 5 ∨ op = 6 ∨ op = 7) (hne : ¬ (W = W' ∧ H = H')) :
    Calls Tryz.prog 70 #[.int .i64 op, .agg #[.int .i64 W, .int .i64 H, .slice (some ⟨b, off, none⟩) (W * H) cap], .agg #[.int .i64 W', .int .i64 H', .slice (some ⟨b', off', none⟩) (W' * H') cap']] w fun e w' => e = .returned (.tuple #[noImage, .int .i64 6]) ∧ Below w.heap.size w w' := by
  have hB := two_B w
  have hF1 := hF.below (hB (.cells #[.int .i64 W, .int .i64 H, .slice (some ⟨b, off, none⟩) (W * H) cap] 31) (.cells #[.int .i64 W', .int .i64 H', .slice (some ⟨b', off', none⟩) (W' * H') cap'] 31) (.cells #[.int .i64 0, .int .i64 0, .slice none 0 0] 31))
  have hG1 := hG.below (hB (.cells #[.int .i64 W, .int .i64 H, .slice (some ⟨b, off, none⟩) (W * H) cap] 31) (.cells #[.int .i64 W', .int .i64 H', .slice (some ⟨b', off', none⟩) (W' * H') cap'] 31) (.cells #[.int .i64 0, .int .i64 0, .slice none 0 0] 31))
  have hfind := find_yes hop
  generalize twoF op = fn at hfind
  clear hop
  by_cases hw : W = W'
  · have g1 : ((W : Int) != (W' : Int)) = false := by simp [hw]
    have g2 : ((H : Int) != (H' : Int)) = true := by simp; omega
    clear hw hne
    go_enter Tryz.func70, Tryz.ntmps70
    go_wp2_with (first
        | (go_at_call 19; with_reducible refine (check_fine cap hF1.ints hF1.fineB).mono ?_; rintro e wA ⟨rfl, hbA⟩; obtain ⟨cA, fA⟩ := bcell hbA; have sA : w.heap.size + 1 + 1 < wA.heap.size := by have := hbA.size; simp at this; omega)
        | (go_at_call 19; with_reducible refine (check_fine cap' (hG1.below hbA).ints (hG1.below hbA).fineB).mono ?_; rintro e wB ⟨rfl, hbB⟩; have hbB' := hbA.trans (hbB.mono hbA.size); clear cA fA; obtain ⟨cB, fB⟩ := bcell hbB'; have sB : w.heap.size + 1 + 1 < wB.heap.size := by have := hbB.size; omega)
        | (go_at_call 109; refine (rules_any _).mono ?_; rintro e wC ⟨rfl, hC⟩; have hfd := hfind wB; rw [← hC] at hfd; have hbC' := hbB'.alloc hbB'.size (.map twoEntries 4); rw [← hC] at hbC'; have sC : w.heap.size + 1 + 1 < wC.heap.size := (by rw [hC]; simp; omega); have sC1 : w.heap.size + 1 < wC.heap.size := (by omega); have sC0 : w.heap.size < wC.heap.size := (by omega); clear hC cB fB; obtain ⟨cC, fC⟩ := bcell hbC'))
    refine bodyPost_ret (v := .tuple #[noImage, .int .i64 6]) (by simp [results, Tryz.results70, go_sem, cC, sC]) rfl ⟨rfl, ?_⟩
    exact ((((((hB _ _ _).trans (hbC'.mono (by simp; omega))).setCell (p := ⟨w.heap.size + 1 + 1, 0, none⟩) (by simp; omega) _).setCell (p := ⟨w.heap.size + 1 + 1, 1, none⟩) (by simp; omega) _).setCell (p := ⟨w.heap.size + 1 + 1, 2, none⟩) (by simp; omega) _).alloc (by simp [World.setCell]; omega) _)
  · have g1 : ((W : Int) != (W' : Int)) = true := by simp; omega
    clear hw hne
    go_enter Tryz.func70, Tryz.ntmps70
    go_wp2_with (first
        | (go_at_call 19; with_reducible refine (check_fine cap hF1.ints hF1.fineB).mono ?_; rintro e wA ⟨rfl, hbA⟩; obtain ⟨cA, fA⟩ := bcell hbA; have sA : w.heap.size + 1 + 1 < wA.heap.size := by have := hbA.size; simp at this; omega)
        | (go_at_call 19; with_reducible refine (check_fine cap' (hG1.below hbA).ints (hG1.below hbA).fineB).mono ?_; rintro e wB ⟨rfl, hbB⟩; have hbB' := hbA.trans (hbB.mono hbA.size); clear cA fA; obtain ⟨cB, fB⟩ := bcell hbB'; have sB : w.heap.size + 1 + 1 < wB.heap.size := by have := hbB.size; omega)
        | (go_at_call 109; refine (rules_any _).mono ?_; rintro e wC ⟨rfl, hC⟩; have hfd := hfind wB; rw [← hC] at hfd; have hbC' := hbB'.alloc hbB'.size (.map twoEntries 4); rw [← hC] at hbC'; have sC : w.heap.size + 1 + 1 < wC.heap.size := (by rw [hC]; simp; omega); have sC1 : w.heap.size + 1 < wC.heap.size := (by omega); have sC0 : w.heap.size < wC.heap.size := (by omega); clear hC cB fB; obtain ⟨cC, fC⟩ := bcell hbC'))
    refine bodyPost_ret (v := .tuple #[noImage, .int .i64 6]) (by simp [results, Tryz.results70, go_sem, cC, sC]) rfl ⟨rfl, ?_⟩
    exact ((((((hB _ _ _).trans (hbC'.mono (by simp; omega))).setCell (p := ⟨w.heap.size + 1 + 1, 0, none⟩) (by simp; omega) _).setCell (p := ⟨w.heap.size + 1 + 1, 1, none⟩) (by simp; omega) _).setCell (p := ⟨w.heap.size + 1 + 1, 2, none⟩) (by simp; omega) _).alloc (by simp [World.setCell]; omega) _)
end Go.Proofs.YtihliofhhjjeaaaGreat
namespace Go.Proofs.YtihliofhhjjeaaaGreat
open Go.RowKit Im
theorem met_of {wC : World} {o0 : Obj} (wx : World) (d1 d2 c1 c2 : Nat) {W H b off cap b' off' cap' : Nat} {ps qs : List Int} (hF : Fine wC b off W H ps) (hG : Fine wC b' off' W H qs)
    (h1 : wx.cell? ⟨d1, 0, none⟩ = some (.func (.func 142) #[] #[.pointer (some ⟨c1, 0, none⟩)])) (h2 : wx.cell? ⟨d2, 0, none⟩ = some (.func (.func 142) #[] #[.pointer (some ⟨c2, 0, none⟩)]))
    (a0 : wx.cell? ⟨c1, 0, none⟩ = some (.int .i64 W)) (a1 : wx.cell? ⟨c1, 1, none⟩ = some (.int .i64 H)) (a2 : wx.cell? ⟨c1, 2, none⟩ = some (.slice (some ⟨b, off, none⟩) (W * H) cap))
    (e0 : wx.cell? ⟨c2, 0, none⟩ = some (.int .i64 W)) (e1 : wx.cell? ⟨c2, 1, none⟩ = some (.int .i64 H)) (e2 : wx.cell? ⟨c2, 2, none⟩ = some (.slice (some ⟨b', off', none⟩) (W * H) cap'))
    (l1 : d1 < wx.heap.size) (l2 : d2 < wx.heap.size) (l3 : c1 < wx.heap.size) (l4 : c2 < wx.heap.size) (hb : Below (wC.heap.size + 1) (wC.alloc o0) wx) :
    ∃ x1 x2 y1 y2, Value.pointer (some ⟨d1, 0, none⟩) = .pointer (some ⟨x1, 0, none⟩) ∧ Value.pointer (some ⟨d2, 0, none⟩) = .pointer (some ⟨x2, 0, none⟩) ∧ Old wx x1 y1 b off cap W H ps ∧ Old wx x2 y2 b' off' cap' W H qs ∧ Below (wC.heap.size + 1) (wC.alloc o0) wx := by
  have hb' : Below wC.heap.size wC wx := ((Below.refl _ _).alloc (Nat.le_refl _) o0).trans (hb.mono (by omega))
  exact ⟨d1, d2, c1, c2, rfl, rfl, ⟨l1, h1, ⟨l3, a0, a1, a2⟩, hF.below hb'⟩, ⟨l2, h2, ⟨l4, e0, e1, e2⟩, hG.below hb'⟩, hb⟩
set_option maxHeartbeats 1000000 in
theorem two_ok {W H b off b' off' : Nat} {op : Int} (cap cap' : Nat) {ps qs : List Int} {w : World} (hF : Fine w b off W H ps) (hG : Fine w b' off' W H qs) (hop : op = 4 ∨ op = 5 ∨ op = 6 ∨ op = 7) :
    Calls Tryz.prog 70 #[.int .i64 op, .agg #[.int .i64 W, .int .i64 H, .slice (some ⟨b, off, none⟩) (W * H) cap], .agg #[.int .i64 W, .int .i64 H, .slice (some ⟨b', off', none⟩) (W * H) cap']] w fun e w' =>
      ∃ a cap', e = .returned (.tuple #[.agg #[.int .i64 W, .int .i64 H, .slice a (W * H) cap'], .int .i64 0]) ∧ Ints w.heap.size w' a (W * H) (pix W (fun x y => twoG op (px W ps x y) (px W qs x y)) (W * H)) ∧ Below w.heap.size w w' := by
  have hB := two_B w
  have hF1 := hF.below (hB (.cells #[.int .i64 W, .int .i64 H, .slice (some ⟨b, off, none⟩) (W * H) cap] 31) (.cells #[.int .i64 W, .int .i64 H, .slice (some ⟨b', off', none⟩) (W * H) cap'] 31) (.cells #[.int .i64 0, .int .i64 0, .slice none 0 0] 31))
  have hG1 := hG.below (hB (.cells #[.int .i64 W, .int .i64 H, .slice (some ⟨b, off, none⟩) (W * H) cap] 31) (.cells #[.int .i64 W, .int .i64 H, .slice (some ⟨b', off', none⟩) (W * H) cap'] 31) (.cells #[.int .i64 0, .int .i64 0, .slice none 0 0] 31))
  have hfind := find_yes hop
  go_enter Tryz.func70, Tryz.ntmps70
  go_wp2_with (first
      | (go_at_call 19; with_reducible refine (check_fine cap hF1.ints hF1.fineB).mono ?_; rintro e wA ⟨rfl, hbA⟩; obtain ⟨cA, fA⟩ := bcell hbA; have sA : w.heap.size + 1 + 1 < wA.heap.size := by have := hbA.size; simp at this; omega)
      | (go_at_call 19; with_reducible refine (check_fine cap' (hG1.below hbA).ints (hG1.below hbA).fineB).mono ?_; rintro e wB ⟨rfl, hbB⟩; have hbB' := hbA.trans (hbB.mono hbA.size); clear cA fA; obtain ⟨cB, fB⟩ := bcell hbB'; have sB : w.heap.size + 1 + 1 < wB.heap.size := by have := hbB.size; omega)
      | (go_at_call 109; refine (rules_any _).mono ?_; rintro e wC ⟨rfl, hC⟩; have hfd := hfind wB; rw [← hC] at hfd; have hbC' := hbB'.alloc hbB'.size (.map twoEntries 4); rw [← hC] at hbC'; have sC : w.heap.size + 1 + 1 < wC.heap.size := (by rw [hC]; simp; omega); have sC1 : w.heap.size + 1 < wC.heap.size := (by omega); have sC0 : w.heap.size < wC.heap.size := (by omega); clear hC cB fB; obtain ⟨cC, fC⟩ := bcell hbC'))
  have e0 : wC.cell? ⟨w.heap.size, 0, none⟩ = some (.int .i64 W) := by rw [cC _ _ (by simp; omega)]; simp [go_sem]
  have e1 : wC.cell? ⟨w.heap.size, 1, none⟩ = some (.int .i64 H) := by rw [cC _ _ (by simp; omega)]; simp [go_sem]
  have e2 : wC.cell? ⟨w.heap.size, 2, none⟩ = some (.slice (some ⟨b, off, none⟩) (W * H) cap) := by rw [cC _ _ (by simp; omega)]; simp [go_sem]
  have g0 : wC.cell? ⟨w.heap.size + 1, 0, none⟩ = some (.int .i64 W) := by rw [cC _ _ (by simp)]; simp [go_sem]
  have g1 : wC.cell? ⟨w.heap.size + 1, 1, none⟩ = some (.int .i64 H) := by rw [cC _ _ (by simp)]; simp [go_sem]
  have g2 : wC.cell? ⟨w.heap.size + 1, 2, none⟩ = some (.slice (some ⟨b', off', none⟩) (W * H) cap') := by rw [cC _ _ (by simp)]; simp [go_sem]
  go_cut [10, 11] from 43 (fun p q wc => ∃ d1 d2 c1 c2, p = .pointer (some ⟨d1, 0, none⟩) ∧ q = .pointer (some ⟨d2, 0, none⟩) ∧ Old wc d1 c1 b off cap W H ps ∧ Old wc d2 c2 b' off' cap' W H qs ∧ Below (wC.heap.size + 1) (wC.alloc (.cells #[.func (.func (twoF op)) #[] #[]] 105)) wc)
  case rest =>
    obtain ⟨d1, d2, c1, c2, rfl, rfl, hO1, hO2, hbx⟩ := hcut
    have r1 : Below wC.heap.size wC wc := ((Below.refl _ _).alloc (Nat.le_refl _) _).trans (hbx.mono (by omega))
    have sX : wC.heap.size < wc.heap.size := by have := hbx.size; simp at this; omega
    have hr : wc.cell? ⟨wC.heap.size, 0, none⟩ = some (.func (.func (twoF op)) #[] #[]) := by rw [hbx.cell (by simp)]; simp [go_sem]
    have hT := two1_tells hop hO1 hO2 sX hr
    have hbX := hbC'.trans (r1.mono hbC'.size)
    clear hr hO1 hO2 cC fC hfd hfind e0 e1 e2 g0 g1 g2 hbx r1
    obtain ⟨cX, fX⟩ := bcell hbX
    have sX2 : w.heap.size + 1 + 1 < wc.heap.size := by omega
    go_wp2_with (go_at_call 106; refine (draw_any _ _ _ _ _ _ hF.hW hF.hH hT).mono ?_; rintro e wE ⟨a, cap2, rfl, hints, hbE⟩; have hbE' := hbX.trans (hbE.mono hbX.size); obtain ⟨cE, fE⟩ := bcell hbE'; have sE : w.heap.size + 1 + 1 < wE.heap.size := by have := hbE.size; omega)
    refine bodyPost_ret (v := .tuple #[.agg #[.int .i64 W, .int .i64 H, .slice a (W * H) cap2], .int .i64 0]) (by simp [results, Tryz.results70, go_sem, cE]) rfl ⟨a, cap2, rfl, ?_, ?_⟩
    · exact (((hints.setCell (p := ⟨w.heap.size + 1 + 1, 0, none⟩) sX2 _).setCell (p := ⟨w.heap.size + 1 + 1, 1, none⟩) sX2 _).setCell (p := ⟨w.heap.size + 1 + 1, 2, none⟩) sX2 _).mono (by omega)
    · exact ((((hB _ _ _).trans (hbE'.mono (by simp; omega))).setCell (p := ⟨w.heap.size + 1 + 1, 0, none⟩) (by simp; omega) _).setCell (p := ⟨w.heap.size + 1 + 1, 1, none⟩) (by simp; omega) _).setCell (p := ⟨w.heap.size + 1 + 1, 2, none⟩) (by simp; omega) _
  case first =>
    have hFC := hF1.below hbC'
    have hGC := hG1.below hbC'
    clear cC fC hfd hfind
    have n1 : w.heap.size < wC.heap.size + 1 := by omega
    have n2 : w.heap.size < wC.heap.size + 1 + 1 := by omega
    have n3 : w.heap.size < wC.heap.size + 1 + 1 + 1 := by omega
    have n4 : w.heap.size < wC.heap.size + 1 + 1 + 1 + 1 := by omega
    have n5 : w.heap.size < wC.heap.size + 1 + 1 + 1 + 1 + 1 := by omega
    go_region_held3 (fun w' => w'.cell? ⟨w.heap.size, 0, none⟩ = some (.int .i64 W) ∧ w'.cell? ⟨w.heap.size, 1, none⟩ = some (.int .i64 H) ∧ w'.cell? ⟨w.heap.size, 2, none⟩ = some (.slice (some ⟨b, off, none⟩) (W * H) cap) ∧ w'.cell? ⟨w.heap.size + 1, 0, none⟩ = some (.int .i64 W) ∧ w'.cell? ⟨w.heap.size + 1, 1, none⟩ = some (.int .i64 H) ∧ w'.cell? ⟨w.heap.size + 1, 2, none⟩ = some (.slice (some ⟨b', off', none⟩) (W * H) cap') ∧ w.heap.size + 1 < w'.heap.size ∧ w.heap.size < w'.heap.size)
      (simp [*, go_sem, World.cell?_alloc_past])
      (first | (go_at_call 110; refine (numbersOf_any _ _ _ _ _ _).mono ?_; rintro e w' ⟨rfl, hw'⟩; subst hw'))
    all_goals go_wp2
    all_goals
      go_meet
      case rel =>
        first
          | (refine met_of _ _ _ (wC.heap.size + 1) (wC.heap.size + 1 + 1) hFC hGC ?_ ?_ ?_ ?_ ?_ ?_ ?_ ?_ ?_ ?_ ?_ ?_ ?_; all_goals (first | (simp [go_sem]; done) | (repeat (first | exact Below.refl _ _ | apply Below.drew | (refine Below.alloc ?_ (by simp <;> omega) _)))); done)
          | (refine met_of _ _ _ (wC.heap.size + 1) (wC.heap.size + 1 + 1 + 1) hFC hGC ?_ ?_ ?_ ?_ ?_ ?_ ?_ ?_ ?_ ?_ ?_ ?_ ?_; all_goals (first | (simp [go_sem]; done) | (repeat (first | exact Below.refl _ _ | apply Below.drew | (refine Below.alloc ?_ (by simp <;> omega) _)))); done)
          | (refine met_of _ _ _ (wC.heap.size + 1) (wC.heap.size + 1 + 1 + 1 + 1) hFC hGC ?_ ?_ ?_ ?_ ?_ ?_ ?_ ?_ ?_ ?_ ?_ ?_ ?_; all_goals (first | (simp [go_sem]; done) | (repeat (first | exact Below.refl _ _ | apply Below.drew | (refine Below.alloc ?_ (by simp <;> omega) _)))); done)
          | (refine met_of _ _ _ (wC.heap.size + 1 + 1) (wC.heap.size + 1 + 1 + 1) hFC hGC ?_ ?_ ?_ ?_ ?_ ?_ ?_ ?_ ?_ ?_ ?_ ?_ ?_; all_goals (first | (simp [go_sem]; done) | (repeat (first | exact Below.refl _ _ | apply Below.drew | (refine Below.alloc ?_ (by simp <;> omega) _)))); done)
          | (refine met_of _ _ _ (wC.heap.size + 1 + 1) (wC.heap.size + 1 + 1 + 1 + 1) hFC hGC ?_ ?_ ?_ ?_ ?_ ?_ ?_ ?_ ?_ ?_ ?_ ?_ ?_; all_goals (first | (simp [go_sem]; done) | (repeat (first | exact Below.refl _ _ | apply Below.drew | (refine Below.alloc ?_ (by simp <;> omega) _)))); done)
          | (refine met_of _ _ _ (wC.heap.size + 1 + 1 + 1) (wC.heap.size + 1 + 1 + 1 + 1) hFC hGC ?_ ?_ ?_ ?_ ?_ ?_ ?_ ?_ ?_ ?_ ?_ ?_ ?_; all_goals (first | (simp [go_sem]; done) | (repeat (first | exact Below.refl _ _ | apply Below.drew | (refine Below.alloc ?_ (by simp <;> omega) _)))); done)
end Go.Proofs.YtihliofhhjjeaaaGreat
