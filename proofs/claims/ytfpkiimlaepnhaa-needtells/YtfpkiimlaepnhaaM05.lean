/- One, One2, One3: joined, in this order. -/
import Derived.Test.YtfpkiimlaepnhaaM04
import Derived.Laws.EntriesVeiled
/-
  ONE: image.One makes what the document says of one image.
-/
namespace Go.Proofs.Ytfpkiimlaepnhaa
set_option maxRecDepth 100000
open Go.RowKit Im

/-- The error of One, of a right image of W columns and H rows. -/
def oneErr (op : Int) (W H : Nat) (k : Int) : Int :=
  if op = 3 then 0 else if op = 10 then 0 else if op = 8 then okIf (numB k) 3 else if op = 9 then okIf (withinB k (-16) 16) 3
  else if op = 11 then okIf (decide (W % 2 = 0) && decide (H % 2 = 0)) 6 else if op = 12 then okIf (decide (2 * W ≤ 16) && decide (2 * H ≤ 16)) 6 else 4
theorem oneErr_none {op : Int} (W H : Nat) (k : Int) (h3 : ¬ op = 3) (h10 : ¬ op = 10) (h8 : ¬ op = 8) (h9 : ¬ op = 9) (h11 : ¬ op = 11) (h12 : ¬ op = 12) : oneErr op W H k = 4 := by
  simp [oneErr, h3, h10, h8, h9, h11, h12]

theorem unless_any (r : Bool) (E : Int) (w : World) : Calls Try.prog 93 #[.bool r, .int .i64 E] w fun e w' => e = .returned (.int .i64 (okIf r E)) ∧ w = w' := by
  cases r
  all_goals
    go_enter Try.func93, Try.ntmps93
    go_wp2
    go_ret
    exact ⟨rfl, rfl⟩

theorem checkOne_none (op : Int) (W H : Nat) (k : Int) (a : Option Addr) (len cap : Nat) (w : World) (h3 : ¬ op = 3) (h10 : ¬ op = 10) (h8 : ¬ op = 8) (h9 : ¬ op = 9) (h11 : ¬ op = 11) (h12 : ¬ op = 12) :
    Calls Try.prog 63 #[.int .i64 op, .agg #[.int .i64 W, .int .i64 H, .slice a len cap], .int .i64 k] w fun e w' => e = .returned (.int .i64 4) ∧ Below w.heap.size w w' := by
  have g3 : (op == 3) = false := by simpa using h3
  have g10 : (op == 10) = false := by simpa using h10
  have g8 : (op == 8) = false := by simpa using h8
  have g9 : (op == 9) = false := by simpa using h9
  have g11 : (op == 11) = false := by simpa using h11
  have g12 : (op == 12) = false := by simpa using h12
  go_enter Try.func63, Try.ntmps63
  go_wp2
  go_ret
  exact ⟨rfl, (Below.refl _ _).alloc (Nat.le_refl _) _⟩
theorem checkOne_free (op : Int) (W H : Nat) (k : Int) (a : Option Addr) (len cap : Nat) (w : World) (h : op = 3 ∨ op = 10) :
    Calls Try.prog 63 #[.int .i64 op, .agg #[.int .i64 W, .int .i64 H, .slice a len cap], .int .i64 k] w fun e w' => e = .returned (.int .i64 0) ∧ Below w.heap.size w w' := by
  rcases h with rfl | rfl
  all_goals
    go_enter Try.func63, Try.ntmps63
    go_wp2
    go_ret
    exact ⟨rfl, (Below.refl _ _).alloc (Nat.le_refl _) _⟩
theorem checkOne_cut (W H : Nat) (k : Int) (a : Option Addr) (len cap : Nat) (w : World) :
    Calls Try.prog 63 #[.int .i64 8, .agg #[.int .i64 W, .int .i64 H, .slice a len cap], .int .i64 k] w fun e w' => e = .returned (.int .i64 (okIf (numB k) 3)) ∧ Below w.heap.size w w' := by
  go_enter Try.func63, Try.ntmps63
  go_wp2_with (first | (go_at_call 57; refine (isNumber_any _ _).mono ?_; rintro e w' ⟨rfl, rfl⟩) | (go_at_call 93; refine (unless_any _ _ _).mono ?_; rintro e w' ⟨rfl, rfl⟩))
  go_ret
  exact ⟨rfl, (Below.refl _ _).alloc (Nat.le_refl _) _⟩
theorem checkOne_shift (W H : Nat) (k : Int) (a : Option Addr) (len cap : Nat) (w : World) :
    Calls Try.prog 63 #[.int .i64 9, .agg #[.int .i64 W, .int .i64 H, .slice a len cap], .int .i64 k] w fun e w' => e = .returned (.int .i64 (okIf (withinB k (-16) 16) 3)) ∧ Below w.heap.size w w' := by
  by_cases h1 : -16 ≤ k
  · by_cases h2 : k ≤ 16
    · have e : withinB k (-16) 16 = true := by simp [withinB, h1, h2]
      rw [e]; clear e
      go_enter Try.func63, Try.ntmps63
      go_wp2_with (go_at_call 93; refine (unless_any _ _ _).mono ?_; rintro e w' ⟨rfl, rfl⟩)
      go_ret
      exact ⟨rfl, (Below.refl _ _).alloc (Nat.le_refl _) _⟩
    · have e : withinB k (-16) 16 = false := by simp [withinB, h2]
      rw [e]; clear e
      go_enter Try.func63, Try.ntmps63
      go_wp2_with (go_at_call 93; refine (unless_any _ _ _).mono ?_; rintro e w' ⟨rfl, rfl⟩)
      go_ret
      exact ⟨rfl, (Below.refl _ _).alloc (Nat.le_refl _) _⟩
  · have e : withinB k (-16) 16 = false := by simp [withinB, h1]
    rw [e]; clear e
    go_enter Try.func63, Try.ntmps63
    go_wp2_with (go_at_call 93; refine (unless_any _ _ _).mono ?_; rintro e w' ⟨rfl, rfl⟩)
    go_ret
    exact ⟨rfl, (Below.refl _ _).alloc (Nat.le_refl _) _⟩
theorem checkOne_down (W H : Nat) (k : Int) (a : Option Addr) (len cap : Nat) (w : World) (hW : W ≤ 16) (hH : H ≤ 16) :
    Calls Try.prog 63 #[.int .i64 11, .agg #[.int .i64 W, .int .i64 H, .slice a len cap], .int .i64 k] w fun e w' => e = .returned (.int .i64 (okIf (decide (W % 2 = 0) && decide (H % 2 = 0)) 6)) ∧ Below w.heap.size w w' := by
  by_cases h1 : W % 2 = 0
  · have g1 : ((W : Int) % 2 == 0) = true := by simp; omega
    by_cases h2 : H % 2 = 0
    · have g2 : ((H : Int) % 2 == 0) = true := by simp; omega
      have e : (decide (W % 2 = 0) && decide (H % 2 = 0)) = true := by simp [h1, h2]
      rw [e]; clear e
      go_enter Try.func63, Try.ntmps63
      go_wp2_with (go_at_call 93; refine (unless_any _ _ _).mono ?_; rintro e w' ⟨rfl, rfl⟩)
      go_ret
      exact ⟨rfl, (Below.refl _ _).alloc (Nat.le_refl _) _⟩
    · have g2 : ((H : Int) % 2 == 0) = false := by simp; omega
      have e : (decide (W % 2 = 0) && decide (H % 2 = 0)) = false := by simp [h2]
      rw [e]; clear e
      go_enter Try.func63, Try.ntmps63
      go_wp2_with (go_at_call 93; refine (unless_any _ _ _).mono ?_; rintro e w' ⟨rfl, rfl⟩)
      go_ret
      exact ⟨rfl, (Below.refl _ _).alloc (Nat.le_refl _) _⟩
  · have g1 : ((W : Int) % 2 == 0) = false := by simp; omega
    have e : (decide (W % 2 = 0) && decide (H % 2 = 0)) = false := by simp [h1]
    rw [e]; clear e
    go_enter Try.func63, Try.ntmps63
    go_wp2_with (go_at_call 93; refine (unless_any _ _ _).mono ?_; rintro e w' ⟨rfl, rfl⟩)
    go_ret
    exact ⟨rfl, (Below.refl _ _).alloc (Nat.le_refl _) _⟩
theorem side_two (n : Nat) (h : 1 ≤ n) : sideB (2 * (n : Int)) = decide (2 * n ≤ 16) := by
  rw [Bool.eq_iff_iff]; simp [sideB]; omega
theorem checkOne_up (W H : Nat) (k : Int) (a : Option Addr) (len cap : Nat) (w : World) (hW : 1 ≤ W ∧ W ≤ 16) (hH : 1 ≤ H ∧ H ≤ 16) :
    Calls Try.prog 63 #[.int .i64 12, .agg #[.int .i64 W, .int .i64 H, .slice a len cap], .int .i64 k] w fun e w' => e = .returned (.int .i64 (okIf (decide (2 * W ≤ 16) && decide (2 * H ≤ 16)) 6)) ∧ Below w.heap.size w w' := by
  rw [← side_two W hW.1, ← side_two H hH.1]
  by_cases h1 : sideB (2 * (W : Int)) = true
  · rw [h1, Bool.true_and]
    go_enter Try.func63, Try.ntmps63
    go_wp2_with (first | (go_at_call 56; refine (isSide_any _ _).mono ?_; rintro e w' ⟨rfl, rfl⟩) | (go_at_call 93; refine (unless_any _ _ _).mono ?_; rintro e w' ⟨rfl, rfl⟩))
    go_ret
    exact ⟨rfl, (Below.refl _ _).alloc (Nat.le_refl _) _⟩
  · have h1' : sideB (2 * (W : Int)) = false := by simpa using h1
    rw [h1', Bool.false_and]
    go_enter Try.func63, Try.ntmps63
    go_wp2_with (first | (go_at_call 56; refine (isSide_any _ _).mono ?_; rintro e w' ⟨rfl, rfl⟩) | (go_at_call 93; refine (unless_any _ _ _).mono ?_; rintro e w' ⟨rfl, rfl⟩))
    go_ret
    exact ⟨rfl, (Below.refl _ _).alloc (Nat.le_refl _) _⟩
/-- The operations of One. -/
theorem ones_cases (op : Int) : (op = 3 ∨ op = 10) ∨ op = 8 ∨ op = 9 ∨ op = 11 ∨ op = 12 ∨ (¬ op = 3 ∧ ¬ op = 10 ∧ ¬ op = 8 ∧ ¬ op = 9 ∧ ¬ op = 11 ∧ ¬ op = 12) := by omega
theorem checkOne_any (op : Int) (W H : Nat) (k : Int) (a : Option Addr) (len cap : Nat) (w : World) (hW : 1 ≤ W ∧ W ≤ 16) (hH : 1 ≤ H ∧ H ≤ 16) :
    Calls Try.prog 63 #[.int .i64 op, .agg #[.int .i64 W, .int .i64 H, .slice a len cap], .int .i64 k] w fun e w' => e = .returned (.int .i64 (oneErr op W H k)) ∧ Below w.heap.size w w' := by
  rcases ones_cases op with h | rfl | rfl | rfl | rfl | ⟨h3, h10, h8, h9, h11, h12⟩
  · have e : oneErr op W H k = 0 := by rcases h with rfl | rfl <;> rfl
    rw [e]; exact checkOne_free op W H k a len cap w h
  · exact checkOne_cut W H k a len cap w
  · exact checkOne_shift W H k a len cap w
  · exact checkOne_down W H k a len cap w hW.2 hH.2
  · exact checkOne_up W H k a len cap w hW hH
  · rw [oneErr_none W H k h3 h10 h8 h9 h11 h12]; exact checkOne_none op W H k a len cap w h3 h10 h8 h9 h11 h12
end Go.Proofs.Ytfpkiimlaepnhaa
/-
  ONE2: image.One, whole.
-/
namespace Go.Proofs.Ytfpkiimlaepnhaa
set_option maxRecDepth 100000
open Go.RowKit Im

theorem sizeOfOne_any (op : Int) (W H : Nat) (a : Option Addr) (len cap : Nat) (w : World) (hW : W ≤ 16) (hH : H ≤ 16) :
    Calls Try.prog 64 #[.int .i64 op, .agg #[.int .i64 W, .int .i64 H, .slice a len cap]] w fun e w' => e = .returned (.tuple #[.int .i64 (oneN op W), .int .i64 (oneN op H)]) ∧ Below w.heap.size w w' := by
  have hB : ∀ n, Below w.heap.size w ((w.alloc (.cells #[.int .i64 W, .int .i64 H, .slice a len cap] 24)).drewN n) := fun n => below_drewN ((Below.refl _ _).alloc (Nat.le_refl _) _) n
  by_cases h11 : op = 11
  · subst h11
    have e1 : (oneN 11 W : Int) = (W : Int) / 2 := by simp [oneN]
    have e2 : (oneN 11 H : Int) = (H : Int) / 2 := by simp [oneN]
    rw [e1, e2]; clear e1 e2
    go_enter Try.func64, Try.ntmps64
    go_wp2
    go_quiet (fail)
    go_wp2
    go_ret2
    exact ⟨rfl, hB _⟩
  by_cases h12 : op = 12
  · subst h12
    have e1 : (oneN 12 W : Int) = 2 * (W : Int) := by simp [oneN]
    have e2 : (oneN 12 H : Int) = 2 * (H : Int) := by simp [oneN]
    rw [e1, e2]; clear e1 e2
    go_enter Try.func64, Try.ntmps64
    go_wp2
    go_quiet (fail)
    go_wp2
    go_ret2
    exact ⟨rfl, hB _⟩
  · have g11 : (op == 11) = false := by simpa using h11
    have g12 : (op == 12) = false := by simpa using h12
    have e1 : oneN op W = W := by simp [oneN, h11, h12]
    have e2 : oneN op H = H := by simp [oneN, h11, h12]
    rw [e1, e2]; clear e1 e2
    go_enter Try.func64, Try.ntmps64
    go_wp2
    go_quiet (fail)
    go_wp2
    go_ret2
    exact ⟨rfl, hB _⟩

/-- The world of ruleOfOne, behind numbersOf: the image's box, k's box, the image's second box, the box of the function value. -/
theorem ruleOfOne_any (op : Int) (W H b off cap : Nat) (k : Int) (ps : List Int) (w : World) (hF : Fine w b off W H ps) (he : oneErr op W H k = 0) :
    Calls Try.prog 65 #[.int .i64 op, .agg #[.int .i64 W, .int .i64 H, .slice (some ⟨b, off, none⟩) (W * H) cap], .int .i64 k] w fun e w' =>
      ∃ n caps, e = .returned (.func (.func n) #[] caps) ∧ Tells w' n caps (oneN op W) (oneN op H) (oneG op W H k ps) ∧ Below w.heap.size w w' := by
  have hB : ∀ o1 o2 o3 o4, Below w.heap.size w ((((w.alloc o1).alloc o2).alloc o3).alloc o4) := fun o1 o2 o3 o4 => ((((Below.refl _ _).alloc (Nat.le_refl _) _).alloc (by simp) _).alloc (by simp; omega) _).alloc (by simp; omega) _
  obtain ⟨w4, hw4⟩ : ∃ w4, w4 = (((w.alloc (.cells #[.int .i64 W, .int .i64 H, .slice (some ⟨b, off, none⟩) (W * H) cap] 24)).alloc (.cells #[.int .i64 k] 3)).alloc (.cells #[.int .i64 W, .int .i64 H, .slice (some ⟨b, off, none⟩) (W * H) cap] 24)).alloc (.cells #[.func (.func 104) #[] #[.pointer (some ⟨w.heap.size + 1 + 1, 0, none⟩)]] 43) := ⟨_, rfl⟩
  have hb4 : Below w.heap.size w w4 := by rw [hw4]; exact hB _ _ _ _
  have s4 : w4.heap.size = w.heap.size + 4 := by rw [hw4]; simp
  have hF4 := hF.below hb4
  have hI : Boxed w4 w.heap.size b off cap W H := by refine ⟨by omega, ?_, ?_, ?_⟩ <;> (rw [hw4]; simp [go_sem])
  have hJ : Boxed w4 (w.heap.size + 1 + 1) b off cap W H := by refine ⟨by omega, ?_, ?_, ?_⟩ <;> (rw [hw4]; simp [go_sem])
  have hK : w4.cell? ⟨w.heap.size + 1, 0, none⟩ = some (.int .i64 k) := by rw [hw4]; simp [go_sem]
  have hO : Old w4 (w.heap.size + 1 + 1 + 1) (w.heap.size + 1 + 1) b off cap W H ps := ⟨by omega, by rw [hw4]; simp [go_sem], hJ, hF4⟩
  rcases ones_cases op with (rfl | rfl) | rfl | rfl | rfl | rfl | ⟨h3, h10, h8, h9, h11, h12⟩
  · have T := numbers_tells hJ hF4
    subst hw4
    go_enter Try.func65, Try.ntmps65
    go_wp2_with (go_at_call 70; refine (numbersOf_any _ _ _ _ _ _).mono ?_; rintro e w' ⟨rfl, rfl⟩)
    go_ret
    exact ⟨_, _, rfl, T, hb4⟩
  · have T := rule3_tells k hO hI
    subst hw4
    go_enter Try.func65, Try.ntmps65
    go_wp2_with (go_at_call 70; refine (numbersOf_any _ _ _ _ _ _).mono ?_; rintro e w' ⟨rfl, rfl⟩)
    go_ret
    exact ⟨_, _, rfl, T, hb4⟩
  · have T := rule1_tells hO hK (by omega)
    subst hw4
    go_enter Try.func65, Try.ntmps65
    go_wp2_with (go_at_call 70; refine (numbersOf_any _ _ _ _ _ _).mono ?_; rintro e w' ⟨rfl, rfl⟩)
    go_ret
    exact ⟨_, _, rfl, T, hb4⟩
  · have hk9 : -16 ≤ k ∧ k ≤ 16 := by
      by_cases h : withinB k (-16) 16 = true
      · simpa [withinB] using h
      · have e : oneErr 9 W H k = okIf (withinB k (-16) 16) 3 := rfl
        rw [e, eq_false_of_ne_true h] at he; cases he
    have T := rule2_tells hO hK (by omega) hk9 hI
    subst hw4
    go_enter Try.func65, Try.ntmps65
    go_wp2_with (go_at_call 70; refine (numbersOf_any _ _ _ _ _ _).mono ?_; rintro e w' ⟨rfl, rfl⟩)
    go_ret
    exact ⟨_, _, rfl, T, hb4⟩
  · have T := rule4_tells k hO
    subst hw4
    go_enter Try.func65, Try.ntmps65
    go_wp2_with (go_at_call 70; refine (numbersOf_any _ _ _ _ _ _).mono ?_; rintro e w' ⟨rfl, rfl⟩)
    go_ret
    exact ⟨_, _, rfl, T, hb4⟩
  · have T := rule5_tells k hO
    subst hw4
    go_enter Try.func65, Try.ntmps65
    go_wp2_with (go_at_call 70; refine (numbersOf_any _ _ _ _ _ _).mono ?_; rintro e w' ⟨rfl, rfl⟩)
    go_ret
    exact ⟨_, _, rfl, T, hb4⟩
  · rw [oneErr_none W H k h3 h10 h8 h9 h11 h12] at he; omega
end Go.Proofs.Ytfpkiimlaepnhaa
/-
  ONE3: image.One answers what the document says.
-/
namespace Go.Proofs.Ytfpkiimlaepnhaa
set_option maxRecDepth 100000
open Go.RowKit Im

/-- image.One, of an image that is not right. -/
theorem one_not {W H : Int} {a : Option Addr} {len : Nat} (op : Int) (cap : Nat) (k : Int) {ps : List Int} {w : World} (h : Ints 0 w a len ps) (hf : fineB W H ps = false) :
    Calls Try.prog 22 #[.int .i64 op, .agg #[.int .i64 W, .int .i64 H, .slice a len cap], .int .i64 k] w fun e w' => e = .returned (.tuple #[noImage, .int .i64 1]) ∧ Below w.heap.size w w' := by
  have hB : ∀ o o', Below w.heap.size w ((w.alloc o).alloc o') := fun o o' => ((Below.refl _ _).alloc (Nat.le_refl _) _).alloc (by simp) _
  have h1 := h.below (Nat.le_refl _) (hB (.cells #[.int .i64 W, .int .i64 H, .slice a len cap] 24) (.cells #[.int .i64 0, .int .i64 0, .slice none 0 0] 24))
  go_enter Try.func22, Try.ntmps22
  go_wp2_with (go_at_call 19; refine (check_not cap h1 hf).mono ?_; rintro e wA ⟨rfl, hbA⟩; obtain ⟨cA, fA⟩ := bcell hbA; have sA : w.heap.size + 1 < wA.heap.size := by have := hbA.size; simp at this; omega)
  refine bodyPost_ret (v := .tuple #[noImage, .int .i64 1]) (by simp [results, Try.results22, go_sem, cA]) rfl ⟨rfl, ?_⟩
  exact ((((hB _ _).trans (hbA.mono (by simp; omega))).setCell (by simp) _).setCell (by simp) _).setCell (by simp) _
/-- image.One, where it tells an error of a right image. -/
theorem one_err {W H b off : Nat} (op : Int) (cap : Nat) (k : Int) {ps : List Int} {w : World} (hF : Fine w b off W H ps) (E : Int) (hE : oneErr op W H k = E) (h0 : ¬ E = 0) :
    Calls Try.prog 22 #[.int .i64 op, .agg #[.int .i64 W, .int .i64 H, .slice (some ⟨b, off, none⟩) (W * H) cap], .int .i64 k] w fun e w' => e = .returned (.tuple #[noImage, .int .i64 E]) ∧ Below w.heap.size w w' := by
  have hB : ∀ o o', Below w.heap.size w ((w.alloc o).alloc o') := fun o o' => ((Below.refl _ _).alloc (Nat.le_refl _) _).alloc (by simp) _
  have hF1 := hF.below (hB (.cells #[.int .i64 W, .int .i64 H, .slice (some ⟨b, off, none⟩) (W * H) cap] 24) (.cells #[.int .i64 0, .int .i64 0, .slice none 0 0] 24))
  have hne : (E != 0) = true := by simpa using h0
  have hcO := fun wx => checkOne_any op W H k (some ⟨b, off, none⟩) (W * H) cap wx hF.hW hF.hH
  rw [hE] at hcO
  clear hE h0
  go_enter Try.func22, Try.ntmps22
  go_wp2_with (first
    | (go_at_call 19; refine (check_fine cap hF1.ints hF1.fineB).mono ?_; rintro e wA ⟨rfl, hbA⟩; obtain ⟨cA, fA⟩ := bcell hbA; have sA : w.heap.size + 1 < wA.heap.size := by have := hbA.size; simp at this; omega)
    | (go_at_call 63; refine (hcO _).mono ?_; rintro e wB ⟨rfl, hbB⟩; have hbB' := hbA.trans (hbB.mono hbA.size); obtain ⟨cB, fB⟩ := bcell hbB'; have sB : w.heap.size + 1 < wB.heap.size := by have := hbB.size; omega))
  refine bodyPost_ret (v := .tuple #[noImage, .int .i64 E]) (by simp [results, Try.results22, go_sem, cB]) rfl ⟨rfl, ?_⟩
  exact ((((hB _ _).trans (hbB'.mono (by simp; omega))).setCell (by simp) _).setCell (by simp) _).setCell (by simp) _
theorem okIf_zero {b : Bool} {e : Int} (he : ¬ e = 0) (h : okIf b e = 0) : b = true := by
  cases b
  · exact absurd h he
  · rfl
theorem oneN_side {op : Int} {W H : Nat} {k : Int} (hW : 1 ≤ W ∧ W ≤ 16) (hH : 1 ≤ H ∧ H ≤ 16) (hE : oneErr op W H k = 0) : (1 ≤ oneN op W ∧ oneN op W ≤ 16) ∧ 1 ≤ oneN op H ∧ oneN op H ≤ 16 := by
  rcases ones_cases op with (rfl | rfl) | rfl | rfl | rfl | rfl | ⟨h3, h10, h8, h9, h11, h12⟩
  · exact ⟨hW, hH⟩
  · exact ⟨hW, hH⟩
  · exact ⟨hW, hH⟩
  · exact ⟨hW, hH⟩
  · have h := okIf_zero (by decide) (show okIf (decide (W % 2 = 0) && decide (H % 2 = 0)) 6 = 0 from hE)
    simp at h
    show (1 ≤ W / 2 ∧ W / 2 ≤ 16) ∧ 1 ≤ H / 2 ∧ H / 2 ≤ 16
    omega
  · have h := okIf_zero (by decide) (show okIf (decide (2 * W ≤ 16) && decide (2 * H ≤ 16)) 6 = 0 from hE)
    simp at h
    show (1 ≤ 2 * W ∧ 2 * W ≤ 16) ∧ 1 ≤ 2 * H ∧ 2 * H ≤ 16
    omega
  · rw [oneErr_none W H k h3 h10 h8 h9 h11 h12] at hE; omega
/-- image.One, of a right image and with no error. -/
theorem one_ok {W H b off : Nat} (op : Int) (cap : Nat) (k : Int) {ps : List Int} {w : World} (hF : Fine w b off W H ps) (hE : oneErr op W H k = 0) :
    Calls Try.prog 22 #[.int .i64 op, .agg #[.int .i64 W, .int .i64 H, .slice (some ⟨b, off, none⟩) (W * H) cap], .int .i64 k] w fun e w' =>
      ∃ a cap', e = .returned (.tuple #[.agg #[.int .i64 (oneN op W), .int .i64 (oneN op H), .slice a (oneN op W * oneN op H) cap'], .int .i64 0]) ∧ Ints w.heap.size w' a (oneN op W * oneN op H) (pix (oneN op W) (oneG op W H k ps) (oneN op W * oneN op H)) ∧ Below w.heap.size w w' := by
  have hB : ∀ o o', Below w.heap.size w ((w.alloc o).alloc o') := fun o o' => ((Below.refl _ _).alloc (Nat.le_refl _) _).alloc (by simp) _
  have hF1 := hF.below (hB (.cells #[.int .i64 W, .int .i64 H, .slice (some ⟨b, off, none⟩) (W * H) cap] 24) (.cells #[.int .i64 0, .int .i64 0, .slice none 0 0] 24))
  have hcO := fun wx => checkOne_any op W H k (some ⟨b, off, none⟩) (W * H) cap wx hF.hW hF.hH
  have hs := oneN_side hF.hW hF.hH hE
  have hsO := fun wx => sizeOfOne_any op W H (some ⟨b, off, none⟩) (W * H) cap wx hF.hW.2 hF.hH.2
  have hrO := fun wx h => ruleOfOne_any op W H b off cap k ps wx h hE
  rw [hE] at hcO
  clear hE
  go_enter Try.func22, Try.ntmps22
  go_wp2_with (first
    | (go_at_call 19; refine (check_fine cap hF1.ints hF1.fineB).mono ?_; rintro e wA ⟨rfl, hbA⟩; obtain ⟨cA, fA⟩ := bcell hbA; have sA : w.heap.size + 1 < wA.heap.size := by have := hbA.size; simp at this; omega)
    | (go_at_call 63; refine (hcO _).mono ?_; rintro e wB ⟨rfl, hbB⟩; have hbB' := hbA.trans (hbB.mono hbA.size); obtain ⟨cB, fB⟩ := bcell hbB'; have sB : w.heap.size + 1 < wB.heap.size := by have := hbB.size; omega)
    | (go_at_call 64; refine (hsO _).mono ?_; rintro e wC ⟨rfl, hbC⟩; have hbC' := hbB'.trans (hbC.mono hbB'.size); obtain ⟨cC, fC⟩ := bcell hbC'; have sC : w.heap.size + 1 < wC.heap.size := by have := hbC.size; omega)
    | (go_at_call 65; refine (hrO _ (hF1.below hbC')).mono ?_; rintro e wD ⟨fn, caps, rfl, hT, hbD⟩; have hbD' := hbC'.trans (hbD.mono hbC'.size); obtain ⟨cD, fD⟩ := bcell hbD'; have sD : w.heap.size + 1 < wD.heap.size := by have := hbD.size; omega)
    | (go_at_call 58; refine (draw_any _ _ _ _ _ _ hs.1 hs.2 hT).mono ?_; rintro e wE ⟨a, cap', rfl, hints, hbE⟩; have hbE' := hbD'.trans (hbE.mono hbD'.size); obtain ⟨cE, fE⟩ := bcell hbE'; have sE : w.heap.size + 1 < wE.heap.size := by have := hbE.size; omega))
  refine bodyPost_ret (v := .tuple #[.agg #[.int .i64 (oneN op W), .int .i64 (oneN op H), .slice a (oneN op W * oneN op H) cap'], .int .i64 0]) (by simp [results, Try.results22, go_sem, cE]) rfl ⟨a, cap', rfl, ?_, ?_⟩
  · exact (((hints.setCell (by simpa using sD) _).setCell (by simpa using sD) _).setCell (by simpa using sD) _).mono (by omega)
  · exact ((((hB _ _).trans (hbE'.mono (by simp; omega))).setCell (by simp) _).setCell (by simp) _).setCell (by simp) _
end Go.Proofs.Ytfpkiimlaepnhaa
