/-
  CHK: image.Check and the reference's ImageFine tell whether an image is right.
-/
import Derived.Test.YtfpkiimlaepnhaaBase
namespace Go.Proofs.Ytfpkiimlaepnhaa
set_option maxRecDepth 100000
open Go.RowKit Im

/-- image.Check, of an image whose sides or number of numbers are not right. -/
theorem check_sides (W H : Int) (a : Option Addr) (len cap : Nat) (ps : List Int) (w : World) (h : Ints 0 w a len ps) (hs : (sideB W && sideB H && decide ((ps.length : Int) = W * H)) = false) :
    Calls Try.prog 19 #[.agg #[.int .i64 W, .int .i64 H, .slice a len cap]] w fun e w' => e = .returned (.int .i64 1) ∧ Below w.heap.size w w' := by
  have hl := h.leng
  by_cases h1 : sideB W = true
  · by_cases h2 : sideB H = true
    · have h3 : ¬ (len : Int) = W * H := by
        rw [h1, h2, hl] at hs; simpa using hs
      obtain ⟨b3, b4⟩ := side_mul h1 h2
      have hb := h.big
      go_enter Try.func19, Try.ntmps19
      go_wp2_with (go_at_call 56; refine (isSide_any _ _).mono ?_; rintro e w' ⟨rfl, rfl⟩)
      go_ret
      exact ⟨rfl, (Below.refl _ _).alloc (Nat.le_refl _) _⟩
    · have h2' : sideB H = false := by simpa using h2
      go_enter Try.func19, Try.ntmps19
      go_wp2_with (go_at_call 56; refine (isSide_any _ _).mono ?_; rintro e w' ⟨rfl, rfl⟩)
      go_ret
      exact ⟨rfl, (Below.refl _ _).alloc (Nat.le_refl _) _⟩
  · have h1' : sideB W = false := by simpa using h1
    go_enter Try.func19, Try.ntmps19
    go_wp2_with (go_at_call 56; refine (isSide_any _ _).mono ?_; rintro e w' ⟨rfl, rfl⟩)
    go_ret
    exact ⟨rfl, (Below.refl _ _).alloc (Nat.le_refl _) _⟩

/-- image.Check, where the sides and the number of numbers are right: each number is looked at. -/
theorem check_numbers (W H : Int) (b off len cap : Nat) (ps : List Int) (w : World) (hl : ps.length = len) (hb : b < w.heap.size) (hc : ∀ j, j < len → w.cell? ⟨b, off + j, none⟩ = some (.int .i64 (ps.getD j 0)))
    (h1 : sideB W = true) (h2 : sideB H = true) (h3 : (len : Int) = W * H) :
    Calls Try.prog 19 #[.agg #[.int .i64 W, .int .i64 H, .slice (some ⟨b, off, none⟩) len cap]] w fun e w' => e = .returned (.int .i64 (okIf (ps.all numB) 1)) ∧ Below w.heap.size w w' := by
  obtain ⟨b3, b4⟩ := side_mul h1 h2
  have h3' : W * H = (len : Int) := h3.symm
  clear h3
  go_enter Try.func19, Try.ntmps19
  go_wp2_with (go_at_call 56; refine (isSide_any _ _).mono ?_; rintro e w' ⟨rfl, rfl⟩)
  go_loop [29] (fun i => ∃ k : Nat, k ≤ len ∧ i = .int .i64 k ∧ (ps.take k).all numB = true) (fun i => len - (intOf i).toNat)
  case atStart => exact ⟨0, Nat.zero_le _, rfl, rfl⟩
  case round =>
    obtain ⟨k, hk, rfl, hall⟩ := hrel
    by_cases hlt : k < len
    · obtain ⟨n, hn0⟩ : ∃ n, n = ps.getD k 0 := ⟨_, rfl⟩
      have hcx : (w.alloc (.cells #[.int .i64 W, .int .i64 H, .slice (some ⟨b, off, none⟩) len cap] 24)).cell? ⟨b, off + k, none⟩ = some (.int .i64 n) := by
        rw [World.cell?_alloc_past _ _ _ (by simpa using hb), hn0]; exact hc k hlt
      have HN : Hid (n = ps.getD k 0) := hn0
      clear hn0
      by_cases hn : numB n = true
      · go_wp2_with (go_at_call 57; refine (isNumber_any _ _).mono ?_; rintro e w' ⟨rfl, rfl⟩)
        go_round
        case rel => exact ⟨k + 1, by omega, by go_num, all_succ ps k (by omega) hall (by rw [HN.out] at hn; exact hn)⟩
        case measure => simp [intOf]; omega
      · have hn' : numB n = false := by simpa using hn
        have hx := all_not ps k (by omega) (by rw [HN.out] at hn'; exact hn')
        go_wp2_with (go_at_call 57; refine (isNumber_any _ _).mono ?_; rintro e w' ⟨rfl, rfl⟩)
        go_ret
        exact ⟨by first | rfl | (rw [hx]; rfl), (Below.refl _ _).alloc (Nat.le_refl _) _⟩
    · have hx : ps.all numB = true := by rw [List.take_of_length_le (by omega)] at hall; exact hall
      go_wp2
      go_ret
      exact ⟨by first | rfl | (rw [hx]; rfl), (Below.refl _ _).alloc (Nat.le_refl _) _⟩
/-- image.Check, of a right image. -/
theorem check_fine {W H : Int} {a : Option Addr} {len : Nat} (cap : Nat) {ps : List Int} {w : World} (h : Ints 0 w a len ps) (hf : fineB W H ps = true) :
    Calls Try.prog 19 #[.agg #[.int .i64 W, .int .i64 H, .slice a len cap]] w fun e w' => e = .returned (.int .i64 0) ∧ Below w.heap.size w w' := by
  simp only [fineB, Bool.and_eq_true, decide_eq_true_eq] at hf
  obtain ⟨⟨⟨h1, h2⟩, h3⟩, h4⟩ := hf
  have h5 := side_mul h1 h2
  rcases h.cells with e | ⟨b, off, rfl, _, hb, hc⟩
  · subst e; simp at h3; omega
  · have := check_numbers W H b off len cap ps w h.leng hb hc h1 h2 (by rw [← h.leng]; exact h3)
    rw [h4] at this
    exact this
/-- image.Check, of one that is not right. -/
theorem check_not {W H : Int} {a : Option Addr} {len : Nat} (cap : Nat) {ps : List Int} {w : World} (h : Ints 0 w a len ps) (hf : fineB W H ps = false) :
    Calls Try.prog 19 #[.agg #[.int .i64 W, .int .i64 H, .slice a len cap]] w fun e w' => e = .returned (.int .i64 1) ∧ Below w.heap.size w w' := by
  by_cases hs : (sideB W && sideB H && decide ((ps.length : Int) = W * H)) = false
  · exact check_sides W H a len cap ps w h hs
  · have hs' := eq_true_of_ne_false hs
    have e : fineB W H ps = ps.all numB := by unfold fineB; rw [hs']; rfl
    rw [e] at hf
    simp only [Bool.and_eq_true, decide_eq_true_eq] at hs'
    obtain ⟨⟨h1, h2⟩, h3⟩ := hs'
    have h5 := side_mul h1 h2
    rcases h.cells with e | ⟨b, off, rfl, _, hb, hc⟩
    · subst e; simp at h3; omega
    · have := check_numbers W H b off len cap ps w h.leng hb hc h1 h2 (by rw [← h.leng]; exact h3)
      rw [hf] at this
      exact this

/-- The reference's ImageFine, of an image whose sides or number of numbers are not right. -/
theorem isfine_sides (W H : Int) (a : Option Addr) (len cap : Nat) (ps : List Int) (w : World) (h : Ints 0 w a len ps) (hs : (sideB W && sideB H && decide ((ps.length : Int) = W * H)) = false) :
    Calls Try.prog 20 #[.agg #[.int .i64 W, .int .i64 H, .slice a len cap]] w fun e w' => e = .returned (.bool false) ∧ Below w.heap.size w w' := by
  have hl := h.leng
  by_cases h1 : sideB W = true
  · have h1w : withinB W 1 16 = true := h1
    by_cases h2 : sideB H = true
    · have h2w : withinB H 1 16 = true := h2
      have h3 : ¬ (len : Int) = W * H := by
        rw [h1, h2, hl] at hs; simpa using hs
      obtain ⟨b3, b4⟩ := side_mul h1 h2
      have hb := h.big
      go_enter Try.func20, Try.ntmps20
      go_wp2_with (go_at_call 61; refine (within_any _ _ _ _).mono ?_; rintro e w' ⟨rfl, rfl⟩)
      go_ret
      exact ⟨rfl, (Below.refl _ _).alloc (Nat.le_refl _) _⟩
    · have h2' : withinB H 1 16 = false := eq_false_of_ne_true h2
      go_enter Try.func20, Try.ntmps20
      go_wp2_with (go_at_call 61; refine (within_any _ _ _ _).mono ?_; rintro e w' ⟨rfl, rfl⟩)
      go_ret
      exact ⟨rfl, (Below.refl _ _).alloc (Nat.le_refl _) _⟩
  · have h1' : withinB W 1 16 = false := eq_false_of_ne_true h1
    go_enter Try.func20, Try.ntmps20
    go_wp2_with (go_at_call 61; refine (within_any _ _ _ _).mono ?_; rintro e w' ⟨rfl, rfl⟩)
    go_ret
    exact ⟨rfl, (Below.refl _ _).alloc (Nat.le_refl _) _⟩
theorem isfine_numbers (W H : Int) (b off len cap : Nat) (ps : List Int) (w : World) (hl : ps.length = len) (hb : b < w.heap.size) (hc : ∀ j, j < len → w.cell? ⟨b, off + j, none⟩ = some (.int .i64 (ps.getD j 0)))
    (h1 : sideB W = true) (h2 : sideB H = true) (h3 : (len : Int) = W * H) :
    Calls Try.prog 20 #[.agg #[.int .i64 W, .int .i64 H, .slice (some ⟨b, off, none⟩) len cap]] w fun e w' => e = .returned (.bool (ps.all numB)) ∧ Below w.heap.size w w' := by
  obtain ⟨b3, b4⟩ := side_mul h1 h2
  have h3' : W * H = (len : Int) := h3.symm
  have h1w : withinB W 1 16 = true := h1
  have h2w : withinB H 1 16 = true := h2
  clear h3 h1 h2
  go_enter Try.func20, Try.ntmps20
  go_wp2_with (go_at_call 61; refine (within_any _ _ _ _).mono ?_; rintro e w' ⟨rfl, rfl⟩)
  go_loop [3] (fun i => ∃ k : Nat, k ≤ len ∧ i = .int .i64 k ∧ (ps.take k).all numB = true) (fun i => len - (intOf i).toNat)
  case atStart => exact ⟨0, Nat.zero_le _, rfl, rfl⟩
  case round =>
    obtain ⟨k, hk, rfl, hall⟩ := hrel
    by_cases hlt : k < len
    · obtain ⟨n, hn0⟩ : ∃ n, n = ps.getD k 0 := ⟨_, rfl⟩
      have hcx : (w.alloc (.cells #[.int .i64 W, .int .i64 H, .slice (some ⟨b, off, none⟩) len cap] 24)).cell? ⟨b, off + k, none⟩ = some (.int .i64 n) := by
        rw [World.cell?_alloc_past _ _ _ (by simpa using hb), hn0]; exact hc k hlt
      have HN : Hid (n = ps.getD k 0) := hn0
      clear hn0
      by_cases hn : withinB n 0 65535 = true
      · go_wp2_with (go_at_call 61; refine (within_any _ _ _ _).mono ?_; rintro e w' ⟨rfl, rfl⟩)
        go_round
        case rel => exact ⟨k + 1, by omega, by go_num, all_succ ps k (by omega) hall (by rw [HN.out] at hn; exact hn)⟩
        case measure => simp [intOf]; omega
      · have hn' : withinB n 0 65535 = false := by simpa using hn
        have hx := all_not ps k (by omega) (by rw [HN.out] at hn'; exact hn')
        go_wp2_with (go_at_call 61; refine (within_any _ _ _ _).mono ?_; rintro e w' ⟨rfl, rfl⟩)
        go_ret
        exact ⟨by first | rfl | (rw [hx]; rfl), (Below.refl _ _).alloc (Nat.le_refl _) _⟩
    · have hx : ps.all numB = true := by rw [List.take_of_length_le (by omega)] at hall; exact hall
      go_wp2
      go_ret
      exact ⟨by first | rfl | (rw [hx]; rfl), (Below.refl _ _).alloc (Nat.le_refl _) _⟩
/-- The reference's ImageFine. -/
theorem isfine_any (W H : Int) {a : Option Addr} {len : Nat} (cap : Nat) {ps : List Int} {w : World} (h : Ints 0 w a len ps) :
    Calls Try.prog 20 #[.agg #[.int .i64 W, .int .i64 H, .slice a len cap]] w fun e w' => e = .returned (.bool (fineB W H ps)) ∧ Below w.heap.size w w' := by
  by_cases hs : (sideB W && sideB H && decide ((ps.length : Int) = W * H)) = false
  · have e : fineB W H ps = false := by unfold fineB; rw [hs]; rfl
    rw [e]
    exact isfine_sides W H a len cap ps w h hs
  · have hs' := eq_true_of_ne_false hs
    have e : fineB W H ps = ps.all numB := by unfold fineB; rw [hs']; rfl
    simp only [Bool.and_eq_true, decide_eq_true_eq] at hs'
    obtain ⟨⟨h1, h2⟩, h3⟩ := hs'
    have h5 := side_mul h1 h2
    rw [e]
    rcases h.cells with e | ⟨b, off, rfl, _, hb, hc⟩
    · subst e; simp at h3; omega
    · exact isfine_numbers W H b off len cap ps w h.leng hb hc h1 h2 (by rw [← h.leng]; exact h3)
end Go.Proofs.Ytfpkiimlaepnhaa
