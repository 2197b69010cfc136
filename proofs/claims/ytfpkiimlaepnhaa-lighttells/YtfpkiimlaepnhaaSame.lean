/-
  SAME: the reference's SameInts and SameImages tell whether two lists of numbers, two images, are the same.
-/
import Derived.Test.YtfpkiimlaepnhaaChk
import Derived.Deep.QuietTactic
import Derived.BigQuiet
namespace Go.Proofs.Ytfpkiimlaepnhaa
set_option maxRecDepth 100000
open Go.RowKit Im

theorem take_same {ps qs : List Int} {k : Nat} (h1 : k < ps.length) (h2 : k < qs.length) (h : ps.take k = qs.take k) (e : ps.getD k 0 = qs.getD k 0) : ps.take (k + 1) = qs.take (k + 1) := by
  rw [List.getD_eq_getElem?_getD, List.getD_eq_getElem?_getD, List.getElem?_eq_getElem h1, List.getElem?_eq_getElem h2] at e
  simp only [Option.getD_some] at e
  rw [List.take_succ_eq_append_getElem h1, List.take_succ_eq_append_getElem h2, h, e]
theorem sameInts_len (a a' : Option Addr) (len cap len' cap' : Nat) (w : World) (_h1 : len ≤ 9223372036854775807) (_h2 : len' ≤ 9223372036854775807) (hne : ¬ len = len') :
    Calls Try.prog 36 #[.slice a len cap, .slice a' len' cap'] w fun e w' => e = .returned (.bool false) ∧ Below w.heap.size w w' := by
  go_enter Try.func36, Try.ntmps36
  go_wp2
  go_ret
  exact ⟨rfl, Below.refl _ _⟩
theorem sameInts_nil (a a' : Option Addr) (cap cap' : Nat) (w : World) :
    Calls Try.prog 36 #[.slice a 0 cap, .slice a' 0 cap'] w fun e w' => e = .returned (.bool true) ∧ Below w.heap.size w w' := by
  go_enter Try.func36, Try.ntmps36
  go_wp2
  go_loop [5] (fun i => i = .int .i64 0) (fun _ => 0)
  case atStart => rfl
  case round =>
    subst hrel
    go_wp2
    go_ret
    exact ⟨rfl, Below.refl _ _⟩
theorem sameInts_row (b off cap b' off' cap' len : Nat) (ps qs : List Int) (w : World) (hl : ps.length = len) (hl' : qs.length = len) (hbig : len ≤ 9223372036854775807)
    (hc : ∀ j, j < len → w.cell? ⟨b, off + j, none⟩ = some (.int .i64 (ps.getD j 0))) (hc' : ∀ j, j < len → w.cell? ⟨b', off' + j, none⟩ = some (.int .i64 (qs.getD j 0))) :
    Calls Try.prog 36 #[.slice (some ⟨b, off, none⟩) len cap, .slice (some ⟨b', off', none⟩) len cap'] w fun e w' => e = .returned (.bool (decide (ps = qs))) ∧ Below w.heap.size w w' := by
  go_enter Try.func36, Try.ntmps36
  go_wp2
  go_loopw [5] (fun i wr => ∃ k : Nat, k ≤ len ∧ i = .int .i64 k ∧ ps.take k = qs.take k ∧ ∃ n, wr = w.drewN n) (fun i _ => len - (intOf i).toNat)
  case atStart => exact ⟨0, Nat.zero_le _, rfl, rfl, 0, rfl⟩
  case round =>
    obtain ⟨k, hk, rfl, hall, nd, rfl⟩ := hrel
    by_cases hlt : k < len
    · obtain ⟨x, hx⟩ : ∃ n, n = ps.getD k 0 := ⟨_, rfl⟩
      obtain ⟨y, hy⟩ : ∃ n, n = qs.getD k 0 := ⟨_, rfl⟩
      have hcx := hc k hlt
      have hcy := hc' k hlt
      rw [← hx] at hcx
      rw [← hy] at hcy
      have HX : Hid (x = ps.getD k 0) := hx
      have HY : Hid (y = qs.getD k 0) := hy
      have HL : Hid (ps.take k = qs.take k) := hall
      clear hx hy hc hc' hall
      by_cases hn : x = y
      · have hnb : (x != y) = false := by simp [hn]
        go_wp2
        go_quiet (fail)
        go_wp2
        go_roundw
        case rel => exact ⟨k + 1, by omega, by go_num, take_same (by omega) (by omega) HL.out (by rw [← HX.out, ← HY.out]; exact hn), _, rfl⟩
        case measure => simp [intOf]; omega
      · have hnb : (x != y) = true := by simp [hn]
        have hd : decide (ps = qs) = false := by
          refine decide_eq_false fun e => hn ?_
          rw [HX.out, HY.out, e]
        go_wp2
        go_quiet (fail)
        go_wp2
        go_ret
        exact ⟨by first | rfl | (rw [hd]; rfl), below_drewN (below_drewN (Below.refl _ _) _) _⟩
    · have hd : decide (ps = qs) = true := by
        rw [List.take_of_length_le (by omega), List.take_of_length_le (by omega)] at hall
        exact decide_eq_true hall
      go_wp2
      go_ret
      exact ⟨by first | rfl | (rw [hd]; rfl), below_drewN (Below.refl _ _) _⟩
/-- The reference's SameInts. -/
theorem sameInts_any {a a' : Option Addr} {len len' : Nat} (cap cap' : Nat) {ps qs : List Int} {w : World} (h : Ints 0 w a len ps) (h' : Ints 0 w a' len' qs) :
    Calls Try.prog 36 #[.slice a len cap, .slice a' len' cap'] w fun e w' => e = .returned (.bool (decide (ps = qs))) ∧ Below w.heap.size w w' := by
  have l1 := h.leng
  have l2 := h'.leng
  by_cases hl : len = len'
  · subst hl
    rcases h.cells with e | ⟨b, off, rfl, _, hb, hc⟩
    · subst e
      have l3 : len = 0 := by simpa using l1.symm
      have l4 : qs = [] := by rw [l3] at l2; simpa using l2
      subst l3 l4
      simpa using sameInts_nil a a' cap cap' w
    · rcases h'.cells with e | ⟨b', off', rfl, _, hb', hc'⟩
      · subst e
        have l3 : len = 0 := by simpa using l2.symm
        have l4 : ps = [] := by rw [l3] at l1; simpa using l1
        subst l3 l4
        simpa using sameInts_nil _ a' cap cap' w
      · exact sameInts_row b off cap b' off' cap' len ps qs w l1 l2 h.big hc hc'
  · have hd : decide (ps = qs) = false := decide_eq_false fun e => hl (by rw [← l1, ← l2, e])
    rw [hd]
    exact sameInts_len a a' len cap len' cap' w h.big h'.big hl

/-- The reference's SameImages. -/
theorem sameImages_any (W H W' H' : Int) {a a' : Option Addr} {len len' : Nat} (cap cap' : Nat) {ps qs : List Int} {w : World} (h : Ints 0 w a len ps) (h' : Ints 0 w a' len' qs) :
    Calls Try.prog 21 #[.agg #[.int .i64 W, .int .i64 H, .slice a len cap], .agg #[.int .i64 W', .int .i64 H', .slice a' len' cap']] w fun e w' => e = .returned (.bool (decide (W = W' ∧ H = H' ∧ ps = qs))) ∧ Below w.heap.size w w' := by
  have hB : ∀ o o', Below w.heap.size w ((w.alloc o).alloc o') := fun o o' => ((Below.refl _ _).alloc (Nat.le_refl _) _).alloc (by simp) _
  have h1 := h.below (Nat.le_refl _) (hB (.cells #[.int .i64 W, .int .i64 H, .slice a len cap] 24) (.cells #[.int .i64 W', .int .i64 H', .slice a' len' cap'] 24))
  have h2 := h'.below (Nat.le_refl _) (hB (.cells #[.int .i64 W, .int .i64 H, .slice a len cap] 24) (.cells #[.int .i64 W', .int .i64 H', .slice a' len' cap'] 24))
  by_cases e1 : W = W'
  · have e1b : (W == W') = true := by simp [e1]
    by_cases e2 : H = H'
    · have e2b : (H == H') = true := by simp [e2]
      have hd : decide (W = W' ∧ H = H' ∧ ps = qs) = decide (ps = qs) := by simp [e1, e2]
      rw [hd]
      clear hd e1 e2
      go_enter Try.func21, Try.ntmps21
      go_wp2_with (go_at_call 36; refine (sameInts_any _ _ h1 h2).mono ?_; rintro e w' ⟨rfl, hb⟩)
      go_ret
      exact ⟨rfl, (hB _ _).trans (hb.mono (by simp; omega))⟩
    · have e2b : (H == H') = false := by simp [e2]
      have hd : decide (W = W' ∧ H = H' ∧ ps = qs) = false := by simp [e2]
      rw [hd]
      go_enter Try.func21, Try.ntmps21
      go_wp2
      go_ret
      exact ⟨rfl, hB _ _⟩
  · have e1b : (W == W') = false := by simp [e1]
    have hd : decide (W = W' ∧ H = H' ∧ ps = qs) = false := by simp [e1]
    rw [hd]
    go_enter Try.func21, Try.ntmps21
    go_wp2
    go_ret
    exact ⟨rfl, hB _ _⟩
end Go.Proofs.Ytfpkiimlaepnhaa
