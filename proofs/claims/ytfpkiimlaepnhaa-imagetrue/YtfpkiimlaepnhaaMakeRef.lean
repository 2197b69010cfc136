/-
  MAKEREF: the reference's MakeError and MakeOf.
-/
import Derived.Test.YtfpkiimlaepnhaaMake
import Derived.Test.YtfpkiimlaepnhaaAcc
namespace Go.Proofs.Ytfpkiimlaepnhaa
set_option maxRecDepth 100000
open Go.RowKit Im

set_option maxHeartbeats 1000000 in
theorem makeOf_any (op : Int) (W H : Nat) (k : Int) (w : World) (h : op = 1 ∨ op = 2) (hW : 1 ≤ W ∧ W ≤ 16) (hH : 1 ≤ H ∧ H ≤ 16) (hk : 0 ≤ k ∧ k ≤ 65535) :
    Calls Try.prog 17 #[.int .i64 op, .int .i64 W, .int .i64 H, .int .i64 k] w fun e w' =>
      ∃ a cap, e = .returned (.agg #[.int .i64 W, .int .i64 H, .slice a (W * H) cap]) ∧ Ints w.heap.size w' a (W * H) (pix W (makeG op k) (W * H)) ∧ Below w.heap.size w w' := by
  obtain ⟨i0, hi, hz0, hz1, hz2⟩ := info_parts Try.info3
  have hWH : 1 ≤ (W : Int) * H ∧ (W : Int) * H ≤ 256 := side_mul (by simp [sideB]; omega) (by simp [sideB]; omega)
  have hWN : W * H ≤ 256 := by have := hWH.2; rw [← Int.natCast_mul] at this; omega
  clear hWH
  have hG1 : ∀ x y, makeG 1 k x y = k := fun x y => rfl
  have hG2 : ∀ x y : Nat, makeG 2 k x y = ((x : Int) * k + y) % 65536 := fun x y => rfl
  rcases h with rfl | rfl
  · go_enter Try.func17, Try.ntmps17
    go_wp2
    go_loopw [10] (fun i wr => ∃ (y : Nat) (v : Value), y ≤ H ∧ i = .int .i64 y ∧ Acc (w.heap.size + 1) ((w.alloc (.cells #[.int .i64 0, .int .i64 0, .slice none 0 0] 24)).alloc (.cells #[.int .i64 W, .int .i64 H, .slice none 0 0] 24)) wr W H v (pix W (makeG 1 k) (y * W))) (fun i _ => H - (intOf i).toNat)
    case atStart => exact ⟨0, .slice none 0 0, Nat.zero_le _, rfl, by rw [Nat.zero_mul]; exact Acc.start _ _ _ _ (by simp)⟩
    case round =>
      obtain ⟨y, v, hy, rfl, hacc⟩ := hrel
      by_cases hlt : y < H
      · go_wp2
        go_loopw [11] (fun i ws => ∃ (x : Nat) (v : Value), x ≤ W ∧ i = .int .i64 x ∧ Acc (w.heap.size + 1) ((w.alloc (.cells #[.int .i64 0, .int .i64 0, .slice none 0 0] 24)).alloc (.cells #[.int .i64 W, .int .i64 H, .slice none 0 0] 24)) ws W H v (pix W (makeG 1 k) (y * W + x))) (fun i _ => W - (intOf i).toNat)
        case atStart => exact ⟨0, v, Nat.zero_le _, rfl, hacc⟩
        case round =>
          obtain ⟨x, v2, hx, rfl, hacs⟩ := hrel
          by_cases hlx : x < W
          · obtain ⟨c0, c1, c2, cf⟩ := hacs.cells
            have hsz := hacs.siz
            have hpl : y * W + x < W * H := place_lt hlx hlt
            have hlen : (pix W (makeG 1 k) (y * W + x)).length = y * W + x := pix_length _ _ _
            have hm1 : 0 ≤ (x : Int) * k := Int.mul_nonneg (by omega) hk.1
            have hm2 : (x : Int) * k ≤ 16 * 65535 := Int.mul_le_mul (by omega) hk.2 hk.1 (by omega)
            clear hG1 hG2 hacc
            go_wp2_with (at_builtin; refine wpList_append_own _ rfl _ _ 22 rfl (w.heap.size + 1 + 1) 3 i0 (.int .i64 0) 1 8 Try.underlying22 hi hz0 hz1 hz2 rfl (by decide) _ _ _ rfl (World.ownsRow.alloc hacs.own _) ⟨wr.heap.size, 0, none⟩ 1 1 [.int .i64 k] rfl rfl (cell_one_new _ _ _) (by intro u hu; simp at hu; subst hu; rfl) (by rw [hlen]; unfold maxLen; omega) (by rw [hlen]; omega) (by simp; omega) ?_; intro v' w3 hown3 hgrow3 _; obtain ⟨hm, m2, m3⟩ := hacs.mid hgrow3; obtain ⟨a', cap', hv'⟩ := owns_slice hown3; subst hv')
            have R := hacs.push hgrow3 hown3
            rw [hlen] at R
            go_roundw
            case rel => exact ⟨x + 1, _, by omega, by go_num, by rw [← Nat.add_assoc, pix_succ W _ x y hlx, show makeG 1 k x y = k from rfl]; exact R⟩
            case measure => simp [intOf]; omega
          · have hxW : x = W := by omega
            subst hxW
            go_wp2
            go_roundw
            case rel => exact ⟨y + 1, v2, by omega, by go_num, by rw [Nat.add_mul, Nat.one_mul]; exact hacs⟩
            case measure => simp [intOf]; omega
      · have hyH : y = H := by omega
        subst hyH
        have hlen : (pix W (makeG 1 k) (y * W)).length = y * W := pix_length _ _ _
        obtain ⟨a, cap, rfl, hints⟩ := hacc.ints (by rw [hlen, Nat.mul_comm]; omega)
        obtain ⟨c0, c1, c2, cf⟩ := hacc.cells
        have hsz := hacc.siz
        have d0 : wr.cell? ⟨w.heap.size, 0, none⟩ = some (.int .i64 0) := by rw [hacc.bel.cell (by simp)]; simp [go_sem]
        have d1 : wr.cell? ⟨w.heap.size, 1, none⟩ = some (.int .i64 0) := by rw [hacc.bel.cell (by simp)]; simp [go_sem]
        have d2 : wr.cell? ⟨w.heap.size, 2, none⟩ = some (.slice none 0 0) := by rw [hacc.bel.cell (by simp)]; simp [go_sem]
        have f0 : wr.frozen? ⟨w.heap.size, 0, none⟩ = false := by rw [hacc.bel.frozen (by simp)]; simp [go_sem]
        have f1 : wr.frozen? ⟨w.heap.size, 1, none⟩ = false := by rw [hacc.bel.frozen (by simp)]; simp [go_sem]
        have f2 : wr.frozen? ⟨w.heap.size, 2, none⟩ = false := by rw [hacc.bel.frozen (by simp)]; simp [go_sem]
        go_wp2
        rw [hlen, Nat.mul_comm] at hints
        refine bodyPost_ret (v := .agg #[.int .i64 W, .int .i64 y, .slice a (W * y) cap]) (by simp [results, Try.results17, go_sem, d0, d1, d2]; exact Nat.mul_comm _ _) rfl ⟨a, cap, rfl, ?_, ?_⟩
        · exact (((hints.setCell (by simp; omega) _).setCell (by simp; omega) _).setCell (by simp; omega) _).mono (by omega)
        · exact ((((((Below.refl _ _).alloc (Nat.le_refl _) _).alloc (by simp) _).trans (hacc.bel.mono (by omega))).setCell (by simp) _).setCell (by simp) _).setCell (by simp) _
  · go_enter Try.func17, Try.ntmps17
    go_wp2
    go_loopw [10] (fun i wr => ∃ (y : Nat) (v : Value), y ≤ H ∧ i = .int .i64 y ∧ Acc (w.heap.size + 1) ((w.alloc (.cells #[.int .i64 0, .int .i64 0, .slice none 0 0] 24)).alloc (.cells #[.int .i64 W, .int .i64 H, .slice none 0 0] 24)) wr W H v (pix W (makeG 2 k) (y * W))) (fun i _ => H - (intOf i).toNat)
    case atStart => exact ⟨0, .slice none 0 0, Nat.zero_le _, rfl, by rw [Nat.zero_mul]; exact Acc.start _ _ _ _ (by simp)⟩
    case round =>
      obtain ⟨y, v, hy, rfl, hacc⟩ := hrel
      by_cases hlt : y < H
      · go_wp2
        go_loopw [11] (fun i ws => ∃ (x : Nat) (v : Value), x ≤ W ∧ i = .int .i64 x ∧ Acc (w.heap.size + 1) ((w.alloc (.cells #[.int .i64 0, .int .i64 0, .slice none 0 0] 24)).alloc (.cells #[.int .i64 W, .int .i64 H, .slice none 0 0] 24)) ws W H v (pix W (makeG 2 k) (y * W + x))) (fun i _ => W - (intOf i).toNat)
        case atStart => exact ⟨0, v, Nat.zero_le _, rfl, hacc⟩
        case round =>
          obtain ⟨x, v2, hx, rfl, hacs⟩ := hrel
          by_cases hlx : x < W
          · obtain ⟨c0, c1, c2, cf⟩ := hacs.cells
            have hsz := hacs.siz
            have hpl : y * W + x < W * H := place_lt hlx hlt
            have hlen : (pix W (makeG 2 k) (y * W + x)).length = y * W + x := pix_length _ _ _
            have hm1 : 0 ≤ (x : Int) * k := Int.mul_nonneg (by omega) hk.1
            have hm2 : (x : Int) * k ≤ 16 * 65535 := Int.mul_le_mul (by omega) hk.2 hk.1 (by omega)
            obtain ⟨gx, hgx⟩ : ∃ gx, gx = makeG 2 k x y := ⟨_, rfl⟩
            have hgy : ((x : Int) * k + y) % 65536 = gx := by rw [hgx, hG2]
            have HG : Hid (gx = makeG 2 k x y) := hgx
            clear hgx hG1 hG2 hacc
            go_wp2_with (at_builtin; refine wpList_append_own _ rfl _ _ 22 rfl (w.heap.size + 1 + 1) 3 i0 (.int .i64 0) 1 8 Try.underlying22 hi hz0 hz1 hz2 rfl (by decide) _ _ _ rfl (World.ownsRow.alloc hacs.own _) ⟨wr.heap.size, 0, none⟩ 1 1 [.int .i64 gx] rfl rfl (cell_one_new _ _ _) (by intro u hu; simp at hu; subst hu; rfl) (by rw [hlen]; unfold maxLen; omega) (by rw [hlen]; omega) (by simp; omega) ?_; intro v' w3 hown3 hgrow3 _; obtain ⟨hm, m2, m3⟩ := hacs.mid hgrow3; obtain ⟨a', cap', hv'⟩ := owns_slice hown3; subst hv')
            have R := hacs.push hgrow3 hown3
            rw [hlen] at R
            go_roundw
            case rel => exact ⟨x + 1, _, by omega, by go_num, by rw [← Nat.add_assoc, pix_succ W _ x y hlx, ← HG.out]; exact R⟩
            case measure => simp [intOf]; omega
          · have hxW : x = W := by omega
            subst hxW
            go_wp2
            go_roundw
            case rel => exact ⟨y + 1, v2, by omega, by go_num, by rw [Nat.add_mul, Nat.one_mul]; exact hacs⟩
            case measure => simp [intOf]; omega
      · have hyH : y = H := by omega
        subst hyH
        have hlen : (pix W (makeG 2 k) (y * W)).length = y * W := pix_length _ _ _
        obtain ⟨a, cap, rfl, hints⟩ := hacc.ints (by rw [hlen, Nat.mul_comm]; omega)
        obtain ⟨c0, c1, c2, cf⟩ := hacc.cells
        have hsz := hacc.siz
        have d0 : wr.cell? ⟨w.heap.size, 0, none⟩ = some (.int .i64 0) := by rw [hacc.bel.cell (by simp)]; simp [go_sem]
        have d1 : wr.cell? ⟨w.heap.size, 1, none⟩ = some (.int .i64 0) := by rw [hacc.bel.cell (by simp)]; simp [go_sem]
        have d2 : wr.cell? ⟨w.heap.size, 2, none⟩ = some (.slice none 0 0) := by rw [hacc.bel.cell (by simp)]; simp [go_sem]
        have f0 : wr.frozen? ⟨w.heap.size, 0, none⟩ = false := by rw [hacc.bel.frozen (by simp)]; simp [go_sem]
        have f1 : wr.frozen? ⟨w.heap.size, 1, none⟩ = false := by rw [hacc.bel.frozen (by simp)]; simp [go_sem]
        have f2 : wr.frozen? ⟨w.heap.size, 2, none⟩ = false := by rw [hacc.bel.frozen (by simp)]; simp [go_sem]
        go_wp2
        rw [hlen, Nat.mul_comm] at hints
        refine bodyPost_ret (v := .agg #[.int .i64 W, .int .i64 y, .slice a (W * y) cap]) (by simp [results, Try.results17, go_sem, d0, d1, d2]; exact Nat.mul_comm _ _) rfl ⟨a, cap, rfl, ?_, ?_⟩
        · exact (((hints.setCell (by simp; omega) _).setCell (by simp; omega) _).setCell (by simp; omega) _).mono (by omega)
        · exact ((((((Below.refl _ _).alloc (Nat.le_refl _) _).alloc (by simp) _).trans (hacc.bel.mono (by omega))).setCell (by simp) _).setCell (by simp) _).setCell (by simp) _
/-- The reference's MakeError. -/
theorem makeError_kind (op W H k : Int) (w : World) (h : ¬ op = 1) (h' : ¬ op = 2) :
    Calls Try.prog 16 #[.int .i64 op, .int .i64 W, .int .i64 H, .int .i64 k] w fun e w' => e = .returned (.int .i64 4) ∧ w = w' := by
  have hb : (op != 1) = true := by simpa using h
  have hb' : (op != 2) = true := by simpa using h'
  go_enter Try.func16, Try.ntmps16
  go_wp2
  go_ret
  exact ⟨rfl, rfl⟩
theorem makeError_range (op W H k : Int) (w : World) (h : op = 1 ∨ op = 2) :
    Calls Try.prog 16 #[.int .i64 op, .int .i64 W, .int .i64 H, .int .i64 k] w fun e w' => e = .returned (.int .i64 (okIf (sideB W && sideB H && numB k) 3)) ∧ w = w' := by
  rcases h with rfl | rfl
  all_goals
    by_cases h1 : withinB W 1 16 = true
    · by_cases h2 : withinB H 1 16 = true
      · by_cases h3 : withinB k 0 65535 = true
        · have e : okIf (sideB W && sideB H && numB k) 3 = 0 := by rw [← within_side, ← within_side, ← within_num, h1, h2, h3]; rfl
          rw [e]
          clear e
          go_enter Try.func16, Try.ntmps16
          go_wp2_with (go_at_call 61; refine (within_any _ _ _ _).mono ?_; rintro e w' ⟨rfl, rfl⟩)
          go_ret
          exact ⟨rfl, rfl⟩
        · have h3' : withinB k 0 65535 = false := eq_false_of_ne_true h3
          have e : okIf (sideB W && sideB H && numB k) 3 = 3 := by rw [← within_side, ← within_side, ← within_num, h1, h2, h3']; rfl
          rw [e]
          clear e
          go_enter Try.func16, Try.ntmps16
          go_wp2_with (go_at_call 61; refine (within_any _ _ _ _).mono ?_; rintro e w' ⟨rfl, rfl⟩)
          go_ret
          exact ⟨rfl, rfl⟩
      · have h2' : withinB H 1 16 = false := eq_false_of_ne_true h2
        have e : okIf (sideB W && sideB H && numB k) 3 = 3 := by rw [← within_side, ← within_side, h1, h2']; rfl
        rw [e]
        clear e
        go_enter Try.func16, Try.ntmps16
        go_wp2_with (go_at_call 61; refine (within_any _ _ _ _).mono ?_; rintro e w' ⟨rfl, rfl⟩)
        go_ret
        exact ⟨rfl, rfl⟩
    · have h1' : withinB W 1 16 = false := eq_false_of_ne_true h1
      have e : okIf (sideB W && sideB H && numB k) 3 = 3 := by rw [← within_side, h1']; rfl
      rw [e]
      clear e
      go_enter Try.func16, Try.ntmps16
      go_wp2_with (go_at_call 61; refine (within_any _ _ _ _).mono ?_; rintro e w' ⟨rfl, rfl⟩)
      go_ret
      exact ⟨rfl, rfl⟩
end Go.Proofs.Ytfpkiimlaepnhaa
