/- OneOfB, OneOfC, OneErr, LawMakes, LawOnes: joined, in this order. -/
import Derived.Test.YtihliofhhjjeaaaGreatM07
import Derived.Test.YtihliofhhjjeaaaGreatM05
import Derived.Deep.RegionHeld3
set_option maxRecDepth 100000
namespace Go.Proofs.YtihliofhhjjeaaaGreat
open Go.RowKit Im
set_option maxRecDepth 100000 in
set_option maxHeartbeats 1000000 in
theorem oneOf_9 {w : World} {b off cap W H : Nat} {ps : List Int} (k : Int) (hF : Fine w b off W H ps) (hE : oneErr 9 W H k = 0) :
    Calls Tryz.prog 125 #[.int .i64 9, .agg #[.int .i64 W, .int .i64 H, .slice (some ⟨b, off, none⟩) (W * H) cap], .int .i64 k] w fun e w' =>
      ∃ a cap', e = .returned (.agg #[.int .i64 (oneN 9 W), .int .i64 (oneN 9 H), .slice a (oneN 9 W * oneN 9 H) cap']) ∧ Ints w.heap.size w' a (oneN 9 W * oneN 9 H) (pix (oneN 9 W) (oneG 9 W H k ps) (oneN 9 W * oneN 9 H)) ∧ Below w.heap.size w w' := by
  obtain ⟨i0, hi, hz0, hz1, hz2⟩ := info_parts Tryz.info3
  have hs := oneN_side hF.hW hF.hH hE
  have hsO := fun wx => oneSize_any 9 W H wx hF.hW.2 hF.hH.2
  obtain ⟨hw1, hw2⟩ := hF.hW
  obtain ⟨hh1, hh2⟩ := hF.hH
  have hk9 : -16 ≤ k ∧ k ≤ 16 := by
    have := okIf_zero (by decide) (show okIf (withinB k (-16) 16) 3 = 0 from hE)
    simpa [withinB] using this
  obtain ⟨N, hN⟩ : ∃ N, N = oneN 9 W := ⟨_, rfl⟩
  obtain ⟨M, hM⟩ : ∃ M, M = oneN 9 H := ⟨_, rfl⟩
  have e1 : N = W := hN
  have e2 : M = H := hM
  rw [← hN, ← hM] at hs ⊢
  rw [← hN, ← hM] at hsO
  clear hN hM hE
  have E1 : Hid (N = W) := e1
  have E2 : Hid (M = H) := e2
  clear e1 e2
  obtain ⟨⟨hN1, hN2⟩, hM1, hM2⟩ := hs
  have hNM : N * M ≤ 256 := Nat.mul_le_mul hN2 hM2
  have hB0 : Below w.heap.size w (((w.alloc (.cells #[.int .i64 W, .int .i64 H, .slice (some ⟨b, off, none⟩) (W * H) cap] 31)).alloc (.cells #[.int .i64 0, .int .i64 0, .slice none 0 0] 31)).alloc (.cells #[.int .i64 N, .int .i64 M, .slice none 0 0] 31)) := (((Below.refl _ _).alloc (Nat.le_refl _) _).alloc (by simp) _).alloc (by simp; omega) _
  have hBx : Boxed (((w.alloc (.cells #[.int .i64 W, .int .i64 H, .slice (some ⟨b, off, none⟩) (W * H) cap] 31)).alloc (.cells #[.int .i64 0, .int .i64 0, .slice none 0 0] 31)).alloc (.cells #[.int .i64 N, .int .i64 M, .slice none 0 0] 31)) w.heap.size b off cap W H := ⟨by simp; omega, by simp [go_sem], by simp [go_sem], by simp [go_sem]⟩
  have hst := Acc.start ((w.alloc (.cells #[.int .i64 W, .int .i64 H, .slice (some ⟨b, off, none⟩) (W * H) cap] 31)).alloc (.cells #[.int .i64 0, .int .i64 0, .slice none 0 0] 31)) (w.heap.size + 1 + 1) N M (by simp)
  have z0 : (((w.alloc (.cells #[.int .i64 W, .int .i64 H, .slice (some ⟨b, off, none⟩) (W * H) cap] 31)).alloc (.cells #[.int .i64 0, .int .i64 0, .slice none 0 0] 31)).alloc (.cells #[.int .i64 N, .int .i64 M, .slice none 0 0] 31)).cell? ⟨w.heap.size + 1, 0, none⟩ = some (.int .i64 0) := by simp [go_sem]
  have z1 : (((w.alloc (.cells #[.int .i64 W, .int .i64 H, .slice (some ⟨b, off, none⟩) (W * H) cap] 31)).alloc (.cells #[.int .i64 0, .int .i64 0, .slice none 0 0] 31)).alloc (.cells #[.int .i64 N, .int .i64 M, .slice none 0 0] 31)).cell? ⟨w.heap.size + 1, 1, none⟩ = some (.int .i64 0) := by simp [go_sem]
  have z2 : (((w.alloc (.cells #[.int .i64 W, .int .i64 H, .slice (some ⟨b, off, none⟩) (W * H) cap] 31)).alloc (.cells #[.int .i64 0, .int .i64 0, .slice none 0 0] 31)).alloc (.cells #[.int .i64 N, .int .i64 M, .slice none 0 0] 31)).cell? ⟨w.heap.size + 1, 2, none⟩ = some (.slice none 0 0) := by simp [go_sem]
  have y0 : ∀ o, (((w.alloc (.cells #[.int .i64 W, .int .i64 H, .slice (some ⟨b, off, none⟩) (W * H) cap] 31)).alloc (.cells #[.int .i64 0, .int .i64 0, .slice none 0 0] 31)).alloc (.cells #[.int .i64 N, .int .i64 M, .slice none 0 0] 31)).frozen? ⟨w.heap.size + 1, o, none⟩ = false := fun o => by simp [go_sem]
  go_enter Tryz.func125, Tryz.ntmps125
  go_wp2_with (go_at_call 82; refine (hsO _).mono ?_; rintro e w' ⟨rfl, rfl⟩)
  generalize hw0 : (((w.alloc (.cells #[.int .i64 W, .int .i64 H, .slice (some ⟨b, off, none⟩) (W * H) cap] 31)).alloc (.cells #[.int .i64 0, .int .i64 0, .slice none 0 0] 31)).alloc (.cells #[.int .i64 N, .int .i64 M, .slice none 0 0] 31)) = w0 at hB0 hBx hst z0 z1 z2 y0 ⊢
  clear hw0 hsO
  go_loopw [8] (fun i wr => ∃ (y : Nat) (v : Value), y ≤ M ∧ i = .int .i64 y ∧ Acc (w.heap.size + 1 + 1) w0 wr N M v (pix N (oneG 9 W H k ps) (y * N))) (fun i _ => M - (intOf i).toNat)
  case atStart => exact ⟨0, .slice none 0 0, Nat.zero_le _, rfl, by rw [Nat.zero_mul]; exact hst⟩
  case round =>
    obtain ⟨y, v, hy, rfl, hacc⟩ := hrel
    obtain ⟨q0, q1, q2, qf⟩ := hacc.cells
    by_cases hlt : y < M
    · go_wp2
      go_loopw [9] (fun i ws => ∃ (x : Nat) (v : Value), x ≤ N ∧ i = .int .i64 x ∧ Acc (w.heap.size + 1 + 1) w0 ws N M v (pix N (oneG 9 W H k ps) (y * N + x))) (fun i _ => N - (intOf i).toNat)
      case atStart => exact ⟨0, v, Nat.zero_le _, rfl, hacc⟩
      case round =>
        obtain ⟨x, v2, hx, rfl, hacs⟩ := hrel
        obtain ⟨c0, c1, c2, cf⟩ := hacs.cells
        by_cases hlx : x < N
        · have e1 := E1.out
          have e2 := E2.out
          have hsz := hacs.siz
          have hbW : Below w.heap.size w wr := hB0.trans (hacs.bel.mono (by omega))
          have hFr := hF.below hbW
          have hBr := hBx.belowN hacs.bel (by omega)
          obtain ⟨_, k0, k1, k2⟩ := id hBr
          have hpl : y * N + x < N * M := place_lt hlx hlt
          have hlen : (pix N (oneG 9 W H k ps) (y * N + x)).length = y * N + x := pix_length _ _ _
          obtain ⟨gx, hgx⟩ : ∃ gx, gx = oneG 9 W H k ps x y := ⟨_, rfl⟩
          have hcall := at_any (cap := cap) hFr (colX x k W : Int) y (colX x k W) y rfl rfl (colX_lt x k W hw1) (by omega)
          rw [show px W ps (colX x k W) y = gx by rw [hgx]; rfl] at hcall
          have HG : Hid (gx = oneG 9 W H k ps x y) := hgx
          obtain ⟨mm, hmm⟩ : ∃ mm : Int, (if (x : Int) - k < (W : Int) - 1 then (x : Int) - k else (W : Int) - 1) = mm := ⟨_, rfl⟩
          have hmx : (if 0 < mm then mm else 0) = (colX x k W : Int) := by rw [← hmm]; unfold colX; split <;> split <;> omega
          obtain ⟨cx, hcx⟩ : ∃ cx : Int, (colX x k W : Int) = cx := ⟨_, rfl⟩
          rw [hcx] at hcall hmx
          clear hgx hcx e1 e2
          go_wp2_with (first | (go_at_call 152; with_reducible refine hcall.mono ?_; rintro e w2 ⟨rfl, hb2⟩; have hac2 := hacs.below hb2; obtain ⟨y0, y1, y2, yf⟩ := hac2.cells; have hsz2 := hac2.siz) | (at_builtin; refine wpList_append_own _ rfl _ _ 25 rfl (w.heap.size + 1 + 1 + 1) 3 i0 (.int .i64 0) 1 8 Tryz.underlying25 hi hz0 hz1 hz2 rfl (by decide) _ _ _ rfl (World.ownsRow.alloc hac2.own _) ⟨w2.heap.size, 0, none⟩ 1 1 [.int .i64 gx] rfl rfl (cell_one_new _ _ _) (by intro u hu; simp at hu; subst hu; rfl) (by rw [hlen]; unfold maxLen; omega) (by rw [hlen]; omega) (by simp; omega) ?_; intro v' w9 hown9 hgrow9 _; obtain ⟨hm, m2, m3⟩ := hac2.mid hgrow9; obtain ⟨a', cap', hv'⟩ := owns_slice hown9; subst hv'))
          have R := hac2.push hgrow9 hown9
          rw [hlen] at R
          go_roundw
          case rel => exact ⟨x + 1, _, by omega, by go_num, by rw [← Nat.add_assoc, pix_succ N _ x y hlx, ← HG.out]; exact R⟩
          case measure => simp [intOf]; omega
        · have hxW : x = N := by omega
          subst hxW
          go_wp2
          go_roundw
          case rel => exact ⟨y + 1, v2, by omega, by go_num, by rw [Nat.add_mul, Nat.one_mul]; exact hacs⟩
          case measure => simp [intOf]; omega
    · have hyH : y = M := by omega
      subst hyH
      have hlen : (pix N (oneG 9 W H k ps) (y * N)).length = y * N := pix_length _ _ _
      obtain ⟨a, cap', rfl, hints⟩ := hacc.ints (by rw [hlen, Nat.mul_comm]; omega)
      have hsz := hacc.siz
      have d0 : wr.cell? ⟨w.heap.size + 1, 0, none⟩ = some (.int .i64 0) := (hacc.bel.cell (by simp)).trans z0
      have d1 : wr.cell? ⟨w.heap.size + 1, 1, none⟩ = some (.int .i64 0) := (hacc.bel.cell (by simp)).trans z1
      have d2 : wr.cell? ⟨w.heap.size + 1, 2, none⟩ = some (.slice none 0 0) := (hacc.bel.cell (by simp)).trans z2
      have f0 : wr.frozen? ⟨w.heap.size + 1, 0, none⟩ = false := (hacc.bel.frozen (by simp)).trans (y0 0)
      have f1 : wr.frozen? ⟨w.heap.size + 1, 1, none⟩ = false := (hacc.bel.frozen (by simp)).trans (y0 1)
      have f2 : wr.frozen? ⟨w.heap.size + 1, 2, none⟩ = false := (hacc.bel.frozen (by simp)).trans (y0 2)
      go_wp2
      rw [hlen, Nat.mul_comm] at hints
      refine bodyPost_ret (v := .agg #[.int .i64 N, .int .i64 y, .slice a (N * y) cap']) (by simp [results, Tryz.results125, go_sem, d0, d1, d2]; exact Nat.mul_comm _ _) rfl ⟨a, cap', rfl, ?_, ?_⟩
      · exact (((hints.setCell (by simp) _).setCell (by simp) _).setCell (by simp) _).mono (by omega)
      · exact (((hB0.trans (hacc.bel.mono (by omega))).setCell (by simp) _).setCell (by simp) _).setCell (by simp) _
set_option maxRecDepth 100000 in
set_option maxHeartbeats 1000000 in
theorem oneOf_10 {w : World} {b off cap W H : Nat} {ps : List Int} (k : Int) (hF : Fine w b off W H ps) (hE : oneErr 10 W H k = 0) :
    Calls Tryz.prog 125 #[.int .i64 10, .agg #[.int .i64 W, .int .i64 H, .slice (some ⟨b, off, none⟩) (W * H) cap], .int .i64 k] w fun e w' =>
      ∃ a cap', e = .returned (.agg #[.int .i64 (oneN 10 W), .int .i64 (oneN 10 H), .slice a (oneN 10 W * oneN 10 H) cap']) ∧ Ints w.heap.size w' a (oneN 10 W * oneN 10 H) (pix (oneN 10 W) (oneG 10 W H k ps) (oneN 10 W * oneN 10 H)) ∧ Below w.heap.size w w' := by
  obtain ⟨i0, hi, hz0, hz1, hz2⟩ := info_parts Tryz.info3
  have hs := oneN_side hF.hW hF.hH hE
  have hsO := fun wx => oneSize_any 10 W H wx hF.hW.2 hF.hH.2
  obtain ⟨hw1, hw2⟩ := hF.hW
  obtain ⟨hh1, hh2⟩ := hF.hH
  obtain ⟨N, hN⟩ : ∃ N, N = oneN 10 W := ⟨_, rfl⟩
  obtain ⟨M, hM⟩ : ∃ M, M = oneN 10 H := ⟨_, rfl⟩
  have e1 : N = W := hN
  have e2 : M = H := hM
  rw [← hN, ← hM] at hs ⊢
  rw [← hN, ← hM] at hsO
  clear hN hM hE
  have E1 : Hid (N = W) := e1
  have E2 : Hid (M = H) := e2
  clear e1 e2
  obtain ⟨⟨hN1, hN2⟩, hM1, hM2⟩ := hs
  have hNM : N * M ≤ 256 := Nat.mul_le_mul hN2 hM2
  have hB0 : Below w.heap.size w (((w.alloc (.cells #[.int .i64 W, .int .i64 H, .slice (some ⟨b, off, none⟩) (W * H) cap] 31)).alloc (.cells #[.int .i64 0, .int .i64 0, .slice none 0 0] 31)).alloc (.cells #[.int .i64 N, .int .i64 M, .slice none 0 0] 31)) := (((Below.refl _ _).alloc (Nat.le_refl _) _).alloc (by simp) _).alloc (by simp; omega) _
  have hBx : Boxed (((w.alloc (.cells #[.int .i64 W, .int .i64 H, .slice (some ⟨b, off, none⟩) (W * H) cap] 31)).alloc (.cells #[.int .i64 0, .int .i64 0, .slice none 0 0] 31)).alloc (.cells #[.int .i64 N, .int .i64 M, .slice none 0 0] 31)) w.heap.size b off cap W H := ⟨by simp; omega, by simp [go_sem], by simp [go_sem], by simp [go_sem]⟩
  have hst := Acc.start ((w.alloc (.cells #[.int .i64 W, .int .i64 H, .slice (some ⟨b, off, none⟩) (W * H) cap] 31)).alloc (.cells #[.int .i64 0, .int .i64 0, .slice none 0 0] 31)) (w.heap.size + 1 + 1) N M (by simp)
  have z0 : (((w.alloc (.cells #[.int .i64 W, .int .i64 H, .slice (some ⟨b, off, none⟩) (W * H) cap] 31)).alloc (.cells #[.int .i64 0, .int .i64 0, .slice none 0 0] 31)).alloc (.cells #[.int .i64 N, .int .i64 M, .slice none 0 0] 31)).cell? ⟨w.heap.size + 1, 0, none⟩ = some (.int .i64 0) := by simp [go_sem]
  have z1 : (((w.alloc (.cells #[.int .i64 W, .int .i64 H, .slice (some ⟨b, off, none⟩) (W * H) cap] 31)).alloc (.cells #[.int .i64 0, .int .i64 0, .slice none 0 0] 31)).alloc (.cells #[.int .i64 N, .int .i64 M, .slice none 0 0] 31)).cell? ⟨w.heap.size + 1, 1, none⟩ = some (.int .i64 0) := by simp [go_sem]
  have z2 : (((w.alloc (.cells #[.int .i64 W, .int .i64 H, .slice (some ⟨b, off, none⟩) (W * H) cap] 31)).alloc (.cells #[.int .i64 0, .int .i64 0, .slice none 0 0] 31)).alloc (.cells #[.int .i64 N, .int .i64 M, .slice none 0 0] 31)).cell? ⟨w.heap.size + 1, 2, none⟩ = some (.slice none 0 0) := by simp [go_sem]
  have y0 : ∀ o, (((w.alloc (.cells #[.int .i64 W, .int .i64 H, .slice (some ⟨b, off, none⟩) (W * H) cap] 31)).alloc (.cells #[.int .i64 0, .int .i64 0, .slice none 0 0] 31)).alloc (.cells #[.int .i64 N, .int .i64 M, .slice none 0 0] 31)).frozen? ⟨w.heap.size + 1, o, none⟩ = false := fun o => by simp [go_sem]
  go_enter Tryz.func125, Tryz.ntmps125
  go_wp2_with (go_at_call 82; refine (hsO _).mono ?_; rintro e w' ⟨rfl, rfl⟩)
  generalize hw0 : (((w.alloc (.cells #[.int .i64 W, .int .i64 H, .slice (some ⟨b, off, none⟩) (W * H) cap] 31)).alloc (.cells #[.int .i64 0, .int .i64 0, .slice none 0 0] 31)).alloc (.cells #[.int .i64 N, .int .i64 M, .slice none 0 0] 31)) = w0 at hB0 hBx hst z0 z1 z2 y0 ⊢
  clear hw0 hsO
  go_loopw [8] (fun i wr => ∃ (y : Nat) (v : Value), y ≤ M ∧ i = .int .i64 y ∧ Acc (w.heap.size + 1 + 1) w0 wr N M v (pix N (oneG 10 W H k ps) (y * N))) (fun i _ => M - (intOf i).toNat)
  case atStart => exact ⟨0, .slice none 0 0, Nat.zero_le _, rfl, by rw [Nat.zero_mul]; exact hst⟩
  case round =>
    obtain ⟨y, v, hy, rfl, hacc⟩ := hrel
    obtain ⟨q0, q1, q2, qf⟩ := hacc.cells
    by_cases hlt : y < M
    · go_wp2
      go_loopw [9] (fun i ws => ∃ (x : Nat) (v : Value), x ≤ N ∧ i = .int .i64 x ∧ Acc (w.heap.size + 1 + 1) w0 ws N M v (pix N (oneG 10 W H k ps) (y * N + x))) (fun i _ => N - (intOf i).toNat)
      case atStart => exact ⟨0, v, Nat.zero_le _, rfl, hacc⟩
      case round =>
        obtain ⟨x, v2, hx, rfl, hacs⟩ := hrel
        obtain ⟨c0, c1, c2, cf⟩ := hacs.cells
        by_cases hlx : x < N
        · have e1 := E1.out
          have e2 := E2.out
          have hsz := hacs.siz
          have hbW : Below w.heap.size w wr := hB0.trans (hacs.bel.mono (by omega))
          have hFr := hF.below hbW
          have hBr := hBx.belowN hacs.bel (by omega)
          obtain ⟨_, k0, k1, k2⟩ := id hBr
          have hpl : y * N + x < N * M := place_lt hlx hlt
          have hlen : (pix N (oneG 10 W H k ps) (y * N + x)).length = y * N + x := pix_length _ _ _
          obtain ⟨gx, hgx⟩ : ∃ gx, gx = oneG 10 W H k ps x y := ⟨_, rfl⟩
          have hcall := meanRef_any (cap := cap) hFr ((x : Int) - 1) ((y : Int) - 1) ((x : Int) + 1) ((y : Int) + 1) (x - 1) (min (x + 1) (W - 1) + 1 - (x - 1)) (y - 1) (min (y + 1) (H - 1) + 1 - (y - 1)) (by split <;> omega) (by split <;> omega) (by split <;> omega) (by split <;> omega) (by omega) (by omega) (by omega) (by omega)
          rw [← mean_eq (px W ps) (x - 1) _ (y - 1) _ (min (x + 1) (W - 1)) (min (y + 1) (H - 1)) (by omega) (by omega), show meanP (px W ps) (x - 1) (y - 1) (min (x + 1) (W - 1)) (min (y + 1) (H - 1)) = gx by rw [hgx]; rfl] at hcall
          have HG : Hid (gx = oneG 10 W H k ps x y) := hgx
          clear hgx e1 e2
          go_wp2_with (first | (go_at_call 154; with_reducible refine hcall.mono ?_; rintro e w2 ⟨rfl, hb2⟩; have hac2 := hacs.below hb2; obtain ⟨y0, y1, y2, yf⟩ := hac2.cells; have hsz2 := hac2.siz) | (at_builtin; refine wpList_append_own _ rfl _ _ 25 rfl (w.heap.size + 1 + 1 + 1) 3 i0 (.int .i64 0) 1 8 Tryz.underlying25 hi hz0 hz1 hz2 rfl (by decide) _ _ _ rfl (World.ownsRow.alloc hac2.own _) ⟨w2.heap.size, 0, none⟩ 1 1 [.int .i64 gx] rfl rfl (cell_one_new _ _ _) (by intro u hu; simp at hu; subst hu; rfl) (by rw [hlen]; unfold maxLen; omega) (by rw [hlen]; omega) (by simp; omega) ?_; intro v' w9 hown9 hgrow9 _; obtain ⟨hm, m2, m3⟩ := hac2.mid hgrow9; obtain ⟨a', cap', hv'⟩ := owns_slice hown9; subst hv'))
          have R := hac2.push hgrow9 hown9
          rw [hlen] at R
          go_roundw
          case rel => exact ⟨x + 1, _, by omega, by go_num, by rw [← Nat.add_assoc, pix_succ N _ x y hlx, ← HG.out]; exact R⟩
          case measure => simp [intOf]; omega
        · have hxW : x = N := by omega
          subst hxW
          go_wp2
          go_roundw
          case rel => exact ⟨y + 1, v2, by omega, by go_num, by rw [Nat.add_mul, Nat.one_mul]; exact hacs⟩
          case measure => simp [intOf]; omega
    · have hyH : y = M := by omega
      subst hyH
      have hlen : (pix N (oneG 10 W H k ps) (y * N)).length = y * N := pix_length _ _ _
      obtain ⟨a, cap', rfl, hints⟩ := hacc.ints (by rw [hlen, Nat.mul_comm]; omega)
      have hsz := hacc.siz
      have d0 : wr.cell? ⟨w.heap.size + 1, 0, none⟩ = some (.int .i64 0) := (hacc.bel.cell (by simp)).trans z0
      have d1 : wr.cell? ⟨w.heap.size + 1, 1, none⟩ = some (.int .i64 0) := (hacc.bel.cell (by simp)).trans z1
      have d2 : wr.cell? ⟨w.heap.size + 1, 2, none⟩ = some (.slice none 0 0) := (hacc.bel.cell (by simp)).trans z2
      have f0 : wr.frozen? ⟨w.heap.size + 1, 0, none⟩ = false := (hacc.bel.frozen (by simp)).trans (y0 0)
      have f1 : wr.frozen? ⟨w.heap.size + 1, 1, none⟩ = false := (hacc.bel.frozen (by simp)).trans (y0 1)
      have f2 : wr.frozen? ⟨w.heap.size + 1, 2, none⟩ = false := (hacc.bel.frozen (by simp)).trans (y0 2)
      go_wp2
      rw [hlen, Nat.mul_comm] at hints
      refine bodyPost_ret (v := .agg #[.int .i64 N, .int .i64 y, .slice a (N * y) cap']) (by simp [results, Tryz.results125, go_sem, d0, d1, d2]; exact Nat.mul_comm _ _) rfl ⟨a, cap', rfl, ?_, ?_⟩
      · exact (((hints.setCell (by simp) _).setCell (by simp) _).setCell (by simp) _).mono (by omega)
      · exact (((hB0.trans (hacc.bel.mono (by omega))).setCell (by simp) _).setCell (by simp) _).setCell (by simp) _
end Go.Proofs.YtihliofhhjjeaaaGreat
namespace Go.Proofs.YtihliofhhjjeaaaGreat
open Go.RowKit Im
set_option maxRecDepth 100000 in
set_option maxHeartbeats 1000000 in
theorem oneOf_11 {w : World} {b off cap W H : Nat} {ps : List Int} (k : Int) (hF : Fine w b off W H ps) (hE : oneErr 11 W H k = 0) :
    Calls Tryz.prog 125 #[.int .i64 11, .agg #[.int .i64 W, .int .i64 H, .slice (some ⟨b, off, none⟩) (W * H) cap], .int .i64 k] w fun e w' =>
      ∃ a cap', e = .returned (.agg #[.int .i64 (oneN 11 W), .int .i64 (oneN 11 H), .slice a (oneN 11 W * oneN 11 H) cap']) ∧ Ints w.heap.size w' a (oneN 11 W * oneN 11 H) (pix (oneN 11 W) (oneG 11 W H k ps) (oneN 11 W * oneN 11 H)) ∧ Below w.heap.size w w' := by
  obtain ⟨i0, hi, hz0, hz1, hz2⟩ := info_parts Tryz.info3
  have hs := oneN_side hF.hW hF.hH hE
  have hsO := fun wx => oneSize_any 11 W H wx hF.hW.2 hF.hH.2
  obtain ⟨hw1, hw2⟩ := hF.hW
  obtain ⟨hh1, hh2⟩ := hF.hH
  obtain ⟨N, hN⟩ : ∃ N, N = oneN 11 W := ⟨_, rfl⟩
  obtain ⟨M, hM⟩ : ∃ M, M = oneN 11 H := ⟨_, rfl⟩
  have e1 : N = W / 2 := hN
  have e2 : M = H / 2 := hM
  rw [← hN, ← hM] at hs ⊢
  rw [← hN, ← hM] at hsO
  clear hN hM hE
  have E1 : Hid (N = W / 2) := e1
  have E2 : Hid (M = H / 2) := e2
  clear e1 e2
  obtain ⟨⟨hN1, hN2⟩, hM1, hM2⟩ := hs
  have hNM : N * M ≤ 256 := Nat.mul_le_mul hN2 hM2
  have hB0 : Below w.heap.size w (((w.alloc (.cells #[.int .i64 W, .int .i64 H, .slice (some ⟨b, off, none⟩) (W * H) cap] 31)).alloc (.cells #[.int .i64 0, .int .i64 0, .slice none 0 0] 31)).alloc (.cells #[.int .i64 N, .int .i64 M, .slice none 0 0] 31)) := (((Below.refl _ _).alloc (Nat.le_refl _) _).alloc (by simp) _).alloc (by simp; omega) _
  have hBx : Boxed (((w.alloc (.cells #[.int .i64 W, .int .i64 H, .slice (some ⟨b, off, none⟩) (W * H) cap] 31)).alloc (.cells #[.int .i64 0, .int .i64 0, .slice none 0 0] 31)).alloc (.cells #[.int .i64 N, .int .i64 M, .slice none 0 0] 31)) w.heap.size b off cap W H := ⟨by simp; omega, by simp [go_sem], by simp [go_sem], by simp [go_sem]⟩
  have hst := Acc.start ((w.alloc (.cells #[.int .i64 W, .int .i64 H, .slice (some ⟨b, off, none⟩) (W * H) cap] 31)).alloc (.cells #[.int .i64 0, .int .i64 0, .slice none 0 0] 31)) (w.heap.size + 1 + 1) N M (by simp)
  have z0 : (((w.alloc (.cells #[.int .i64 W, .int .i64 H, .slice (some ⟨b, off, none⟩) (W * H) cap] 31)).alloc (.cells #[.int .i64 0, .int .i64 0, .slice none 0 0] 31)).alloc (.cells #[.int .i64 N, .int .i64 M, .slice none 0 0] 31)).cell? ⟨w.heap.size + 1, 0, none⟩ = some (.int .i64 0) := by simp [go_sem]
  have z1 : (((w.alloc (.cells #[.int .i64 W, .int .i64 H, .slice (some ⟨b, off, none⟩) (W * H) cap] 31)).alloc (.cells #[.int .i64 0, .int .i64 0, .slice none 0 0] 31)).alloc (.cells #[.int .i64 N, .int .i64 M, .slice none 0 0] 31)).cell? ⟨w.heap.size + 1, 1, none⟩ = some (.int .i64 0) := by simp [go_sem]
  have z2 : (((w.alloc (.cells #[.int .i64 W, .int .i64 H, .slice (some ⟨b, off, none⟩) (W * H) cap] 31)).alloc (.cells #[.int .i64 0, .int .i64 0, .slice none 0 0] 31)).alloc (.cells #[.int .i64 N, .int .i64 M, .slice none 0 0] 31)).cell? ⟨w.heap.size + 1, 2, none⟩ = some (.slice none 0 0) := by simp [go_sem]
  have y0 : ∀ o, (((w.alloc (.cells #[.int .i64 W, .int .i64 H, .slice (some ⟨b, off, none⟩) (W * H) cap] 31)).alloc (.cells #[.int .i64 0, .int .i64 0, .slice none 0 0] 31)).alloc (.cells #[.int .i64 N, .int .i64 M, .slice none 0 0] 31)).frozen? ⟨w.heap.size + 1, o, none⟩ = false := fun o => by simp [go_sem]
  go_enter Tryz.func125, Tryz.ntmps125
  go_wp2_with (go_at_call 82; refine (hsO _).mono ?_; rintro e w' ⟨rfl, rfl⟩)
  generalize hw0 : (((w.alloc (.cells #[.int .i64 W, .int .i64 H, .slice (some ⟨b, off, none⟩) (W * H) cap] 31)).alloc (.cells #[.int .i64 0, .int .i64 0, .slice none 0 0] 31)).alloc (.cells #[.int .i64 N, .int .i64 M, .slice none 0 0] 31)) = w0 at hB0 hBx hst z0 z1 z2 y0 ⊢
  clear hw0 hsO
  go_loopw [8] (fun i wr => ∃ (y : Nat) (v : Value), y ≤ M ∧ i = .int .i64 y ∧ Acc (w.heap.size + 1 + 1) w0 wr N M v (pix N (oneG 11 W H k ps) (y * N))) (fun i _ => M - (intOf i).toNat)
  case atStart => exact ⟨0, .slice none 0 0, Nat.zero_le _, rfl, by rw [Nat.zero_mul]; exact hst⟩
  case round =>
    obtain ⟨y, v, hy, rfl, hacc⟩ := hrel
    obtain ⟨q0, q1, q2, qf⟩ := hacc.cells
    by_cases hlt : y < M
    · go_wp2
      go_loopw [9] (fun i ws => ∃ (x : Nat) (v : Value), x ≤ N ∧ i = .int .i64 x ∧ Acc (w.heap.size + 1 + 1) w0 ws N M v (pix N (oneG 11 W H k ps) (y * N + x))) (fun i _ => N - (intOf i).toNat)
      case atStart => exact ⟨0, v, Nat.zero_le _, rfl, hacc⟩
      case round =>
        obtain ⟨x, v2, hx, rfl, hacs⟩ := hrel
        obtain ⟨c0, c1, c2, cf⟩ := hacs.cells
        by_cases hlx : x < N
        · have e1 := E1.out
          have e2 := E2.out
          have hsz := hacs.siz
          have hbW : Below w.heap.size w wr := hB0.trans (hacs.bel.mono (by omega))
          have hFr := hF.below hbW
          have hBr := hBx.belowN hacs.bel (by omega)
          obtain ⟨_, k0, k1, k2⟩ := id hBr
          have hpl : y * N + x < N * M := place_lt hlx hlt
          have hlen : (pix N (oneG 11 W H k ps) (y * N + x)).length = y * N + x := pix_length _ _ _
          obtain ⟨gx, hgx⟩ : ∃ gx, gx = oneG 11 W H k ps x y := ⟨_, rfl⟩
          have hcall := meanRef_any (cap := cap) hFr (2 * (x : Int)) (2 * (y : Int)) (2 * (x : Int) + 1) (2 * (y : Int) + 1) (2 * x) 2 (2 * y) 2 (by split <;> omega) (by split <;> omega) (by split <;> omega) (by split <;> omega) (by omega) (by omega) (by omega) (by omega)
          rw [← mean_eq (px W ps) (2 * x) 2 (2 * y) 2 (2 * x + 1) (2 * y + 1) (by omega) (by omega), show meanP (px W ps) (2 * x) (2 * y) (2 * x + 1) (2 * y + 1) = gx by rw [hgx]; rfl] at hcall
          have HG : Hid (gx = oneG 11 W H k ps x y) := hgx
          clear hgx e1 e2
          go_wp2_with (first | (go_at_call 154; with_reducible refine hcall.mono ?_; rintro e w2 ⟨rfl, hb2⟩; have hac2 := hacs.below hb2; obtain ⟨y0, y1, y2, yf⟩ := hac2.cells; have hsz2 := hac2.siz) | (at_builtin; refine wpList_append_own _ rfl _ _ 25 rfl (w.heap.size + 1 + 1 + 1) 3 i0 (.int .i64 0) 1 8 Tryz.underlying25 hi hz0 hz1 hz2 rfl (by decide) _ _ _ rfl (World.ownsRow.alloc hac2.own _) ⟨w2.heap.size, 0, none⟩ 1 1 [.int .i64 gx] rfl rfl (cell_one_new _ _ _) (by intro u hu; simp at hu; subst hu; rfl) (by rw [hlen]; unfold maxLen; omega) (by rw [hlen]; omega) (by simp; omega) ?_; intro v' w9 hown9 hgrow9 _; obtain ⟨hm, m2, m3⟩ := hac2.mid hgrow9; obtain ⟨a', cap', hv'⟩ := owns_slice hown9; subst hv'))
          have R := hac2.push hgrow9 hown9
          rw [hlen] at R
          go_roundw
          case rel => exact ⟨x + 1, _, by omega, by go_num, by rw [← Nat.add_assoc, pix_succ N _ x y hlx, ← HG.out]; exact R⟩
          case measure => simp [intOf]; omega
        · have hxW : x = N := by omega
          subst hxW
          go_wp2
          go_roundw
          case rel => exact ⟨y + 1, v2, by omega, by go_num, by rw [Nat.add_mul, Nat.one_mul]; exact hacs⟩
          case measure => simp [intOf]; omega
    · have hyH : y = M := by omega
      subst hyH
      have hlen : (pix N (oneG 11 W H k ps) (y * N)).length = y * N := pix_length _ _ _
      obtain ⟨a, cap', rfl, hints⟩ := hacc.ints (by rw [hlen, Nat.mul_comm]; omega)
      have hsz := hacc.siz
      have d0 : wr.cell? ⟨w.heap.size + 1, 0, none⟩ = some (.int .i64 0) := (hacc.bel.cell (by simp)).trans z0
      have d1 : wr.cell? ⟨w.heap.size + 1, 1, none⟩ = some (.int .i64 0) := (hacc.bel.cell (by simp)).trans z1
      have d2 : wr.cell? ⟨w.heap.size + 1, 2, none⟩ = some (.slice none 0 0) := (hacc.bel.cell (by simp)).trans z2
      have f0 : wr.frozen? ⟨w.heap.size + 1, 0, none⟩ = false := (hacc.bel.frozen (by simp)).trans (y0 0)
      have f1 : wr.frozen? ⟨w.heap.size + 1, 1, none⟩ = false := (hacc.bel.frozen (by simp)).trans (y0 1)
      have f2 : wr.frozen? ⟨w.heap.size + 1, 2, none⟩ = false := (hacc.bel.frozen (by simp)).trans (y0 2)
      go_wp2
      rw [hlen, Nat.mul_comm] at hints
      refine bodyPost_ret (v := .agg #[.int .i64 N, .int .i64 y, .slice a (N * y) cap']) (by simp [results, Tryz.results125, go_sem, d0, d1, d2]; exact Nat.mul_comm _ _) rfl ⟨a, cap', rfl, ?_, ?_⟩
      · exact (((hints.setCell (by simp) _).setCell (by simp) _).setCell (by simp) _).mono (by omega)
      · exact (((hB0.trans (hacc.bel.mono (by omega))).setCell (by simp) _).setCell (by simp) _).setCell (by simp) _
set_option maxRecDepth 100000 in
set_option maxHeartbeats 1000000 in
theorem oneOf_12 {w : World} {b off cap W H : Nat} {ps : List Int} (k : Int) (hF : Fine w b off W H ps) (hE : oneErr 12 W H k = 0) :
    Calls Tryz.prog 125 #[.int .i64 12, .agg #[.int .i64 W, .int .i64 H, .slice (some ⟨b, off, none⟩) (W * H) cap], .int .i64 k] w fun e w' =>
      ∃ a cap', e = .returned (.agg #[.int .i64 (oneN 12 W), .int .i64 (oneN 12 H), .slice a (oneN 12 W * oneN 12 H) cap']) ∧ Ints w.heap.size w' a (oneN 12 W * oneN 12 H) (pix (oneN 12 W) (oneG 12 W H k ps) (oneN 12 W * oneN 12 H)) ∧ Below w.heap.size w w' := by
  obtain ⟨i0, hi, hz0, hz1, hz2⟩ := info_parts Tryz.info3
  have hs := oneN_side hF.hW hF.hH hE
  have hsO := fun wx => oneSize_any 12 W H wx hF.hW.2 hF.hH.2
  obtain ⟨hw1, hw2⟩ := hF.hW
  obtain ⟨hh1, hh2⟩ := hF.hH
  obtain ⟨N, hN⟩ : ∃ N, N = oneN 12 W := ⟨_, rfl⟩
  obtain ⟨M, hM⟩ : ∃ M, M = oneN 12 H := ⟨_, rfl⟩
  have e1 : N = 2 * W := hN
  have e2 : M = 2 * H := hM
  rw [← hN, ← hM] at hs ⊢
  rw [← hN, ← hM] at hsO
  clear hN hM hE
  have E1 : Hid (N = 2 * W) := e1
  have E2 : Hid (M = 2 * H) := e2
  clear e1 e2
  obtain ⟨⟨hN1, hN2⟩, hM1, hM2⟩ := hs
  have hNM : N * M ≤ 256 := Nat.mul_le_mul hN2 hM2
  have hB0 : Below w.heap.size w (((w.alloc (.cells #[.int .i64 W, .int .i64 H, .slice (some ⟨b, off, none⟩) (W * H) cap] 31)).alloc (.cells #[.int .i64 0, .int .i64 0, .slice none 0 0] 31)).alloc (.cells #[.int .i64 N, .int .i64 M, .slice none 0 0] 31)) := (((Below.refl _ _).alloc (Nat.le_refl _) _).alloc (by simp) _).alloc (by simp; omega) _
  have hBx : Boxed (((w.alloc (.cells #[.int .i64 W, .int .i64 H, .slice (some ⟨b, off, none⟩) (W * H) cap] 31)).alloc (.cells #[.int .i64 0, .int .i64 0, .slice none 0 0] 31)).alloc (.cells #[.int .i64 N, .int .i64 M, .slice none 0 0] 31)) w.heap.size b off cap W H := ⟨by simp; omega, by simp [go_sem], by simp [go_sem], by simp [go_sem]⟩
  have hst := Acc.start ((w.alloc (.cells #[.int .i64 W, .int .i64 H, .slice (some ⟨b, off, none⟩) (W * H) cap] 31)).alloc (.cells #[.int .i64 0, .int .i64 0, .slice none 0 0] 31)) (w.heap.size + 1 + 1) N M (by simp)
  have z0 : (((w.alloc (.cells #[.int .i64 W, .int .i64 H, .slice (some ⟨b, off, none⟩) (W * H) cap] 31)).alloc (.cells #[.int .i64 0, .int .i64 0, .slice none 0 0] 31)).alloc (.cells #[.int .i64 N, .int .i64 M, .slice none 0 0] 31)).cell? ⟨w.heap.size + 1, 0, none⟩ = some (.int .i64 0) := by simp [go_sem]
  have z1 : (((w.alloc (.cells #[.int .i64 W, .int .i64 H, .slice (some ⟨b, off, none⟩) (W * H) cap] 31)).alloc (.cells #[.int .i64 0, .int .i64 0, .slice none 0 0] 31)).alloc (.cells #[.int .i64 N, .int .i64 M, .slice none 0 0] 31)).cell? ⟨w.heap.size + 1, 1, none⟩ = some (.int .i64 0) := by simp [go_sem]
  have z2 : (((w.alloc (.cells #[.int .i64 W, .int .i64 H, .slice (some ⟨b, off, none⟩) (W * H) cap] 31)).alloc (.cells #[.int .i64 0, .int .i64 0, .slice none 0 0] 31)).alloc (.cells #[.int .i64 N, .int .i64 M, .slice none 0 0] 31)).cell? ⟨w.heap.size + 1, 2, none⟩ = some (.slice none 0 0) := by simp [go_sem]
  have y0 : ∀ o, (((w.alloc (.cells #[.int .i64 W, .int .i64 H, .slice (some ⟨b, off, none⟩) (W * H) cap] 31)).alloc (.cells #[.int .i64 0, .int .i64 0, .slice none 0 0] 31)).alloc (.cells #[.int .i64 N, .int .i64 M, .slice none 0 0] 31)).frozen? ⟨w.heap.size + 1, o, none⟩ = false := fun o => by simp [go_sem]
  go_enter Tryz.func125, Tryz.ntmps125
  go_wp2_with (go_at_call 82; refine (hsO _).mono ?_; rintro e w' ⟨rfl, rfl⟩)
  generalize hw0 : (((w.alloc (.cells #[.int .i64 W, .int .i64 H, .slice (some ⟨b, off, none⟩) (W * H) cap] 31)).alloc (.cells #[.int .i64 0, .int .i64 0, .slice none 0 0] 31)).alloc (.cells #[.int .i64 N, .int .i64 M, .slice none 0 0] 31)) = w0 at hB0 hBx hst z0 z1 z2 y0 ⊢
  clear hw0 hsO
  go_loopw [8] (fun i wr => ∃ (y : Nat) (v : Value), y ≤ M ∧ i = .int .i64 y ∧ Acc (w.heap.size + 1 + 1) w0 wr N M v (pix N (oneG 12 W H k ps) (y * N))) (fun i _ => M - (intOf i).toNat)
  case atStart => exact ⟨0, .slice none 0 0, Nat.zero_le _, rfl, by rw [Nat.zero_mul]; exact hst⟩
  case round =>
    obtain ⟨y, v, hy, rfl, hacc⟩ := hrel
    obtain ⟨q0, q1, q2, qf⟩ := hacc.cells
    by_cases hlt : y < M
    · go_wp2
      go_loopw [9] (fun i ws => ∃ (x : Nat) (v : Value), x ≤ N ∧ i = .int .i64 x ∧ Acc (w.heap.size + 1 + 1) w0 ws N M v (pix N (oneG 12 W H k ps) (y * N + x))) (fun i _ => N - (intOf i).toNat)
      case atStart => exact ⟨0, v, Nat.zero_le _, rfl, hacc⟩
      case round =>
        obtain ⟨x, v2, hx, rfl, hacs⟩ := hrel
        obtain ⟨c0, c1, c2, cf⟩ := hacs.cells
        by_cases hlx : x < N
        · have e1 := E1.out
          have e2 := E2.out
          have hsz := hacs.siz
          have hbW : Below w.heap.size w wr := hB0.trans (hacs.bel.mono (by omega))
          have hFr := hF.below hbW
          have hBr := hBx.belowN hacs.bel (by omega)
          obtain ⟨_, k0, k1, k2⟩ := id hBr
          have hpl : y * N + x < N * M := place_lt hlx hlt
          have hlen : (pix N (oneG 12 W H k ps) (y * N + x)).length = y * N + x := pix_length _ _ _
          obtain ⟨gx, hgx⟩ : ∃ gx, gx = oneG 12 W H k ps x y := ⟨_, rfl⟩
          have hcall := at_any (cap := cap) hFr ((x : Int) / 2) ((y : Int) / 2) (x / 2) (y / 2) (by omega) (by omega) (by omega) (by omega)
          rw [show px W ps (x / 2) (y / 2) = gx by rw [hgx]; rfl] at hcall
          have HG : Hid (gx = oneG 12 W H k ps x y) := hgx
          clear hgx e1 e2
          go_wp2_with (first | (go_at_call 152; with_reducible refine hcall.mono ?_; rintro e w2 ⟨rfl, hb2⟩; have hac2 := hacs.below hb2; obtain ⟨y0, y1, y2, yf⟩ := hac2.cells; have hsz2 := hac2.siz) | (at_builtin; refine wpList_append_own _ rfl _ _ 25 rfl (w.heap.size + 1 + 1 + 1) 3 i0 (.int .i64 0) 1 8 Tryz.underlying25 hi hz0 hz1 hz2 rfl (by decide) _ _ _ rfl (World.ownsRow.alloc hac2.own _) ⟨w2.heap.size, 0, none⟩ 1 1 [.int .i64 gx] rfl rfl (cell_one_new _ _ _) (by intro u hu; simp at hu; subst hu; rfl) (by rw [hlen]; unfold maxLen; omega) (by rw [hlen]; omega) (by simp; omega) ?_; intro v' w9 hown9 hgrow9 _; obtain ⟨hm, m2, m3⟩ := hac2.mid hgrow9; obtain ⟨a', cap', hv'⟩ := owns_slice hown9; subst hv'))
          have R := hac2.push hgrow9 hown9
          rw [hlen] at R
          go_roundw
          case rel => exact ⟨x + 1, _, by omega, by go_num, by rw [← Nat.add_assoc, pix_succ N _ x y hlx, ← HG.out]; exact R⟩
          case measure => simp [intOf]; omega
        · have hxW : x = N := by omega
          subst hxW
          go_wp2
          go_roundw
          case rel => exact ⟨y + 1, v2, by omega, by go_num, by rw [Nat.add_mul, Nat.one_mul]; exact hacs⟩
          case measure => simp [intOf]; omega
    · have hyH : y = M := by omega
      subst hyH
      have hlen : (pix N (oneG 12 W H k ps) (y * N)).length = y * N := pix_length _ _ _
      obtain ⟨a, cap', rfl, hints⟩ := hacc.ints (by rw [hlen, Nat.mul_comm]; omega)
      have hsz := hacc.siz
      have d0 : wr.cell? ⟨w.heap.size + 1, 0, none⟩ = some (.int .i64 0) := (hacc.bel.cell (by simp)).trans z0
      have d1 : wr.cell? ⟨w.heap.size + 1, 1, none⟩ = some (.int .i64 0) := (hacc.bel.cell (by simp)).trans z1
      have d2 : wr.cell? ⟨w.heap.size + 1, 2, none⟩ = some (.slice none 0 0) := (hacc.bel.cell (by simp)).trans z2
      have f0 : wr.frozen? ⟨w.heap.size + 1, 0, none⟩ = false := (hacc.bel.frozen (by simp)).trans (y0 0)
      have f1 : wr.frozen? ⟨w.heap.size + 1, 1, none⟩ = false := (hacc.bel.frozen (by simp)).trans (y0 1)
      have f2 : wr.frozen? ⟨w.heap.size + 1, 2, none⟩ = false := (hacc.bel.frozen (by simp)).trans (y0 2)
      go_wp2
      rw [hlen, Nat.mul_comm] at hints
      refine bodyPost_ret (v := .agg #[.int .i64 N, .int .i64 y, .slice a (N * y) cap']) (by simp [results, Tryz.results125, go_sem, d0, d1, d2]; exact Nat.mul_comm _ _) rfl ⟨a, cap', rfl, ?_, ?_⟩
      · exact (((hints.setCell (by simp) _).setCell (by simp) _).setCell (by simp) _).mono (by omega)
      · exact (((hB0.trans (hacc.bel.mono (by omega))).setCell (by simp) _).setCell (by simp) _).setCell (by simp) _
end Go.Proofs.YtihliofhhjjeaaaGreat
namespace Go.Proofs.YtihliofhhjjeaaaGreat
open Go.RowKit Im
theorem oneOf_any {w : World} {b off W H : Nat} (op : Int) (cap : Nat) {ps : List Int} (k : Int) (hF : Fine w b off W H ps) (hE : oneErr op W H k = 0) :
    Calls Tryz.prog 125 #[.int .i64 op, .agg #[.int .i64 W, .int .i64 H, .slice (some ⟨b, off, none⟩) (W * H) cap], .int .i64 k] w fun e w' =>
      ∃ a cap', e = .returned (.agg #[.int .i64 (oneN op W), .int .i64 (oneN op H), .slice a (oneN op W * oneN op H) cap']) ∧ Ints w.heap.size w' a (oneN op W * oneN op H) (pix (oneN op W) (oneG op W H k ps) (oneN op W * oneN op H)) ∧ Below w.heap.size w w' := by
  rcases ones_cases op with (rfl | rfl) | rfl | rfl | rfl | rfl | ⟨h3, h10, h8, h9, h11, h12⟩
  · exact oneOf_3 k hF hE
  · exact oneOf_10 k hF hE
  · exact oneOf_8 k hF hE
  · exact oneOf_9 k hF hE
  · exact oneOf_11 k hF hE
  · exact oneOf_12 k hF hE
  · rw [oneErr_none W H k h3 h10 h8 h9 h11 h12] at hE; omega
end Go.Proofs.YtihliofhhjjeaaaGreat
namespace Go.Proofs.YtihliofhhjjeaaaGreat
open Go.RowKit Im
def makeErr (op W H k : Int) : Int := if op = 1 ∨ op = 2 then okIf (sideB W && sideB H && numB k) 3 else 4
theorem make_error (op W H k : Int) (w : World) (hE : ¬ makeErr op W H k = 0) : Calls Tryz.prog 69 #[.int .i64 op, .int .i64 W, .int .i64 H, .int .i64 k] w fun e w' => e = .returned (.tuple #[noImage, .int .i64 (makeErr op W H k)]) ∧ Below w.heap.size w w' := by
  by_cases h : op = 1 ∨ op = 2
  · have e : makeErr op W H k = okIf (sideB W && sideB H && numB k) 3 := by simp [makeErr, h]
    by_cases hr : (sideB W && sideB H && numB k) = true
    · rw [e, hr] at hE; exact absurd rfl hE
    · rw [e, eq_false_of_ne_true hr]; exact make_range op W H k w h (eq_false_of_ne_true hr)
  · have e : makeErr op W H k = 4 := by simp [makeErr, h]
    rw [e]; exact make_kind op W H k w (fun h' => h (.inl h')) (fun h' => h (.inr h'))
theorem makeErr_zero {op W H k : Int} (hE : makeErr op W H k = 0) : ∃ W' H' : Nat, W = W' ∧ H = H' ∧ (op = 1 ∨ op = 2) ∧ sideB W' = true ∧ sideB H' = true ∧ numB k = true := by
  by_cases h : op = 1 ∨ op = 2
  · have e : makeErr op W H k = okIf (sideB W && sideB H && numB k) 3 := by simp [makeErr, h]
    rw [e] at hE
    have := okIf_zero (by decide) hE
    simp only [Bool.and_eq_true] at this
    obtain ⟨⟨h1, h2⟩, h3⟩ := this
    have b1 := (side_iff _).1 h1
    have b2 := (side_iff _).1 h2
    obtain ⟨W', rfl⟩ := Int.eq_ofNat_of_zero_le (show 0 ≤ W by omega)
    obtain ⟨H', rfl⟩ := Int.eq_ofNat_of_zero_le (show 0 ≤ H by omega)
    exact ⟨W', H', rfl, rfl, h, h1, h2, h3⟩
  · have e : makeErr op W H k = 4 := by simp [makeErr, h]
    rw [e] at hE; omega
end Go.Proofs.YtihliofhhjjeaaaGreat
namespace Go.Proofs.YtihliofhhjjeaaaGreat
open Go.RowKit Im
end Go.Proofs.YtihliofhhjjeaaaGreat
