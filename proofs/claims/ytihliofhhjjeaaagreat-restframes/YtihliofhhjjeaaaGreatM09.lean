/- TwoRef, LawTwos, TrueMath, Res: joined, in this order. -/
import Derived.Test.YtihliofhhjjeaaaGreatM07
import Derived.Test.YtihliofhhjjeaaaGreatM04
import Derived.Test.YtihliofhhjjeaaaGreatM08
set_option maxRecDepth 100000
namespace Go.Proofs.YtihliofhhjjeaaaGreat
open Go.RowKit Im
def lin (op : Int) (ps qs : List Int) (n : Nat) : List Int := (List.range n).map fun i => twoG op (ps.getD i 0) (qs.getD i 0)
theorem lin_length (op : Int) (ps qs : List Int) (n : Nat) : (lin op ps qs n).length = n := by simp [lin]
theorem lin_succ (op : Int) (ps qs : List Int) (n : Nat) : lin op ps qs (n + 1) = lin op ps qs n ++ [twoG op (ps.getD n 0) (qs.getD n 0)] := by simp [lin, List.range_succ]
theorem lin_pix (op : Int) (ps qs : List Int) (W n : Nat) : lin op ps qs n = pix W (fun x y => twoG op (px W ps x y) (px W qs x y)) n := by
  unfold lin pix px
  apply List.map_congr_left
  intro i _
  have e : i / W * W + i % W = i := by rw [Nat.mul_comm]; exact Nat.div_add_mod i W
  simp only [e]
set_option maxRecDepth 100000 in
set_option maxHeartbeats 1000000 in
theorem twoOf_4 {w : World} {b off cap b' off' cap' W H L : Nat} {ps qs : List Int} (hb : b < w.heap.size) (hb' : b' < w.heap.size) (hL : L ≤ 256) (hc : ∀ j, j < L → w.cell? ⟨b, off + j, none⟩ = some (.int .i64 (ps.getD j 0))) (hc' : ∀ j, j < L → w.cell? ⟨b', off' + j, none⟩ = some (.int .i64 (qs.getD j 0)))
    (hp : ∀ j, j < L → 0 ≤ ps.getD j 0 ∧ ps.getD j 0 ≤ 65535) (hq : ∀ j, j < L → 0 ≤ qs.getD j 0 ∧ qs.getD j 0 ≤ 65535) :
    Calls Tryz.prog 123 #[.int .i64 4, .agg #[.int .i64 W, .int .i64 H, .slice (some ⟨b, off, none⟩) L cap], .agg #[.int .i64 W, .int .i64 H, .slice (some ⟨b', off', none⟩) L cap']] w fun e w' =>
      ∃ a cap', e = .returned (.agg #[.int .i64 W, .int .i64 H, .slice a L cap']) ∧ Ints w.heap.size w' a L (lin 4 ps qs L) ∧ Below w.heap.size w w' := by
  obtain ⟨i0, hi, hz0, hz1, hz2⟩ := info_parts Tryz.info3
  have hB0 : Below w.heap.size w ((((w.alloc (.cells #[.int .i64 W, .int .i64 H, .slice (some ⟨b, off, none⟩) L cap] 31)).alloc (.cells #[.int .i64 W, .int .i64 H, .slice (some ⟨b', off', none⟩) L cap'] 31)).alloc (.cells #[.int .i64 0, .int .i64 0, .slice none 0 0] 31)).alloc (.cells #[.int .i64 W, .int .i64 H, .slice none 0 0] 31)) := ((((Below.refl _ _).alloc (Nat.le_refl _) _).alloc (by simp) _).alloc (by simp; omega) _).alloc (by simp; omega) _
  have hst := Acc.start (((w.alloc (.cells #[.int .i64 W, .int .i64 H, .slice (some ⟨b, off, none⟩) L cap] 31)).alloc (.cells #[.int .i64 W, .int .i64 H, .slice (some ⟨b', off', none⟩) L cap'] 31)).alloc (.cells #[.int .i64 0, .int .i64 0, .slice none 0 0] 31)) (w.heap.size + 1 + 1 + 1) W H (by simp)
  have p2 : ((((w.alloc (.cells #[.int .i64 W, .int .i64 H, .slice (some ⟨b, off, none⟩) L cap] 31)).alloc (.cells #[.int .i64 W, .int .i64 H, .slice (some ⟨b', off', none⟩) L cap'] 31)).alloc (.cells #[.int .i64 0, .int .i64 0, .slice none 0 0] 31)).alloc (.cells #[.int .i64 W, .int .i64 H, .slice none 0 0] 31)).cell? ⟨w.heap.size, 2, none⟩ = some (.slice (some ⟨b, off, none⟩) L cap) := by simp [go_sem]
  have q2 : ((((w.alloc (.cells #[.int .i64 W, .int .i64 H, .slice (some ⟨b, off, none⟩) L cap] 31)).alloc (.cells #[.int .i64 W, .int .i64 H, .slice (some ⟨b', off', none⟩) L cap'] 31)).alloc (.cells #[.int .i64 0, .int .i64 0, .slice none 0 0] 31)).alloc (.cells #[.int .i64 W, .int .i64 H, .slice none 0 0] 31)).cell? ⟨w.heap.size + 1, 2, none⟩ = some (.slice (some ⟨b', off', none⟩) L cap') := by simp [go_sem]
  have z0 : ((((w.alloc (.cells #[.int .i64 W, .int .i64 H, .slice (some ⟨b, off, none⟩) L cap] 31)).alloc (.cells #[.int .i64 W, .int .i64 H, .slice (some ⟨b', off', none⟩) L cap'] 31)).alloc (.cells #[.int .i64 0, .int .i64 0, .slice none 0 0] 31)).alloc (.cells #[.int .i64 W, .int .i64 H, .slice none 0 0] 31)).cell? ⟨w.heap.size + 1 + 1, 0, none⟩ = some (.int .i64 0) := by simp [go_sem]
  have z1 : ((((w.alloc (.cells #[.int .i64 W, .int .i64 H, .slice (some ⟨b, off, none⟩) L cap] 31)).alloc (.cells #[.int .i64 W, .int .i64 H, .slice (some ⟨b', off', none⟩) L cap'] 31)).alloc (.cells #[.int .i64 0, .int .i64 0, .slice none 0 0] 31)).alloc (.cells #[.int .i64 W, .int .i64 H, .slice none 0 0] 31)).cell? ⟨w.heap.size + 1 + 1, 1, none⟩ = some (.int .i64 0) := by simp [go_sem]
  have z2 : ((((w.alloc (.cells #[.int .i64 W, .int .i64 H, .slice (some ⟨b, off, none⟩) L cap] 31)).alloc (.cells #[.int .i64 W, .int .i64 H, .slice (some ⟨b', off', none⟩) L cap'] 31)).alloc (.cells #[.int .i64 0, .int .i64 0, .slice none 0 0] 31)).alloc (.cells #[.int .i64 W, .int .i64 H, .slice none 0 0] 31)).cell? ⟨w.heap.size + 1 + 1, 2, none⟩ = some (.slice none 0 0) := by simp [go_sem]
  have y0 : ∀ o, ((((w.alloc (.cells #[.int .i64 W, .int .i64 H, .slice (some ⟨b, off, none⟩) L cap] 31)).alloc (.cells #[.int .i64 W, .int .i64 H, .slice (some ⟨b', off', none⟩) L cap'] 31)).alloc (.cells #[.int .i64 0, .int .i64 0, .slice none 0 0] 31)).alloc (.cells #[.int .i64 W, .int .i64 H, .slice none 0 0] 31)).frozen? ⟨w.heap.size + 1 + 1, o, none⟩ = false := fun o => by simp [go_sem]
  go_enter Tryz.func123, Tryz.ntmps123
  go_wp2
  generalize hw0 : ((((w.alloc (.cells #[.int .i64 W, .int .i64 H, .slice (some ⟨b, off, none⟩) L cap] 31)).alloc (.cells #[.int .i64 W, .int .i64 H, .slice (some ⟨b', off', none⟩) L cap'] 31)).alloc (.cells #[.int .i64 0, .int .i64 0, .slice none 0 0] 31)).alloc (.cells #[.int .i64 W, .int .i64 H, .slice none 0 0] 31)) = w0 at hB0 hst p2 q2 z0 z1 z2 y0 ⊢
  clear hw0
  go_loopw [8] (fun i wr => ∃ (n : Nat) (v : Value), n ≤ L ∧ i = .int .i64 n ∧ Acc (w.heap.size + 1 + 1 + 1) w0 wr W H v (lin 4 ps qs n)) (fun i _ => L - (intOf i).toNat)
  case atStart => exact ⟨0, .slice none 0 0, Nat.zero_le _, rfl, hst⟩
  case round =>
    obtain ⟨n, v, hn, rfl, hacc⟩ := hrel
    obtain ⟨q0, q1, qv, qf⟩ := hacc.cells
    have hsz := hacc.siz
    have hbW : Below w.heap.size w wr := hB0.trans (hacc.bel.mono (by omega))
    have k2 : wr.cell? ⟨w.heap.size, 2, none⟩ = some (.slice (some ⟨b, off, none⟩) L cap) := (hacc.bel.cell (by simp; omega)).trans p2
    have k3 : wr.cell? ⟨w.heap.size + 1, 2, none⟩ = some (.slice (some ⟨b', off', none⟩) L cap') := (hacc.bel.cell (by simp)).trans q2
    by_cases hlt : n < L
    · have hcn := (hbW.cell (p := ⟨b, off + n, none⟩) hb).trans (hc n hlt)
      have hcn' := (hbW.cell (p := ⟨b', off' + n, none⟩) hb').trans (hc' n hlt)
      obtain ⟨hx0, hx1⟩ := hp n hlt
      obtain ⟨hy0, hy1⟩ := hq n hlt
      have hlen : (lin 4 ps qs n).length = n := lin_length _ _ _ _
      have hsuc := lin_succ 4 ps qs n
      generalize ps.getD n 0 = x at hcn hx0 hx1 hsuc
      generalize qs.getD n 0 = y at hcn' hy0 hy1 hsuc
      obtain ⟨gx, hgx⟩ : ∃ gx, gx = twoG 4 x y := ⟨_, rfl⟩
      have hgv : (if x + y < 65535 then x + y else 65535) = gx := by rw [hgx]; simp only [twoG]; simp ; split <;> omega
      rw [← hgx] at hsuc
      have HS : Hid (lin 4 ps qs (n + 1) = lin 4 ps qs n ++ [gx]) := hsuc
      clear hsuc hgx hc hc' hp hq
      go_wp2
      go_quiet (fail)
      have hac2 := hacc.below (below_drewN (Below.refl _ _) nq)
      go_wp2_with (at_builtin; refine wpList_append_own _ rfl _ _ 25 rfl (w.heap.size + 1 + 1 + 1 + 1) 3 i0 (.int .i64 0) 1 8 Tryz.underlying25 hi hz0 hz1 hz2 rfl (by decide) _ _ _ rfl (World.ownsRow.alloc hac2.own _) ⟨_, 0, none⟩ 1 1 [.int .i64 gx] rfl rfl (cell_one_new _ _ _) (by intro u hu; simp at hu; subst hu; rfl) (by rw [hlen]; unfold maxLen; omega) (by rw [hlen]; omega) (by simp; omega) ?_; intro v' w9 hown9 hgrow9 _; obtain ⟨hm, m2, m3⟩ := hac2.mid hgrow9; obtain ⟨a', cap', hv'⟩ := owns_slice hown9; subst hv')
      have R := hac2.push hgrow9 hown9
      rw [hlen] at R
      go_roundw
      case rel => exact ⟨n + 1, _, by omega, by go_num, by rw [HS.out]; exact R⟩
      case measure => simp [intOf]; omega
    · have hnL : n = L := by omega
      subst hnL
      have hlen : (lin 4 ps qs n).length = n := lin_length _ _ _ _
      obtain ⟨a, cap', rfl, hints⟩ := hacc.ints (by rw [hlen]; omega)
      have d0 : wr.cell? ⟨w.heap.size + 1 + 1, 0, none⟩ = some (.int .i64 0) := (hacc.bel.cell (by simp)).trans z0
      have d1 : wr.cell? ⟨w.heap.size + 1 + 1, 1, none⟩ = some (.int .i64 0) := (hacc.bel.cell (by simp)).trans z1
      have d2 : wr.cell? ⟨w.heap.size + 1 + 1, 2, none⟩ = some (.slice none 0 0) := (hacc.bel.cell (by simp)).trans z2
      have f0 : wr.frozen? ⟨w.heap.size + 1 + 1, 0, none⟩ = false := (hacc.bel.frozen (by simp)).trans (y0 0)
      have f1 : wr.frozen? ⟨w.heap.size + 1 + 1, 1, none⟩ = false := (hacc.bel.frozen (by simp)).trans (y0 1)
      have f2 : wr.frozen? ⟨w.heap.size + 1 + 1, 2, none⟩ = false := (hacc.bel.frozen (by simp)).trans (y0 2)
      rw [hlen] at hints qv
      go_wp2
      refine bodyPost_ret (v := .agg #[.int .i64 W, .int .i64 H, .slice a n cap']) (by simp [results, Tryz.results123, go_sem, d0, d1, d2]) rfl ⟨a, cap', rfl, ?_, ?_⟩
      · exact (((hints.setCell (by simp) _).setCell (by simp) _).setCell (by simp) _).mono (by omega)
      · exact (((hB0.trans (hacc.bel.mono (by omega))).setCell (by simp; omega) _).setCell (by simp; omega) _).setCell (by simp; omega) _
set_option maxRecDepth 100000 in
set_option maxHeartbeats 1000000 in
theorem twoOf_5 {w : World} {b off cap b' off' cap' W H L : Nat} {ps qs : List Int} (hb : b < w.heap.size) (hb' : b' < w.heap.size) (hL : L ≤ 256) (hc : ∀ j, j < L → w.cell? ⟨b, off + j, none⟩ = some (.int .i64 (ps.getD j 0))) (hc' : ∀ j, j < L → w.cell? ⟨b', off' + j, none⟩ = some (.int .i64 (qs.getD j 0)))
    (hp : ∀ j, j < L → 0 ≤ ps.getD j 0 ∧ ps.getD j 0 ≤ 65535) (hq : ∀ j, j < L → 0 ≤ qs.getD j 0 ∧ qs.getD j 0 ≤ 65535) :
    Calls Tryz.prog 123 #[.int .i64 5, .agg #[.int .i64 W, .int .i64 H, .slice (some ⟨b, off, none⟩) L cap], .agg #[.int .i64 W, .int .i64 H, .slice (some ⟨b', off', none⟩) L cap']] w fun e w' =>
      ∃ a cap', e = .returned (.agg #[.int .i64 W, .int .i64 H, .slice a L cap']) ∧ Ints w.heap.size w' a L (lin 5 ps qs L) ∧ Below w.heap.size w w' := by
  obtain ⟨i0, hi, hz0, hz1, hz2⟩ := info_parts Tryz.info3
  have hB0 : Below w.heap.size w ((((w.alloc (.cells #[.int .i64 W, .int .i64 H, .slice (some ⟨b, off, none⟩) L cap] 31)).alloc (.cells #[.int .i64 W, .int .i64 H, .slice (some ⟨b', off', none⟩) L cap'] 31)).alloc (.cells #[.int .i64 0, .int .i64 0, .slice none 0 0] 31)).alloc (.cells #[.int .i64 W, .int .i64 H, .slice none 0 0] 31)) := ((((Below.refl _ _).alloc (Nat.le_refl _) _).alloc (by simp) _).alloc (by simp; omega) _).alloc (by simp; omega) _
  have hst := Acc.start (((w.alloc (.cells #[.int .i64 W, .int .i64 H, .slice (some ⟨b, off, none⟩) L cap] 31)).alloc (.cells #[.int .i64 W, .int .i64 H, .slice (some ⟨b', off', none⟩) L cap'] 31)).alloc (.cells #[.int .i64 0, .int .i64 0, .slice none 0 0] 31)) (w.heap.size + 1 + 1 + 1) W H (by simp)
  have p2 : ((((w.alloc (.cells #[.int .i64 W, .int .i64 H, .slice (some ⟨b, off, none⟩) L cap] 31)).alloc (.cells #[.int .i64 W, .int .i64 H, .slice (some ⟨b', off', none⟩) L cap'] 31)).alloc (.cells #[.int .i64 0, .int .i64 0, .slice none 0 0] 31)).alloc (.cells #[.int .i64 W, .int .i64 H, .slice none 0 0] 31)).cell? ⟨w.heap.size, 2, none⟩ = some (.slice (some ⟨b, off, none⟩) L cap) := by simp [go_sem]
  have q2 : ((((w.alloc (.cells #[.int .i64 W, .int .i64 H, .slice (some ⟨b, off, none⟩) L cap] 31)).alloc (.cells #[.int .i64 W, .int .i64 H, .slice (some ⟨b', off', none⟩) L cap'] 31)).alloc (.cells #[.int .i64 0, .int .i64 0, .slice none 0 0] 31)).alloc (.cells #[.int .i64 W, .int .i64 H, .slice none 0 0] 31)).cell? ⟨w.heap.size + 1, 2, none⟩ = some (.slice (some ⟨b', off', none⟩) L cap') := by simp [go_sem]
  have z0 : ((((w.alloc (.cells #[.int .i64 W, .int .i64 H, .slice (some ⟨b, off, none⟩) L cap] 31)).alloc (.cells #[.int .i64 W, .int .i64 H, .slice (some ⟨b', off', none⟩) L cap'] 31)).alloc (.cells #[.int .i64 0, .int .i64 0, .slice none 0 0] 31)).alloc (.cells #[.int .i64 W, .int .i64 H, .slice none 0 0] 31)).cell? ⟨w.heap.size + 1 + 1, 0, none⟩ = some (.int .i64 0) := by simp [go_sem]
  have z1 : ((((w.alloc (.cells #[.int .i64 W, .int .i64 H, .slice (some ⟨b, off, none⟩) L cap] 31)).alloc (.cells #[.int .i64 W, .int .i64 H, .slice (some ⟨b', off', none⟩) L cap'] 31)).alloc (.cells #[.int .i64 0, .int .i64 0, .slice none 0 0] 31)).alloc (.cells #[.int .i64 W, .int .i64 H, .slice none 0 0] 31)).cell? ⟨w.heap.size + 1 + 1, 1, none⟩ = some (.int .i64 0) := by simp [go_sem]
  have z2 : ((((w.alloc (.cells #[.int .i64 W, .int .i64 H, .slice (some ⟨b, off, none⟩) L cap] 31)).alloc (.cells #[.int .i64 W, .int .i64 H, .slice (some ⟨b', off', none⟩) L cap'] 31)).alloc (.cells #[.int .i64 0, .int .i64 0, .slice none 0 0] 31)).alloc (.cells #[.int .i64 W, .int .i64 H, .slice none 0 0] 31)).cell? ⟨w.heap.size + 1 + 1, 2, none⟩ = some (.slice none 0 0) := by simp [go_sem]
  have y0 : ∀ o, ((((w.alloc (.cells #[.int .i64 W, .int .i64 H, .slice (some ⟨b, off, none⟩) L cap] 31)).alloc (.cells #[.int .i64 W, .int .i64 H, .slice (some ⟨b', off', none⟩) L cap'] 31)).alloc (.cells #[.int .i64 0, .int .i64 0, .slice none 0 0] 31)).alloc (.cells #[.int .i64 W, .int .i64 H, .slice none 0 0] 31)).frozen? ⟨w.heap.size + 1 + 1, o, none⟩ = false := fun o => by simp [go_sem]
  go_enter Tryz.func123, Tryz.ntmps123
  go_wp2
  generalize hw0 : ((((w.alloc (.cells #[.int .i64 W, .int .i64 H, .slice (some ⟨b, off, none⟩) L cap] 31)).alloc (.cells #[.int .i64 W, .int .i64 H, .slice (some ⟨b', off', none⟩) L cap'] 31)).alloc (.cells #[.int .i64 0, .int .i64 0, .slice none 0 0] 31)).alloc (.cells #[.int .i64 W, .int .i64 H, .slice none 0 0] 31)) = w0 at hB0 hst p2 q2 z0 z1 z2 y0 ⊢
  clear hw0
  go_loopw [8] (fun i wr => ∃ (n : Nat) (v : Value), n ≤ L ∧ i = .int .i64 n ∧ Acc (w.heap.size + 1 + 1 + 1) w0 wr W H v (lin 5 ps qs n)) (fun i _ => L - (intOf i).toNat)
  case atStart => exact ⟨0, .slice none 0 0, Nat.zero_le _, rfl, hst⟩
  case round =>
    obtain ⟨n, v, hn, rfl, hacc⟩ := hrel
    obtain ⟨q0, q1, qv, qf⟩ := hacc.cells
    have hsz := hacc.siz
    have hbW : Below w.heap.size w wr := hB0.trans (hacc.bel.mono (by omega))
    have k2 : wr.cell? ⟨w.heap.size, 2, none⟩ = some (.slice (some ⟨b, off, none⟩) L cap) := (hacc.bel.cell (by simp; omega)).trans p2
    have k3 : wr.cell? ⟨w.heap.size + 1, 2, none⟩ = some (.slice (some ⟨b', off', none⟩) L cap') := (hacc.bel.cell (by simp)).trans q2
    by_cases hlt : n < L
    · have hcn := (hbW.cell (p := ⟨b, off + n, none⟩) hb).trans (hc n hlt)
      have hcn' := (hbW.cell (p := ⟨b', off' + n, none⟩) hb').trans (hc' n hlt)
      obtain ⟨hx0, hx1⟩ := hp n hlt
      obtain ⟨hy0, hy1⟩ := hq n hlt
      have hlen : (lin 5 ps qs n).length = n := lin_length _ _ _ _
      have hsuc := lin_succ 5 ps qs n
      generalize ps.getD n 0 = x at hcn hx0 hx1 hsuc
      generalize qs.getD n 0 = y at hcn' hy0 hy1 hsuc
      obtain ⟨gx, hgx⟩ : ∃ gx, gx = twoG 5 x y := ⟨_, rfl⟩
      have hgv : (if 0 < x - y then x - y else 0) = gx := by rw [hgx]; simp only [twoG]; simp ; split <;> omega
      have hgv2 : (if y < x then x - y else 0) = gx := by rw [hgx]; simp only [twoG]; simp ; split <;> omega
      rw [← hgx] at hsuc
      have HS : Hid (lin 5 ps qs (n + 1) = lin 5 ps qs n ++ [gx]) := hsuc
      clear hsuc hgx hc hc' hp hq
      go_wp2
      go_quiet (fail)
      have hac2 := hacc.below (below_drewN (Below.refl _ _) nq)
      go_wp2_with (at_builtin; refine wpList_append_own _ rfl _ _ 25 rfl (w.heap.size + 1 + 1 + 1 + 1) 3 i0 (.int .i64 0) 1 8 Tryz.underlying25 hi hz0 hz1 hz2 rfl (by decide) _ _ _ rfl (World.ownsRow.alloc hac2.own _) ⟨_, 0, none⟩ 1 1 [.int .i64 gx] rfl rfl (cell_one_new _ _ _) (by intro u hu; simp at hu; subst hu; rfl) (by rw [hlen]; unfold maxLen; omega) (by rw [hlen]; omega) (by simp; omega) ?_; intro v' w9 hown9 hgrow9 _; obtain ⟨hm, m2, m3⟩ := hac2.mid hgrow9; obtain ⟨a', cap', hv'⟩ := owns_slice hown9; subst hv')
      have R := hac2.push hgrow9 hown9
      rw [hlen] at R
      go_roundw
      case rel => exact ⟨n + 1, _, by omega, by go_num, by rw [HS.out]; exact R⟩
      case measure => simp [intOf]; omega
    · have hnL : n = L := by omega
      subst hnL
      have hlen : (lin 5 ps qs n).length = n := lin_length _ _ _ _
      obtain ⟨a, cap', rfl, hints⟩ := hacc.ints (by rw [hlen]; omega)
      have d0 : wr.cell? ⟨w.heap.size + 1 + 1, 0, none⟩ = some (.int .i64 0) := (hacc.bel.cell (by simp)).trans z0
      have d1 : wr.cell? ⟨w.heap.size + 1 + 1, 1, none⟩ = some (.int .i64 0) := (hacc.bel.cell (by simp)).trans z1
      have d2 : wr.cell? ⟨w.heap.size + 1 + 1, 2, none⟩ = some (.slice none 0 0) := (hacc.bel.cell (by simp)).trans z2
      have f0 : wr.frozen? ⟨w.heap.size + 1 + 1, 0, none⟩ = false := (hacc.bel.frozen (by simp)).trans (y0 0)
      have f1 : wr.frozen? ⟨w.heap.size + 1 + 1, 1, none⟩ = false := (hacc.bel.frozen (by simp)).trans (y0 1)
      have f2 : wr.frozen? ⟨w.heap.size + 1 + 1, 2, none⟩ = false := (hacc.bel.frozen (by simp)).trans (y0 2)
      rw [hlen] at hints qv
      go_wp2
      refine bodyPost_ret (v := .agg #[.int .i64 W, .int .i64 H, .slice a n cap']) (by simp [results, Tryz.results123, go_sem, d0, d1, d2]) rfl ⟨a, cap', rfl, ?_, ?_⟩
      · exact (((hints.setCell (by simp) _).setCell (by simp) _).setCell (by simp) _).mono (by omega)
      · exact (((hB0.trans (hacc.bel.mono (by omega))).setCell (by simp; omega) _).setCell (by simp; omega) _).setCell (by simp; omega) _
set_option maxRecDepth 100000 in
set_option maxHeartbeats 1000000 in
theorem twoOf_6 {w : World} {b off cap b' off' cap' W H L : Nat} {ps qs : List Int} (hb : b < w.heap.size) (hb' : b' < w.heap.size) (hL : L ≤ 256) (hc : ∀ j, j < L → w.cell? ⟨b, off + j, none⟩ = some (.int .i64 (ps.getD j 0))) (hc' : ∀ j, j < L → w.cell? ⟨b', off' + j, none⟩ = some (.int .i64 (qs.getD j 0)))
    (hp : ∀ j, j < L → 0 ≤ ps.getD j 0 ∧ ps.getD j 0 ≤ 65535) (hq : ∀ j, j < L → 0 ≤ qs.getD j 0 ∧ qs.getD j 0 ≤ 65535) :
    Calls Tryz.prog 123 #[.int .i64 6, .agg #[.int .i64 W, .int .i64 H, .slice (some ⟨b, off, none⟩) L cap], .agg #[.int .i64 W, .int .i64 H, .slice (some ⟨b', off', none⟩) L cap']] w fun e w' =>
      ∃ a cap', e = .returned (.agg #[.int .i64 W, .int .i64 H, .slice a L cap']) ∧ Ints w.heap.size w' a L (lin 6 ps qs L) ∧ Below w.heap.size w w' := by
  obtain ⟨i0, hi, hz0, hz1, hz2⟩ := info_parts Tryz.info3
  have hB0 : Below w.heap.size w ((((w.alloc (.cells #[.int .i64 W, .int .i64 H, .slice (some ⟨b, off, none⟩) L cap] 31)).alloc (.cells #[.int .i64 W, .int .i64 H, .slice (some ⟨b', off', none⟩) L cap'] 31)).alloc (.cells #[.int .i64 0, .int .i64 0, .slice none 0 0] 31)).alloc (.cells #[.int .i64 W, .int .i64 H, .slice none 0 0] 31)) := ((((Below.refl _ _).alloc (Nat.le_refl _) _).alloc (by simp) _).alloc (by simp; omega) _).alloc (by simp; omega) _
  have hst := Acc.start (((w.alloc (.cells #[.int .i64 W, .int .i64 H, .slice (some ⟨b, off, none⟩) L cap] 31)).alloc (.cells #[.int .i64 W, .int .i64 H, .slice (some ⟨b', off', none⟩) L cap'] 31)).alloc (.cells #[.int .i64 0, .int .i64 0, .slice none 0 0] 31)) (w.heap.size + 1 + 1 + 1) W H (by simp)
  have p2 : ((((w.alloc (.cells #[.int .i64 W, .int .i64 H, .slice (some ⟨b, off, none⟩) L cap] 31)).alloc (.cells #[.int .i64 W, .int .i64 H, .slice (some ⟨b', off', none⟩) L cap'] 31)).alloc (.cells #[.int .i64 0, .int .i64 0, .slice none 0 0] 31)).alloc (.cells #[.int .i64 W, .int .i64 H, .slice none 0 0] 31)).cell? ⟨w.heap.size, 2, none⟩ = some (.slice (some ⟨b, off, none⟩) L cap) := by simp [go_sem]
  have q2 : ((((w.alloc (.cells #[.int .i64 W, .int .i64 H, .slice (some ⟨b, off, none⟩) L cap] 31)).alloc (.cells #[.int .i64 W, .int .i64 H, .slice (some ⟨b', off', none⟩) L cap'] 31)).alloc (.cells #[.int .i64 0, .int .i64 0, .slice none 0 0] 31)).alloc (.cells #[.int .i64 W, .int .i64 H, .slice none 0 0] 31)).cell? ⟨w.heap.size + 1, 2, none⟩ = some (.slice (some ⟨b', off', none⟩) L cap') := by simp [go_sem]
  have z0 : ((((w.alloc (.cells #[.int .i64 W, .int .i64 H, .slice (some ⟨b, off, none⟩) L cap] 31)).alloc (.cells #[.int .i64 W, .int .i64 H, .slice (some ⟨b', off', none⟩) L cap'] 31)).alloc (.cells #[.int .i64 0, .int .i64 0, .slice none 0 0] 31)).alloc (.cells #[.int .i64 W, .int .i64 H, .slice none 0 0] 31)).cell? ⟨w.heap.size + 1 + 1, 0, none⟩ = some (.int .i64 0) := by simp [go_sem]
  have z1 : ((((w.alloc (.cells #[.int .i64 W, .int .i64 H, .slice (some ⟨b, off, none⟩) L cap] 31)).alloc (.cells #[.int .i64 W, .int .i64 H, .slice (some ⟨b', off', none⟩) L cap'] 31)).alloc (.cells #[.int .i64 0, .int .i64 0, .slice none 0 0] 31)).alloc (.cells #[.int .i64 W, .int .i64 H, .slice none 0 0] 31)).cell? ⟨w.heap.size + 1 + 1, 1, none⟩ = some (.int .i64 0) := by simp [go_sem]
  have z2 : ((((w.alloc (.cells #[.int .i64 W, .int .i64 H, .slice (some ⟨b, off, none⟩) L cap] 31)).alloc (.cells #[.int .i64 W, .int .i64 H, .slice (some ⟨b', off', none⟩) L cap'] 31)).alloc (.cells #[.int .i64 0, .int .i64 0, .slice none 0 0] 31)).alloc (.cells #[.int .i64 W, .int .i64 H, .slice none 0 0] 31)).cell? ⟨w.heap.size + 1 + 1, 2, none⟩ = some (.slice none 0 0) := by simp [go_sem]
  have y0 : ∀ o, ((((w.alloc (.cells #[.int .i64 W, .int .i64 H, .slice (some ⟨b, off, none⟩) L cap] 31)).alloc (.cells #[.int .i64 W, .int .i64 H, .slice (some ⟨b', off', none⟩) L cap'] 31)).alloc (.cells #[.int .i64 0, .int .i64 0, .slice none 0 0] 31)).alloc (.cells #[.int .i64 W, .int .i64 H, .slice none 0 0] 31)).frozen? ⟨w.heap.size + 1 + 1, o, none⟩ = false := fun o => by simp [go_sem]
  go_enter Tryz.func123, Tryz.ntmps123
  go_wp2
  generalize hw0 : ((((w.alloc (.cells #[.int .i64 W, .int .i64 H, .slice (some ⟨b, off, none⟩) L cap] 31)).alloc (.cells #[.int .i64 W, .int .i64 H, .slice (some ⟨b', off', none⟩) L cap'] 31)).alloc (.cells #[.int .i64 0, .int .i64 0, .slice none 0 0] 31)).alloc (.cells #[.int .i64 W, .int .i64 H, .slice none 0 0] 31)) = w0 at hB0 hst p2 q2 z0 z1 z2 y0 ⊢
  clear hw0
  go_loopw [8] (fun i wr => ∃ (n : Nat) (v : Value), n ≤ L ∧ i = .int .i64 n ∧ Acc (w.heap.size + 1 + 1 + 1) w0 wr W H v (lin 6 ps qs n)) (fun i _ => L - (intOf i).toNat)
  case atStart => exact ⟨0, .slice none 0 0, Nat.zero_le _, rfl, hst⟩
  case round =>
    obtain ⟨n, v, hn, rfl, hacc⟩ := hrel
    obtain ⟨q0, q1, qv, qf⟩ := hacc.cells
    have hsz := hacc.siz
    have hbW : Below w.heap.size w wr := hB0.trans (hacc.bel.mono (by omega))
    have k2 : wr.cell? ⟨w.heap.size, 2, none⟩ = some (.slice (some ⟨b, off, none⟩) L cap) := (hacc.bel.cell (by simp; omega)).trans p2
    have k3 : wr.cell? ⟨w.heap.size + 1, 2, none⟩ = some (.slice (some ⟨b', off', none⟩) L cap') := (hacc.bel.cell (by simp)).trans q2
    by_cases hlt : n < L
    · have hcn := (hbW.cell (p := ⟨b, off + n, none⟩) hb).trans (hc n hlt)
      have hcn' := (hbW.cell (p := ⟨b', off' + n, none⟩) hb').trans (hc' n hlt)
      obtain ⟨hx0, hx1⟩ := hp n hlt
      obtain ⟨hy0, hy1⟩ := hq n hlt
      have hlen : (lin 6 ps qs n).length = n := lin_length _ _ _ _
      have hsuc := lin_succ 6 ps qs n
      generalize ps.getD n 0 = x at hcn hx0 hx1 hsuc
      generalize qs.getD n 0 = y at hcn' hy0 hy1 hsuc
      have h1 : 0 ≤ x * y := Int.mul_nonneg hx0 hy0
      have h2 : x * y ≤ 65535 * 65535 := Int.mul_le_mul hx1 hy1 hy0 (by omega)
      obtain ⟨gx, hgx⟩ : ∃ gx, gx = twoG 6 x y := ⟨_, rfl⟩
      have hgv : x * y / 65535 = gx := by rw [hgx]; simp [twoG]
      rw [← hgx] at hsuc
      have HS : Hid (lin 6 ps qs (n + 1) = lin 6 ps qs n ++ [gx]) := hsuc
      clear hsuc hgx hc hc' hp hq
      go_wp2
      go_quiet (fail)
      have hac2 := hacc.below (below_drewN (Below.refl _ _) nq)
      go_wp2_with (at_builtin; refine wpList_append_own _ rfl _ _ 25 rfl (w.heap.size + 1 + 1 + 1 + 1) 3 i0 (.int .i64 0) 1 8 Tryz.underlying25 hi hz0 hz1 hz2 rfl (by decide) _ _ _ rfl (World.ownsRow.alloc hac2.own _) ⟨_, 0, none⟩ 1 1 [.int .i64 gx] rfl rfl (cell_one_new _ _ _) (by intro u hu; simp at hu; subst hu; rfl) (by rw [hlen]; unfold maxLen; omega) (by rw [hlen]; omega) (by simp; omega) ?_; intro v' w9 hown9 hgrow9 _; obtain ⟨hm, m2, m3⟩ := hac2.mid hgrow9; obtain ⟨a', cap', hv'⟩ := owns_slice hown9; subst hv')
      have R := hac2.push hgrow9 hown9
      rw [hlen] at R
      go_roundw
      case rel => exact ⟨n + 1, _, by omega, by go_num, by rw [HS.out]; exact R⟩
      case measure => simp [intOf]; omega
    · have hnL : n = L := by omega
      subst hnL
      have hlen : (lin 6 ps qs n).length = n := lin_length _ _ _ _
      obtain ⟨a, cap', rfl, hints⟩ := hacc.ints (by rw [hlen]; omega)
      have d0 : wr.cell? ⟨w.heap.size + 1 + 1, 0, none⟩ = some (.int .i64 0) := (hacc.bel.cell (by simp)).trans z0
      have d1 : wr.cell? ⟨w.heap.size + 1 + 1, 1, none⟩ = some (.int .i64 0) := (hacc.bel.cell (by simp)).trans z1
      have d2 : wr.cell? ⟨w.heap.size + 1 + 1, 2, none⟩ = some (.slice none 0 0) := (hacc.bel.cell (by simp)).trans z2
      have f0 : wr.frozen? ⟨w.heap.size + 1 + 1, 0, none⟩ = false := (hacc.bel.frozen (by simp)).trans (y0 0)
      have f1 : wr.frozen? ⟨w.heap.size + 1 + 1, 1, none⟩ = false := (hacc.bel.frozen (by simp)).trans (y0 1)
      have f2 : wr.frozen? ⟨w.heap.size + 1 + 1, 2, none⟩ = false := (hacc.bel.frozen (by simp)).trans (y0 2)
      rw [hlen] at hints qv
      go_wp2
      refine bodyPost_ret (v := .agg #[.int .i64 W, .int .i64 H, .slice a n cap']) (by simp [results, Tryz.results123, go_sem, d0, d1, d2]) rfl ⟨a, cap', rfl, ?_, ?_⟩
      · exact (((hints.setCell (by simp) _).setCell (by simp) _).setCell (by simp) _).mono (by omega)
      · exact (((hB0.trans (hacc.bel.mono (by omega))).setCell (by simp; omega) _).setCell (by simp; omega) _).setCell (by simp; omega) _
set_option maxRecDepth 100000 in
set_option maxHeartbeats 1000000 in
theorem twoOf_7 {w : World} {b off cap b' off' cap' W H L : Nat} {ps qs : List Int} (hb : b < w.heap.size) (hb' : b' < w.heap.size) (hL : L ≤ 256) (hc : ∀ j, j < L → w.cell? ⟨b, off + j, none⟩ = some (.int .i64 (ps.getD j 0))) (hc' : ∀ j, j < L → w.cell? ⟨b', off' + j, none⟩ = some (.int .i64 (qs.getD j 0)))
    (hp : ∀ j, j < L → 0 ≤ ps.getD j 0 ∧ ps.getD j 0 ≤ 65535) (hq : ∀ j, j < L → 0 ≤ qs.getD j 0 ∧ qs.getD j 0 ≤ 65535) :
    Calls Tryz.prog 123 #[.int .i64 7, .agg #[.int .i64 W, .int .i64 H, .slice (some ⟨b, off, none⟩) L cap], .agg #[.int .i64 W, .int .i64 H, .slice (some ⟨b', off', none⟩) L cap']] w fun e w' =>
      ∃ a cap', e = .returned (.agg #[.int .i64 W, .int .i64 H, .slice a L cap']) ∧ Ints w.heap.size w' a L (lin 7 ps qs L) ∧ Below w.heap.size w w' := by
  obtain ⟨i0, hi, hz0, hz1, hz2⟩ := info_parts Tryz.info3
  have hB0 : Below w.heap.size w ((((w.alloc (.cells #[.int .i64 W, .int .i64 H, .slice (some ⟨b, off, none⟩) L cap] 31)).alloc (.cells #[.int .i64 W, .int .i64 H, .slice (some ⟨b', off', none⟩) L cap'] 31)).alloc (.cells #[.int .i64 0, .int .i64 0, .slice none 0 0] 31)).alloc (.cells #[.int .i64 W, .int .i64 H, .slice none 0 0] 31)) := ((((Below.refl _ _).alloc (Nat.le_refl _) _).alloc (by simp) _).alloc (by simp; omega) _).alloc (by simp; omega) _
  have hst := Acc.start (((w.alloc (.cells #[.int .i64 W, .int .i64 H, .slice (some ⟨b, off, none⟩) L cap] 31)).alloc (.cells #[.int .i64 W, .int .i64 H, .slice (some ⟨b', off', none⟩) L cap'] 31)).alloc (.cells #[.int .i64 0, .int .i64 0, .slice none 0 0] 31)) (w.heap.size + 1 + 1 + 1) W H (by simp)
  have p2 : ((((w.alloc (.cells #[.int .i64 W, .int .i64 H, .slice (some ⟨b, off, none⟩) L cap] 31)).alloc (.cells #[.int .i64 W, .int .i64 H, .slice (some ⟨b', off', none⟩) L cap'] 31)).alloc (.cells #[.int .i64 0, .int .i64 0, .slice none 0 0] 31)).alloc (.cells #[.int .i64 W, .int .i64 H, .slice none 0 0] 31)).cell? ⟨w.heap.size, 2, none⟩ = some (.slice (some ⟨b, off, none⟩) L cap) := by simp [go_sem]
  have q2 : ((((w.alloc (.cells #[.int .i64 W, .int .i64 H, .slice (some ⟨b, off, none⟩) L cap] 31)).alloc (.cells #[.int .i64 W, .int .i64 H, .slice (some ⟨b', off', none⟩) L cap'] 31)).alloc (.cells #[.int .i64 0, .int .i64 0, .slice none 0 0] 31)).alloc (.cells #[.int .i64 W, .int .i64 H, .slice none 0 0] 31)).cell? ⟨w.heap.size + 1, 2, none⟩ = some (.slice (some ⟨b', off', none⟩) L cap') := by simp [go_sem]
  have z0 : ((((w.alloc (.cells #[.int .i64 W, .int .i64 H, .slice (some ⟨b, off, none⟩) L cap] 31)).alloc (.cells #[.int .i64 W, .int .i64 H, .slice (some ⟨b', off', none⟩) L cap'] 31)).alloc (.cells #[.int .i64 0, .int .i64 0, .slice none 0 0] 31)).alloc (.cells #[.int .i64 W, .int .i64 H, .slice none 0 0] 31)).cell? ⟨w.heap.size + 1 + 1, 0, none⟩ = some (.int .i64 0) := by simp [go_sem]
  have z1 : ((((w.alloc (.cells #[.int .i64 W, .int .i64 H, .slice (some ⟨b, off, none⟩) L cap] 31)).alloc (.cells #[.int .i64 W, .int .i64 H, .slice (some ⟨b', off', none⟩) L cap'] 31)).alloc (.cells #[.int .i64 0, .int .i64 0, .slice none 0 0] 31)).alloc (.cells #[.int .i64 W, .int .i64 H, .slice none 0 0] 31)).cell? ⟨w.heap.size + 1 + 1, 1, none⟩ = some (.int .i64 0) := by simp [go_sem]
  have z2 : ((((w.alloc (.cells #[.int .i64 W, .int .i64 H, .slice (some ⟨b, off, none⟩) L cap] 31)).alloc (.cells #[.int .i64 W, .int .i64 H, .slice (some ⟨b', off', none⟩) L cap'] 31)).alloc (.cells #[.int .i64 0, .int .i64 0, .slice none 0 0] 31)).alloc (.cells #[.int .i64 W, .int .i64 H, .slice none 0 0] 31)).cell? ⟨w.heap.size + 1 + 1, 2, none⟩ = some (.slice none 0 0) := by simp [go_sem]
  have y0 : ∀ o, ((((w.alloc (.cells #[.int .i64 W, .int .i64 H, .slice (some ⟨b, off, none⟩) L cap] 31)).alloc (.cells #[.int .i64 W, .int .i64 H, .slice (some ⟨b', off', none⟩) L cap'] 31)).alloc (.cells #[.int .i64 0, .int .i64 0, .slice none 0 0] 31)).alloc (.cells #[.int .i64 W, .int .i64 H, .slice none 0 0] 31)).frozen? ⟨w.heap.size + 1 + 1, o, none⟩ = false := fun o => by simp [go_sem]
  go_enter Tryz.func123, Tryz.ntmps123
  go_wp2
  generalize hw0 : ((((w.alloc (.cells #[.int .i64 W, .int .i64 H, .slice (some ⟨b, off, none⟩) L cap] 31)).alloc (.cells #[.int .i64 W, .int .i64 H, .slice (some ⟨b', off', none⟩) L cap'] 31)).alloc (.cells #[.int .i64 0, .int .i64 0, .slice none 0 0] 31)).alloc (.cells #[.int .i64 W, .int .i64 H, .slice none 0 0] 31)) = w0 at hB0 hst p2 q2 z0 z1 z2 y0 ⊢
  clear hw0
  go_loopw [8] (fun i wr => ∃ (n : Nat) (v : Value), n ≤ L ∧ i = .int .i64 n ∧ Acc (w.heap.size + 1 + 1 + 1) w0 wr W H v (lin 7 ps qs n)) (fun i _ => L - (intOf i).toNat)
  case atStart => exact ⟨0, .slice none 0 0, Nat.zero_le _, rfl, hst⟩
  case round =>
    obtain ⟨n, v, hn, rfl, hacc⟩ := hrel
    obtain ⟨q0, q1, qv, qf⟩ := hacc.cells
    have hsz := hacc.siz
    have hbW : Below w.heap.size w wr := hB0.trans (hacc.bel.mono (by omega))
    have k2 : wr.cell? ⟨w.heap.size, 2, none⟩ = some (.slice (some ⟨b, off, none⟩) L cap) := (hacc.bel.cell (by simp; omega)).trans p2
    have k3 : wr.cell? ⟨w.heap.size + 1, 2, none⟩ = some (.slice (some ⟨b', off', none⟩) L cap') := (hacc.bel.cell (by simp)).trans q2
    by_cases hlt : n < L
    · have hcn := (hbW.cell (p := ⟨b, off + n, none⟩) hb).trans (hc n hlt)
      have hcn' := (hbW.cell (p := ⟨b', off' + n, none⟩) hb').trans (hc' n hlt)
      obtain ⟨hx0, hx1⟩ := hp n hlt
      obtain ⟨hy0, hy1⟩ := hq n hlt
      have hlen : (lin 7 ps qs n).length = n := lin_length _ _ _ _
      have hsuc := lin_succ 7 ps qs n
      generalize ps.getD n 0 = x at hcn hx0 hx1 hsuc
      generalize qs.getD n 0 = y at hcn' hy0 hy1 hsuc
      obtain ⟨gx, hgx⟩ : ∃ gx, gx = twoG 7 x y := ⟨_, rfl⟩
      have hgv : (if x < y then y else x) = gx := by rw [hgx]; simp only [twoG]; simp ; split <;> omega
      rw [← hgx] at hsuc
      have HS : Hid (lin 7 ps qs (n + 1) = lin 7 ps qs n ++ [gx]) := hsuc
      clear hsuc hgx hc hc' hp hq
      go_wp2
      go_quiet (fail)
      have hac2 := hacc.below (below_drewN (Below.refl _ _) nq)
      go_wp2_with (at_builtin; refine wpList_append_own _ rfl _ _ 25 rfl (w.heap.size + 1 + 1 + 1 + 1) 3 i0 (.int .i64 0) 1 8 Tryz.underlying25 hi hz0 hz1 hz2 rfl (by decide) _ _ _ rfl (World.ownsRow.alloc hac2.own _) ⟨_, 0, none⟩ 1 1 [.int .i64 gx] rfl rfl (cell_one_new _ _ _) (by intro u hu; simp at hu; subst hu; rfl) (by rw [hlen]; unfold maxLen; omega) (by rw [hlen]; omega) (by simp; omega) ?_; intro v' w9 hown9 hgrow9 _; obtain ⟨hm, m2, m3⟩ := hac2.mid hgrow9; obtain ⟨a', cap', hv'⟩ := owns_slice hown9; subst hv')
      have R := hac2.push hgrow9 hown9
      rw [hlen] at R
      go_roundw
      case rel => exact ⟨n + 1, _, by omega, by go_num, by rw [HS.out]; exact R⟩
      case measure => simp [intOf]; omega
    · have hnL : n = L := by omega
      subst hnL
      have hlen : (lin 7 ps qs n).length = n := lin_length _ _ _ _
      obtain ⟨a, cap', rfl, hints⟩ := hacc.ints (by rw [hlen]; omega)
      have d0 : wr.cell? ⟨w.heap.size + 1 + 1, 0, none⟩ = some (.int .i64 0) := (hacc.bel.cell (by simp)).trans z0
      have d1 : wr.cell? ⟨w.heap.size + 1 + 1, 1, none⟩ = some (.int .i64 0) := (hacc.bel.cell (by simp)).trans z1
      have d2 : wr.cell? ⟨w.heap.size + 1 + 1, 2, none⟩ = some (.slice none 0 0) := (hacc.bel.cell (by simp)).trans z2
      have f0 : wr.frozen? ⟨w.heap.size + 1 + 1, 0, none⟩ = false := (hacc.bel.frozen (by simp)).trans (y0 0)
      have f1 : wr.frozen? ⟨w.heap.size + 1 + 1, 1, none⟩ = false := (hacc.bel.frozen (by simp)).trans (y0 1)
      have f2 : wr.frozen? ⟨w.heap.size + 1 + 1, 2, none⟩ = false := (hacc.bel.frozen (by simp)).trans (y0 2)
      rw [hlen] at hints qv
      go_wp2
      refine bodyPost_ret (v := .agg #[.int .i64 W, .int .i64 H, .slice a n cap']) (by simp [results, Tryz.results123, go_sem, d0, d1, d2]) rfl ⟨a, cap', rfl, ?_, ?_⟩
      · exact (((hints.setCell (by simp) _).setCell (by simp) _).setCell (by simp) _).mono (by omega)
      · exact (((hB0.trans (hacc.bel.mono (by omega))).setCell (by simp; omega) _).setCell (by simp; omega) _).setCell (by simp; omega) _
theorem twoOf_any {W H b off b' off' : Nat} (op : Int) (cap cap' : Nat) {ps qs : List Int} {w : World} (hF : Fine w b off W H ps) (hG : Fine w b' off' W H qs) (hop : op = 4 ∨ op = 5 ∨ op = 6 ∨ op = 7) :
    Calls Tryz.prog 123 #[.int .i64 op, .agg #[.int .i64 W, .int .i64 H, .slice (some ⟨b, off, none⟩) (W * H) cap], .agg #[.int .i64 W, .int .i64 H, .slice (some ⟨b', off', none⟩) (W * H) cap']] w fun e w' =>
      ∃ a cap', e = .returned (.agg #[.int .i64 W, .int .i64 H, .slice a (W * H) cap']) ∧ Ints w.heap.size w' a (W * H) (pix W (fun x y => twoG op (px W ps x y) (px W qs x y)) (W * H)) ∧ Below w.heap.size w w' := by
  rw [← lin_pix op ps qs W (W * H)]
  have hL := hF.small.2
  have hp : ∀ j, j < W * H → 0 ≤ ps.getD j 0 ∧ ps.getD j 0 ≤ 65535 := fun j hj => by
    have hl : j < ps.length := by rw [hF.len]; exact hj
    rw [List.getD_eq_getElem?_getD, List.getElem?_eq_getElem hl]
    exact hF.num _ (List.getElem_mem hl)
  have hq : ∀ j, j < W * H → 0 ≤ qs.getD j 0 ∧ qs.getD j 0 ≤ 65535 := fun j hj => by
    have hl : j < qs.length := by rw [hG.len]; exact hj
    rw [List.getD_eq_getElem?_getD, List.getElem?_eq_getElem hl]
    exact hG.num _ (List.getElem_mem hl)
  rcases hop with rfl | rfl | rfl | rfl
  · exact twoOf_4 hF.hb hG.hb hL hF.cell hG.cell hp hq
  · exact twoOf_5 hF.hb hG.hb hL hF.cell hG.cell hp hq
  · exact twoOf_6 hF.hb hG.hb hL hF.cell hG.cell hp hq
  · exact twoOf_7 hF.hb hG.hb hL hF.cell hG.cell hp hq
end Go.Proofs.YtihliofhhjjeaaaGreat
namespace Go.Proofs.YtihliofhhjjeaaaGreat
open Go.RowKit Im
end Go.Proofs.YtihliofhhjjeaaaGreat
namespace Go.Proofs.YtihliofhhjjeaaaGreat
open Go.RowKit Im
theorem sumBox_le {p : Nat → Nat → Int} {l t n : Nat} : ∀ {m : Nat}, (∀ x y, l ≤ x → x < l + n → t ≤ y → y < t + m → 0 ≤ p x y ∧ p x y ≤ 65535) → 0 ≤ sumBox p l t n m ∧ sumBox p l t n m ≤ 65535 * ((n : Int) * (m : Int))
  | 0, _ => by simp [sumBox]
  | m + 1, h => by
    have h1 := sumBox_le (p := p) (l := l) (t := t) (n := n) (m := m) (fun x y h1 h2 h3 h4 => h x y h1 h2 h3 (by omega))
    have h2 := sumRow_bd (p := p) (y := t + m) (l := l) (n := n) (fun x h1 h2 => h x (t + m) h1 h2 (by omega) (by omega))
    unfold sumBox
    have e : (n : Int) * ((m + 1 : Nat) : Int) = (n : Int) * (m : Int) + n := by rw [Int.natCast_add, Int.mul_add]; simp
    rw [e]
    generalize (n : Int) * (m : Int) = z at h1 ⊢
    omega
theorem meanP_bd {p : Nat → Nat → Int} {l t r b : Nat} (h1 : l ≤ r) (h2 : t ≤ b) (h : ∀ x y, x ≤ r → y ≤ b → 0 ≤ p x y ∧ p x y ≤ 65535) : 0 ≤ meanP p l t r b ∧ meanP p l t r b ≤ 65535 := by
  rw [mean_eq p l (r + 1 - l) t (b + 1 - t) r b (by omega) (by omega)]
  have hb := sumBox_le (p := p) (l := l) (t := t) (n := r + 1 - l) (m := b + 1 - t) (fun x y _ _ _ _ => h x y (by omega) (by omega))
  have hpos : 0 < ((b + 1 - t : Nat) : Int) * ((r + 1 - l : Nat) : Int) := Int.mul_pos (by omega) (by omega)
  rw [Int.mul_comm ((r + 1 - l : Nat) : Int)] at hb
  generalize ((b + 1 - t : Nat) : Int) * ((r + 1 - l : Nat) : Int) = c at hb hpos ⊢
  refine ⟨Int.ediv_nonneg hb.1 (by omega), ?_⟩
  have : sumBox p l t (r + 1 - l) (b + 1 - t) / c < 65536 := Int.ediv_lt_of_lt_mul hpos (by omega)
  omega
theorem px_bd' {W H : Nat} {ps : List Int} (hl : ps.length = W * H) (hn : ∀ n ∈ ps, 0 ≤ n ∧ n ≤ 65535) (x y : Nat) (hx : x < W) (hy : y < H) : 0 ≤ px W ps x y ∧ px W ps x y ≤ 65535 := by
  have h : y * W + x < ps.length := by rw [hl]; exact place_lt hx hy
  unfold px
  rw [List.getD_eq_getElem?_getD, List.getElem?_eq_getElem h]
  exact hn _ (List.getElem_mem h)
theorem fine_pix {W H : Nat} {g : Nat → Nat → Int} (hW : 1 ≤ W ∧ W ≤ 16) (hH : 1 ≤ H ∧ H ≤ 16) (h : ∀ x y, x < W → y < H → 0 ≤ g x y ∧ g x y ≤ 65535) : fineB W H (pix W g (W * H)) = true := by
  rw [fine_iff]
  refine ⟨by omega, by omega, by rw [pix_length, Int.natCast_mul], pix_all W (W * H) g (by omega) (fun x y hx hy => h x y hx ?_)⟩
  rcases Nat.lt_or_ge y H with hh | hh
  · exact hh
  · have : H * W ≤ y * W := Nat.mul_le_mul_right _ hh
    rw [Nat.mul_comm] at this; omega
theorem oneG_bd {op : Int} {W H : Nat} {k : Int} {ps : List Int} (hW : 1 ≤ W ∧ W ≤ 16) (hH : 1 ≤ H ∧ H ≤ 16) (hp : ∀ x y, x < W → y < H → 0 ≤ px W ps x y ∧ px W ps x y ≤ 65535) (hE : oneErr op W H k = 0) (x y : Nat) (hx : x < oneN op W) (hy : y < oneN op H) :
    0 ≤ oneG op W H k ps x y ∧ oneG op W H k ps x y ≤ 65535 := by
  rcases ones_cases op with (rfl | rfl) | rfl | rfl | rfl | rfl | ⟨h3, h10, h8, h9, h11, h12⟩
  · exact hp x y hx hy
  · have hx' : x < W := hx
    have hy' : y < H := hy
    exact meanP_bd (p := px W ps) (by omega) (by omega) (fun a b _ _ => hp a b (by omega) (by omega))
  · have := hp x y hx hy
    show 0 ≤ (if k ≤ px W ps x y then px W ps x y else 0) ∧ (if k ≤ px W ps x y then px W ps x y else 0) ≤ 65535
    split
    · exact this
    · omega
  · exact hp _ y (colX_lt x k W hW.1) hy
  · have hx' : x < W / 2 := hx
    have hy' : y < H / 2 := hy
    exact meanP_bd (p := px W ps) (by omega) (by omega) (fun a b _ _ => hp a b (by omega) (by omega))
  · have hx' : x < 2 * W := hx
    have hy' : y < 2 * H := hy
    exact hp _ _ (by omega) (by omega)
  · rw [oneErr_none W H k h3 h10 h8 h9 h11 h12] at hE; omega
theorem one_fine {op : Int} {W H : Nat} {k : Int} {ps : List Int} (hf : fineB W H ps = true) (hE : oneErr op W H k = 0) : fineB (oneN op W) (oneN op H) (pix (oneN op W) (oneG op W H k ps) (oneN op W * oneN op H)) = true := by
  obtain ⟨h1, h2, h3, h4⟩ := (fine_iff _ _ _).1 hf
  have hs := oneN_side (W := W) (H := H) (by omega) (by omega) hE
  exact fine_pix hs.1 hs.2 (fun x y hx hy => oneG_bd (by omega) (by omega) (px_bd' (by rw [← Int.natCast_mul] at h3; omega) h4) hE x y hx hy)
theorem two_fine {op : Int} {W H : Nat} {ps qs : List Int} (hop : op = 4 ∨ op = 5 ∨ op = 6 ∨ op = 7) (hf : fineB W H ps = true) (hg : fineB W H qs = true) : fineB W H (pix W (fun x y => twoG op (px W ps x y) (px W qs x y)) (W * H)) = true := by
  obtain ⟨h1, h2, h3, h4⟩ := (fine_iff _ _ _).1 hf
  obtain ⟨_, _, g3, g4⟩ := (fine_iff _ _ _).1 hg
  refine fine_pix (by omega) (by omega) (fun x y hx hy => ?_)
  have a := px_bd' (W := W) (H := H) (by rw [← Int.natCast_mul] at h3; omega) h4 x y hx hy
  have b := px_bd' (W := W) (H := H) (by rw [← Int.natCast_mul] at g3; omega) g4 x y hx hy
  generalize px W ps x y = m at a
  generalize px W qs x y = n at b
  rcases hop with rfl | rfl | rfl | rfl
  · show 0 ≤ min (m + n) 65535 ∧ min (m + n) 65535 ≤ 65535
    omega
  · show 0 ≤ max (m - n) 0 ∧ max (m - n) 0 ≤ 65535
    omega
  · show 0 ≤ m * n / 65535 ∧ m * n / 65535 ≤ 65535
    have e1 : 0 ≤ m * n := Int.mul_nonneg a.1 b.1
    have e2 : m * n ≤ 65535 * 65535 := Int.mul_le_mul a.2 b.2 b.1 (by omega)
    omega
  · show 0 ≤ max m n ∧ max m n ≤ 65535
    omega
theorem sub_self {W H : Nat} (ps : List Int) : ∀ n ∈ pix W (fun x y => twoG 5 (px W ps x y) (px W ps x y)) (W * H), n = 0 := by
  intro n hn
  simp [pix] at hn
  obtain ⟨i, _, rfl⟩ := hn
  show max (px W ps (i % W) (i / W) - px W ps (i % W) (i / W)) 0 = 0
  omega
end Go.Proofs.YtihliofhhjjeaaaGreat
namespace Go.Proofs.YtihliofhhjjeaaaGreat
open Go.RowKit Im
structure Res where
  E : Int
  W : Int
  H : Int
  ps : List Int
def noRes (E : Int) : Res := ⟨E, 0, 0, []⟩
def Told (w : World) (r : Res) (e : Ending) (w' : World) : Prop :=
  ∃ a cap, e = .returned (.tuple #[.agg #[.int .i64 r.W, .int .i64 r.H, .slice a r.ps.length cap], .int .i64 r.E]) ∧ Ints w.heap.size w' a r.ps.length r.ps ∧ Below w.heap.size w w'
theorem told_no {w : World} {E : Int} {e : Ending} {w' : World} (h : e = .returned (.tuple #[noImage, .int .i64 E]) ∧ Below w.heap.size w w') : Told w (noRes E) e w' :=
  ⟨none, 0, h.1, Ints.nil _ w', h.2⟩
def oneRes (op W H : Int) (ps : List Int) (k : Int) : Res :=
  if fineB W H ps = true then
    if oneErr op W.toNat H.toNat k = 0 then ⟨0, oneN op W.toNat, oneN op H.toNat, pix (oneN op W.toNat) (oneG op W.toNat H.toNat k ps) (oneN op W.toNat * oneN op H.toNat)⟩ else noRes (oneErr op W.toNat H.toNat k)
  else noRes 1
theorem one_told {op W H : Int} {a : Option Addr} {len : Nat} (cap : Nat) {k : Int} {ps : List Int} {w : World} (h : Ints 0 w a len ps) {r : Res} (hr : oneRes op W H ps k = r) :
    Calls Tryz.prog 72 #[.int .i64 op, .agg #[.int .i64 W, .int .i64 H, .slice a len cap], .int .i64 k] w (Told w r) := by
  subst hr
  unfold oneRes
  by_cases hf : fineB W H ps = true
  · rw [if_pos hf]
    obtain ⟨W', H', b, off, rfl, rfl, rfl, rfl, hF⟩ := fine_of h hf
    simp only [Int.toNat_natCast]
    by_cases hE : oneErr op W' H' k = 0
    · rw [if_pos hE]
      refine (one_ok op cap k hF hE).mono fun e w' ⟨a, cap', he, hi, hb⟩ => ⟨a, cap', ?_, ?_, hb⟩
      · simp only [pix_length]; exact he
      · simp only [pix_length]; exact hi
    · rw [if_neg hE]
      exact (one_err op cap k hF _ rfl hE).mono fun e w' h => told_no h
  · rw [if_neg hf]
    exact (one_not op cap k h (eq_false_of_ne_true hf)).mono fun e w' h => told_no h
theorem oneRes_fine {op W H : Int} {ps : List Int} {k : Int} (h : (oneRes op W H ps k).E = 0) : fineB (oneRes op W H ps k).W (oneRes op W H ps k).H (oneRes op W H ps k).ps = true := by
  unfold oneRes at h ⊢
  by_cases hf : fineB W H ps = true
  · rw [if_pos hf] at h ⊢
    have hb := (fine_iff _ _ _).1 hf
    obtain ⟨W', rfl⟩ := Int.eq_ofNat_of_zero_le (show 0 ≤ W by omega)
    obtain ⟨H', rfl⟩ := Int.eq_ofNat_of_zero_le (show 0 ≤ H by omega)
    simp only [Int.toNat_natCast] at h ⊢
    by_cases hE : oneErr op W' H' k = 0
    · rw [if_pos hE]; exact one_fine hf hE
    · rw [if_neg hE] at h; exact absurd h hE
  · rw [if_neg hf] at h; cases h
def twoRes (op W H : Int) (ps : List Int) (W' H' : Int) (qs : List Int) : Res :=
  if (fineB W H ps && fineB W' H' qs) = true then
    if withinB op 4 7 = true then
      if W = W' ∧ H = H' then ⟨0, W, H, pix W.toNat (fun x y => twoG op (px W.toNat ps x y) (px W.toNat qs x y)) (W.toNat * H.toNat)⟩ else noRes 6
    else noRes 4
  else noRes 1
theorem two_told {op W H W' H' : Int} {a a' : Option Addr} {len len' : Nat} (cap cap' : Nat) {ps qs : List Int} {w : World} (h : Ints 0 w a len ps) (h' : Ints 0 w a' len' qs) {r : Res} (hr : twoRes op W H ps W' H' qs = r) :
    Calls Tryz.prog 70 #[.int .i64 op, .agg #[.int .i64 W, .int .i64 H, .slice a len cap], .agg #[.int .i64 W', .int .i64 H', .slice a' len' cap']] w (Told w r) := by
  subst hr
  unfold twoRes
  by_cases hf : (fineB W H ps && fineB W' H' qs) = true
  · rw [if_pos hf]
    rw [Bool.and_eq_true] at hf
    obtain ⟨W1, H1, b, off, rfl, rfl, rfl, rfl, hF⟩ := fine_of h hf.1
    obtain ⟨W2, H2, b', off', rfl, rfl, rfl, rfl, hG⟩ := fine_of h' hf.2
    by_cases hw : withinB op 4 7 = true
    · rw [if_pos hw]
      have hop : op = 4 ∨ op = 5 ∨ op = 6 ∨ op = 7 := by simp [withinB] at hw; omega
      by_cases hs : (W1 : Int) = W2 ∧ (H1 : Int) = H2
      · rw [if_pos hs]
        obtain rfl : W1 = W2 := by omega
        obtain rfl : H1 = H2 := by omega
        simp only [Int.toNat_natCast]
        refine (two_ok cap cap' hF hG hop).mono fun e w' ⟨a, cap', he, hi, hb⟩ => ⟨a, cap', ?_, ?_, hb⟩
        · simp only [pix_length]; exact he
        · simp only [pix_length]; exact hi
      · rw [if_neg hs]
        exact (two_size cap cap' hF hG hop (by omega)).mono fun e w' h => told_no h
    · rw [if_neg hw]
      have hn : ¬ (op = 4 ∨ op = 5 ∨ op = 6 ∨ op = 7) := fun h => hw (by simp [withinB]; omega)
      exact (two_kind cap cap' hF hG (by omega) (by omega) (by omega) (by omega)).mono fun e w' h => told_no h
  · rw [if_neg hf]
    exact (two_form op cap cap' h h' (eq_false_of_ne_true hf)).mono fun e w' h => told_no h
theorem twoRes_fine {op W H : Int} {ps : List Int} {W' H' : Int} {qs : List Int} (h : (twoRes op W H ps W' H' qs).E = 0) : fineB (twoRes op W H ps W' H' qs).W (twoRes op W H ps W' H' qs).H (twoRes op W H ps W' H' qs).ps = true := by
  unfold twoRes at h ⊢
  by_cases hf : (fineB W H ps && fineB W' H' qs) = true
  · rw [if_pos hf] at h ⊢
    rw [Bool.and_eq_true] at hf
    by_cases hw : withinB op 4 7 = true
    · rw [if_pos hw] at h ⊢
      have hop : op = 4 ∨ op = 5 ∨ op = 6 ∨ op = 7 := by simp [withinB] at hw; omega
      by_cases hs : W = W' ∧ H = H'
      · rw [if_pos hs]
        obtain ⟨rfl, rfl⟩ := hs
        have hb := (fine_iff _ _ _).1 hf.1
        obtain ⟨W', rfl⟩ := Int.eq_ofNat_of_zero_le (show 0 ≤ W by omega)
        obtain ⟨H', rfl⟩ := Int.eq_ofNat_of_zero_le (show 0 ≤ H by omega)
        exact two_fine hop hf.1 hf.2
      · rw [if_neg hs] at h; cases h
    · rw [if_neg hw] at h; cases h
  · rw [if_neg hf] at h; cases h
def makeRes (op W H k : Int) : Res :=
  if makeErr op W H k = 0 then ⟨0, W, H, pix W.toNat (makeG op k) (W.toNat * H.toNat)⟩ else noRes (makeErr op W H k)
theorem make_told {op W H k : Int} (w : World) {r : Res} (hr : makeRes op W H k = r) : Calls Tryz.prog 69 #[.int .i64 op, .int .i64 W, .int .i64 H, .int .i64 k] w (Told w r) := by
  subst hr
  unfold makeRes
  by_cases hE : makeErr op W H k = 0
  · rw [if_pos hE]
    obtain ⟨W1, H1, rfl, rfl, hop, h1, h2, h3⟩ := makeErr_zero hE
    simp only [Int.toNat_natCast]
    refine (make_ok op W1 H1 k w hop h1 h2 h3).mono fun e w' ⟨a, cap', he, hi, hb⟩ => ⟨a, cap', ?_, ?_, hb⟩
    · simp only [pix_length]; exact he
    · simp only [pix_length]; exact hi
  · rw [if_neg hE]
    exact (make_error op W H k w hE).mono fun e w' h => told_no h
end Go.Proofs.YtihliofhhjjeaaaGreat
