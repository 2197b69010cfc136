/-
  LAWFRAME: the walks of FrameTells and FrameRenders.
-/
import Derived.Test.YtfpkiimlaepnhaaM43
import Derived.Test.YtfpkiimlaepnhaaM46
import Derived.Test.YtfpkiimlaepnhaaM36
namespace Go.Proofs.Ytfpkiimlaepnhaa
set_option maxRecDepth 100000
open Go.RowKit Im

set_option maxHeartbeats 4000000 in
theorem frameTells_err (W H S O : Int) (a : Option Addr) (len cap : Nat) (ps : List Ps) (w : World) (hp : Passes w a len ps) (hE : frameE ⟨W, H, S, O, ps⟩ ≠ 0) :
    Calls Try.prog 10 #[.agg #[.int .i64 W, .int .i64 H, .int .i64 S, .int .i64 O, .slice a len cap]] w fun e w' => e = .returned (.bool true) ∧ Below w.heap.size w w' := by
  have hb0 := below_box (Below.refl w.heap.size w) (.cells #[.int .i64 W, .int .i64 H, .int .i64 S, .int .i64 O, .slice a len cap] 63)
  have hB := FBox.new w W H S O a len cap
  have hzs := fun wx hp => sizes_any W H S O a len cap ps wx hp
  have hso := fun wx hp => sources_any W H S O a len cap ps wx hp
  have hcf := fun wx hp => checkFrame_any W H S O a len cap ps wx hp
  have hch := fun wx hp => frameCheck_any W H S O a len cap ps wx hp
  have hp0 := hp.below hb0
  go_enter Try.func10, Try.ntmps10
  go_wp2_with fail
  refine (hzs _ hp0).mono ?_
  rintro e w1 ⟨⟨v1, rfl, hZ⟩, bel1⟩
  rw [if_neg hE] at hZ
  obtain ⟨a1, c1, rfl⟩ := owns_slice hZ
  have hp1 := hp0.below bel1
  have hB1 := hB.below bel1
  have hb1 := below_step hb0 bel1
  clear hZ hp0 hB hb0 bel1 hzs hp
  obtain ⟨_, g0, g1, g2, g3, g4⟩ := id hB1
  go_wp2_with fail
  refine (hso _ hp1).mono ?_
  rintro e w2 ⟨⟨v2, rfl, hS⟩, bel2⟩
  rw [if_neg hE] at hS
  obtain ⟨a2, c2, rfl⟩ := ll_slice hS
  have hp2 := hp1.below bel2
  have hB2 := hB1.below bel2
  have hb2 := below_step hb1 bel2
  clear hS hp1 hB1 hb1 bel2 hso g0 g1 g2 g3 g4
  obtain ⟨_, g0, g1, g2, g3, g4⟩ := id hB2
  go_wp2_with fail
  refine (hcf _ hp2).mono ?_
  rintro e w3 ⟨⟨v3, rfl, hY⟩, bel3⟩
  rw [if_neg hE] at hY
  obtain ⟨a3, c3, rfl⟩ := owns_slice hY
  have hp3 := hp2.below bel3
  have hB3 := hB2.below bel3
  have hb3 := below_step hb2 bel3
  clear hY hp2 hB2 hb2 bel3 hcf g0 g1 g2 g3 g4
  obtain ⟨_, g0, g1, g2, g3, g4⟩ := id hB3
  generalize frameE ⟨W, H, S, O, ps⟩ = E at *
  go_wp2_with fail
  go_loopw [10] (fun i wr => i = .int .i64 0 ∧ wr = w3) (fun _ _ => 0)
  case atStart => exact ⟨rfl, rfl⟩
  case round =>
    obtain ⟨rfl, rfl⟩ := hrel
    go_wp2_with fail
    refine (frameBegun_any _).mono ?_
    rintro e w4 ⟨rfl, bel4⟩
    have hp4 := hp3.below bel4
    have hB4 := hB3.below bel4
    have hb4 := below_step hb3 bel4
    clear hp3 hB3 hb3 bel4 g0 g1 g2 g3 g4
    obtain ⟨_, g0, g1, g2, g3, g4⟩ := id hB4
    go_wp2_with fail
    refine (hch _ hp4).mono ?_
    rintro e w5 ⟨rfl, bel5⟩
    have hb5 := below_step hb4 bel5
    clear hp4 hB4 hb4 bel5 g0 g1 g2 g3 g4 hch
    go_wp2
    go_ret
    exact ⟨by simp, hb5⟩
theorem keepT {wL w' : World} {zb zo yb yo sb so qb qo : Nat} {z0 z1 y0 y1 s0 q0 : Value} (hb : Below wL.heap.size wL w') (h1 : zb < wL.heap.size) (h2 : yb < wL.heap.size) (h3 : sb < wL.heap.size) (h4 : qb < wL.heap.size)
    (d0 : wL.cell? ⟨zb, zo, none⟩ = some z0) (d1 : wL.cell? ⟨zb, zo + 1, none⟩ = some z1) (e0 : wL.cell? ⟨yb, yo, none⟩ = some y0) (e1 : wL.cell? ⟨yb, yo + 1, none⟩ = some y1) (f0 : wL.cell? ⟨sb, so, none⟩ = some s0) (f1 : wL.cell? ⟨qb, qo, none⟩ = some q0) :
    Below wL.heap.size wL w' ∧ w'.cell? ⟨zb, zo, none⟩ = some z0 ∧ w'.cell? ⟨zb, zo + 1, none⟩ = some z1 ∧ w'.cell? ⟨yb, yo, none⟩ = some y0 ∧ w'.cell? ⟨yb, yo + 1, none⟩ = some y1 ∧ w'.cell? ⟨sb, so, none⟩ = some s0 ∧ w'.cell? ⟨qb, qo, none⟩ = some q0 :=
  ⟨hb, (hb.cell (p := ⟨zb, zo, none⟩) h1).trans d0, (hb.cell (p := ⟨zb, zo + 1, none⟩) h1).trans d1, (hb.cell (p := ⟨yb, yo, none⟩) h2).trans e0, (hb.cell (p := ⟨yb, yo + 1, none⟩) h2).trans e1, (hb.cell (p := ⟨sb, so, none⟩) h3).trans f0, (hb.cell (p := ⟨qb, qo, none⟩) h4).trans f1⟩
theorem srcs_two (ps : List Ps) (n : Nat) : ∀ x ∈ srcs ps n, x.length ≤ 2 := by
  intro x hx
  unfold srcs at hx
  rw [List.mem_map] at hx
  obtain ⟨n, _, rfl⟩ := hx
  unfold srcOf
  rw [List.length_map]
  exact takesP_len _
set_option maxHeartbeats 4000000 in
theorem frameTells_ok (W H S O : Int) (a : Option Addr) (len cap : Nat) (ps : List Ps) (w : World) (hp : Passes w a len ps) (hE : frameE ⟨W, H, S, O, ps⟩ = 0) :
    Calls Try.prog 10 #[.agg #[.int .i64 W, .int .i64 H, .int .i64 S, .int .i64 O, .slice a len cap]] w fun e w' => e = .returned (.bool true) ∧ Below w.heap.size w w' := by
  obtain rfl := hp.leng
  obtain ⟨hbnd, _, _⟩ := frameE_zero hE
  obtain ⟨_, _, _, _, hL⟩ := boundsE_zero hbnd
  dsimp only at hL
  have hb0 := below_box (Below.refl w.heap.size w) (.cells #[.int .i64 W, .int .i64 H, .int .i64 S, .int .i64 O, .slice a ps.length cap] 63)
  have hB := FBox.new w W H S O a ps.length cap
  have hzs := fun wx hp => sizes_any W H S O a ps.length cap ps wx hp
  have hso := fun wx hp => sources_any W H S O a ps.length cap ps wx hp
  have hcf := fun wx hp => checkFrame_any W H S O a ps.length cap ps wx hp
  have hch := fun wx hp => frameCheck_any W H S O a ps.length cap ps wx hp
  have hsr := fun wx hp => sourcesOfRef_any W H S O a ps.length cap ps wx hp hL.2
  have hs2 := srcs_two ps ps.length
  have lz := szs_length ⟨W, H, S, O, ps⟩ ps.length
  have ls := srcs_length ps ps.length
  rw [hE] at hch
  have hp0 := hp.below hb0
  go_enter Try.func10, Try.ntmps10
  go_wp2_with fail
  refine (hzs _ hp0).mono ?_
  rintro e w1 ⟨⟨v1, rfl, hZ⟩, bel1⟩
  rw [if_pos hE] at hZ
  rw [hE]
  obtain ⟨za, zc, rfl, hZs⟩ := hZ.zs (by rw [lz]; exact hL.2)
  dsimp only at hZs ⊢
  rw [lz] at hZs ⊢
  have hp1 := hp0.below bel1
  have hB1 := hB.below bel1
  have hb1 := below_step hb0 bel1
  clear hZ hp0 hB hb0 bel1 hzs hp hbnd
  obtain ⟨_, g0, g1, g2, g3, g4⟩ := id hB1
  have HLZ : Hid (_) := lz
  have HLS : Hid (_) := ls
  clear lz ls
  go_wp2_with fail
  refine (hso _ hp1).mono ?_
  rintro e w2 ⟨⟨v2, rfl, hS⟩, bel2⟩
  rw [if_pos hE] at hS
  rw [hE]
  obtain ⟨sa, sc, rfl, hSs⟩ := hS.lls hs2
  dsimp only at hSs ⊢
  rw [HLS.out] at hSs ⊢
  have hp2 := hp1.below bel2
  have hB2 := hB1.below bel2
  have hb2 := below_step hb1 bel2
  replace hZs := hZs.below bel2
  clear hS hp1 hB1 hb1 bel2 hso g0 g1 g2 g3 g4
  obtain ⟨_, g0, g1, g2, g3, g4⟩ := id hB2
  go_wp2_with fail
  refine (hcf _ hp2).mono ?_
  rintro e w3 ⟨⟨v3, rfl, hY⟩, bel3⟩
  rw [if_pos hE] at hY
  rw [hE]
  obtain ⟨ya, yc, rfl, hYs⟩ := hY.zs (by rw [HLZ.out]; exact hL.2)
  dsimp only at hYs ⊢
  rw [HLZ.out] at hYs ⊢
  have hp3 := hp2.below bel3
  have hB3 := hB2.below bel3
  have hb3 := below_step hb2 bel3
  replace hZs := hZs.below bel3
  replace hSs := hSs.below bel3
  clear hY hp2 hB2 hb2 bel3 hcf g0 g1 g2 g3 g4
  obtain ⟨_, g0, g1, g2, g3, g4⟩ := id hB3
  go_wp2_with fail
  refine (hsr _ hp3).mono ?_
  rintro e w4 ⟨⟨v4, rfl, hQ⟩, bel4⟩
  obtain ⟨qa, qc, rfl, hQs⟩ := hQ.lls hs2
  rw [HLS.out] at hQs ⊢
  have hp4 := hp3.below bel4
  have hB4 := hB3.below bel4
  have hb4 := below_step hb3 bel4
  replace hZs := hZs.below bel4
  replace hSs := hSs.below bel4
  replace hYs := hYs.below bel4
  clear hQ hp3 hB3 hb3 bel4 hsr g0 g1 g2 g3 g4 hs2
  generalize szs ⟨W, H, S, O, ps⟩ ps.length = zs at *
  generalize srcs ps ps.length = ss at *
  go_wp2_with fail
  go_loopw [10] (fun i wr => ∃ k : Nat, k ≤ ps.length ∧ i = .int .i64 k ∧ Below w4.heap.size w4 wr) (fun i _ => ps.length - (intOf i).toNat)
  case atStart => exact ⟨0, Nat.zero_le _, rfl, Below.refl _ _⟩
  case round =>
    obtain ⟨k, hk, rfl, hbr⟩ := hrel
    by_cases hlt : k < ps.length
    · obtain ⟨zb, zo, rfl, h1, d0, d1⟩ := (hZs.below hbr).nth hlt
      obtain ⟨yb, yo, rfl, h2, e0, e1⟩ := (hYs.below hbr).nth hlt
      obtain ⟨sb, so, sa', sc', rfl, h3, f0, hUI⟩ := (hSs.below hbr).nth hlt
      obtain ⟨qb, qo, qa', qc', rfl, h4, f1, hVI⟩ := (hQs.below hbr).nth hlt
      generalize zs.getD k Sz.zero = z at d0 d1 e0 e1
      obtain ⟨zw, zh⟩ := z
      dsimp only at d0 d1 e0 e1
      generalize ss.getD k [] = xs at f0 hUI f1 hVI
      have hsi := fun w' (hb : Below wr.heap.size wr w') => sameInts_any sc' qc' (hUI.below (Nat.le_refl _) hb) (hVI.below (Nat.le_refl _) hb)
      simp only [decide_true] at hsi
      clear hZs hYs hSs hQs hUI hVI hch hp4 hB4
      go_wp2_with fail
      go_region_held3 (fun w' => Below wr.heap.size wr w' ∧ w'.cell? ⟨zb, zo + k * 2, none⟩ = some (.int .i64 zw) ∧ w'.cell? ⟨zb, zo + k * 2 + 1, none⟩ = some (.int .i64 zh) ∧ w'.cell? ⟨yb, yo + k * 2, none⟩ = some (.int .i64 zw) ∧ w'.cell? ⟨yb, yo + k * 2 + 1, none⟩ = some (.int .i64 zh) ∧ w'.cell? ⟨sb, so + k, none⟩ = some (.slice sa' xs.length sc') ∧ w'.cell? ⟨qb, qo + k, none⟩ = some (.slice qa' xs.length qc'))
        (first | exact keepT (Below.refl _ _).drew h1 h2 h3 h4 d0 d1 e0 e1 f0 f1 | exact keepT hbs h1 h2 h3 h4 d0 d1 e0 e1 f0 f1)
        ((go_at_call 36; refine (hsi _ (Below.refl _ _).drew).mono ?_; rintro e w5 ⟨rfl, bs⟩; have hbs := below_step (Below.refl wr.heap.size wr).drew bs))
      all_goals go_wp2_with fail
      go_roundw
      case rel => exact ⟨k + 1, by omega, by go_num, below_step hbr hbs⟩
      case measure => simp [intOf]; omega
    · have hpr := hp4.below hbr
      have hBr := hB4.below hbr
      have hbR := below_step hb4 hbr
      clear hZs hYs hSs hQs hp4 hB4 hb4 hbr
      go_wp2_with fail
      refine (frameBegun_any _).mono ?_
      rintro e w6 ⟨rfl, bel6⟩
      have hp6 := hpr.below bel6
      have hB6 := hBr.below bel6
      have hb6 := below_step hbR bel6
      clear hpr hBr hbR bel6
      obtain ⟨_, g0, g1, g2, g3, g4⟩ := id hB6
      go_wp2_with fail
      refine (hch _ hp6).mono ?_
      rintro e w7 ⟨rfl, bel7⟩
      have hb7 := below_step hb6 bel7
      clear hp6 hB6 hb6 bel7 g0 g1 g2 g3 g4 hch
      go_wp2
      go_ret
      exact ⟨rfl, hb7⟩
theorem frameTells_any (W H S O : Int) (a : Option Addr) (len cap : Nat) (ps : List Ps) (w : World) (hp : Passes w a len ps) :
    Calls Try.prog 10 #[.agg #[.int .i64 W, .int .i64 H, .int .i64 S, .int .i64 O, .slice a len cap]] w fun e w' => e = .returned (.bool true) ∧ Below w.heap.size w w' := by
  by_cases hE : frameE ⟨W, H, S, O, ps⟩ = 0
  · exact frameTells_ok W H S O a len cap ps w hp hE
  · exact frameTells_err W H S O a len cap ps w hp hE
end Go.Proofs.Ytfpkiimlaepnhaa
