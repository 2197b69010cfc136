/- LawFrame, LawNeed, LawRight, NeedMath, NeedMath2, NeedMath3: joined, in this order. -/
import Derived.Test.YtfpkiimlaepnhaaM17
import Derived.Test.YtfpkiimlaepnhaaM18
import Derived.Test.YtfpkiimlaepnhaaM14
import Derived.Test.YtfpkiimlaepnhaaM15
import Derived.Test.YtfpkiimlaepnhaaM16
/-
  LAWFRAME: the walks of FrameTells and FrameRenders.
-/
namespace Go.Proofs.Ytfpkiimlaepnhaa
set_option maxRecDepth 100000
open Go.RowKit Im

set_option maxHeartbeats 4000000 in
theorem frameTells_err (W H S O : Int) (a : Option Addr) (len cap : Nat) (ps : List Ps) (w : World) (hp : Passes w a len ps) (hE : frameE ⟨W, H, S, O, ps⟩ ≠ 0) :
    Calls Try.prog 10 #[.agg #[.int .i64 W, .int .i64 H, .int .i64 S, .int .i64 O, .slice a len cap]] w fun e w' => e = .returned (.bool true) ∧ Below w.heap.size w w' := by
  have hb0 := below_box (Below.refl w.heap.size w) (.cells #[.int .i64 W, .int .i64 H, .int .i64 S, .int .i64 O, .slice a len cap] 63)
  have hB := FBox.new w W H S O a len cap
  have hzs := fun wx hp => sizes_any W H S O a len cap ps wx hp
  have hso := fun wx hp => sources_any W H S O a len cap ps wx hp
  have hcf := fun wx hp => checkFrame_any W H S O a len cap ps wx hp
  have hch := fun wx hp => frameCheck_any W H S O a len cap ps wx hp
  have hp0 := hp.below hb0
  go_enter Try.func10, Try.ntmps10
  go_wp2_with fail
  refine (hzs _ hp0).mono ?_
  rintro e w1 ⟨⟨v1, rfl, hZ⟩, bel1⟩
  rw [if_neg hE] at hZ
  obtain ⟨a1, c1, rfl⟩ := owns_slice hZ
  have hp1 := hp0.below bel1
  have hB1 := hB.below bel1
  have hb1 := below_step hb0 bel1
  clear hZ hp0 hB hb0 bel1 hzs hp
  obtain ⟨_, g0, g1, g2, g3, g4⟩ := id hB1
  go_wp2_with fail
  refine (hso _ hp1).mono ?_
  rintro e w2 ⟨⟨v2, rfl, hS⟩, bel2⟩
  rw [if_neg hE] at hS
  obtain ⟨a2, c2, rfl⟩ := ll_slice hS
  have hp2 := hp1.below bel2
  have hB2 := hB1.below bel2
  have hb2 := below_step hb1 bel2
  clear hS hp1 hB1 hb1 bel2 hso g0 g1 g2 g3 g4
  obtain ⟨_, g0, g1, g2, g3, g4⟩ := id hB2
  go_wp2_with fail
  refine (hcf _ hp2).mono ?_
  rintro e w3 ⟨⟨v3, rfl, hY⟩, bel3⟩
  rw [if_neg hE] at hY
  obtain ⟨a3, c3, rfl⟩ := owns_slice hY
  have hp3 := hp2.below bel3
  have hB3 := hB2.below bel3
  have hb3 := below_step hb2 bel3
  clear hY hp2 hB2 hb2 bel3 hcf g0 g1 g2 g3 g4
  obtain ⟨_, g0, g1, g2, g3, g4⟩ := id hB3
  generalize frameE ⟨W, H, S, O, ps⟩ = E at *
  go_wp2_with fail
  go_loopw [10] (fun i wr => i = .int .i64 0 ∧ wr = w3) (fun _ _ => 0)
  case atStart => exact ⟨rfl, rfl⟩
  case round =>
    obtain ⟨rfl, rfl⟩ := hrel
    go_wp2_with fail
    refine (frameBegun_any _).mono ?_
    rintro e w4 ⟨rfl, bel4⟩
    have hp4 := hp3.below bel4
    have hB4 := hB3.below bel4
    have hb4 := below_step hb3 bel4
    clear hp3 hB3 hb3 bel4 g0 g1 g2 g3 g4
    obtain ⟨_, g0, g1, g2, g3, g4⟩ := id hB4
    go_wp2_with fail
    refine (hch _ hp4).mono ?_
    rintro e w5 ⟨rfl, bel5⟩
    have hb5 := below_step hb4 bel5
    clear hp4 hB4 hb4 bel5 g0 g1 g2 g3 g4 hch
    go_wp2
    go_ret
    exact ⟨by simp, hb5⟩
theorem keepT {wL w' : World} {zb zo yb yo sb so qb qo : Nat} {z0 z1 y0 y1 s0 q0 : Value} (hb : Below wL.heap.size wL w') (h1 : zb < wL.heap.size) (h2 : yb < wL.heap.size) (h3 : sb < wL.heap.size) (h4 : qb < wL.heap.size)
    (d0 : wL.cell? ⟨zb, zo, none⟩ = some z0) (d1 : wL.cell? ⟨zb, zo + 1, none⟩ = some z1) (e0 : wL.cell? ⟨yb, yo, none⟩ = some y0) (e1 : wL.cell? ⟨yb, yo + 1, none⟩ = some y1) (f0 : wL.cell? ⟨sb, so, none⟩ = some s0) (f1 : wL.cell? ⟨qb, qo, none⟩ = some q0) :
    Below wL.heap.size wL w' ∧ w'.cell? ⟨zb, zo, none⟩ = some z0 ∧ w'.cell? ⟨zb, zo + 1, none⟩ = some z1 ∧ w'.cell? ⟨yb, yo, none⟩ = some y0 ∧ w'.cell? ⟨yb, yo + 1, none⟩ = some y1 ∧ w'.cell? ⟨sb, so, none⟩ = some s0 ∧ w'.cell? ⟨qb, qo, none⟩ = some q0 :=
  ⟨hb, (hb.cell (p := ⟨zb, zo, none⟩) h1).trans d0, (hb.cell (p := ⟨zb, zo + 1, none⟩) h1).trans d1, (hb.cell (p := ⟨yb, yo, none⟩) h2).trans e0, (hb.cell (p := ⟨yb, yo + 1, none⟩) h2).trans e1, (hb.cell (p := ⟨sb, so, none⟩) h3).trans f0, (hb.cell (p := ⟨qb, qo, none⟩) h4).trans f1⟩
theorem srcs_two (ps : List Ps) (n : Nat) : ∀ x ∈ srcs ps n, x.length ≤ 2 := by
  intro x hx
  unfold srcs at hx
  rw [List.mem_map] at hx
  obtain ⟨n, _, rfl⟩ := hx
  unfold srcOf
  rw [List.length_map]
  exact takesP_len _
set_option maxHeartbeats 4000000 in
theorem frameTells_ok (W H S O : Int) (a : Option Addr) (len cap : Nat) (ps : List Ps) (w : World) (hp : Passes w a len ps) (hE : frameE ⟨W, H, S, O, ps⟩ = 0) :
    Calls Try.prog 10 #[.agg #[.int .i64 W, .int .i64 H, .int .i64 S, .int .i64 O, .slice a len cap]] w fun e w' => e = .returned (.bool true) ∧ Below w.heap.size w w' := by
  obtain rfl := hp.leng
  obtain ⟨hbnd, _, _⟩ := frameE_zero hE
  obtain ⟨_, _, _, _, hL⟩ := boundsE_zero hbnd
  dsimp only at hL
  have hb0 := below_box (Below.refl w.heap.size w) (.cells #[.int .i64 W, .int .i64 H, .int .i64 S, .int .i64 O, .slice a ps.length cap] 63)
  have hB := FBox.new w W H S O a ps.length cap
  have hzs := fun wx hp => sizes_any W H S O a ps.length cap ps wx hp
  have hso := fun wx hp => sources_any W H S O a ps.length cap ps wx hp
  have hcf := fun wx hp => checkFrame_any W H S O a ps.length cap ps wx hp
  have hch := fun wx hp => frameCheck_any W H S O a ps.length cap ps wx hp
  have hsr := fun wx hp => sourcesOfRef_any W H S O a ps.length cap ps wx hp hL.2
  have hs2 := srcs_two ps ps.length
  have lz := szs_length ⟨W, H, S, O, ps⟩ ps.length
  have ls := srcs_length ps ps.length
  rw [hE] at hch
  have hp0 := hp.below hb0
  go_enter Try.func10, Try.ntmps10
  go_wp2_with fail
  refine (hzs _ hp0).mono ?_
  rintro e w1 ⟨⟨v1, rfl, hZ⟩, bel1⟩
  rw [if_pos hE] at hZ
  rw [hE]
  obtain ⟨za, zc, rfl, hZs⟩ := hZ.zs (by rw [lz]; exact hL.2)
  dsimp only at hZs ⊢
  rw [lz] at hZs ⊢
  have hp1 := hp0.below bel1
  have hB1 := hB.below bel1
  have hb1 := below_step hb0 bel1
  clear hZ hp0 hB hb0 bel1 hzs hp hbnd
  obtain ⟨_, g0, g1, g2, g3, g4⟩ := id hB1
  have HLZ : Hid (_) := lz
  have HLS : Hid (_) := ls
  clear lz ls
  go_wp2_with fail
  refine (hso _ hp1).mono ?_
  rintro e w2 ⟨⟨v2, rfl, hS⟩, bel2⟩
  rw [if_pos hE] at hS
  rw [hE]
  obtain ⟨sa, sc, rfl, hSs⟩ := hS.lls hs2
  dsimp only at hSs ⊢
  rw [HLS.out] at hSs ⊢
  have hp2 := hp1.below bel2
  have hB2 := hB1.below bel2
  have hb2 := below_step hb1 bel2
  replace hZs := hZs.below bel2
  clear hS hp1 hB1 hb1 bel2 hso g0 g1 g2 g3 g4
  obtain ⟨_, g0, g1, g2, g3, g4⟩ := id hB2
  go_wp2_with fail
  refine (hcf _ hp2).mono ?_
  rintro e w3 ⟨⟨v3, rfl, hY⟩, bel3⟩
  rw [if_pos hE] at hY
  rw [hE]
  obtain ⟨ya, yc, rfl, hYs⟩ := hY.zs (by rw [HLZ.out]; exact hL.2)
  dsimp only at hYs ⊢
  rw [HLZ.out] at hYs ⊢
  have hp3 := hp2.below bel3
  have hB3 := hB2.below bel3
  have hb3 := below_step hb2 bel3
  replace hZs := hZs.below bel3
  replace hSs := hSs.below bel3
  clear hY hp2 hB2 hb2 bel3 hcf g0 g1 g2 g3 g4
  obtain ⟨_, g0, g1, g2, g3, g4⟩ := id hB3
  go_wp2_with fail
  refine (hsr _ hp3).mono ?_
  rintro e w4 ⟨⟨v4, rfl, hQ⟩, bel4⟩
  obtain ⟨qa, qc, rfl, hQs⟩ := hQ.lls hs2
  rw [HLS.out] at hQs ⊢
  have hp4 := hp3.below bel4
  have hB4 := hB3.below bel4
  have hb4 := below_step hb3 bel4
  replace hZs := hZs.below bel4
  replace hSs := hSs.below bel4
  replace hYs := hYs.below bel4
  clear hQ hp3 hB3 hb3 bel4 hsr g0 g1 g2 g3 g4 hs2
  generalize szs ⟨W, H, S, O, ps⟩ ps.length = zs at *
  generalize srcs ps ps.length = ss at *
  go_wp2_with fail
  go_loopw [10] (fun i wr => ∃ k : Nat, k ≤ ps.length ∧ i = .int .i64 k ∧ Below w4.heap.size w4 wr) (fun i _ => ps.length - (intOf i).toNat)
  case atStart => exact ⟨0, Nat.zero_le _, rfl, Below.refl _ _⟩
  case round =>
    obtain ⟨k, hk, rfl, hbr⟩ := hrel
    by_cases hlt : k < ps.length
    · obtain ⟨zb, zo, rfl, h1, d0, d1⟩ := (hZs.below hbr).nth hlt
      obtain ⟨yb, yo, rfl, h2, e0, e1⟩ := (hYs.below hbr).nth hlt
      obtain ⟨sb, so, sa', sc', rfl, h3, f0, hUI⟩ := (hSs.below hbr).nth hlt
      obtain ⟨qb, qo, qa', qc', rfl, h4, f1, hVI⟩ := (hQs.below hbr).nth hlt
      generalize zs.getD k Sz.zero = z at d0 d1 e0 e1
      obtain ⟨zw, zh⟩ := z
      dsimp only at d0 d1 e0 e1
      generalize ss.getD k [] = xs at f0 hUI f1 hVI
      have hsi := fun w' (hb : Below wr.heap.size wr w') => sameInts_any sc' qc' (hUI.below (Nat.le_refl _) hb) (hVI.below (Nat.le_refl _) hb)
      simp only [decide_true] at hsi
      clear hZs hYs hSs hQs hUI hVI hch hp4 hB4
      go_wp2_with fail
      go_region_held3 (fun w' => Below wr.heap.size wr w' ∧ w'.cell? ⟨zb, zo + k * 2, none⟩ = some (.int .i64 zw) ∧ w'.cell? ⟨zb, zo + k * 2 + 1, none⟩ = some (.int .i64 zh) ∧ w'.cell? ⟨yb, yo + k * 2, none⟩ = some (.int .i64 zw) ∧ w'.cell? ⟨yb, yo + k * 2 + 1, none⟩ = some (.int .i64 zh) ∧ w'.cell? ⟨sb, so + k, none⟩ = some (.slice sa' xs.length sc') ∧ w'.cell? ⟨qb, qo + k, none⟩ = some (.slice qa' xs.length qc'))
        (first | exact keepT (Below.refl _ _).drew h1 h2 h3 h4 d0 d1 e0 e1 f0 f1 | exact keepT hbs h1 h2 h3 h4 d0 d1 e0 e1 f0 f1)
        ((go_at_call 36; refine (hsi _ (Below.refl _ _).drew).mono ?_; rintro e w5 ⟨rfl, bs⟩; have hbs := below_step (Below.refl wr.heap.size wr).drew bs))
      all_goals go_wp2_with fail
      go_roundw
      case rel => exact ⟨k + 1, by omega, by go_num, below_step hbr hbs⟩
      case measure => simp [intOf]; omega
    · have hpr := hp4.below hbr
      have hBr := hB4.below hbr
      have hbR := below_step hb4 hbr
      clear hZs hYs hSs hQs hp4 hB4 hb4 hbr
      go_wp2_with fail
      refine (frameBegun_any _).mono ?_
      rintro e w6 ⟨rfl, bel6⟩
      have hp6 := hpr.below bel6
      have hB6 := hBr.below bel6
      have hb6 := below_step hbR bel6
      clear hpr hBr hbR bel6
      obtain ⟨_, g0, g1, g2, g3, g4⟩ := id hB6
      go_wp2_with fail
      refine (hch _ hp6).mono ?_
      rintro e w7 ⟨rfl, bel7⟩
      have hb7 := below_step hb6 bel7
      clear hp6 hB6 hb6 bel7 g0 g1 g2 g3 g4 hch
      go_wp2
      go_ret
      exact ⟨rfl, hb7⟩
theorem frameTells_any (W H S O : Int) (a : Option Addr) (len cap : Nat) (ps : List Ps) (w : World) (hp : Passes w a len ps) :
    Calls Try.prog 10 #[.agg #[.int .i64 W, .int .i64 H, .int .i64 S, .int .i64 O, .slice a len cap]] w fun e w' => e = .returned (.bool true) ∧ Below w.heap.size w w' := by
  by_cases hE : frameE ⟨W, H, S, O, ps⟩ = 0
  · exact frameTells_ok W H S O a len cap ps w hp hE
  · exact frameTells_err W H S O a len cap ps w hp hE
end Go.Proofs.Ytfpkiimlaepnhaa
/-
  LAWNEED: the walk of NeedTells.
-/
namespace Go.Proofs.Ytfpkiimlaepnhaa
set_option maxRecDepth 100000
open Go.RowKit Im

set_option maxHeartbeats 4000000 in
theorem needTells_err (W H S O : Int) (a : Option Addr) (len cap : Nat) (ps : List Ps) (w : World) (hp : Passes w a len ps) (hE : frameE ⟨W, H, S, O, ps⟩ ≠ 0) :
    Calls Try.prog 13 #[.agg #[.int .i64 W, .int .i64 H, .int .i64 S, .int .i64 O, .slice a len cap]] w fun e w' => e = .returned (.bool true) ∧ Below w.heap.size w w' := by
  obtain rfl := hp.leng
  have hb0 := below_box (Below.refl w.heap.size w) (.cells #[.int .i64 W, .int .i64 H, .int .i64 S, .int .i64 O, .slice a ps.length cap] 63)
  have hB := FBox.new w W H S O a ps.length cap
  have hla := fun wx hp => last_any W H S O a ps.length cap ps wx hp
  have hke := fun wx hp => kept_any W H S O a ps.length cap ps wx hp
  have hcu := fun wx hp => cull_any W H S O a ps.length cap ps wx hp
  have hcf := fun wx hp => checkFrame_any W H S O a ps.length cap ps wx hp
  have hp0 := hp.below hb0
  go_enter Try.func13, Try.ntmps13
  go_wp2_with fail
  refine (hla _ hp0).mono ?_
  rintro e w1 ⟨rfl, bel1⟩
  rw [if_neg hE]
  have hp1 := hp0.below bel1
  have hB1 := hB.below bel1
  have hb1 := below_step hb0 bel1
  clear hp0 hB hb0 bel1 hla hp
  obtain ⟨_, g0, g1, g2, g3, g4⟩ := id hB1
  go_wp2_with fail
  refine (hke _ hp1).mono ?_
  rintro e w2 ⟨⟨h0, _⟩ | ⟨_, rfl⟩, bel2⟩
  · exact absurd h0 hE
  · have hp2 := hp1.below bel2
    have hB2 := hB1.below bel2
    have hb2 := below_step hb1 bel2
    clear hp1 hB1 hb1 bel2 hke g0 g1 g2 g3 g4
    obtain ⟨_, g0, g1, g2, g3, g4⟩ := id hB2
    go_wp2_with fail
    refine (hcu _ hp2).mono ?_
    rintro e w3 ⟨⟨h0, _⟩ | ⟨_, rfl⟩, bel3⟩
    · exact absurd h0 hE
    · have bA := below_step bel3 ((Below.refl w3.heap.size w3).alloc (Nat.le_refl _) (.cells #[.int .i64 0, .int .i64 0, .int .i64 0, .int .i64 0, .slice none 0 0] 63))
      have hZ3 := ZBox.new w3
      have hp3 := hp2.below bA
      have hB3 := hB2.below bA
      have hb3 := below_step hb2 bA
      clear hp2 hB2 hb2 bel3 hcu g0 g1 g2 g3 g4 bA
      obtain ⟨_, g0, g1, g2, g3, g4⟩ := id hB3
      go_upto_region 4 with fail
      generalize w3.alloc (.cells #[.int .i64 0, .int .i64 0, .int .i64 0, .int .i64 0, .slice none 0 0] 63) = w4 at *
      go_wp2_with fail
      refine (hcf _ hp3).mono ?_
      rintro e w5 ⟨⟨v5, rfl, hY⟩, bel5⟩
      obtain ⟨a5, c5, rfl⟩ := owns_slice hY
      have bB := below_step bel5 ((Below.refl w5.heap.size w5).alloc (Nat.le_refl _) (.cells #[.int .i64 0, .int .i64 0, .int .i64 0, .int .i64 0, .slice none 0 0] 63))
      have hZ5 := ZBox.new w5
      have hz3 := hZ3.below bB hZ3.lt bB.size
      have hb5 := below_step hb3 bB
      generalize frameE ⟨W, H, S, O, ps⟩ = E at *
      clear hY hp3 hB3 hb3 bel5 hcf g0 g1 g2 g3 g4 bB hZ3
      go_upto_region 8 with fail
      generalize w5.alloc (.cells #[.int .i64 0, .int .i64 0, .int .i64 0, .int .i64 0, .slice none 0 0] 63) = w6 at *
      go_wp2_with fail
      go_loopw [14] (fun i wr => i = .int .i64 0 ∧ wr = w6) (fun _ _ => 0)
      case atStart => exact ⟨rfl, rfl⟩
      case round =>
        obtain ⟨rfl, rfl⟩ := hrel
        go_wp2_with fail
        refine (needBegun_any _).mono ?_
        rintro e w7 ⟨rfl, bel7⟩
        obtain ⟨_, x0, x1, x2, x3, x4, _⟩ := hz3.below bel7 hz3.lt bel7.size
        obtain ⟨_, y0, y1, y2, y3, y4, _⟩ := hZ5.below bel7 hZ5.lt bel7.size
        have hs := sameFrames_any 0 0 0 0 0 0 (Passes.nil w7) (Passes.nil w7)
        go_wp2_with fail
        refine hs.mono ?_
        rintro e w8 ⟨rfl, bel8⟩
        go_wp2
        go_ret
        exact ⟨by simp, below_step (below_step hb5 bel7) bel8⟩
theorem bl_set {w : World} {b n c o : Nat} {g : Nat → Bool} (h : Bl w b n g) (hne : c ≠ b) (u : Value) : Bl (w.setCell ⟨c, o, none⟩ u) b n g :=
  ⟨by simpa using h.lt, fun j hj => (set_other _ (fun e => hne (by injection e))).trans (h.cells j hj), fun o => by simpa using h.froz o⟩
theorem ZBox.fill {w : World} {b : Nat} (h : ZBox w b) (W H S O : Int) (v : Value) : GBox (((((w.setCell ⟨b, 0, none⟩ (.int .i64 W)).setCell ⟨b, 1, none⟩ (.int .i64 H)).setCell ⟨b, 2, none⟩ (.int .i64 S)).setCell ⟨b, 3, none⟩ (.int .i64 O)).setCell ⟨b, 4, none⟩ v) b W H S O v := by
  have hn : ∀ {i j : Nat}, i ≠ j → (⟨b, i, none⟩ : Addr) ≠ ⟨b, j, none⟩ := fun h e => h (by injection e)
  refine ⟨by simpa using h.lt, ?_, ?_, ?_, ?_, ?_, fun o => by simpa using h.fz o⟩
  · rw [set_other _ (hn (by decide)), set_other _ (hn (by decide)), set_other _ (hn (by decide)), set_other _ (hn (by decide))]; exact set_same h.c0
  · rw [set_other _ (hn (by decide)), set_other _ (hn (by decide)), set_other _ (hn (by decide))]; exact set_same ((set_other _ (hn (by decide))).trans h.c1)
  · rw [set_other _ (hn (by decide)), set_other _ (hn (by decide))]; exact set_same ((set_other _ (hn (by decide))).trans ((set_other _ (hn (by decide))).trans h.c2))
  · rw [set_other _ (hn (by decide))]; exact set_same ((set_other _ (hn (by decide))).trans ((set_other _ (hn (by decide))).trans ((set_other _ (hn (by decide))).trans h.c3)))
  · exact set_same ((set_other _ (hn (by decide))).trans ((set_other _ (hn (by decide))).trans ((set_other _ (hn (by decide))).trans ((set_other _ (hn (by decide))).trans h.c4))))
/-- Behind the reference's three calls. -/
def Cut9 (w5 : World) (W H S O sh : Int) (len n : Nat) (g : Nat → Bool) (cs : List Ps) (s11 s12 : Value) (wx : World) : Prop :=
  s11 = .int .i64 sh ∧ ∃ bR da dc, s12 = .slice (some ⟨bR, 0, none⟩) len len ∧ Bl wx bR len g ∧ GBox wx w5.heap.size W H S O (.slice da n dc) ∧ Passes wx da n cs ∧ Below w5.heap.size w5 wx
set_option maxHeartbeats 4000000 in
theorem needTells_ok (W H S O : Int) (a : Option Addr) (len cap : Nat) (ps : List Ps) (w : World) (hp : Passes w a len ps) (hE : frameE ⟨W, H, S, O, ps⟩ = 0) :
    Calls Try.prog 13 #[.agg #[.int .i64 W, .int .i64 H, .int .i64 S, .int .i64 O, .slice a len cap]] w fun e w' => e = .returned (.bool true) ∧ Below w.heap.size w w' := by
  obtain rfl := hp.leng
  have hL := (boundsE_zero (frameE_zero hE).1).2.2.2.2
  dsimp only at hL
  have hb0 := below_box (Below.refl w.heap.size w) (.cells #[.int .i64 W, .int .i64 H, .int .i64 S, .int .i64 O, .slice a ps.length cap] 63)
  have hB := FBox.new w W H S O a ps.length cap
  have hla := fun wx hp => last_any W H S O a ps.length cap ps wx hp
  have hke := fun wx hp => kept_any W H S O a ps.length cap ps wx hp
  have hcu := fun wx hp => cull_any W H S O a ps.length cap ps wx hp
  have hcf := fun wx hp => checkFrame_any W H S O a ps.length cap ps wx hp
  have hlr := fun wx hp => lastOf_any W H S O a ps.length cap ps wx hp
  have hkr := fun wx hp => keptOf_any W H S O a ps.length cap ps wx hp hE
  have hcr := fun wx hp => cullOf_any W H S O a ps.length cap ps wx hp hE
  have hp0 := hp.below hb0
  go_enter Try.func13, Try.ntmps13
  go_wp2_with fail
  refine (hla _ hp0).mono ?_
  rintro e w1 ⟨rfl, bel1⟩
  rw [hE, if_pos rfl]
  have hp1 := hp0.below bel1
  have hB1 := hB.below bel1
  have hb1 := below_step hb0 bel1
  clear hp0 hB hb0 bel1 hla hp
  obtain ⟨_, g0, g1, g2, g3, g4⟩ := id hB1
  go_wp2_with fail
  refine (hke _ hp1).mono ?_
  rintro e w2 ⟨⟨_, bK, rfl, _, hK⟩ | ⟨h0, _⟩, bel2⟩
  · dsimp only at hK ⊢
    have hp2 := hp1.below bel2
    have hB2 := hB1.below bel2
    have hb2 := below_step hb1 bel2
    clear hp1 hB1 hb1 bel2 hke g0 g1 g2 g3 g4
    obtain ⟨_, g0, g1, g2, g3, g4⟩ := id hB2
    have hcs12 : (culled ⟨W, H, S, O, ps⟩).length ≤ 12 := by
      obtain ⟨hbnd, _, _⟩ := frameE_zero hE
      obtain ⟨_, _, _, _, hL⟩ := boundsE_zero hbnd
      have := cullP_le ps (keptG ps ps.length (shownP ⟨W, H, S, O, ps⟩) ps.length) ps.length
      unfold culled
      dsimp only at hL ⊢
      omega
    generalize keptG ps ps.length (shownP ⟨W, H, S, O, ps⟩) ps.length = g at *
    go_wp2_with fail
    refine (hcu _ hp2).mono ?_
    rintro e w3 ⟨⟨_, ca, cc, rfl, hpc⟩ | ⟨h0, _⟩, bel3⟩
    · dsimp only at hpc ⊢
      generalize culled ⟨W, H, S, O, ps⟩ = cs at *
      obtain ⟨n, hn⟩ : ∃ n, n = cs.length := ⟨_, rfl⟩
      rw [← hn] at hpc hcr ⊢
      have HN : Hid (n = cs.length) := hn
      have HN12 : Hid (cs.length ≤ 12) := hcs12
      clear hn hcs12
      have b3 := (Below.refl w3.heap.size w3).alloc (Nat.le_refl _) (.cells #[.int .i64 W, .int .i64 H, .int .i64 S, .int .i64 O, .slice ca n cc] 63)
      have bA := below_step bel3 b3
      have hG3 := GBox.new w3 W H S O (.slice ca n cc)
      have hp3 := hp2.below bA
      have hB3 := hB2.below bA
      have hb3 := below_step hb2 bA
      have hK3 := hK.below bA hK.lt bA.size
      have hc3 := hpc.below b3
      clear hp2 hB2 hb2 bel3 hcu g0 g1 g2 g3 g4 bA b3 hK hpc
      obtain ⟨_, g0, g1, g2, g3, g4⟩ := id hB3
      go_upto_region 4 with fail
      generalize w3.alloc (.cells #[.int .i64 W, .int .i64 H, .int .i64 S, .int .i64 O, .slice ca n cc] 63) = w4 at *
      go_wp2_with fail
      refine (hcf _ hp3).mono ?_
      rintro e w5 ⟨⟨v5, rfl, hY⟩, bel5⟩
      rw [hE]
      obtain ⟨a5, c5, rfl⟩ := owns_slice hY
      have bB := below_step bel5 ((Below.refl w5.heap.size w5).alloc (Nat.le_refl _) (.cells #[.int .i64 0, .int .i64 0, .int .i64 0, .int .i64 0, .slice none 0 0] 63))
      have hZ5 := ZBox.new w5
      have hG5 := hG3.below bel5 hG3.lt bel5.size
      have hp5 := hp3.below bB
      have hB5 := hB3.below bB
      have hK5 := hK3.below bel5 hK3.lt bel5.size
      have hc5 := hc3.below bel5
      have b56 := (Below.refl w5.heap.size w5).alloc (Nat.le_refl _) (.cells #[.int .i64 0, .int .i64 0, .int .i64 0, .int .i64 0, .slice none 0 0] 63)
      have hb5 := below_step hb3 bB
      have hbw5 := below_step hb3 bel5
      generalize shownP ⟨W, H, S, O, ps⟩ = sh at *
      have hl56 : w3.heap.size < w5.heap.size := Nat.lt_of_lt_of_le hG3.lt bel5.size
      have hl5 := hZ5.lt
      clear hY hp3 hB3 hb3 bel5 hcf g0 g1 g2 g3 g4 bB hG3 hK3 hc3
      go_upto_region 9 with fail
      generalize w5.alloc (.cells #[.int .i64 0, .int .i64 0, .int .i64 0, .int .i64 0, .slice none 0 0] 63) = w6 at *
      obtain ⟨_, g0, g1, g2, g3, g4⟩ := id hB5
      go_cut [11, 12] from 37 to 42 (fun s11 s12 wx => Cut9 w5 W H S O sh ps.length n g cs s11 s12 wx)
      case first =>
        go_region_law (first
          | (go_simp; go_at_call 50; refine (hlr _ (hp5.below (Below.refl _ _).drew)).mono ?_; rintro e w7 ⟨rfl, b7⟩; have b7' := below_step (Below.refl w6.heap.size w6).drew b7; obtain ⟨_, h0, h1, h2, h3, h4⟩ := id (hB5.below b7'); go_wp2_with fail)
          | (go_simp; go_at_call 51; refine (hkr _ (hp5.below b7')).mono ?_; rintro e w8 ⟨⟨bR, rfl, hbR, hKR⟩, b8⟩; have b8' := below_step b7' b8; obtain ⟨_, j0, j1, j2, j3, j4⟩ := id (hB5.below b8'); go_wp2_with fail)
          | (go_simp; go_at_call 52; refine (hcr _ (hp5.below b8')).mono ?_; rintro e w9 ⟨⟨da, dc, Ld, rfl, hRd, hmd⟩, b9⟩; have b9' := below_step b8' b9; have hKR9 := hKR.below b9 hKR.lt b9.size; have hZ9 := hZ5.below b9' hl5 b9'.size; obtain ⟨_, z0, z1, z2, z3, z4, zf⟩ := id hZ9; have zf0 := zf 0; have zf1 := zf 1; have zf2 := zf 2; have zf3 := zf 3; have zf4 := zf 4; go_wp2_with fail))
        all_goals (go_wp2_with fail; go_meet)
        all_goals
          have hlr5 : w5.heap.size < w8.heap.size := Nat.lt_of_lt_of_le hl5 b8'.size
          have hR5 := (((((hRd.setBelow (p := ⟨w5.heap.size, 0, none⟩) hlr5 (.int .i64 W)).setBelow (p := ⟨w5.heap.size, 1, none⟩) hlr5 (.int .i64 H)).setBelow (p := ⟨w5.heap.size, 2, none⟩) hlr5 (.int .i64 S)).setBelow (p := ⟨w5.heap.size, 3, none⟩) hlr5 (.int .i64 O)).setBelow (p := ⟨w5.heap.size, 4, none⟩) hlr5 (.slice da n dc))
          have b9w : Below w5.heap.size w5 w9 := b56.trans (b9'.mono (by omega))
          have hb5' := (((((b9w.setCell (p := ⟨w5.heap.size, 0, none⟩) (Nat.le_refl _) (.int .i64 W)).setCell (p := ⟨w5.heap.size, 1, none⟩) (Nat.le_refl _) (.int .i64 H)).setCell (p := ⟨w5.heap.size, 2, none⟩) (Nat.le_refl _) (.int .i64 S)).setCell (p := ⟨w5.heap.size, 3, none⟩) (Nat.le_refl _) (.int .i64 O)).setCell (p := ⟨w5.heap.size, 4, none⟩) (Nat.le_refl _) (.slice da n dc))
          obtain ⟨pa', pc', e, hpx⟩ := hR5.passes hmd (by have h1 := congrArg List.length hmd; simp at h1; have := HN12.out; omega)
          injection e with e1 e2 e3
          rw [← HN.out, ← e1] at hpx
          have hbR5 : w5.heap.size ≠ bR := by have := b7'.size; have := hl5; omega
          have hKx : Bl (((((w9.setCell ⟨w5.heap.size, 0, none⟩ (.int .i64 W)).setCell ⟨w5.heap.size, 1, none⟩ (.int .i64 H)).setCell ⟨w5.heap.size, 2, none⟩ (.int .i64 S)).setCell ⟨w5.heap.size, 3, none⟩ (.int .i64 O)).setCell ⟨w5.heap.size, 4, none⟩ (.slice da n dc)) bR ps.length g := bl_set (bl_set (bl_set (bl_set (bl_set hKR9 hbR5 _) hbR5 _) hbR5 _) hbR5 _) hbR5 _
          exact ⟨rfl, bR, da, dc, rfl, hKx, hZ9.fill W H S O _, hpx, hb5'⟩
      case rest =>
        obtain ⟨rfl, bR, da, dc, rfl, hKR, hGR, hpd, bx⟩ := hcut
        have hKL := hK5.below bx hK5.lt bx.size
        have hGL := hG5.below bx hG5.lt bx.size
        have hcL := hc5.below bx
        have hbx := below_step hbw5 bx
        clear g0 g1 g2 g3 g4 hlr hkr hcr hZ5 hG5 hK5 hc5 hp5 hB5 hb5 hbw5 bx b56
        obtain ⟨wO, e0⟩ : ∃ z, z = wc := ⟨_, rfl⟩
        subst e0
        go_wp2_with fail
        go_loopw [14] (fun i ws => ∃ k : Nat, k ≤ ps.length ∧ i = .int .i64 k ∧ Below wO.heap.size wO ws) (fun i _ => ps.length - (intOf i).toNat)
        case atStart => exact ⟨0, Nat.zero_le _, rfl, Below.refl _ _⟩
        case round =>
          obtain ⟨k, hk, rfl, hbt⟩ := hrel
          by_cases hlt : k < ps.length
          · have c1 := (hbt.cell (p := ⟨bK, k, none⟩) hKL.lt).trans (hKL.cells k hlt)
            have c2 := (hbt.cell (p := ⟨bR, k, none⟩) hKR.lt).trans (hKR.cells k hlt)
            generalize g k = gk at c1 c2
            have hki : (k : Int) < (ps.length : Int) := by omega
            clear hKL hKR hGL hGR hcL hpd
            go_wp2_with fail
            cases gk
            · go_region_held3 (fun w' => w'.cell? ⟨bK, k, none⟩ = some (.bool false) ∧ w'.cell? ⟨bR, k, none⟩ = some (.bool false))
                (exact ⟨c1, c2⟩)
                (fail)
              go_wp2
              go_roundw
              case rel => exact ⟨k + 1, by omega, by go_num, hbt.drew⟩
              case measure => simp [intOf]; omega
            · go_region_held3 (fun w' => w'.cell? ⟨bK, k, none⟩ = some (.bool true) ∧ w'.cell? ⟨bR, k, none⟩ = some (.bool true))
                (exact ⟨c1, c2⟩)
                (fail)
              go_wp2
              go_roundw
              case rel => exact ⟨k + 1, by omega, by go_num, hbt.drew⟩
              case measure => simp [intOf]; omega
          · have hG1 := hGL.below hbt hGL.lt hbt.size
            have hG2 := hGR.below hbt hGR.lt hbt.size
            have hcL1 := hcL.below hbt
            have hpd1 := hpd.below hbt
            have hbx1 := below_step hbx hbt
            clear hKL hKR hGL hGR hcL hpd hbt
            go_wp2_with fail
            refine (needBegun_any _).mono ?_
            rintro e w7 ⟨rfl, bel7⟩
            obtain ⟨_, x0, x1, x2, x3, x4, _⟩ := hG1.below bel7 hG1.lt bel7.size
            obtain ⟨_, y0, y1, y2, y3, y4, _⟩ := hG2.below bel7 hG2.lt bel7.size
            have hs := sameFrames_any W H S O cc dc (hcL1.below bel7) (hpd1.below bel7)
            go_wp2_with fail
            refine hs.mono ?_
            rintro e w8 ⟨rfl, bel8⟩
            go_wp2
            go_ret
            exact ⟨by simp, below_step (below_step hbx1 bel7) bel8⟩
    · exact absurd hE h0
  · exact absurd hE h0
theorem needTells_any (W H S O : Int) (a : Option Addr) (len cap : Nat) (ps : List Ps) (w : World) (hp : Passes w a len ps) :
    Calls Try.prog 13 #[.agg #[.int .i64 W, .int .i64 H, .int .i64 S, .int .i64 O, .slice a len cap]] w fun e w' => e = .returned (.bool true) ∧ Below w.heap.size w w' := by
  by_cases hE : frameE ⟨W, H, S, O, ps⟩ = 0
  · exact needTells_ok W H S O a len cap ps w hp hE
  · exact needTells_err W H S O a len cap ps w hp hE
end Go.Proofs.Ytfpkiimlaepnhaa
/-
  LAWRIGHT: the walk of FrameRight.
-/
namespace Go.Proofs.Ytfpkiimlaepnhaa
set_option maxRecDepth 100000
open Go.RowKit Im

theorem render_E (f : Fr) : (renderP f).E = frameE f := by
  unfold renderP
  by_cases hE : frameE f = 0
  · rw [if_pos hE, hE]
    obtain ⟨h1, h2, h3⟩ := frameE_zero hE
    refine (pics_right h1 h2 _ ?_).1
    have := (wrt_bd f.ps f.ps.length f.O).2
    have e : shownP f = wrt f.ps f.ps.length f.O := rfl
    omega
  · rw [if_neg hE]; rfl
theorem shown_lt {f : Fr} (hE : frameE f = 0) : ∃ N : Nat, shownP f = N ∧ N < f.ps.length := by
  obtain ⟨h1, h2, h3⟩ := frameE_zero hE
  obtain ⟨N, hN⟩ := Int.eq_ofNat_of_zero_le h3
  refine ⟨N, hN, ?_⟩
  have := (wrt_bd f.ps f.ps.length f.O).2
  have e : shownP f = wrt f.ps f.ps.length f.O := rfl
  omega
theorem render_right {f : Fr} (hE : frameE f = 0) {N : Nat} (hN : shownP f = N) (hl : N < f.ps.length) : RB (renderP f) ((szs f f.ps.length).getD N Sz.zero) := by
  obtain ⟨h1, h2, h3⟩ := frameE_zero hE
  unfold renderP
  rw [if_pos hE, hN, Int.toNat_natCast]
  exact pics_right h1 h2 N hl
theorem keepJ {wL w' : World} {ib zb zo : Nat} {x0 x1 x2 z0 z1 : Value} (hb : Below wL.heap.size wL w') (h1 : ib < wL.heap.size) (h2 : zb < wL.heap.size) (i0 : wL.cell? ⟨ib, 0, none⟩ = some x0) (i1 : wL.cell? ⟨ib, 1, none⟩ = some x1) (i2 : wL.cell? ⟨ib, 2, none⟩ = some x2) (d0 : wL.cell? ⟨zb, zo, none⟩ = some z0) (d1 : wL.cell? ⟨zb, zo + 1, none⟩ = some z1) :
    Below wL.heap.size wL w' ∧ w'.cell? ⟨ib, 0, none⟩ = some x0 ∧ w'.cell? ⟨ib, 1, none⟩ = some x1 ∧ w'.cell? ⟨ib, 2, none⟩ = some x2 ∧ w'.cell? ⟨zb, zo, none⟩ = some z0 ∧ w'.cell? ⟨zb, zo + 1, none⟩ = some z1 :=
  ⟨hb, (hb.cell (p := ⟨ib, 0, none⟩) h1).trans i0, (hb.cell (p := ⟨ib, 1, none⟩) h1).trans i1, (hb.cell (p := ⟨ib, 2, none⟩) h1).trans i2, (hb.cell (p := ⟨zb, zo, none⟩) h2).trans d0, (hb.cell (p := ⟨zb, zo + 1, none⟩) h2).trans d1⟩
set_option maxHeartbeats 4000000 in
theorem frameRight_any (W H S O : Int) (a : Option Addr) (len cap : Nat) (ps : List Ps) (w : World) (hp : Passes w a len ps) :
    Calls Try.prog 12 #[.agg #[.int .i64 W, .int .i64 H, .int .i64 S, .int .i64 O, .slice a len cap]] w fun e w' => e = .returned (.bool true) ∧ Below w.heap.size w w' := by
  obtain rfl := hp.leng
  have hb0 := below_box (Below.refl w.heap.size w) (.cells #[.int .i64 W, .int .i64 H, .int .i64 S, .int .i64 O, .slice a ps.length cap] 63)
  have hB := FBox.new w W H S O a ps.length cap
  have hre := fun wx hp => render_any W H S O a ps.length cap ps wx hp
  have hzs := fun wx hp => sizes_any W H S O a ps.length cap ps wx hp
  have hla := fun wx hp => last_any W H S O a ps.length cap ps wx hp
  have hp0 := hp.below hb0
  have HRE : Hid (_) := render_E ⟨W, H, S, O, ps⟩
  have HRR : Hid (_) := fun hE N hN hl => render_right (f := ⟨W, H, S, O, ps⟩) hE (N := N) hN hl
  clear hp
  generalize renderP ⟨W, H, S, O, ps⟩ = r at *
  go_enter Try.func12, Try.ntmps12
  go_wp2_with fail
  refine (hre _ hp0).mono ?_
  rintro e w1 ⟨ra, rc, rfl, hri, bel1⟩
  rw [HRE.out]
  have bA := (Below.refl w1.heap.size w1).alloc (Nat.le_refl _) (.cells #[.int .i64 r.W, .int .i64 r.H, .slice ra r.ps.length rc] 24)
  have hb1 := below_step (below_step hb0 bel1) bA
  have hp1 := (hp0.below bel1).below bA
  have hB1 := (hB.below bel1).below bA
  have hri1 : Ints 0 _ ra r.ps.length r.ps := (hri.below (Nat.le_refl _) bA).mono (Nat.zero_le _)
  have i0 : (w1.alloc (.cells #[.int .i64 r.W, .int .i64 r.H, .slice ra r.ps.length rc] 24)).cell? ⟨w1.heap.size, 0, none⟩ = some (.int .i64 r.W) := by simp [go_sem]
  have i1 : (w1.alloc (.cells #[.int .i64 r.W, .int .i64 r.H, .slice ra r.ps.length rc] 24)).cell? ⟨w1.heap.size, 1, none⟩ = some (.int .i64 r.H) := by simp [go_sem]
  have i2 : (w1.alloc (.cells #[.int .i64 r.W, .int .i64 r.H, .slice ra r.ps.length rc] 24)).cell? ⟨w1.heap.size, 2, none⟩ = some (.slice ra r.ps.length rc) := by simp [go_sem]
  have hl1 : w1.heap.size < (w1.alloc (.cells #[.int .i64 r.W, .int .i64 r.H, .slice ra r.ps.length rc] 24)).heap.size := by simp
  clear hp0 hB hb0 bel1 hre bA hri
  go_upto_region 2 with fail
  generalize w1.alloc (.cells #[.int .i64 r.W, .int .i64 r.H, .slice ra r.ps.length rc] 24) = w2 at *
  by_cases hE : frameE ⟨W, H, S, O, ps⟩ = 0
  · obtain ⟨N, hN, hNl⟩ := shown_lt hE
    dsimp only at hNl
    obtain ⟨_, hfi, hw, hh⟩ := HRR.out hE N hN hNl
    obtain ⟨hbnd, _, _⟩ := frameE_zero hE
    obtain ⟨_, _, _, _, hL⟩ := boundsE_zero hbnd
    dsimp only at hL
    have lz := szs_length ⟨W, H, S, O, ps⟩ ps.length
    have HW : Hid (_) := hw
    have HH : Hid (_) := hh
    have HLZ : Hid (_) := lz
    clear hw hh hbnd lz HRR HRE
    obtain ⟨_, g0, g1, g2, g3, g4⟩ := id hB1
    rw [hE]
    go_wp2_with fail
    refine (hzs _ hp1).mono ?_
    rintro e w3 ⟨⟨v3, rfl, hZ⟩, bel3⟩
    rw [if_pos hE] at hZ
    rw [hE]
    obtain ⟨za, zc, rfl, hZs⟩ := hZ.zs (by rw [HLZ.out]; exact hL.2)
    dsimp only at hZs ⊢
    rw [HLZ.out] at hZs ⊢
    clear g0 g1 g2 g3 g4 hZ
    obtain ⟨_, g0, g1, g2, g3, g4⟩ := hB1.below bel3
    go_wp2_with fail
    refine (hla _ (hp1.below bel3)).mono ?_
    rintro e w4 ⟨rfl, bel4⟩
    rw [hE, if_pos rfl, hN]
    have b4 := below_step bel3 bel4
    replace i0 := (b4.cell (p := ⟨w1.heap.size, 0, none⟩) hl1).trans i0
    replace i1 := (b4.cell (p := ⟨w1.heap.size, 1, none⟩) hl1).trans i1
    replace i2 := (b4.cell (p := ⟨w1.heap.size, 2, none⟩) hl1).trans i2
    have hl4 := Nat.lt_of_lt_of_le hl1 b4.size
    have hri4 := hri1.below (Nat.le_refl _) b4
    obtain ⟨zb, zo, rfl, hzb, s0, s1⟩ := (hZs.below bel4).nth hNl
    rw [← HW.out] at s0
    rw [← HH.out] at s1
    have hb4 := below_step hb1 b4
    have hNi : (N : Int) < (ps.length : Int) := by omega
    have hN0 : (0 : Int) ≤ (N : Int) := by omega
    clear g0 g1 g2 g3 g4 hZs hB1 hp1 hri1 hzs hla hE hN bel3 bel4 b4 hb1 HW HH
    have hfa := fun w' (hb : Below w4.heap.size w4 w') => isfine_any r.W r.H rc (hri4.below (Nat.le_refl _) hb)
    rw [hfi] at hfa
    have HFI : Hid (_) := hfi
    clear hfi hri4
    go_upto_region 8 with fail
    go_region_held3 (fun w' => Below w4.heap.size w4 w' ∧ w'.cell? ⟨w1.heap.size, 0, none⟩ = some (.int .i64 r.W) ∧ w'.cell? ⟨w1.heap.size, 1, none⟩ = some (.int .i64 r.H) ∧ w'.cell? ⟨w1.heap.size, 2, none⟩ = some (.slice ra r.ps.length rc) ∧ w'.cell? ⟨zb, zo + N * 2, none⟩ = some (.int .i64 r.W) ∧ w'.cell? ⟨zb, zo + N * 2 + 1, none⟩ = some (.int .i64 r.H))
      (first | exact keepJ (Below.refl _ _).drew hl4 hzb i0 i1 i2 s0 s1 | exact keepJ hb6 hl4 hzb i0 i1 i2 s0 s1 | exact keepJ hb5 hl4 hzb i0 i1 i2 s0 s1)
      (first
        | (go_at_call 43; refine (frameBegun_any _).mono ?_; rintro e w5 ⟨rfl, b5⟩; have hb5 := below_step (Below.refl w4.heap.size w4).drew b5)
        | (go_at_call 20; refine (hfa _ hb5).mono ?_; rintro e w6 ⟨rfl, b6⟩; have hb6 := below_step hb5 b6))
    all_goals go_wp2
    all_goals go_ret
    all_goals exact ⟨by simp, below_step hb4 hb6⟩
  · have hE' : (frameE ⟨W, H, S, O, ps⟩ == 0) = false := by simpa using hE
    clear hzs hla HRR HRE hri1 hp1 hB1
    generalize frameE ⟨W, H, S, O, ps⟩ = E at *
    go_wp2_with fail
    refine (frameBegun_any _).mono ?_
    rintro e w3 ⟨rfl, b3⟩
    go_wp2
    go_ret
    exact ⟨rfl, below_step hb1 b3⟩
end Go.Proofs.Ytfpkiimlaepnhaa
/-
  NEEDMATH: numbers and lists alone: which passes are needed, and that what is shown does not hang on the others.
-/
namespace Go.Proofs.Ytfpkiimlaepnhaa
set_option maxRecDepth 100000
open Go.RowKit Im

/-- Each pass takes what earlier ones made. -/
def SrcOk (ps : List Ps) (n : Nat) : Prop := ∀ m, m < n → ∀ i ∈ srcOf ps m, 0 ≤ i ∧ i < m
theorem srcOk_of {f : Fr} (hE : frameE f = 0) : SrcOk f.ps f.ps.length := fun m hm => by
  obtain ⟨_, hfirst, _⟩ := frameE_zero hE
  have hfk := firstE_down f hfirst (k := m) (by omega)
  have hpE : passE f m = 0 := (firstE_at f hfk).symm.trans (firstE_down f hfirst (k := m + 1) (by omega))
  exact src_bd (passE_zero hpE).2.1
theorem keptG_succ (ps : List Ps) (n : Nat) (last : Int) (k j : Nat) : keptG ps n last (k + 1) j = if keptG ps n last k (n - 1 - k) = true then markG (keptG ps n last k) (srcOf ps (n - 1 - k)) j else keptG ps n last k j := rfl
theorem keptG_up1 {ps : List Ps} {n : Nat} {last : Int} {k j : Nat} (h : keptG ps n last k j = true) : keptG ps n last (k + 1) j = true := by
  rw [keptG_succ]
  split
  · unfold markG; rw [h]; rfl
  · exact h
theorem keptG_up {ps : List Ps} {n : Nat} {last : Int} {k j : Nat} (h : keptG ps n last k j = true) (d : Nat) : keptG ps n last (k + d) j = true := by
  induction d with
  | zero => exact h
  | succ d ih => exact keptG_up1 ih
theorem keptG_le {ps : List Ps} {n : Nat} {last : Int} {k k' j : Nat} (h : keptG ps n last k j = true) (hk : k ≤ k') : keptG ps n last k' j = true := by
  obtain ⟨d, rfl⟩ : ∃ d, k' = k + d := ⟨k' - k, by omega⟩
  exact keptG_up h d
/-- The mark of a pass is settled when it is asked. -/
theorem keptG_stays {ps : List Ps} {n : Nat} {last : Int} (hs : SrcOk ps n) {k j : Nat} (hk : k < n) (hj : n - 1 - k ≤ j) : keptG ps n last (k + 1) j = keptG ps n last k j := by
  rw [keptG_succ]
  split
  · unfold markG
    have : (srcOf ps (n - 1 - k)).any (fun i => decide (i = (j : Int))) = false := by
      rw [List.any_eq_false]
      intro i hi
      have := hs (n - 1 - k) (by omega) i hi
      simp
      omega
    rw [this, Bool.or_false]
  · rfl
theorem keptG_final {ps : List Ps} {n : Nat} {last : Int} (hs : SrcOk ps n) {m : Nat} (hm : m < n) : ∀ d, n - 1 - m + d ≤ n → keptG ps n last (n - 1 - m + d) m = keptG ps n last (n - 1 - m) m
  | 0, _ => rfl
  | d + 1, h => by
    rw [← keptG_final hs hm d (by omega), ← Nat.add_assoc]
    exact keptG_stays hs (by omega) (by omega)
theorem kept_when {ps : List Ps} {n : Nat} {last : Int} (hs : SrcOk ps n) {m : Nat} (hm : m < n) : keptG ps n last n m = keptG ps n last (n - 1 - m) m := by
  have := keptG_final (last := last) hs hm (m + 1) (by omega)
  rwa [show n - 1 - m + (m + 1) = n by omega] at this
/-- What is shown is kept. -/
theorem kept_shown {ps : List Ps} {n N : Nat} : keptG ps n N n N = true := keptG_le (k := 0) (by show decide _ = true; simp) (Nat.zero_le _)
/-- What a kept pass takes is kept. -/
theorem kept_src {ps : List Ps} {n : Nat} {last : Int} (hs : SrcOk ps n) {m : Nat} (hm : m < n) (h : keptG ps n last n m = true) {i : Nat} (hi : (i : Int) ∈ srcOf ps m) : keptG ps n last n i = true := by
  rw [kept_when hs hm] at h
  refine keptG_le (k := n - 1 - m + 1) ?_ (by omega)
  rw [keptG_succ, show n - 1 - (n - 1 - m) = m by omega, if_pos h]
  unfold markG
  have : (srcOf ps m).any (fun x => decide (x = (i : Int))) = true := by
    rw [List.any_eq_true]
    exact ⟨_, hi, by simp⟩
  rw [this, Bool.or_true]
/-- What is kept is shown, or a kept pass takes it. -/
theorem kept_why {ps : List Ps} {n : Nat} {last : Int} : ∀ {k j : Nat}, k ≤ n → keptG ps n last k j = true → last = (j : Int) ∨ ∃ m, m < n ∧ keptG ps n last n m = true ∧ (j : Int) ∈ srcOf ps m
  | 0, j, _, h => by
    left
    have : decide (last = (j : Int)) = true := h
    simpa using this
  | k + 1, j, hk, h => by
    rw [keptG_succ] at h
    by_cases hx : keptG ps n last k (n - 1 - k) = true
    · rw [if_pos hx] at h
      unfold markG at h
      rw [Bool.or_eq_true] at h
      rcases h with h | h
      · exact kept_why (by omega) h
      · rw [List.any_eq_true] at h
        obtain ⟨i, hi, e⟩ := h
        have e' : i = (j : Int) := by simpa using e
        subst e'
        exact .inr ⟨n - 1 - k, by omega, keptG_le hx (by omega), hi⟩
    · rw [if_neg hx] at h
      exact kept_why (by omega) h
end Go.Proofs.Ytfpkiimlaepnhaa
/-
  NEEDMATH2: numbers and lists alone: a culled frame shows what the frame shows.
-/
namespace Go.Proofs.Ytfpkiimlaepnhaa
set_option maxRecDepth 100000
open Go.RowKit Im

/-- The place of pass k among the marked ones. -/
def pos (ps : List Ps) (g : Nat → Bool) (k : Nat) : Nat := (cullP ps g k).length
theorem cullP_succ (ps : List Ps) (g : Nat → Bool) (k : Nat) : cullP ps g (k + 1) = cullP ps g k ++ (if g k = true then [ps.getD k Ps.zero] else []) := rfl
theorem pos_succ (ps : List Ps) (g : Nat → Bool) (k : Nat) : pos ps g (k + 1) = pos ps g k + (if g k = true then 1 else 0) := by
  unfold pos
  rw [cullP_succ, List.length_append]
  split <;> rfl
theorem pos_le {ps : List Ps} {g : Nat → Bool} {k k' : Nat} (h : k ≤ k') : pos ps g k ≤ pos ps g k' := by
  obtain ⟨d, rfl⟩ : ∃ d, k' = k + d := ⟨k' - k, by omega⟩
  induction d with
  | zero => exact Nat.le_refl _
  | succ d ih => rw [← Nat.add_assoc, pos_succ]; have := ih (by omega); omega
theorem pos_lt {ps : List Ps} {g : Nat → Bool} {k k' : Nat} (hg : g k = true) (h : k < k') : pos ps g k < pos ps g k' := by
  have h1 := pos_succ ps g k
  rw [if_pos hg] at h1
  have h2 := pos_le (ps := ps) (g := g) (show k + 1 ≤ k' by omega)
  omega
theorem cull_split (ps : List Ps) (g : Nat → Bool) (k d : Nat) : ∃ r, cullP ps g (k + d) = cullP ps g k ++ r := by
  induction d with
  | zero => exact ⟨[], by simp⟩
  | succ d ih =>
    obtain ⟨r, hr⟩ := ih
    exact ⟨r ++ (if g (k + d) = true then [ps.getD (k + d) Ps.zero] else []), by rw [← Nat.add_assoc, cullP_succ, hr, List.append_assoc]⟩
theorem cull_pre {ps : List Ps} {g : Nat → Bool} {k n j : Nat} (hk : k ≤ n) (hj : j < pos ps g k) : (cullP ps g n).getD j Ps.zero = (cullP ps g k).getD j Ps.zero := by
  obtain ⟨d, rfl⟩ : ∃ d, n = k + d := ⟨n - k, by omega⟩
  obtain ⟨r, hr⟩ := cull_split ps g k d
  rw [hr, getD_left _ _ _ hj]
theorem cull_at {ps : List Ps} {g : Nat → Bool} {k n : Nat} (hg : g k = true) (hk : k < n) : (cullP ps g n).getD (pos ps g k) Ps.zero = ps.getD k Ps.zero := by
  rw [cull_pre (k := k + 1) (by omega) (pos_lt hg (by omega)), cullP_succ, if_pos hg]
  exact getD_last _ _ _ rfl
theorem pos_onto {ps : List Ps} {g : Nat → Bool} {n j : Nat} (hj : j < pos ps g n) : ∃ m, m < n ∧ g m = true ∧ pos ps g m = j := by
  induction n with
  | zero => simp [pos, cullP] at hj
  | succ n ih =>
    rw [pos_succ] at hj
    by_cases hg : g n = true
    · rw [if_pos hg] at hj
      by_cases h : j < pos ps g n
      · obtain ⟨m, h1, h2, h3⟩ := ih h
        exact ⟨m, by omega, h2, h3⟩
      · exact ⟨n, by omega, hg, by omega⟩
    · rw [if_neg hg] at hj
      obtain ⟨m, h1, h2, h3⟩ := ih (by omega)
      exact ⟨m, by omega, h2, h3⟩
/-- A slot's last writer stays the last. -/
theorem wrt_cull {ps : List Ps} {g : Nat → Bool} {n : Nat} (s : Int) : ∀ {k : Nat}, k ≤ n → 0 ≤ wrt ps k s → g (wrt ps k s).toNat = true → wrt (cullP ps g n) (pos ps g k) s = (pos ps g (wrt ps k s).toNat : Int)
  | 0, _, h, _ => by simp [wrt] at h
  | k + 1, hk, h, hg => by
    have e : wrt ps (k + 1) s = if (ps.getD k Ps.zero).To = s then (k : Int) else wrt ps k s := rfl
    by_cases ht : (ps.getD k Ps.zero).To = s
    · rw [e, if_pos ht] at h hg ⊢
      rw [Int.toNat_natCast] at hg ⊢
      rw [pos_succ, if_pos hg]
      show (if ((cullP ps g n).getD (pos ps g k) Ps.zero).To = s then ((pos ps g k : Nat) : Int) else _) = _
      rw [cull_at hg (by omega), if_pos ht]
    · rw [e, if_neg ht] at h hg ⊢
      have ih := wrt_cull (n := n) (k := k) s (by omega) h hg
      rw [pos_succ]
      by_cases hgk : g k = true
      · rw [if_pos hgk]
        show (if ((cullP ps g n).getD (pos ps g k) Ps.zero).To = s then ((pos ps g k : Nat) : Int) else wrt (cullP ps g n) (pos ps g k) s) = _
        rw [cull_at hgk (by omega), if_neg ht]
        exact ih
      · rw [if_neg hgk]
        exact ih
theorem src_cull {ps : List Ps} {g : Nat → Bool} {n m : Nat} (hm : m < n) (hg : g m = true) (hs : ∀ i ∈ srcOf ps m, 0 ≤ i ∧ g i.toNat = true) : srcOf (cullP ps g n) (pos ps g m) = (srcOf ps m).map fun i => (pos ps g i.toNat : Int) := by
  unfold srcOf at hs ⊢
  rw [cull_at hg hm, List.map_map]
  refine List.map_congr_left fun s hs' => ?_
  have := hs (wrt ps m s) (List.mem_map.2 ⟨s, hs', rfl⟩)
  exact wrt_cull s (by omega) this.1 this.2
/-- What pass k makes. -/
def picN (f : Fr) (k : Nat) : Res := paintRes (f.ps.getD k Ps.zero) (sizeN f k) (pickR (pics f k) (srcOf f.ps k))
theorem pics_at (f : Fr) {n k : Nat} (h : k < n) : (pics f n).getD k (noRes 0) = picN f k := by
  induction n with
  | zero => omega
  | succ n ih =>
    have e : pics f (n + 1) = pics f n ++ [picN f n] := rfl
    have l := pics_length f n
    rw [e]
    by_cases hk : k < n
    · rw [getD_left _ _ _ (by omega), ih hk]
    · have : k = n := by omega
      subst this
      rw [getD_last _ _ _ (by omega)]
theorem firstE_all (f : Fr) {n : Nat} (h : ∀ j, j < n → passE f j = 0) : firstE f n = 0 := by
  induction n with
  | zero => rfl
  | succ n ih => rw [firstE_at f (ih fun j hj => h j (by omega))]; exact h n (by omega)
theorem passE_of {f : Fr} (hE : frameE f = 0) {m : Nat} (hm : m < f.ps.length) : passE f m = 0 := by
  obtain ⟨_, hfirst, _⟩ := frameE_zero hE
  have hfk := firstE_down f hfirst (k := m) (by omega)
  exact (firstE_at f hfk).symm.trans (firstE_down f hfirst (k := m + 1) (by omega))
/-- The frame with the marked passes alone. -/
def cutF (f : Fr) (g : Nat → Bool) : Fr := ⟨f.W, f.H, f.S, f.O, cullP f.ps g f.ps.length⟩
/-- Marks that hold with each pass what it takes. -/
def Shut (f : Fr) (g : Nat → Bool) : Prop := ∀ m, m < f.ps.length → g m = true → ∀ i ∈ srcOf f.ps m, (0 ≤ i ∧ i < m) ∧ g i.toNat = true
theorem cut_pick {f : Fr} {g : Nat → Bool} (hsh : Shut f g) {m : Nat} (hm : m < f.ps.length) (hg : g m = true) (hz : ∀ i, i < m → g i = true → sizeN (cutF f g) (pos f.ps g i) = sizeN f i) : pickZ (szs (cutF f g) (pos f.ps g m)) (srcOf (cutF f g).ps (pos f.ps g m)) = pickZ (szs f m) (srcOf f.ps m) := by
  have hs := hsh m hm hg
  have e : srcOf (cutF f g).ps (pos f.ps g m) = (srcOf f.ps m).map fun i => (pos f.ps g i.toNat : Int) := src_cull hm hg (fun i hi => ⟨(hs i hi).1.1, (hs i hi).2⟩)
  rw [e]
  unfold pickZ
  rw [List.map_map]
  refine List.map_congr_left fun i hi => ?_
  obtain ⟨⟨h1, h2⟩, h3⟩ := hs i hi
  show (szs (cutF f g) (pos f.ps g m)).getD ((pos f.ps g i.toNat : Nat) : Int).toNat Sz.zero = (szs f m).getD i.toNat Sz.zero
  rw [Int.toNat_natCast, szs_at _ (pos_lt h3 (by omega)), szs_at _ (by omega)]
  exact hz _ (by omega) h3
theorem cut_size {f : Fr} {g : Nat → Bool} (hsh : Shut f g) : ∀ {m : Nat}, m < f.ps.length → g m = true → sizeN (cutF f g) (pos f.ps g m) = sizeN f m := by
  intro m
  induction m using Nat.strongRecOn with
  | ind m ih =>
    intro hm hg
    have e := cut_pick hsh hm hg (fun i hi hgi => ih i hi (by omega) hgi)
    have ep : (cutF f g).ps.getD (pos f.ps g m) Ps.zero = f.ps.getD m Ps.zero := cull_at hg hm
    unfold sizeN
    rw [ep, e]
    rfl
theorem cut_pic {f : Fr} {g : Nat → Bool} (hsh : Shut f g) : ∀ {m : Nat}, m < f.ps.length → g m = true → picN (cutF f g) (pos f.ps g m) = picN f m := by
  intro m
  induction m using Nat.strongRecOn with
  | ind m ih =>
    intro hm hg
    have hs := hsh m hm hg
    have e : srcOf (cutF f g).ps (pos f.ps g m) = (srcOf f.ps m).map fun i => (pos f.ps g i.toNat : Int) := src_cull hm hg (fun i hi => ⟨(hs i hi).1.1, (hs i hi).2⟩)
    have ep : (cutF f g).ps.getD (pos f.ps g m) Ps.zero = f.ps.getD m Ps.zero := cull_at hg hm
    have er : pickR (pics (cutF f g) (pos f.ps g m)) (srcOf (cutF f g).ps (pos f.ps g m)) = pickR (pics f m) (srcOf f.ps m) := by
      rw [e]
      unfold pickR
      rw [List.map_map]
      refine List.map_congr_left fun i hi => ?_
      obtain ⟨⟨h1, h2⟩, h3⟩ := hs i hi
      show (pics (cutF f g) (pos f.ps g m)).getD ((pos f.ps g i.toNat : Nat) : Int).toNat (noRes 0) = (pics f m).getD i.toNat (noRes 0)
      rw [Int.toNat_natCast, pics_at _ (pos_lt h3 (by omega)), pics_at _ (by omega)]
      exact ih _ (by omega) (by omega) h3
    unfold picN
    rw [ep, er, cut_size hsh hm hg]
theorem cut_pass {f : Fr} {g : Nat → Bool} (hE : frameE f = 0) (hsh : Shut f g) {m : Nat} (hm : m < f.ps.length) (hg : g m = true) : passE (cutF f g) (pos f.ps g m) = 0 := by
  have hs := hsh m hm hg
  have e : srcOf (cutF f g).ps (pos f.ps g m) = (srcOf f.ps m).map fun i => (pos f.ps g i.toNat : Int) := src_cull hm hg (fun i hi => ⟨(hs i hi).1.1, (hs i hi).2⟩)
  have ep : (cutF f g).ps.getD (pos f.ps g m) Ps.zero = f.ps.getD m Ps.zero := cull_at hg hm
  have ek := cut_pick hsh hm hg (fun i hi hgi => cut_size hsh (by omega) hgi)
  obtain ⟨p1, p2, p3⟩ := passE_zero (passE_of hE hm)
  unfold passE
  rw [ek, ep, if_pos (show ownE (f.ps.getD m Ps.zero) (cutF f g).S = 0 from p1), if_pos, if_pos p3]
  rw [e]
  unfold thereB
  rw [List.all_eq_true]
  intro i hi
  rw [List.mem_map] at hi
  obtain ⟨j, _, rfl⟩ := hi
  simp
/-- A frame with marks that hold what is shown, and what each takes, shows the same. -/
theorem cut_shows {f : Fr} {g : Nat → Bool} (hE : frameE f = 0) (hsh : Shut f g) {N : Nat} (hN : shownP f = N) (hNl : N < f.ps.length) (hgN : g N = true) : frameE (cutF f g) = 0 ∧ shownP (cutF f g) = (pos f.ps g N : Int) ∧ renderP (cutF f g) = renderP f := by
  obtain ⟨hb, _, _⟩ := frameE_zero hE
  obtain ⟨hW, hH, hS, hO, hL⟩ := boundsE_zero hb
  have hlen : (cutF f g).ps.length = pos f.ps g f.ps.length := rfl
  have hpos : pos f.ps g N < pos f.ps g f.ps.length := pos_lt hgN hNl
  have hle : pos f.ps g f.ps.length ≤ f.ps.length := cullP_le _ _ _
  have hshow : shownP (cutF f g) = (pos f.ps g N : Int) := by
    have hw : wrt f.ps f.ps.length f.O = N := hN
    have := wrt_cull (ps := f.ps) (g := g) (n := f.ps.length) f.O (Nat.le_refl _) (by rw [hw]; omega) (by rw [hw, Int.toNat_natCast]; exact hgN)
    rw [hw, Int.toNat_natCast] at this
    exact this
  have hb' : boundsE (cutF f g) = 0 := by
    unfold boundsE
    have c1 : sideB (cutF f g).W = true := (side_iff _).2 hW
    have c2 : sideB (cutF f g).H = true := (side_iff _).2 hH
    have c3 : withinB (cutF f g).S 1 8 = true := by show withinB f.S 1 8 = true; simp [withinB]; omega
    have c4 : slotB (cutF f g).O (cutF f g).S = true := by show slotB f.O f.S = true; simp [slotB, withinB]; omega
    have c5 : withinB ((cutF f g).ps.length : Int) 1 12 = true := by rw [hlen]; simp [withinB]; omega
    rw [if_pos ⟨c1, c2, c3, c4⟩, if_pos c5]
  have hf' : firstE (cutF f g) (cutF f g).ps.length = 0 := firstE_all _ (fun j hj => by
    obtain ⟨m, h1, h2, rfl⟩ := pos_onto (show j < pos f.ps g f.ps.length from hj)
    exact cut_pass hE hsh h1 h2)
  have hE' : frameE (cutF f g) = 0 := by
    unfold frameE
    rw [if_pos hb', if_pos hf', if_pos (by rw [hshow]; omega)]
  refine ⟨hE', hshow, ?_⟩
  unfold renderP
  rw [if_pos hE', if_pos hE, hshow, hN, Int.toNat_natCast, Int.toNat_natCast, pics_at _ (by rw [hlen]; exact hpos), pics_at _ hNl]
  exact cut_pic hsh hNl hgN
end Go.Proofs.Ytfpkiimlaepnhaa
/-
  NEEDMATH3: numbers and lists alone: to cull once more changes nothing; K of a pass that is not kept changes nothing.
-/
namespace Go.Proofs.Ytfpkiimlaepnhaa
set_option maxRecDepth 100000
open Go.RowKit Im

/-- The marks of a frame. -/
abbrev marks (f : Fr) : Nat → Bool := keptG f.ps f.ps.length (shownP f) f.ps.length
theorem marks_shut {f : Fr} (hE : frameE f = 0) : Shut f (marks f) := fun m hm hg i hi => by
  have hs := srcOk_of hE
  have h1 := hs m hm i hi
  obtain ⟨j, rfl⟩ := Int.eq_ofNat_of_zero_le h1.1
  exact ⟨h1, by rw [Int.toNat_natCast]; exact kept_src hs hm hg hi⟩
theorem shown_some {f : Fr} (hE : frameE f = 0) : ∃ N : Nat, shownP f = N ∧ N < f.ps.length := by
  obtain ⟨_, _, h3⟩ := frameE_zero hE
  obtain ⟨N, hN⟩ := Int.eq_ofNat_of_zero_le h3
  refine ⟨N, hN, ?_⟩
  have := (wrt_bd f.ps f.ps.length f.O).2
  have e : shownP f = wrt f.ps f.ps.length f.O := rfl
  omega
theorem cull_all {ps : List Ps} {g : Nat → Bool} : ∀ {n : Nat}, n ≤ ps.length → (∀ j, j < n → g j = true) → cullP ps g n = ps.take n
  | 0, _, _ => by simp [cullP]
  | n + 1, hn, h => by
    rw [cullP_succ, if_pos (h n (by omega)), cull_all (by omega) (fun j hj => h j (by omega)), List.take_succ_eq_append_getElem (by omega), List.getD_eq_getElem?_getD, List.getElem?_eq_getElem (by omega)]
    rfl
theorem marks_all {f : Fr} (hE : frameE f = 0) (hE' : frameE (cutF f (marks f)) = 0) {N : Nat} (hN : shownP f = N) (hsh : shownP (cutF f (marks f)) = (pos f.ps (marks f) N : Int)) : ∀ d m, f.ps.length - m = d → m < f.ps.length → marks f m = true → marks (cutF f (marks f)) (pos f.ps (marks f) m) = true := by
  intro d
  induction d using Nat.strongRecOn with
  | ind d ih =>
    intro m hd hm hg
    have hs := srcOk_of hE
    have hs' := srcOk_of hE'
    rcases kept_why (Nat.le_refl _) hg with h | ⟨m', hm', hg', hmem⟩
    · have e : N = m := by rw [hN] at h; omega
      subst e
      show keptG _ _ (shownP (cutF f (marks f))) _ _ = true
      rw [hsh]
      exact kept_shown
    · have hlt := (hs m' hm' _ hmem).2
      have h1 := ih (f.ps.length - m') (by omega) m' rfl hm' hg'
      refine kept_src hs' (pos_lt hg' hm') h1 ?_
      have hsh' := marks_shut hE m' hm' hg'
      rw [show srcOf (cutF f (marks f)).ps (pos f.ps (marks f) m') = (srcOf f.ps m').map fun i => (pos f.ps (marks f) i.toNat : Int) from src_cull hm' hg' (fun i hi => ⟨(hsh' i hi).1.1, (hsh' i hi).2⟩)]
      exact List.mem_map.2 ⟨(m : Int), hmem, by simp⟩
/-- What is culled shows the same, and to cull it changes nothing. -/
theorem cull_same {f : Fr} (hE : frameE f = 0) : frameE (cutF f (marks f)) = 0 ∧ renderP (cutF f (marks f)) = renderP f ∧ culled (cutF f (marks f)) = culled f := by
  obtain ⟨N, hN, hNl⟩ := shown_some hE
  have hgN : marks f N = true := by show keptG _ _ (shownP f) _ _ = true; rw [hN]; exact kept_shown
  obtain ⟨h1, h2, h3⟩ := cut_shows hE (marks_shut hE) hN hNl hgN
  refine ⟨h1, h3, ?_⟩
  show cullP (cutF f (marks f)).ps (marks (cutF f (marks f))) (cutF f (marks f)).ps.length = (cutF f (marks f)).ps
  rw [cull_all (Nat.le_refl _) (fun j hj => ?_), List.take_length]
  obtain ⟨m, hm, hg, rfl⟩ := pos_onto (show j < pos f.ps (marks f) f.ps.length from hj)
  exact marks_all hE h1 hN h2 _ m rfl hm hg
/-- The frame, with K of pass x changed. -/
def setK (f : Fr) (x : Nat) (k : Int) : Fr := { f with ps := f.ps.set x { f.ps.getD x Ps.zero with K := k } }
theorem setK_at (f : Fr) (x : Nat) (k : Int) (j : Nat) : (setK f x k).ps.getD j Ps.zero = if x = j ∧ j < f.ps.length then { f.ps.getD x Ps.zero with K := k } else f.ps.getD j Ps.zero := by
  show (f.ps.set x { f.ps.getD x Ps.zero with K := k }).getD j Ps.zero = _
  rw [List.getD_eq_getElem?_getD, List.getElem?_set]
  by_cases h : x = j
  · subst h
    by_cases hl : x < f.ps.length
    · rw [if_pos rfl, if_pos hl, if_pos ⟨rfl, hl⟩]; rfl
    · rw [if_pos rfl, if_neg hl, if_neg (fun h => hl h.2), List.getD_eq_getElem?_getD, List.getElem?_eq_none (by omega)]
  · rw [if_neg h, if_neg (fun h' => h h'.1), List.getD_eq_getElem?_getD]
theorem setK_other (f : Fr) (x : Nat) (k : Int) {j : Nat} (h : x ≠ j) : (setK f x k).ps.getD j Ps.zero = f.ps.getD j Ps.zero := by rw [setK_at, if_neg (fun h' => h h'.1)]
theorem setK_same (f : Fr) (x : Nat) (k : Int) (j : Nat) : ((setK f x k).ps.getD j Ps.zero).Op = (f.ps.getD j Ps.zero).Op ∧ ((setK f x k).ps.getD j Ps.zero).To = (f.ps.getD j Ps.zero).To ∧ takesP ((setK f x k).ps.getD j Ps.zero) = takesP (f.ps.getD j Ps.zero) := by
  rw [setK_at]
  split
  · rename_i h
    obtain ⟨rfl, _⟩ := h
    exact ⟨rfl, rfl, rfl⟩
  · exact ⟨rfl, rfl, rfl⟩
theorem setK_wrt (f : Fr) (x : Nat) (k : Int) (s : Int) : ∀ n, wrt (setK f x k).ps n s = wrt f.ps n s
  | 0 => rfl
  | n + 1 => by
    show (if ((setK f x k).ps.getD n Ps.zero).To = s then (n : Int) else wrt (setK f x k).ps n s) = (if (f.ps.getD n Ps.zero).To = s then (n : Int) else wrt f.ps n s)
    rw [(setK_same f x k n).2.1, setK_wrt f x k s n]
theorem setK_src (f : Fr) (x : Nat) (k : Int) (n : Nat) : srcOf (setK f x k).ps n = srcOf f.ps n := by
  unfold srcOf
  rw [(setK_same f x k n).2.2]
  exact List.map_congr_left fun s _ => setK_wrt f x k s n
theorem setK_szs (f : Fr) (x : Nat) (k : Int) : ∀ n, szs (setK f x k) n = szs f n
  | 0 => rfl
  | n + 1 => by
    show szs (setK f x k) n ++ [sizeP f.W f.H ((setK f x k).ps.getD n Ps.zero).Op (pickZ (szs (setK f x k) n) (srcOf (setK f x k).ps n))] = szs f n ++ [sizeP f.W f.H (f.ps.getD n Ps.zero).Op (pickZ (szs f n) (srcOf f.ps n))]
    rw [setK_szs f x k n, setK_src, (setK_same f x k n).1]
theorem setK_size (f : Fr) (x : Nat) (k : Int) (n : Nat) : sizeN (setK f x k) n = sizeN f n := by
  show sizeP f.W f.H ((setK f x k).ps.getD n Ps.zero).Op (pickZ (szs (setK f x k) n) (srcOf (setK f x k).ps n)) = sizeP f.W f.H (f.ps.getD n Ps.zero).Op (pickZ (szs f n) (srcOf f.ps n))
  rw [setK_szs, setK_src, (setK_same f x k n).1]
theorem setK_pic {f : Fr} (hE : frameE f = 0) {x : Nat} (hx : marks f x = false) (k : Int) : ∀ {m : Nat}, m < f.ps.length → marks f m = true → picN (setK f x k) m = picN f m := by
  intro m
  induction m using Nat.strongRecOn with
  | ind m ih =>
    intro hm hg
    have hne : x ≠ m := fun e => by rw [e, hg] at hx; cases hx
    have hsh := marks_shut hE m hm hg
    unfold picN
    rw [setK_other f x k hne, setK_size, setK_src]
    have er : pickR (pics (setK f x k) m) (srcOf f.ps m) = pickR (pics f m) (srcOf f.ps m) := by
      unfold pickR
      refine List.map_congr_left fun i hi => ?_
      obtain ⟨⟨h1, h2⟩, h3⟩ := hsh i hi
      rw [pics_at _ (by omega), pics_at _ (by omega)]
      exact ih _ (by omega) (by omega) h3
    rw [er]
/-- K of a pass that is not kept changes nothing that is shown. -/
theorem setK_shows {f : Fr} (hE : frameE f = 0) {x : Nat} (hx : marks f x = false) (k : Int) (hE' : frameE (setK f x k) = 0) : renderP (setK f x k) = renderP f := by
  obtain ⟨N, hN, hNl⟩ := shown_some hE
  have hlen : (setK f x k).ps.length = f.ps.length := by simp [setK]
  have hsh : shownP (setK f x k) = N := by
    rw [← hN]
    show wrt (setK f x k).ps (setK f x k).ps.length f.O = wrt f.ps f.ps.length f.O
    rw [hlen, setK_wrt]
  have hgN : marks f N = true := by show keptG _ _ (shownP f) _ _ = true; rw [hN]; exact kept_shown
  unfold renderP
  rw [if_pos hE', if_pos hE, hsh, hN, Int.toNat_natCast, hlen, pics_at _ hNl, pics_at _ hNl]
  exact setK_pic hE hx k hNl hgN
end Go.Proofs.Ytfpkiimlaepnhaa
