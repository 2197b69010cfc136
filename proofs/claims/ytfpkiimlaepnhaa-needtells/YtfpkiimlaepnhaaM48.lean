/- LawNeed, Open, OpenL: joined, in this order. -/
import Derived.Test.YtfpkiimlaepnhaaM44
import Derived.Test.YtfpkiimlaepnhaaM47
import Derived.Test.YtfpkiimlaepnhaaM01
import Derived.ProofKit
import Derived.OpenShut
import Derived.ShutString
import Derived.ChangeOld
import Derived.Below
import Derived.Lib.SmallJoins
import Derived.Test.YtfpkiimlaepnhaaM02
import Derived.Deep.Slices
/-
  LAWNEED: the walk of NeedTells.
-/
namespace Go.Proofs.Ytfpkiimlaepnhaa
set_option maxRecDepth 100000
open Go.RowKit Im

set_option maxHeartbeats 4000000 in
theorem needTells_err (W H S O : Int) (a : Option Addr) (len cap : Nat) (ps : List Ps) (w : World) (hp : Passes w a len ps) (hE : frameE ⟨W, H, S, O, ps⟩ ≠ 0) :
    Calls Try.prog 13 #[.agg #[.int .i64 W, .int .i64 H, .int .i64 S, .int .i64 O, .slice a len cap]] w fun e w' => e = .returned (.bool true) ∧ Below w.heap.size w w' := by
  obtain rfl := hp.leng
  have hb0 := below_box (Below.refl w.heap.size w) (.cells #[.int .i64 W, .int .i64 H, .int .i64 S, .int .i64 O, .slice a ps.length cap] 63)
  have hB := FBox.new w W H S O a ps.length cap
  have hla := fun wx hp => last_any W H S O a ps.length cap ps wx hp
  have hke := fun wx hp => kept_any W H S O a ps.length cap ps wx hp
  have hcu := fun wx hp => cull_any W H S O a ps.length cap ps wx hp
  have hcf := fun wx hp => checkFrame_any W H S O a ps.length cap ps wx hp
  have hp0 := hp.below hb0
  go_enter Try.func13, Try.ntmps13
  go_wp2_with fail
  refine (hla _ hp0).mono ?_
  rintro e w1 ⟨rfl, bel1⟩
  rw [if_neg hE]
  have hp1 := hp0.below bel1
  have hB1 := hB.below bel1
  have hb1 := below_step hb0 bel1
  clear hp0 hB hb0 bel1 hla hp
  obtain ⟨_, g0, g1, g2, g3, g4⟩ := id hB1
  go_wp2_with fail
  refine (hke _ hp1).mono ?_
  rintro e w2 ⟨⟨h0, _⟩ | ⟨_, rfl⟩, bel2⟩
  · exact absurd h0 hE
  · have hp2 := hp1.below bel2
    have hB2 := hB1.below bel2
    have hb2 := below_step hb1 bel2
    clear hp1 hB1 hb1 bel2 hke g0 g1 g2 g3 g4
    obtain ⟨_, g0, g1, g2, g3, g4⟩ := id hB2
    go_wp2_with fail
    refine (hcu _ hp2).mono ?_
    rintro e w3 ⟨⟨h0, _⟩ | ⟨_, rfl⟩, bel3⟩
    · exact absurd h0 hE
    · have bA := below_step bel3 ((Below.refl w3.heap.size w3).alloc (Nat.le_refl _) (.cells #[.int .i64 0, .int .i64 0, .int .i64 0, .int .i64 0, .slice none 0 0] 63))
      have hZ3 := ZBox.new w3
      have hp3 := hp2.below bA
      have hB3 := hB2.below bA
      have hb3 := below_step hb2 bA
      clear hp2 hB2 hb2 bel3 hcu g0 g1 g2 g3 g4 bA
      obtain ⟨_, g0, g1, g2, g3, g4⟩ := id hB3
      go_upto_region 4 with fail
      generalize w3.alloc (.cells #[.int .i64 0, .int .i64 0, .int .i64 0, .int .i64 0, .slice none 0 0] 63) = w4 at *
      go_wp2_with fail
      refine (hcf _ hp3).mono ?_
      rintro e w5 ⟨⟨v5, rfl, hY⟩, bel5⟩
      obtain ⟨a5, c5, rfl⟩ := owns_slice hY
      have bB := below_step bel5 ((Below.refl w5.heap.size w5).alloc (Nat.le_refl _) (.cells #[.int .i64 0, .int .i64 0, .int .i64 0, .int .i64 0, .slice none 0 0] 63))
      have hZ5 := ZBox.new w5
      have hz3 := hZ3.below bB hZ3.lt bB.size
      have hb5 := below_step hb3 bB
      generalize frameE ⟨W, H, S, O, ps⟩ = E at *
      clear hY hp3 hB3 hb3 bel5 hcf g0 g1 g2 g3 g4 bB hZ3
      go_upto_region 8 with fail
      generalize w5.alloc (.cells #[.int .i64 0, .int .i64 0, .int .i64 0, .int .i64 0, .slice none 0 0] 63) = w6 at *
      go_wp2_with fail
      go_loopw [14] (fun i wr => i = .int .i64 0 ∧ wr = w6) (fun _ _ => 0)
      case atStart => exact ⟨rfl, rfl⟩
      case round =>
        obtain ⟨rfl, rfl⟩ := hrel
        go_wp2_with fail
        refine (needBegun_any _).mono ?_
        rintro e w7 ⟨rfl, bel7⟩
        obtain ⟨_, x0, x1, x2, x3, x4, _⟩ := hz3.below bel7 hz3.lt bel7.size
        obtain ⟨_, y0, y1, y2, y3, y4, _⟩ := hZ5.below bel7 hZ5.lt bel7.size
        have hs := sameFrames_any 0 0 0 0 0 0 (Passes.nil w7) (Passes.nil w7)
        go_wp2_with fail
        refine hs.mono ?_
        rintro e w8 ⟨rfl, bel8⟩
        go_wp2
        go_ret
        exact ⟨by simp, below_step (below_step hb5 bel7) bel8⟩
theorem bl_set {w : World} {b n c o : Nat} {g : Nat → Bool} (h : Bl w b n g) (hne : c ≠ b) (u : Value) : Bl (w.setCell ⟨c, o, none⟩ u) b n g :=
  ⟨by simpa using h.lt, fun j hj => (set_other _ (fun e => hne (by injection e))).trans (h.cells j hj), fun o => by simpa using h.froz o⟩
theorem ZBox.fill {w : World} {b : Nat} (h : ZBox w b) (W H S O : Int) (v : Value) : GBox (((((w.setCell ⟨b, 0, none⟩ (.int .i64 W)).setCell ⟨b, 1, none⟩ (.int .i64 H)).setCell ⟨b, 2, none⟩ (.int .i64 S)).setCell ⟨b, 3, none⟩ (.int .i64 O)).setCell ⟨b, 4, none⟩ v) b W H S O v := by
  have hn : ∀ {i j : Nat}, i ≠ j → (⟨b, i, none⟩ : Addr) ≠ ⟨b, j, none⟩ := fun h e => h (by injection e)
  refine ⟨by simpa using h.lt, ?_, ?_, ?_, ?_, ?_, fun o => by simpa using h.fz o⟩
  · rw [set_other _ (hn (by decide)), set_other _ (hn (by decide)), set_other _ (hn (by decide)), set_other _ (hn (by decide))]; exact set_same h.c0
  · rw [set_other _ (hn (by decide)), set_other _ (hn (by decide)), set_other _ (hn (by decide))]; exact set_same ((set_other _ (hn (by decide))).trans h.c1)
  · rw [set_other _ (hn (by decide)), set_other _ (hn (by decide))]; exact set_same ((set_other _ (hn (by decide))).trans ((set_other _ (hn (by decide))).trans h.c2))
  · rw [set_other _ (hn (by decide))]; exact set_same ((set_other _ (hn (by decide))).trans ((set_other _ (hn (by decide))).trans ((set_other _ (hn (by decide))).trans h.c3)))
  · exact set_same ((set_other _ (hn (by decide))).trans ((set_other _ (hn (by decide))).trans ((set_other _ (hn (by decide))).trans ((set_other _ (hn (by decide))).trans h.c4))))
/-- Behind the reference's three calls. -/
def Cut9 (w5 : World) (W H S O sh : Int) (len n : Nat) (g : Nat → Bool) (cs : List Ps) (s11 s12 : Value) (wx : World) : Prop :=
  s11 = .int .i64 sh ∧ ∃ bR da dc, s12 = .slice (some ⟨bR, 0, none⟩) len len ∧ Bl wx bR len g ∧ GBox wx w5.heap.size W H S O (.slice da n dc) ∧ Passes wx da n cs ∧ Below w5.heap.size w5 wx
set_option maxHeartbeats 4000000 in
theorem needTells_ok (W H S O : Int) (a : Option Addr) (len cap : Nat) (ps : List Ps) (w : World) (hp : Passes w a len ps) (hE : frameE ⟨W, H, S, O, ps⟩ = 0) :
    Calls Try.prog 13 #[.agg #[.int .i64 W, .int .i64 H, .int .i64 S, .int .i64 O, .slice a len cap]] w fun e w' => e = .returned (.bool true) ∧ Below w.heap.size w w' := by
  obtain rfl := hp.leng
  have hL := (boundsE_zero (frameE_zero hE).1).2.2.2.2
  dsimp only at hL
  have hb0 := below_box (Below.refl w.heap.size w) (.cells #[.int .i64 W, .int .i64 H, .int .i64 S, .int .i64 O, .slice a ps.length cap] 63)
  have hB := FBox.new w W H S O a ps.length cap
  have hla := fun wx hp => last_any W H S O a ps.length cap ps wx hp
  have hke := fun wx hp => kept_any W H S O a ps.length cap ps wx hp
  have hcu := fun wx hp => cull_any W H S O a ps.length cap ps wx hp
  have hcf := fun wx hp => checkFrame_any W H S O a ps.length cap ps wx hp
  have hlr := fun wx hp => lastOf_any W H S O a ps.length cap ps wx hp
  have hkr := fun wx hp => keptOf_any W H S O a ps.length cap ps wx hp hE
  have hcr := fun wx hp => cullOf_any W H S O a ps.length cap ps wx hp hE
  have hp0 := hp.below hb0
  go_enter Try.func13, Try.ntmps13
  go_wp2_with fail
  refine (hla _ hp0).mono ?_
  rintro e w1 ⟨rfl, bel1⟩
  rw [hE, if_pos rfl]
  have hp1 := hp0.below bel1
  have hB1 := hB.below bel1
  have hb1 := below_step hb0 bel1
  clear hp0 hB hb0 bel1 hla hp
  obtain ⟨_, g0, g1, g2, g3, g4⟩ := id hB1
  go_wp2_with fail
  refine (hke _ hp1).mono ?_
  rintro e w2 ⟨⟨_, bK, rfl, _, hK⟩ | ⟨h0, _⟩, bel2⟩
  · dsimp only at hK ⊢
    have hp2 := hp1.below bel2
    have hB2 := hB1.below bel2
    have hb2 := below_step hb1 bel2
    clear hp1 hB1 hb1 bel2 hke g0 g1 g2 g3 g4
    obtain ⟨_, g0, g1, g2, g3, g4⟩ := id hB2
    have hcs12 : (culled ⟨W, H, S, O, ps⟩).length ≤ 12 := by
      obtain ⟨hbnd, _, _⟩ := frameE_zero hE
      obtain ⟨_, _, _, _, hL⟩ := boundsE_zero hbnd
      have := cullP_le ps (keptG ps ps.length (shownP ⟨W, H, S, O, ps⟩) ps.length) ps.length
      unfold culled
      dsimp only at hL ⊢
      omega
    generalize keptG ps ps.length (shownP ⟨W, H, S, O, ps⟩) ps.length = g at *
    go_wp2_with fail
    refine (hcu _ hp2).mono ?_
    rintro e w3 ⟨⟨_, ca, cc, rfl, hpc⟩ | ⟨h0, _⟩, bel3⟩
    · dsimp only at hpc ⊢
      generalize culled ⟨W, H, S, O, ps⟩ = cs at *
      obtain ⟨n, hn⟩ : ∃ n, n = cs.length := ⟨_, rfl⟩
      rw [← hn] at hpc hcr ⊢
      have HN : Hid (n = cs.length) := hn
      have HN12 : Hid (cs.length ≤ 12) := hcs12
      clear hn hcs12
      have b3 := (Below.refl w3.heap.size w3).alloc (Nat.le_refl _) (.cells #[.int .i64 W, .int .i64 H, .int .i64 S, .int .i64 O, .slice ca n cc] 63)
      have bA := below_step bel3 b3
      have hG3 := GBox.new w3 W H S O (.slice ca n cc)
      have hp3 := hp2.below bA
      have hB3 := hB2.below bA
      have hb3 := below_step hb2 bA
      have hK3 := hK.below bA hK.lt bA.size
      have hc3 := hpc.below b3
      clear hp2 hB2 hb2 bel3 hcu g0 g1 g2 g3 g4 bA b3 hK hpc
      obtain ⟨_, g0, g1, g2, g3, g4⟩ := id hB3
      go_upto_region 4 with fail
      generalize w3.alloc (.cells #[.int .i64 W, .int .i64 H, .int .i64 S, .int .i64 O, .slice ca n cc] 63) = w4 at *
      go_wp2_with fail
      refine (hcf _ hp3).mono ?_
      rintro e w5 ⟨⟨v5, rfl, hY⟩, bel5⟩
      rw [hE]
      obtain ⟨a5, c5, rfl⟩ := owns_slice hY
      have bB := below_step bel5 ((Below.refl w5.heap.size w5).alloc (Nat.le_refl _) (.cells #[.int .i64 0, .int .i64 0, .int .i64 0, .int .i64 0, .slice none 0 0] 63))
      have hZ5 := ZBox.new w5
      have hG5 := hG3.below bel5 hG3.lt bel5.size
      have hp5 := hp3.below bB
      have hB5 := hB3.below bB
      have hK5 := hK3.below bel5 hK3.lt bel5.size
      have hc5 := hc3.below bel5
      have b56 := (Below.refl w5.heap.size w5).alloc (Nat.le_refl _) (.cells #[.int .i64 0, .int .i64 0, .int .i64 0, .int .i64 0, .slice none 0 0] 63)
      have hb5 := below_step hb3 bB
      have hbw5 := below_step hb3 bel5
      generalize shownP ⟨W, H, S, O, ps⟩ = sh at *
      have hl56 : w3.heap.size < w5.heap.size := Nat.lt_of_lt_of_le hG3.lt bel5.size
      have hl5 := hZ5.lt
      clear hY hp3 hB3 hb3 bel5 hcf g0 g1 g2 g3 g4 bB hG3 hK3 hc3
      go_upto_region 9 with fail
      generalize w5.alloc (.cells #[.int .i64 0, .int .i64 0, .int .i64 0, .int .i64 0, .slice none 0 0] 63) = w6 at *
      obtain ⟨_, g0, g1, g2, g3, g4⟩ := id hB5
      go_cut [11, 12] from 37 to 42 (fun s11 s12 wx => Cut9 w5 W H S O sh ps.length n g cs s11 s12 wx)
      case first =>
        go_region_law (first
          | (go_simp; go_at_call 50; refine (hlr _ (hp5.below (Below.refl _ _).drew)).mono ?_; rintro e w7 ⟨rfl, b7⟩; have b7' := below_step (Below.refl w6.heap.size w6).drew b7; obtain ⟨_, h0, h1, h2, h3, h4⟩ := id (hB5.below b7'); go_wp2_with fail)
          | (go_simp; go_at_call 51; refine (hkr _ (hp5.below b7')).mono ?_; rintro e w8 ⟨⟨bR, rfl, hbR, hKR⟩, b8⟩; have b8' := below_step b7' b8; obtain ⟨_, j0, j1, j2, j3, j4⟩ := id (hB5.below b8'); go_wp2_with fail)
          | (go_simp; go_at_call 52; refine (hcr _ (hp5.below b8')).mono ?_; rintro e w9 ⟨⟨da, dc, Ld, rfl, hRd, hmd⟩, b9⟩; have b9' := below_step b8' b9; have hKR9 := hKR.below b9 hKR.lt b9.size; have hZ9 := hZ5.below b9' hl5 b9'.size; obtain ⟨_, z0, z1, z2, z3, z4, zf⟩ := id hZ9; have zf0 := zf 0; have zf1 := zf 1; have zf2 := zf 2; have zf3 := zf 3; have zf4 := zf 4; go_wp2_with fail))
        all_goals (go_wp2_with fail; go_meet)
        all_goals
          have hlr5 : w5.heap.size < w8.heap.size := Nat.lt_of_lt_of_le hl5 b8'.size
          have hR5 := (((((hRd.setBelow (p := ⟨w5.heap.size, 0, none⟩) hlr5 (.int .i64 W)).setBelow (p := ⟨w5.heap.size, 1, none⟩) hlr5 (.int .i64 H)).setBelow (p := ⟨w5.heap.size, 2, none⟩) hlr5 (.int .i64 S)).setBelow (p := ⟨w5.heap.size, 3, none⟩) hlr5 (.int .i64 O)).setBelow (p := ⟨w5.heap.size, 4, none⟩) hlr5 (.slice da n dc))
          have b9w : Below w5.heap.size w5 w9 := b56.trans (b9'.mono (by omega))
          have hb5' := (((((b9w.setCell (p := ⟨w5.heap.size, 0, none⟩) (Nat.le_refl _) (.int .i64 W)).setCell (p := ⟨w5.heap.size, 1, none⟩) (Nat.le_refl _) (.int .i64 H)).setCell (p := ⟨w5.heap.size, 2, none⟩) (Nat.le_refl _) (.int .i64 S)).setCell (p := ⟨w5.heap.size, 3, none⟩) (Nat.le_refl _) (.int .i64 O)).setCell (p := ⟨w5.heap.size, 4, none⟩) (Nat.le_refl _) (.slice da n dc))
          obtain ⟨pa', pc', e, hpx⟩ := hR5.passes hmd (by have h1 := congrArg List.length hmd; simp at h1; have := HN12.out; omega)
          injection e with e1 e2 e3
          rw [← HN.out, ← e1] at hpx
          have hbR5 : w5.heap.size ≠ bR := by have := b7'.size; have := hl5; omega
          have hKx : Bl (((((w9.setCell ⟨w5.heap.size, 0, none⟩ (.int .i64 W)).setCell ⟨w5.heap.size, 1, none⟩ (.int .i64 H)).setCell ⟨w5.heap.size, 2, none⟩ (.int .i64 S)).setCell ⟨w5.heap.size, 3, none⟩ (.int .i64 O)).setCell ⟨w5.heap.size, 4, none⟩ (.slice da n dc)) bR ps.length g := bl_set (bl_set (bl_set (bl_set (bl_set hKR9 hbR5 _) hbR5 _) hbR5 _) hbR5 _) hbR5 _
          exact ⟨rfl, bR, da, dc, rfl, hKx, hZ9.fill W H S O _, hpx, hb5'⟩
      case rest =>
        obtain ⟨rfl, bR, da, dc, rfl, hKR, hGR, hpd, bx⟩ := hcut
        have hKL := hK5.below bx hK5.lt bx.size
        have hGL := hG5.below bx hG5.lt bx.size
        have hcL := hc5.below bx
        have hbx := below_step hbw5 bx
        clear g0 g1 g2 g3 g4 hlr hkr hcr hZ5 hG5 hK5 hc5 hp5 hB5 hb5 hbw5 bx b56
        obtain ⟨wO, e0⟩ : ∃ z, z = wc := ⟨_, rfl⟩
        subst e0
        go_wp2_with fail
        go_loopw [14] (fun i ws => ∃ k : Nat, k ≤ ps.length ∧ i = .int .i64 k ∧ Below wO.heap.size wO ws) (fun i _ => ps.length - (intOf i).toNat)
        case atStart => exact ⟨0, Nat.zero_le _, rfl, Below.refl _ _⟩
        case round =>
          obtain ⟨k, hk, rfl, hbt⟩ := hrel
          by_cases hlt : k < ps.length
          · have c1 := (hbt.cell (p := ⟨bK, k, none⟩) hKL.lt).trans (hKL.cells k hlt)
            have c2 := (hbt.cell (p := ⟨bR, k, none⟩) hKR.lt).trans (hKR.cells k hlt)
            generalize g k = gk at c1 c2
            have hki : (k : Int) < (ps.length : Int) := by omega
            clear hKL hKR hGL hGR hcL hpd
            go_wp2_with fail
            cases gk
            · go_region_held3 (fun w' => w'.cell? ⟨bK, k, none⟩ = some (.bool false) ∧ w'.cell? ⟨bR, k, none⟩ = some (.bool false))
                (exact ⟨c1, c2⟩)
                (fail)
              go_wp2
              go_roundw
              case rel => exact ⟨k + 1, by omega, by go_num, hbt.drew⟩
              case measure => simp [intOf]; omega
            · go_region_held3 (fun w' => w'.cell? ⟨bK, k, none⟩ = some (.bool true) ∧ w'.cell? ⟨bR, k, none⟩ = some (.bool true))
                (exact ⟨c1, c2⟩)
                (fail)
              go_wp2
              go_roundw
              case rel => exact ⟨k + 1, by omega, by go_num, hbt.drew⟩
              case measure => simp [intOf]; omega
          · have hG1 := hGL.below hbt hGL.lt hbt.size
            have hG2 := hGR.below hbt hGR.lt hbt.size
            have hcL1 := hcL.below hbt
            have hpd1 := hpd.below hbt
            have hbx1 := below_step hbx hbt
            clear hKL hKR hGL hGR hcL hpd hbt
            go_wp2_with fail
            refine (needBegun_any _).mono ?_
            rintro e w7 ⟨rfl, bel7⟩
            obtain ⟨_, x0, x1, x2, x3, x4, _⟩ := hG1.below bel7 hG1.lt bel7.size
            obtain ⟨_, y0, y1, y2, y3, y4, _⟩ := hG2.below bel7 hG2.lt bel7.size
            have hs := sameFrames_any W H S O cc dc (hcL1.below bel7) (hpd1.below bel7)
            go_wp2_with fail
            refine hs.mono ?_
            rintro e w8 ⟨rfl, bel8⟩
            go_wp2
            go_ret
            exact ⟨by simp, below_step (below_step hbx1 bel7) bel8⟩
    · exact absurd hE h0
  · exact absurd hE h0
theorem needTells_any (W H S O : Int) (a : Option Addr) (len cap : Nat) (ps : List Ps) (w : World) (hp : Passes w a len ps) :
    Calls Try.prog 13 #[.agg #[.int .i64 W, .int .i64 H, .int .i64 S, .int .i64 O, .slice a len cap]] w fun e w' => e = .returned (.bool true) ∧ Below w.heap.size w w' := by
  by_cases hE : frameE ⟨W, H, S, O, ps⟩ = 0
  · exact needTells_ok W H S O a len cap ps w hp hE
  · exact needTells_err W H S O a len cap ps w hp hE
end Go.Proofs.Ytfpkiimlaepnhaa
/-
  OPEN: how an image that comes in as an argument is read.
-/
namespace Go.Proofs.Ytfpkiimlaepnhaa
set_option maxRecDepth 100000
open Go.ChangeShapes Go.WideShapes Go.ChangeAt Go.RowKit Go.Joins

theorem own : ownKnob Try.prog.godebug = none := by kernel_rfl
theorem laidOut : laidOutB Try.prog = true := by kernel_rfl
theorem cellsImage : Try.prog.cellsOf 24 = 3 := by kernel_rfl
theorem cellsInt : Try.prog.cellsOf 3 = 1 := by kernel_rfl

theorem addr_add (b off j : Nat) : (⟨b, off, none⟩ : Addr).add j = ⟨b, off + j, none⟩ := by
  simp only [Addr.add]; split <;> simp_all
/-- A slice of numbers that came in. -/
theorem ints_in {H : Type} {enc : TypeId × Value → H} {W : World} {n : Nat} {v : Value} {y : DataW H × List MemPlace} (h : DataW.trod enc Try.prog W 0 (fun _ => true) true n 22 [v] = some y) :
    ∃ a len cap ps, v = .slice a len cap ∧ Ints 0 W a len ps := by
  rcases open_ints Try.underlying22 Try.underlying3 cellsInt h with ⟨hcs, _⟩ | ⟨x, l, c, zs, hcs, _, hl, hm, hz, _, hcell, _⟩
  · simp at hcs
    exact ⟨none, 0, 0, [], hcs, Ints.nil 0 W⟩
  · simp at hcs
    simp at hz
    unfold maxLen at hm
    refine ⟨some x, l, c, zs.take l, hcs, by simp; omega, by omega, ?_⟩
    by_cases h0 : l = 0
    · subst h0; exact .inl (by simp)
    · right
      obtain ⟨b, off, spot⟩ := x
      have hc := hcell 0 (by omega)
      have hspot : spot = none := by simpa [Addr.add] using World.cell?_spot hc
      subst hspot
      refine ⟨b, off, rfl, Nat.zero_le _, ?_, fun j hj => ?_⟩
      · have := World.block_lt_of_cell? W _ hc
        simpa [Addr.add] using this
      · have := hcell j (by omega)
        rw [List.getD_eq_getElem?_getD, List.getElem?_take_of_lt hj]
        rw [addr_add] at this
        simpa using this

/-- An image that came in. -/
theorem image_in {H : Type} {enc : TypeId × Value → H} {W : World} {b0 : Nat} {v : Value} {d : DataW H} {p : List MemPlace} (hv : Value.okWide Try.prog W .any b0 24 v) (h : DataW.Trod enc Try.prog W 0 (fun _ => true) true 24 v d p) :
    ∃ w h a len cap ps, v = .agg #[.int .i64 w, .int .i64 h, .slice a len cap] ∧ Ints 0 W a len ps := by
  obtain ⟨v0, v1, v2, y0, y1, y2, n, rfl, _, _, h0, h1, h2⟩ := open_agg3 Try.underlying24 (by kernel_rfl) cellsImage hv h
  obtain ⟨x, e0, _, _⟩ := DataW.trod_int Try.underlying3 h0
  obtain ⟨y, e1, _, _⟩ := DataW.trod_int Try.underlying3 h1
  obtain ⟨a, len, cap, ps, e2, hi⟩ := ints_in h2
  simp at e0 e1
  subst e0 e1 e2
  exact ⟨x, y, a, len, cap, ps, rfl, hi⟩
end Go.Proofs.Ytfpkiimlaepnhaa
/-
  OPENL: how a list of lights that comes in as an argument is read.
-/
namespace Go.Proofs.Ytfpkiimlaepnhaa
set_option maxRecDepth 100000
open Go.ChangeShapes Go.WideShapes Go.ChangeAt Go.RowKit Go.Joins Go.Deep

instance : Inhabited Lt := ⟨Lt.zero⟩
theorem cellsLight : Try.prog.cellsOf 59 = 4 := by kernel_rfl
theorem list4 {cs : List Value} (h : cs.length = 4) : ∃ c0 c1 c2 c3, cs = [c0, c1, c2, c3] := by
  match cs, h with
  | [c0, c1, c2, c3], _ => exact ⟨c0, c1, c2, c3, rfl⟩
/-- A light's four cells, read. -/
theorem light_cells {H : Type} {enc : TypeId × Value → H} {W : World} {n : Nat} {cs : List Value} {y : DataW H × List MemPlace} (h : DataW.trod enc Try.prog W 0 (fun _ => true) true n 59 cs = some y) :
    ∃ l : Lt, cs = [.int .i64 l.X, .int .i64 l.Y, .int .i64 l.R, .int .i64 l.P] := by
  obtain ⟨y0, y1, y2, y3, n, _, hl, h0, h1, h2, h3⟩ := trod_struct4 Try.underlying59 h
  rw [cellsLight] at hl
  obtain ⟨c0, c1, c2, c3, rfl⟩ := list4 hl
  simp only [cellsInt] at h0 h1 h2 h3
  obtain ⟨x0, e0, _, _⟩ := DataW.trod_int Try.underlying3 h0
  obtain ⟨x1, e1, _, _⟩ := DataW.trod_int Try.underlying3 h1
  obtain ⟨x2, e2, _, _⟩ := DataW.trod_int Try.underlying3 h2
  obtain ⟨x3, e3, _, _⟩ := DataW.trod_int Try.underlying3 h3
  simp at e0 e1 e2 e3
  subst e0 e1 e2 e3
  exact ⟨⟨x0, x1, x2, x3⟩, rfl⟩
/-- A list of lights that came in. -/
theorem lights_in {H : Type} {enc : TypeId × Value → H} {W : World} {b0 : Nat} {v : Value} {d : DataW H} {p : List MemPlace} (hv : Value.okWide Try.prog W .any b0 45 v) (h : DataW.Trod enc Try.prog W 0 (fun _ => true) true 45 v d p) :
    ∃ a len cap ls, v = .slice a len cap ∧ Lights W a len ls := by
  obtain ⟨a0, len, cap, rfl⟩ := okWide_slice Try.underlying45 hv
  obtain ⟨n, hn⟩ := h
  have hcs : (Value.slice a0 len cap).cells.toList = [.slice a0 len cap] := rfl
  rw [hcs] at hn
  rcases open_slice Try.underlying45 hn with ⟨e, _⟩ | ⟨x, l, c, m, n', D, Pl, e, _, hl, hm, hmm, _, hx⟩
  · simp at e
    obtain ⟨rfl, rfl, rfl⟩ := e
    exact ⟨none, 0, 0, [], rfl, rfl, by omega, .inl rfl⟩
  · simp at e
    obtain ⟨rfl, rfl, rfl⟩ := e
    simp at hmm
    subst hmm
    rw [cellsLight] at hx
    have each : ∀ i, i < m → ∃ lt : Lt, ∀ j, j < 4 → W.cell? (x.add (i * 4) |>.add j) = [Value.int .i64 lt.X, .int .i64 lt.Y, .int .i64 lt.R, .int .i64 lt.P][j]? := fun i hi => by
      obtain ⟨cs', h1, h2⟩ := hx i hi
      obtain ⟨lt, rfl⟩ := light_cells h2
      exact ⟨lt, (World.cells?_some h1).2.2⟩
    obtain ⟨L, hL⟩ := choose_lt each
    unfold maxLen at hm
    refine ⟨some x, len, m, (List.range len).map L, rfl, by simp, by omega, ?_⟩
    by_cases h0 : len = 0
    · subst h0; exact .inl rfl
    · right
      have h00 := hL 0 (by omega) 0 (by omega)
      obtain ⟨b, off, spot⟩ := x
      have hspot : spot = none := by simpa [Addr.add] using World.cell?_spot (h00.trans rfl)
      subst hspot
      refine ⟨b, off, rfl, ?_, fun j hj => ?_⟩
      · have := World.block_lt_of_cell? W _ (h00.trans rfl)
        simpa [Addr.add] using this
      · have g : ((List.range len).map L).getD j Lt.zero = L j := by simp [List.getD_eq_getElem?_getD, hj]
        rw [g]
        have q := hL j (by omega)
        simp only [addr_add] at q
        exact ⟨q 0 (by omega), q 1 (by omega), q 2 (by omega), q 3 (by omega)⟩
end Go.Proofs.Ytfpkiimlaepnhaa
