/- DeskN, DeskDraw, DeskBegun, DeskDrawn, LawDesk: joined, in this order. -/
import Derived.Test.YtaenpgdmiaekcaaGreatDoorS29
import Derived.Test.YtaenpgdmiaekcaaGreatDoorS25
import Derived.Test.YtaenpgdmiaekcaaGreatDoorS30
import Derived.Test.YtaenpgdmiaekcaaGreatDoorS03
import Derived.Test.YtaenpgdmiaekcaaGreatDoorS20
import Derived.Deep.RegionLaw
/-
  DESKN: numbers: what desk.Draw answers.
-/
namespace Go.Proofs.YtaenpgdmiaekcaaGreatDoor
set_option maxRecDepth 100000
open Go.RowKit Im Go.Maps

/-- The frame of a text. -/
noncomputable abbrev dF (s : ByteArray) : Fr := rdF (numsOf s)
/-- The room that its plan takes. -/
noncomputable def dPeak (s : ByteArray) : Int := peakP (dF s) (cOs (dF s)) (cPs (dF s))
/-- What Draw answers. -/
noncomputable def drawE (s : ByteArray) (room : Int) : Int :=
  if 2048 < s.size then 2 else if ¬ rdE (numsOf s) = 0 then 1 else if room < 0 ∨ 4096 < room then 3 else if room < dPeak s then 7 else 0
noncomputable def drawS (s : ByteArray) (room : Int) : ByteArray := if drawE s room = 0 then textS (renderP (dF s)).W (renderP (dF s)).H (renderP (dF s)).ps else ByteArray.empty
theorem rdE_zero {r : List Int} (h : rdE r = 0) : frameE (rdF r) = 0 := by
  by_cases hok : readOk r
  · unfold rdF; rw [if_pos hok]; exact hok.2
  · unfold rdE at h; rw [if_neg hok] at h; cases h
theorem rdE_one {r : List Int} (h : ¬ rdE r = 0) : rdE r = 1 := by
  by_cases hok : readOk r
  · exact absurd (by unfold rdE; rw [if_pos hok]) h
  · unfold rdE; rw [if_neg hok]
theorem render_fine {f : Fr} (h : frameE f = 0) : fineB (renderP f).W (renderP f).H (renderP f).ps = true := by
  unfold renderP
  rw [if_pos h]
  obtain ⟨hb, hfirst, _⟩ := frameE_zero h
  have hl : shownP f < f.ps.length := (wrt_bd f.ps f.ps.length f.O).2
  exact (pics_right hb hfirst (shownP f).toNat (by omega)).2.1
theorem draw_not {s : ByteArray} {room : Int} (h : ¬ drawE s room = 0) : drawS s room = ByteArray.empty := by unfold drawS; rw [if_neg h]
theorem zeros_fit {f : Fr} (hE : frameE f = 0) {n : Nat} (hn : n ≤ 4096) (hk : peakP f (cOs f) (cPs f) ≤ n) : execE f (cOs f) (cPs f) (List.replicate n 0) = 0 := by
  have hG := gp_right hE
  have hC : Closed (gpOf f) := gp_closed hE
  have hO : Ord (gpOf f) (cOs f) (cPs f) := cPl_ord hG hC
  obtain ⟨hp, _⟩ := comp_plan hE
  have hcl : clearP f (cOs f) (cPs f) = true := (clearT_iff hO _ _).2 (comp_clear hG hC)
  have e1 : peakP f (cOs f) (cPs f) = peakT (cOs f) (lieP (gpOf f) (cOs f) (cPs f)) (cOs f).length := by unfold peakP; rw [if_pos hp]
  have hl : (List.replicate n (0 : Int)).length = n := List.length_replicate
  have hc : checkP f (cOs f) (cPs f) (List.replicate n (0 : Int)).length = 0 := by
    rw [hl, check_fits ⟨by omega, by omega⟩ hp, if_pos ⟨by rw [← e1]; omega, hcl⟩]
  unfold execE
  rw [if_pos hc, if_pos]
  unfold fineA
  rw [List.all_eq_true]
  intro x hx
  rw [List.eq_of_mem_replicate hx]
  decide
/-- What Draw draws, of a frame that is read. -/
def DrawnAs (F : Fr) (room : Nat) (w : World) (e : Ending) (w' : World) : Prop :=
  (e = .returned (.tuple #[.string ByteArray.empty, .int .i64 7]) ∧ (room : Int) < peakP F (cOs F) (cPs F) ∨ e = .returned (.tuple #[.string (textS (renderP F).W (renderP F).H (renderP F).ps), .int .i64 0]) ∧ ¬ (room : Int) < peakP F (cOs F) (cPs F)) ∧ Below w.heap.size w w'
end Go.Proofs.YtaenpgdmiaekcaaGreatDoor
/-
  DESKDRAW: desk.Draw.
-/
namespace Go.Proofs.YtaenpgdmiaekcaaGreatDoor
set_option maxRecDepth 100000
open Go.RowKit Im Go.Maps

/-- Errors ahead of Compile. -/
theorem draw_early (s : ByteArray) (room : Int) (w : World) (h : 2048 < s.size ∨ ¬ rdE (numsOf s) = 0 ∨ room < 0 ∨ 4096 < room) :
    Calls Tryz.prog 8 #[.string s, .int .i64 room] w fun e w' => e = .returned (.tuple #[.string (drawS s room), .int .i64 (drawE s room)]) ∧ Below w.heap.size w w' := by
  by_cases hbig : 2048 < s.size
  · have hE : drawE s room = 2 := by unfold drawE; rw [if_pos hbig]
    rw [draw_not (by rw [hE]; decide), hE]
    have hrd := read_big hbig w
    clear h hE hbig
    go_enter Tryz.func8, Tryz.ntmps8
    go_wp2_with fail
    refine hrd.mono ?_
    rintro e w1 ⟨xa, xc, rfl, hP1, b1⟩
    dsimp only at hP1 ⊢
    have hb2 := below_box b1 (.cells #[.int .i64 0, .int .i64 0, .int .i64 0, .int .i64 0, .slice xa ([] : List Ps).length xc] 35)
    simp only [List.length_nil] at hb2 ⊢
    go_wp2
    go_ret2
    exact ⟨rfl, hb2⟩
  · have hrd := read_x (numsOf_bytes s) (by rw [numsOf_len]; omega) w
    rw [numsOf_str] at hrd
    by_cases hok : rdE (numsOf s) = 0
    · have hr : room < 0 ∨ 4096 < room := by
        rcases h with h | h | h
        · exact absurd h hbig
        · exact absurd hok h
        · exact h
      have hE : drawE s room = 3 := by unfold drawE; rw [if_neg hbig, if_neg (fun h => h hok), if_pos hr]
      rw [draw_not (by rw [hE]; decide), hE]
      rw [hok] at hrd
      clear h hE hbig hok
      generalize rdF (numsOf s) = F at *
      obtain ⟨FW, FH, FS, FO, Fp⟩ := F
      go_enter Tryz.func8, Tryz.ntmps8
      go_wp2_with fail
      refine hrd.mono ?_
      rintro e w1 ⟨xa, xc, rfl, hP1, b1⟩
      dsimp only at hP1 ⊢
      have hb2 := below_box b1 (.cells #[.int .i64 FW, .int .i64 FH, .int .i64 FS, .int .i64 FO, .slice xa Fp.length xc] 35)
      by_cases h0 : room < 0
      · go_wp2
        go_ret2
        exact ⟨rfl, hb2⟩
      · have h1 : 4096 < room := by omega
        go_wp2
        go_ret2
        exact ⟨rfl, hb2⟩
    · have hE : drawE s room = 1 := by unfold drawE; rw [if_neg hbig, if_pos hok]
      rw [draw_not (by rw [hE]; decide), hE]
      rw [rdE_one hok] at hrd
      clear h hE hbig hok
      generalize rdF (numsOf s) = F at *
      obtain ⟨FW, FH, FS, FO, Fp⟩ := F
      go_enter Tryz.func8, Tryz.ntmps8
      go_wp2_with fail
      refine hrd.mono ?_
      rintro e w1 ⟨xa, xc, rfl, hP1, b1⟩
      dsimp only at hP1 ⊢
      have hb2 := below_box b1 (.cells #[.int .i64 FW, .int .i64 FH, .int .i64 FS, .int .i64 FO, .slice xa Fp.length xc] 35)
      go_wp2
      go_ret2
      exact ⟨rfl, hb2⟩
theorem zeros_made (w : World) (n : Nat) (hn : n ≤ 4096) : Ints 0 (w.alloc (.cells (madeCells #[.int .i64 0] n) 3)) (some ⟨w.heap.size, 0, none⟩) n (List.replicate n 0) := by
  refine ⟨List.length_replicate, by omega, .inr ⟨w.heap.size, 0, rfl, Nat.zero_le _, by simp, fun j hj => ?_⟩⟩
  rw [Nat.zero_add, World.cell?_alloc_new, List.getD_eq_getElem?_getD, List.getElem?_replicate, if_pos hj]
  simp [madeCells, hj, Nat.mod_one]
set_option maxHeartbeats 8000000 in
theorem draw_frame (s : ByteArray) (W H S O : Int) (ps : List Ps) (room : Nat) (w : World) (hrd : Calls Tryz.prog 11 #[.string s] w (ToldX w ⟨W, H, S, O, ps⟩ (.int .i64 0))) (hE : frameE ⟨W, H, S, O, ps⟩ = 0) (hr : room ≤ 4096) (hp : Pow w) :
    Calls Tryz.prog 8 #[.string s, .int .i64 room] w (DrawnAs ⟨W, H, S, O, ps⟩ room w) := by
  obtain ⟨i0, hi, hz0, hz1, hz2⟩ := info_parts Tryz.info3
  have hmk : ∀ wx : World, (Instr.makeSlice 22 (.int .i64 room) (.int .i64 room)).run Tryz.prog wx = .ok (.slice (some ⟨wx.heap.size, 0, none⟩) room room) (wx.alloc (.cells (madeCells #[.int .i64 0] room) 3)) := fun wx => run_make_row (P := Tryz.prog) 22 3 i0 (.int .i64 0) Tryz.underlying22 hi hz0 hz1 rfl .i64 .i64 room (by rw [hz2]; omega) (by omega) wx
  obtain ⟨hpl, hcl⟩ := comp_plan hE
  have HZ : Hid (peakP ⟨W, H, S, O, ps⟩ (cOs ⟨W, H, S, O, ps⟩) (cPs ⟨W, H, S, O, ps⟩) ≤ room → execE ⟨W, H, S, O, ps⟩ (cOs ⟨W, H, S, O, ps⟩) (cPs ⟨W, H, S, O, ps⟩) (List.replicate room 0) = 0) := fun h => zeros_fit hE hr h
  have h12 : ps.length ≤ 12 := by
    obtain ⟨hb, _, _⟩ := frameE_zero hE
    exact (boundsE_zero hb).2.2.2.2.2
  have hol : (cOs ⟨W, H, S, O, ps⟩).length ≤ 4096 := by
    have h1 : (cOs ⟨W, H, S, O, ps⟩).length ≤ ps.length := ((planE_zero hpl).2).olen
    omega
  have HF : Hid (_) := render_fine hE
  go_enter Tryz.func8, Tryz.ntmps8
  go_wp2_with fail
  refine hrd.mono ?_
  clear hrd
  rintro e w1 ⟨a, cap, rfl, hP1, b1⟩
  dsimp only at hP1 ⊢
  have hF2 := FBox.new w1 W H S O a ps.length cap
  have bA := (Below.refl w1.heap.size w1).alloc (Nat.le_refl _) (.cells #[.int .i64 W, .int .i64 H, .int .i64 S, .int .i64 O, .slice a ps.length cap] 35)
  have hP2 := hP1.below bA
  have hb2 := below_step b1 bA
  have hco := compile_any W H S O a ps.length cap ps _ hP2
  obtain ⟨_, g0, g1, g2, g3, g4⟩ := id hF2
  clear hP1 bA b1
  go_wp2_with fail
  generalize w1.alloc (.cells #[.int .i64 W, .int .i64 H, .int .i64 S, .int .i64 O, .slice a ps.length cap] 35) = w2 at *
  refine hco.mono ?_
  clear hco g0 g1 g2 g3 g4
  rintro e w3 ⟨⟨_, v, pb, rfl, hpb, hOv, hNm⟩ | ⟨h0, _⟩, b3⟩
  case inr => exact absurd hE h0
  case inl =>
    have hOv' : Owns (pb + 1) w3 v (cOs ⟨W, H, S, O, ps⟩) := hOv
    clear hOv
    obtain ⟨qa, qc, hv, hIq⟩ := hOv'.ints (by omega)
    subst hv
    have hqc := own_room hOv'
    have hIp : Ints 0 w3 (some ⟨pb, 0, none⟩) ps.length (cPs ⟨W, H, S, O, ps⟩) := nm_list hNm hcl (by show ps.length ≤ _; omega)
    have hB3 := PlBox.new w3 (.slice qa (cOs ⟨W, H, S, O, ps⟩).length qc) (.slice (some ⟨pb, 0, none⟩) ps.length ps.length) 48
    have bC := (Below.refl w3.heap.size w3).alloc (Nat.le_refl _) (.cells #[.slice qa (cOs ⟨W, H, S, O, ps⟩).length qc, .slice (some ⟨pb, 0, none⟩) ps.length ps.length] 48)
    have b24 := below_step b3 bC
    have hb4 := below_step hb2 b24
    have hIq4 := (hIq.mono (Nat.zero_le _)).below (Nat.le_refl _) bC
    have hIp4 := hIp.below (Nat.le_refl _) bC
    have hF4 := hF2.below b24
    have hP4 := hP2.below b24
    have hpk := planPeak_any W H S O a ps.length cap ps _ hP4 qa _ qc (some ⟨pb, 0, none⟩) ps.length ps.length _ _ hIq4 hIp4
    rw [hpl] at hpk
    have hru := fun wx (h : Below (w3.alloc (.cells #[.slice qa (cOs ⟨W, H, S, O, ps⟩).length qc, .slice (some ⟨pb, 0, none⟩) ps.length ps.length] 48)).heap.size (w3.alloc (.cells #[.slice qa (cOs ⟨W, H, S, O, ps⟩).length qc, .slice (some ⟨pb, 0, none⟩) ps.length ps.length] 48)) wx) aa hA => run_any W H S O a ps.length cap ps wx (hP4.below h) qa _ qc (some ⟨pb, 0, none⟩) ps.length ps.length _ _ (hIq4.below (Nat.le_refl _) h) (hIp4.below (Nat.le_refl _) h) hqc aa room room (List.replicate room 0) hA
    have hbPk := fun h => runP_same (HZ.out h)
    clear hOv' hNm hIq hIp hF2 bC hcl hP4 hP2 hb2
    unfold DrawnAs
    generalize hpe : peakP ⟨W, H, S, O, ps⟩ (cOs ⟨W, H, S, O, ps⟩) (cPs ⟨W, H, S, O, ps⟩) = pk at *
    obtain ⟨_, g0, g1, g2, g3, g4⟩ := id hF4
    obtain ⟨_, q0, q1⟩ := id hB3
    dsimp only
    go_wp2_with fail
    generalize w3.alloc (.cells #[.slice qa (cOs ⟨W, H, S, O, ps⟩).length qc, .slice (some ⟨pb, 0, none⟩) ps.length ps.length] 48) = w4 at *
    refine hpk.mono ?_
    clear hpk g0 g1 g2 g3 g4 q0 q1
    rintro e w5 ⟨rfl, b5⟩
    have hb5 := below_step hb4 b5
    by_cases hfull : (room : Int) < pk
    · clear hru hbPk HZ HF hF4 hB3 hIq4 hIp4 hmk
      go_wp2
      go_ret2
      exact ⟨.inl ⟨rfl, by rw [hpe]; exact hfull⟩, hb5⟩
    · have hRS := hbPk (by omega)
      rw [hRS] at hru
      have hfi := HF.out
      have HE0 : Hid ((renderP ⟨W, H, S, O, ps⟩).E = 0) := (renderP_E _).trans hE
      generalize hRd : renderP ⟨W, H, S, O, ps⟩ = R at *
      have HRd : Hid (_) := hRd
      clear hRd
      have hF5 := hF4.below b5
      have hB5 := hB3.below b5
      obtain ⟨_, g0, g1, g2, g3, g4⟩ := id hF5
      obtain ⟨_, q0, q1⟩ := id hB5
      clear hbPk HZ HF hF4 hIq4 hIp4 hRS hqc hol h12 hpl
      have HPE : Hid (_) := hpe
      clear hpe
      go_upto_region 14 with fail
      have hA := fun X (hX : Below w5.heap.size w5 X) aa hI => hru X (below_step b5 hX) aa hI
      have bM := (Below.refl w5.heap.size w5).alloc (Nat.le_refl _) (.cells (madeCells #[.int .i64 0] room) 3)
      have bB := (Below.refl w5.heap.size w5).alloc (Nat.le_refl _) (.cells #[.int .i64 0, .int .i64 0, .slice none 0 0] 24)
      have hc1 := hA _ bM.drew (some ⟨w5.heap.size, 0, none⟩) ((zeros_made w5 room hr).below (Nat.le_refl _) (Below.refl _ _).drew)
      have hc2 := hA _ (below_box bM (.cells #[.int .i64 0, .int .i64 0, .slice none 0 0] 24)).drew (some ⟨w5.heap.size, 0, none⟩) ((zeros_made w5 room hr).below (Nat.le_refl _) ((Below.refl _ _).alloc (Nat.le_refl _) _).drew)
      have hc3 := hA _ (below_box bB (.cells (madeCells #[.int .i64 0] room) 3)).drew (some ⟨(w5.alloc (.cells #[.int .i64 0, .int .i64 0, .slice none 0 0] 24)).heap.size, 0, none⟩) ((zeros_made (w5.alloc (.cells #[.int .i64 0, .int .i64 0, .slice none 0 0] 24)) room hr).below (Nat.le_refl _) (Below.refl _ _).drew)
      rw [World.size_alloc] at hc3
      have hI2 := IBox.new (w5.alloc (.cells (madeCells #[.int .i64 0] room) 3))
      have hI3 := IBox.new w5
      rw [World.size_alloc] at hI2
      have hI2d := hI2.below ((Below.refl ((w5.alloc (.cells (madeCells #[.int .i64 0] room) 3)).alloc (.cells #[.int .i64 0, .int .i64 0, .slice none 0 0] 24)).heap.size _).drew) hI2.lt (Nat.le_refl _)
      have hI3d := (hI3.below ((Below.refl _ _).alloc (Nat.le_refl _) (.cells (madeCells #[.int .i64 0] room) 3)).drew hI3.lt (by show _ ≤ (World.alloc _ _).heap.size; simp))
      have held : ∀ wx, Below w5.heap.size w5 wx → (wx.cell? ⟨w1.heap.size, 0, none⟩ = some (.int .i64 W) ∧ wx.cell? ⟨w1.heap.size, 1, none⟩ = some (.int .i64 H) ∧ wx.cell? ⟨w1.heap.size, 2, none⟩ = some (.int .i64 S) ∧ wx.cell? ⟨w1.heap.size, 3, none⟩ = some (.int .i64 O) ∧ wx.cell? ⟨w1.heap.size, 4, none⟩ = some (.slice a ps.length cap)) ∧ wx.cell? ⟨w3.heap.size, 0, none⟩ = some (.slice qa (cOs ⟨W, H, S, O, ps⟩).length qc) ∧ wx.cell? ⟨w3.heap.size, 1, none⟩ = some (.slice (some ⟨pb, 0, none⟩) ps.length ps.length) := fun wx h => by
        obtain ⟨_, g0, g1, g2, g3, g4⟩ := hF5.below h
        obtain ⟨_, q0, q1⟩ := hB5.below h
        exact ⟨⟨g0, g1, g2, g3, g4⟩, q0, q1⟩
      have b0x := (Below.refl w5.heap.size w5).drew
      have bBx := bB.drew
      have b1x := bM.drew
      have b2x := (below_box bM (.cells #[.int .i64 0, .int .i64 0, .slice none 0 0] 24)).drew
      have b3x := (below_box bB (.cells (madeCells #[.int .i64 0] room) 3)).drew
      clear hA hru hI2 hI3 bM bB
      go_cut [7, 10] from 45 to 52 (fun s7 s10 wx => s7 = .int .i64 0 ∧ ∃ ib ia ic, s10 = .pointer (some ⟨ib, 0, none⟩) ∧ JBox wx ib R.W R.H (.slice ia R.ps.length ic) ∧ Ints 0 wx ia R.ps.length R.ps ∧ Below w5.heap.size w5 wx)
      case first =>
        go_region_held3 (fun wx => (wx.cell? ⟨w1.heap.size, 0, none⟩ = some (.int .i64 W) ∧ wx.cell? ⟨w1.heap.size, 1, none⟩ = some (.int .i64 H) ∧ wx.cell? ⟨w1.heap.size, 2, none⟩ = some (.int .i64 S) ∧ wx.cell? ⟨w1.heap.size, 3, none⟩ = some (.int .i64 O) ∧ wx.cell? ⟨w1.heap.size, 4, none⟩ = some (.slice a ps.length cap)) ∧ wx.cell? ⟨w3.heap.size, 0, none⟩ = some (.slice qa (cOs ⟨W, H, S, O, ps⟩).length qc) ∧ wx.cell? ⟨w3.heap.size, 1, none⟩ = some (.slice (some ⟨pb, 0, none⟩) ps.length ps.length))
          ((refine held _ ?_; first | exact b0x | exact b1x | exact bBx | exact b2x | exact b3x | exact hb6 | exact below_box hb6 _ | exact ((hb6.setCell (by simp) _).setCell (by simp) _).setCell (by simp) _))
          (first
            | (go_at_call 20; (with_reducible refine hc3.mono ?_); rintro e w6 ⟨ia, ic, rfl, hI6, b6⟩; have hb6 := below_step b3x b6; have hB6 := hI3d.below b6 hI3d.lt b6.size; have hbl := hI3d.lt; obtain ⟨_, z0, z1, z2, y0, y1, y2⟩ := id hB6)
            | (go_at_call 20; (with_reducible refine hc2.mono ?_); rintro e w6 ⟨ia, ic, rfl, hI6, b6⟩; have hb6 := below_step b2x b6; have hB6 := hI2d.below b6 hI2d.lt b6.size; have hbl := hI2d.lt; obtain ⟨_, z0, z1, z2, y0, y1, y2⟩ := id hB6)
            | (go_at_call 20; (with_reducible refine hc1.mono ?_); rintro e w6 ⟨ia, ic, rfl, hI6, b6⟩; have hb6 := below_step b1x b6))
        all_goals (go_wp2_with fail; go_meet)
        all_goals first
          | exact ⟨by rw [HE0.out], w6.heap.size, ia, ic, rfl, JBox.new w6 R.W R.H (.slice ia R.ps.length ic), (hI6.mono (Nat.zero_le _)).alloc _, below_box hb6 _⟩
          | exact ⟨by rw [HE0.out], w5.heap.size + 1, ia, ic, rfl, hB6.put _ _ _, (((hI6.setCell (p := ⟨w5.heap.size + 1, 0, none⟩) hbl _).setCell (p := ⟨w5.heap.size + 1, 1, none⟩) hbl _).setCell (p := ⟨w5.heap.size + 1, 2, none⟩) hbl _).mono (Nat.zero_le _), ((hb6.setCell (p := ⟨w5.heap.size + 1, 0, none⟩) (Nat.le_succ _) _).setCell (p := ⟨w5.heap.size + 1, 1, none⟩) (Nat.le_succ _) _).setCell (p := ⟨w5.heap.size + 1, 2, none⟩) (Nat.le_succ _) _⟩
          | exact ⟨by rw [HE0.out], w5.heap.size, ia, ic, rfl, hB6.put _ _ _, (((hI6.setCell (p := ⟨w5.heap.size, 0, none⟩) hbl _).setCell (p := ⟨w5.heap.size, 1, none⟩) hbl _).setCell (p := ⟨w5.heap.size, 2, none⟩) hbl _).mono (Nat.zero_le _), ((hb6.setCell (p := ⟨w5.heap.size, 0, none⟩) (Nat.le_refl _) _).setCell (p := ⟨w5.heap.size, 1, none⟩) (Nat.le_refl _) _).setCell (p := ⟨w5.heap.size, 2, none⟩) (Nat.le_refl _) _⟩
      case rest =>
        obtain ⟨rfl, ib, ia, ic, rfl, hJ, hI, bx⟩ := hcut
        have hbx := below_step hb5 bx
        have hsh := show_any R.W R.H ia R.ps.length ic R.ps wc hI (hp.below hbx)
        rw [if_pos hfi] at hsh
        obtain ⟨_, x0, x1, x2⟩ := id hJ
        have HPK : Hid (¬ (room : Int) < pk) := by show ¬ _; omega
        clear hc1 hc2 hc3 hI2d hI3d held b0x b1x bBx b2x b3x g0 g1 g2 g3 g4 q0 q1 hF5 hB5 hB3 hmk hfull
        go_wp2_with fail
        refine hsh.mono ?_
        clear hsh x0 x1 x2
        rintro e w7 ⟨rfl, b7⟩
        go_wp2
        go_ret2
        exact ⟨.inr ⟨by rw [HRd.out]; rfl, by rw [HPE.out]; have := HPK.out; omega⟩, below_step hbx b7⟩
theorem draw_same {s : ByteArray} {room : Nat} (hs : ¬ 2048 < s.size) (hok : rdE (numsOf s) = 0) (hr : room ≤ 4096) {w : World} {e : Ending} {w' : World} (h : DrawnAs (dF s) room w e w') :
    e = .returned (.tuple #[.string (drawS s room), .int .i64 (drawE s room)]) ∧ Below w.heap.size w w' := by
  have hE : drawE s room = if (room : Int) < dPeak s then 7 else 0 := by
    unfold drawE
    rw [if_neg hs, if_neg (fun h => h hok), if_neg (by omega)]
  obtain ⟨⟨rfl, hk⟩ | ⟨rfl, hk⟩, hb⟩ := h
  · have h7 : drawE s room = 7 := by rw [hE, if_pos (show (room : Int) < dPeak s from hk)]
    rw [draw_not (by rw [h7]; decide), h7]
    exact ⟨rfl, hb⟩
  · have h0 : drawE s room = 0 := by rw [hE, if_neg (show ¬ (room : Int) < dPeak s from hk)]
    have hS : drawS s room = textS (renderP (dF s)).W (renderP (dF s)).H (renderP (dF s)).ps := by unfold drawS; rw [if_pos h0]
    rw [h0, hS]
    exact ⟨rfl, hb⟩
theorem deskDraw_any (s : ByteArray) (room : Int) (w : World) (hp : Pow w) :
    Calls Tryz.prog 8 #[.string s, .int .i64 room] w fun e w' => e = .returned (.tuple #[.string (drawS s room), .int .i64 (drawE s room)]) ∧ Below w.heap.size w w' := by
  by_cases h : 2048 < s.size ∨ ¬ rdE (numsOf s) = 0 ∨ room < 0 ∨ 4096 < room
  · exact draw_early s room w h
  · have hs : ¬ 2048 < s.size := fun h1 => h (.inl h1)
    have hok : rdE (numsOf s) = 0 := Classical.byContradiction fun h1 => h (.inr (.inl h1))
    have hr0 : ¬ (room < 0 ∨ 4096 < room) := fun h1 => h (.inr (.inr h1))
    obtain ⟨n, rfl⟩ : ∃ n : Nat, room = n := ⟨room.toNat, by omega⟩
    have hn : n ≤ 4096 := by omega
    have hrd := read_x (numsOf_bytes s) (by rw [numsOf_len]; omega) w
    rw [numsOf_str, hok] at hrd
    exact (draw_frame s (dF s).W (dF s).H (dF s).S (dF s).O (dF s).ps n w hrd (rdE_zero hok) hn hp).mono fun _ _ h => draw_same hs hok hn h
end Go.Proofs.YtaenpgdmiaekcaaGreatDoor
/-
  DESKBEGUN: the law's deskBegun answers true.
-/
namespace Go.Proofs.YtaenpgdmiaekcaaGreatDoor
set_option maxRecDepth 100000
open Go.RowKit Im Go.Maps

theorem num_str {r : List Int} (h : Bytes r) : numsOf (strOfNums r) = r := str_inj (numsOf_bytes _) h (by rw [numsOf_str])
theorem glowD_wire : wireS glowF = strOfNums (frameBytes glowF) := by unfold wireS; rw [if_pos glow_ok]
theorem glowD_len : (frameBytes glowF).length = 45 := by decide
theorem glowD_size : ¬ 2048 < (wireS glowF).size := by rw [glowD_wire, ← numsOf_len, num_str (bytes_of_frame _), glowD_len]; decide
theorem glowD_nums : numsOf (wireS glowF) = frameBytes glowF := by rw [glowD_wire, num_str (bytes_of_frame _)]
theorem glowD_E : rdE (numsOf (wireS glowF)) = 0 := by
  obtain ⟨k1, _⟩ := wire_back glow_ok
  rw [glowD_nums]; unfold rdE; rw [if_pos k1]
theorem glowD_F : dF (wireS glowF) = glowF := by
  obtain ⟨k1, k2⟩ := wire_back glow_ok
  show rdF _ = _
  rw [glowD_nums]; unfold rdF; rw [if_pos k1, k2]
theorem glowD_peak : dPeak (wireS glowF) = 24 := by
  unfold dPeak
  rw [glowD_F]
  show peakP glowF (cOrd (gpOf glowF) 5) (cPl (gpOf glowF)) = 24
  rw [f_ord, f_pl]
  decide
theorem glowD_24 : drawE (wireS glowF) 24 = 0 := by
  unfold drawE
  rw [if_neg glowD_size, if_neg (fun h => h glowD_E), if_neg (by decide), glowD_peak, if_neg (by decide)]
theorem glowD_23 : drawE (wireS glowF) 23 = 7 := by
  unfold drawE
  rw [if_neg glowD_size, if_neg (fun h => h glowD_E), if_neg (by decide), glowD_peak, if_pos (by decide)]
theorem text_glow : textS 4 2 [9, 109, 209, 309, 10, 110, 210, 310] = ⟨#[57, 32, 49, 48, 57, 32, 50, 48, 57, 32, 51, 48, 57, 10, 49, 48, 32, 49, 49, 48, 32, 50, 49, 48, 32, 51, 49, 48, 10]⟩ := by
  unfold textS
  rw [if_pos (by decide)]
  simp [showN, Lib.itoa, Lib.decDigits]
theorem text_four : textS 2 2 [4, 8, 65535, 0] = ⟨#[52, 32, 56, 10, 54, 53, 53, 51, 53, 32, 48, 10]⟩ := by
  unfold textS
  rw [if_pos (by decide)]
  simp [showN, Lib.itoa, Lib.decDigits]
theorem glowD_S : drawS (wireS glowF) 24 = ⟨#[57, 32, 49, 48, 57, 32, 50, 48, 57, 32, 51, 48, 57, 10, 49, 48, 32, 49, 49, 48, 32, 50, 49, 48, 32, 51, 49, 48, 10]⟩ := by
  unfold drawS
  rw [if_pos glowD_24, glowD_F, ar_render]
  exact text_glow
set_option maxHeartbeats 4000000 in
theorem deskBegun_any (w : World) (hp : Pow w) : Calls Tryz.prog 10 #[] w fun e w' => e = .returned (.bool true) ∧ Below w.heap.size w w' := by
  have hwr := fun a cap wx hp => write_any 4 2 3 1 a 5 cap glowP wx hp
  have eo : frameE ⟨4, 2, 3, 1, glowP⟩ = 0 := glow_ok
  rw [eo] at hwr
  have hd4 := fun wx hp => deskDraw_any (wireS ⟨4, 2, 3, 1, glowP⟩) 24 wx hp
  have hd3 := fun wx hp => deskDraw_any (wireS ⟨4, 2, 3, 1, glowP⟩) 23 wx hp
  have x1 : drawS (wireS ⟨4, 2, 3, 1, glowP⟩) 24 = _ := glowD_S
  have x2 : drawE (wireS ⟨4, 2, 3, 1, glowP⟩) 24 = 0 := glowD_24
  have x3 : drawE (wireS ⟨4, 2, 3, 1, glowP⟩) 23 = 7 := glowD_23
  rw [x1, x2] at hd4
  rw [x3] at hd3
  clear x1 x2 x3 eo
  generalize wireS ⟨4, 2, 3, 1, glowP⟩ = s at *
  generalize drawS s 23 = s3 at *
  have hb := Below.refl w.heap.size w
  go_enter Tryz.func10, Tryz.ntmps10
  go_wp2_with fail
  refine (glow_any _).mono ?_
  rintro e w1 ⟨gb, rfl, hG1, b1⟩
  replace hb := below_step hb b1
  have hW := hwr _ 5 w1 hG1
  clear hwr
  go_wp2_with fail
  refine hW.mono ?_
  clear hW
  rintro e w2 ⟨rfl, b2⟩
  replace hb := below_step hb b2
  go_wp2_with fail
  refine (hd4 _ (hp.below hb)).mono ?_
  clear hd4
  rintro e w3 ⟨rfl, b3⟩
  replace hb := below_step hb b3
  go_wp2_with fail
  refine (hd3 _ (hp.below hb)).mono ?_
  clear hd3
  rintro e w4 ⟨rfl, b4⟩
  replace hb := below_step hb b4
  go_wp2_with fail
  refine (four_any _).mono ?_
  rintro e w5 ⟨rfl, hF5, b5⟩
  replace hb := below_step hb b5
  have hI5 : Ints 0 w5 (some ⟨w4.heap.size + 1, 0, none⟩) 4 [4, 8, 65535, 0] := ⟨rfl, by decide, .inr ⟨_, 0, rfl, Nat.zero_le _, hF5.hb, fun j hj => hF5.cell j hj⟩⟩
  have hsh := show_any 2 2 (some ⟨w4.heap.size + 1, 0, none⟩) 4 4 [4, 8, 65535, 0] w5 hI5 (hp.below hb)
  rw [text_four, if_pos (by decide)] at hsh
  clear hI5 hF5
  go_wp2_with fail
  refine hsh.mono ?_
  clear hsh
  rintro e w6 ⟨rfl, b6⟩
  replace hb := below_step hb b6
  go_wp2
  go_ret
  exact ⟨rfl, hb⟩
end Go.Proofs.YtaenpgdmiaekcaaGreatDoor
/-
  DESKDRAWN: the reference's Drawn.
-/
namespace Go.Proofs.YtaenpgdmiaekcaaGreatDoor
set_option maxRecDepth 100000
open Go.RowKit Im Go.Maps

/-- Errors ahead of the peak. -/
theorem drawn_early (s : ByteArray) (room : Int) (w : World) (h : 2048 < s.size ∨ ¬ rdE (numsOf s) = 0 ∨ room < 0 ∨ 4096 < room) :
    Calls Tryz.prog 9 #[.string s, .int .i64 room] w fun e w' => e = .returned (.tuple #[.string (drawS s room), .int .i64 (drawE s room)]) ∧ Below w.heap.size w w' := by
  by_cases hbig : 2048 < s.size
  · have hE : drawE s room = 2 := by unfold drawE; rw [if_pos hbig]
    rw [draw_not (by rw [hE]; decide), hE]
    have hbI : (2048 : Int) < (s.size : Int) := by omega
    clear h hE hbig
    go_enter Tryz.func9, Tryz.ntmps9
    go_wp2
    go_ret2
    exact ⟨rfl, Below.refl _ _⟩
  · have hbI : ¬ (2048 : Int) < (s.size : Int) := by omega
    obtain ⟨is, his, hfr⟩ := from_x (numsOf_bytes s) (by rw [numsOf_len]; omega) w
    rw [numsOf_str] at hfr
    by_cases hok : rdE (numsOf s) = 0
    · have hr : room < 0 ∨ 4096 < room := by
        rcases h with h | h | h
        · exact absurd h hbig
        · exact absurd hok h
        · exact h
      have hE : drawE s room = 3 := by unfold drawE; rw [if_neg hbig, if_neg (fun h => h hok), if_pos hr]
      rw [draw_not (by rw [hE]; decide), hE]
      obtain rfl : is = true := by
        cases is
        · rw [hok] at his; cases his
        · rfl
      have hwi : withinB room 0 4096 = false := by unfold withinB; simp; omega
      clear h hE hbig hok his hr
      generalize rdF (numsOf s) = F at *
      obtain ⟨FW, FH, FS, FO, Fp⟩ := F
      go_enter Tryz.func9, Tryz.ntmps9
      go_wp2_with fail
      refine hfr.mono ?_
      rintro e w1 ⟨xa, xc, rfl, hP1, b1⟩
      dsimp only at hP1 ⊢
      have hb2 := below_box b1 (.cells #[.int .i64 FW, .int .i64 FH, .int .i64 FS, .int .i64 FO, .slice xa Fp.length xc] 35)
      go_wp2_with (go_at_call 15; refine (within_any _ _ _ _).mono ?_; rintro e w' ⟨rfl, rfl⟩)
      go_ret2
      exact ⟨rfl, hb2⟩
    · have hE : drawE s room = 1 := by unfold drawE; rw [if_neg hbig, if_pos hok]
      rw [draw_not (by rw [hE]; decide), hE]
      obtain rfl : is = false := by
        cases is
        · rfl
        · exact absurd his hok
      clear h hE hbig hok his
      generalize rdF (numsOf s) = F at *
      obtain ⟨FW, FH, FS, FO, Fp⟩ := F
      go_enter Tryz.func9, Tryz.ntmps9
      go_wp2_with fail
      refine hfr.mono ?_
      rintro e w1 ⟨xa, xc, rfl, hP1, b1⟩
      dsimp only at hP1 ⊢
      have hb2 := below_box b1 (.cells #[.int .i64 FW, .int .i64 FH, .int .i64 FS, .int .i64 FO, .slice xa Fp.length xc] 35)
      go_wp2
      go_ret2
      exact ⟨rfl, hb2⟩
set_option maxHeartbeats 8000000 in
theorem drawn_frame (s : ByteArray) (W H S O : Int) (ps : List Ps) (room : Nat) (w : World) (hbI : ¬ (2048 : Int) < (s.size : Int)) (hrd : Calls Tryz.prog 21 #[.string s] w (ToldX w ⟨W, H, S, O, ps⟩ (.bool true))) (hE : frameE ⟨W, H, S, O, ps⟩ = 0) (hr : room ≤ 4096) :
    Calls Tryz.prog 9 #[.string s, .int .i64 room] w (DrawnAs ⟨W, H, S, O, ps⟩ room w) := by
  obtain ⟨hpl, hcl⟩ := comp_plan hE
  have hOrd := (planE_zero hpl).2
  have e1 : peakP ⟨W, H, S, O, ps⟩ (cOs ⟨W, H, S, O, ps⟩) (cPs ⟨W, H, S, O, ps⟩) = peakR (gpOf ⟨W, H, S, O, ps⟩).ar (cPs ⟨W, H, S, O, ps⟩) ps.length := by unfold peakP; rw [if_pos hpl]; exact peak_ref hOrd
  have h12 : ps.length ≤ 12 := by
    obtain ⟨hb, _, _⟩ := frameE_zero hE
    exact (boundsE_zero hb).2.2.2.2.2
  have HF : Hid (_) := render_fine hE
  have hwi : withinB room 0 4096 = true := by unfold withinB; simp; omega
  go_enter Tryz.func9, Tryz.ntmps9
  go_wp2_with fail
  refine hrd.mono ?_
  clear hrd
  rintro e w1 ⟨a, cap, rfl, hP1, b1⟩
  dsimp only at hP1 ⊢
  have hF2 := FBox.new w1 W H S O a ps.length cap
  have bA := (Below.refl w1.heap.size w1).alloc (Nat.le_refl _) (.cells #[.int .i64 W, .int .i64 H, .int .i64 S, .int .i64 O, .slice a ps.length cap] 35)
  have hP2 := hP1.below bA
  have hb2 := below_step b1 bA
  clear hP1 bA b1
  go_upto_region 6 with fail
  generalize w1.alloc (.cells #[.int .i64 W, .int .i64 H, .int .i64 S, .int .i64 O, .slice a ps.length cap] 35) = w2 at *
  go_upto_region 8 with (go_at_call 15; refine (within_any _ _ _ _).mono ?_; rintro e w' ⟨rfl, rfl⟩)
  have hco := fun wx (h : Below w2.heap.size w2 wx) => compileOf_any W H S O a ps.length cap ps wx (hP2.below h) hE
  have hpk := fun wx (h : Below w2.heap.size w2 wx) ov pb (hL : Ints 0 wx (some ⟨pb, 0, none⟩) ps.length (cPs ⟨W, H, S, O, ps⟩)) => peakOf_any W H S O a ps.length cap ps wx (hP2.below h) ov (some ⟨pb, 0, none⟩) ps.length ps.length (cOs ⟨W, H, S, O, ps⟩) _ hL hE hOrd
  have hre := fun wx (h : Below w2.heap.size w2 wx) => renderOf_any W H S O a ps.length cap ps wx (hP2.below h) hE
  rw [← e1] at hpk
  generalize hpe : peakP ⟨W, H, S, O, ps⟩ (cOs ⟨W, H, S, O, ps⟩) (cPs ⟨W, H, S, O, ps⟩) = pk at *
  have HPE : Hid (_) := hpe
  have hfi := HF.out
  generalize hRd : renderP ⟨W, H, S, O, ps⟩ = R at *
  have HRd : Hid (_) := hRd
  have held : ∀ wx, Below w2.heap.size w2 wx → wx.cell? ⟨w1.heap.size, 0, none⟩ = some (.int .i64 W) ∧ wx.cell? ⟨w1.heap.size, 1, none⟩ = some (.int .i64 H) ∧ wx.cell? ⟨w1.heap.size, 2, none⟩ = some (.int .i64 S) ∧ wx.cell? ⟨w1.heap.size, 3, none⟩ = some (.int .i64 O) ∧ wx.cell? ⟨w1.heap.size, 4, none⟩ = some (.slice a ps.length cap) := fun wx h => by
    obtain ⟨_, g0, g1, g2, g3, g4⟩ := hF2.below h
    exact ⟨g0, g1, g2, g3, g4⟩
  have b0x := (Below.refl w2.heap.size w2).drew
  obtain ⟨_, g0, g1, g2, g3, g4⟩ := id hF2
  clear hpe hRd HF e1 hpl hOrd hwi
  go_region_held3 (fun wx => wx.cell? ⟨w1.heap.size, 0, none⟩ = some (.int .i64 W) ∧ wx.cell? ⟨w1.heap.size, 1, none⟩ = some (.int .i64 H) ∧ wx.cell? ⟨w1.heap.size, 2, none⟩ = some (.int .i64 S) ∧ wx.cell? ⟨w1.heap.size, 3, none⟩ = some (.int .i64 O) ∧ wx.cell? ⟨w1.heap.size, 4, none⟩ = some (.slice a ps.length cap))
    ((refine held _ ?_; first | exact b0x | exact hb4 | exact hb3))
    (first
      | (go_at_call 23; (with_reducible refine (hco _ b0x).mono ?_); rintro e w3 ⟨⟨v, pb, rfl, hpb, hOv, hNm⟩, b3⟩; have hb3 := below_step b0x b3; have hIp : Ints 0 w3 (some ⟨pb, 0, none⟩) ps.length (cPs ⟨W, H, S, O, ps⟩) := nm_list hNm hcl (by show ps.length ≤ _; omega))
      | (go_at_call 22; (with_reducible refine (hpk _ hb3 _ _ hIp).mono ?_); rintro e w4 ⟨rfl, b4⟩; have hb4 := below_step hb3 b4))
  all_goals
    have hB4 := below_step hb2 hb4
    have hre4 := hre _ hb4
    obtain ⟨_, j0, j1, j2, j3, j4⟩ := id (hF2.below hb4)
    clear hco hpk hre held g0 g1 g2 g3 g4 hIp hOv hNm
    by_cases hfull : (room : Int) < pk
    · clear hre4
      go_wp2
      go_ret2
      exact ⟨.inl ⟨rfl, by rw [HPE.out]; exact hfull⟩, hB4⟩
    · have HPK : Hid (pk ≤ (room : Int)) := by show _ ≤ _; omega
      go_wp2_with fail
      refine hre4.mono ?_
      clear hre4
      rintro e w5 ⟨ia, ic, rfl, hI5, b5⟩
      have hB5 := below_step hB4 b5
      have hit := imageText_any R.W R.H ia R.ps.length ic R.ps w5 (hI5.mono (Nat.zero_le _)) hfi
      go_wp2_with fail
      refine hit.mono ?_
      clear hit
      rintro e w6 ⟨rfl, b6⟩
      go_wp2
      go_ret2
      exact ⟨.inr ⟨by rw [HRd.out]; rfl, by rw [HPE.out]; have := HPK.out; omega⟩, below_step hB5 b6⟩
theorem deskDrawn_any (s : ByteArray) (room : Int) (w : World) :
    Calls Tryz.prog 9 #[.string s, .int .i64 room] w fun e w' => e = .returned (.tuple #[.string (drawS s room), .int .i64 (drawE s room)]) ∧ Below w.heap.size w w' := by
  by_cases h : 2048 < s.size ∨ ¬ rdE (numsOf s) = 0 ∨ room < 0 ∨ 4096 < room
  · exact drawn_early s room w h
  · have hs : ¬ 2048 < s.size := fun h1 => h (.inl h1)
    have hok : rdE (numsOf s) = 0 := Classical.byContradiction fun h1 => h (.inr (.inl h1))
    have hr0 : ¬ (room < 0 ∨ 4096 < room) := fun h1 => h (.inr (.inr h1))
    obtain ⟨n, rfl⟩ : ∃ n : Nat, room = n := ⟨room.toNat, by omega⟩
    have hn : n ≤ 4096 := by omega
    obtain ⟨is, his, hfr⟩ := from_x (numsOf_bytes s) (by rw [numsOf_len]; omega) w
    rw [numsOf_str] at hfr
    obtain rfl : is = true := by
      cases is
      · rw [hok] at his; cases his
      · rfl
    exact (drawn_frame s (dF s).W (dF s).H (dF s).S (dF s).O (dF s).ps n w (by omega) hfr (rdE_zero hok) hn).mono fun _ _ h => draw_same hs hok hn h
end Go.Proofs.YtaenpgdmiaekcaaGreatDoor
/-
  LAWDESK: the law DeskDraws.
-/
namespace Go.Proofs.YtaenpgdmiaekcaaGreatDoor
set_option maxRecDepth 100000
open Go.RowKit Im Go.Maps

set_option maxHeartbeats 4000000 in
theorem deskDraws_any (W H : Int) (a : Option Addr) (len cap : Nat) (ps : List Int) (s : ByteArray) (room : Int) (w : World) (h : Ints 0 w a len ps) (_hs : s.size ≤ maxLen) (hp : Pow w) :
    Calls Tryz.prog 3 #[.agg #[.int .i64 W, .int .i64 H, .slice a len cap], .string s, .int .i64 room] w fun e w' => e = .returned (.bool true) ∧ Below w.heap.size w w' := by
  have hb0 := below_box (Below.refl w.heap.size w) (.cells #[.int .i64 W, .int .i64 H, .slice a len cap] 24)
  have hJ0 := JBox.new w W H (.slice a len cap)
  have hdr := fun wx hp => deskDraw_any s room wx hp
  have hdn := fun wx => deskDrawn_any s room wx
  generalize drawS s room = dS at *
  generalize drawE s room = dE at *
  have hI0 := h.below (Nat.le_refl _) hb0
  obtain ⟨_, c0, c1, c2⟩ := id hJ0
  go_enter Tryz.func3, Tryz.ntmps3
  go_wp2_with fail
  generalize w.alloc (.cells #[.int .i64 W, .int .i64 H, .slice a len cap] 24) = w0 at *
  have hsh := show_any W H a len cap ps w0 hI0 (hp.below hb0)
  obtain ⟨EE, hEE⟩ : ∃ EE : Int, EE = if fineB W H ps = true then 0 else 1 := ⟨_, rfl⟩
  rw [← hEE] at hsh
  have HEE : Hid (_) := hEE
  clear hEE
  refine hsh.mono ?_
  clear hsh c0 c1 c2
  rintro e w1 ⟨rfl, b1⟩
  have hb1 := below_step hb0 b1
  have hI1 := hI0.below (Nat.le_refl _) b1
  obtain ⟨_, c0, c1, c2⟩ := id (hJ0.below b1)
  have hfi := isfine_any W H cap hI1
  go_wp2_with fail
  refine hfi.mono ?_
  clear hfi c0 c1 c2
  rintro e w2 ⟨rfl, b2⟩
  have hb2 := below_step hb1 b2
  have hI2 := hI1.below (Nat.le_refl _) b2
  obtain ⟨_, c0, c1, c2⟩ := id ((hJ0.below b1).below b2)
  by_cases hf : fineB W H ps = true
  · obtain rfl : EE = 0 := by rw [HEE.out, if_pos hf]
    rw [hf]
    clear HEE
    have hit := imageText_any W H a len cap ps w2 hI2 hf
    generalize textS W H ps = T at *
    clear hf hI1 hI0 h
    go_wp2_with fail
    refine hit.mono ?_
    clear hit c0 c1 c2
    rintro e w3 ⟨rfl, b3⟩
    have hb3 := below_step hb2 b3
    go_wp2_with fail
    refine (hdr _ (hp.below hb3)).mono ?_
    rintro e w4 ⟨rfl, b4⟩
    have hb4 := below_step hb3 b4
    go_wp2_with fail
    refine (hdn _).mono ?_
    rintro e w5 ⟨rfl, b5⟩
    have hb5 := below_step hb4 b5
    go_wp2_with fail
    refine (deskBegun_any _ (hp.below hb5)).mono ?_
    rintro e w6 ⟨rfl, b6⟩
    have hb6 := below_step hb5 b6
    go_wp2
    go_ret
    exact ⟨by simp, hb6⟩
  · have hf' : fineB W H ps = false := by simpa using hf
    have eT : textS W H ps = ByteArray.empty := by unfold textS; rw [if_neg hf]
    obtain rfl : EE = 1 := by rw [HEE.out, if_neg hf]
    rw [eT, hf']
    clear HEE
    clear hf hf' eT hI1 hI0 h hI2
    go_wp2_with fail
    refine (hdr _ (hp.below hb2)).mono ?_
    rintro e w4 ⟨rfl, b4⟩
    have hb4 := below_step hb2 b4
    go_wp2_with fail
    refine (hdn _).mono ?_
    rintro e w5 ⟨rfl, b5⟩
    have hb5 := below_step hb4 b5
    go_wp2_with fail
    refine (deskBegun_any _ (hp.below hb5)).mono ?_
    rintro e w6 ⟨rfl, b6⟩
    have hb6 := below_step hb5 b6
    go_wp2
    go_ret
    exact ⟨by simp, hb6⟩
end Go.Proofs.YtaenpgdmiaekcaaGreatDoor
