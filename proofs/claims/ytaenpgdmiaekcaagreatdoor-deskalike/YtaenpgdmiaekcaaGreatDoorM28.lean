/- DeskBegun, LawDesk2, DeskTab: joined, in this order. -/
import Derived.Test.YtaenpgdmiaekcaaGreatDoorM27
import Derived.Test.YtaenpgdmiaekcaaGreatDoorM04
import Derived.Test.YtaenpgdmiaekcaaGreatDoorM02
/-
  DESKBEGUN: the law's deskBegun answers true.
-/
namespace Go.Proofs.YtaenpgdmiaekcaaGreatDoor
set_option maxRecDepth 100000
open Go.RowKit Im Go.Maps

theorem num_str {r : List Int} (h : Bytes r) : numsOf (strOfNums r) = r := str_inj (numsOf_bytes _) h (by rw [numsOf_str])
theorem glowD_wire : wireS glowF = strOfNums (frameBytes glowF) := by unfold wireS; rw [if_pos glow_ok]
theorem glowD_len : (frameBytes glowF).length = 45 := by decide
theorem glowD_size : ¬ 2048 < (wireS glowF).size := by rw [glowD_wire, ← numsOf_len, num_str (bytes_of_frame _), glowD_len]; decide
theorem glowD_nums : numsOf (wireS glowF) = frameBytes glowF := by rw [glowD_wire, num_str (bytes_of_frame _)]
theorem glowD_E : rdE (numsOf (wireS glowF)) = 0 := by
  obtain ⟨k1, _⟩ := wire_back glow_ok
  rw [glowD_nums]; unfold rdE; rw [if_pos k1]
theorem glowD_F : dF (wireS glowF) = glowF := by
  obtain ⟨k1, k2⟩ := wire_back glow_ok
  show rdF _ = _
  rw [glowD_nums]; unfold rdF; rw [if_pos k1, k2]
theorem glowD_peak : dPeak (wireS glowF) = 24 := by
  unfold dPeak
  rw [glowD_F]
  show peakP glowF (cOrd (gpOf glowF) 5) (cPl (gpOf glowF)) = 24
  rw [f_ord, f_pl]
  decide
theorem glowD_24 : drawE (wireS glowF) 24 = 0 := by
  unfold drawE
  rw [if_neg glowD_size, if_neg (fun h => h glowD_E), if_neg (by decide), glowD_peak, if_neg (by decide)]
theorem glowD_23 : drawE (wireS glowF) 23 = 7 := by
  unfold drawE
  rw [if_neg glowD_size, if_neg (fun h => h glowD_E), if_neg (by decide), glowD_peak, if_pos (by decide)]
theorem text_glow : textS 4 2 [9, 109, 209, 309, 10, 110, 210, 310] = ⟨#[57, 32, 49, 48, 57, 32, 50, 48, 57, 32, 51, 48, 57, 10, 49, 48, 32, 49, 49, 48, 32, 50, 49, 48, 32, 51, 49, 48, 10]⟩ := by
  unfold textS
  rw [if_pos (by decide)]
  simp [showN, Lib.itoa, Lib.decDigits]
theorem text_four : textS 2 2 [4, 8, 65535, 0] = ⟨#[52, 32, 56, 10, 54, 53, 53, 51, 53, 32, 48, 10]⟩ := by
  unfold textS
  rw [if_pos (by decide)]
  simp [showN, Lib.itoa, Lib.decDigits]
theorem glowD_S : drawS (wireS glowF) 24 = ⟨#[57, 32, 49, 48, 57, 32, 50, 48, 57, 32, 51, 48, 57, 10, 49, 48, 32, 49, 49, 48, 32, 50, 49, 48, 32, 51, 49, 48, 10]⟩ := by
  unfold drawS
  rw [if_pos glowD_24, glowD_F, ar_render]
  exact text_glow
set_option maxHeartbeats 4000000 in
theorem deskBegun_any (w : World) (hp : Pow w) : Calls Tryz.prog 10 #[] w fun e w' => e = .returned (.bool true) ∧ Below w.heap.size w w' := by
  have hwr := fun a cap wx hp => write_any 4 2 3 1 a 5 cap glowP wx hp
  have eo : frameE ⟨4, 2, 3, 1, glowP⟩ = 0 := glow_ok
  rw [eo] at hwr
  have hd4 := fun wx hp => deskDraw_any (wireS ⟨4, 2, 3, 1, glowP⟩) 24 wx hp
  have hd3 := fun wx hp => deskDraw_any (wireS ⟨4, 2, 3, 1, glowP⟩) 23 wx hp
  have x1 : drawS (wireS ⟨4, 2, 3, 1, glowP⟩) 24 = _ := glowD_S
  have x2 : drawE (wireS ⟨4, 2, 3, 1, glowP⟩) 24 = 0 := glowD_24
  have x3 : drawE (wireS ⟨4, 2, 3, 1, glowP⟩) 23 = 7 := glowD_23
  rw [x1, x2] at hd4
  rw [x3] at hd3
  clear x1 x2 x3 eo
  generalize wireS ⟨4, 2, 3, 1, glowP⟩ = s at *
  generalize drawS s 23 = s3 at *
  have hb := Below.refl w.heap.size w
  go_enter Tryz.func10, Tryz.ntmps10
  go_wp2_with fail
  refine (glow_any _).mono ?_
  rintro e w1 ⟨gb, rfl, hG1, b1⟩
  replace hb := below_step hb b1
  have hW := hwr _ 5 w1 hG1
  clear hwr
  go_wp2_with fail
  refine hW.mono ?_
  clear hW
  rintro e w2 ⟨rfl, b2⟩
  replace hb := below_step hb b2
  go_wp2_with fail
  refine (hd4 _ (hp.below hb)).mono ?_
  clear hd4
  rintro e w3 ⟨rfl, b3⟩
  replace hb := below_step hb b3
  go_wp2_with fail
  refine (hd3 _ (hp.below hb)).mono ?_
  clear hd3
  rintro e w4 ⟨rfl, b4⟩
  replace hb := below_step hb b4
  go_wp2_with fail
  refine (four_any _).mono ?_
  rintro e w5 ⟨rfl, hF5, b5⟩
  replace hb := below_step hb b5
  have hI5 : Ints 0 w5 (some ⟨w4.heap.size + 1, 0, none⟩) 4 [4, 8, 65535, 0] := ⟨rfl, by decide, .inr ⟨_, 0, rfl, Nat.zero_le _, hF5.hb, fun j hj => hF5.cell j hj⟩⟩
  have hsh := show_any 2 2 (some ⟨w4.heap.size + 1, 0, none⟩) 4 4 [4, 8, 65535, 0] w5 hI5 (hp.below hb)
  rw [text_four, if_pos (by decide)] at hsh
  clear hI5 hF5
  go_wp2_with fail
  refine hsh.mono ?_
  clear hsh
  rintro e w6 ⟨rfl, b6⟩
  replace hb := below_step hb b6
  go_wp2
  go_ret
  exact ⟨rfl, hb⟩
end Go.Proofs.YtaenpgdmiaekcaaGreatDoor
/-
  LAWDESK2: the law DeskAlike.
-/
namespace Go.Proofs.YtaenpgdmiaekcaaGreatDoor
set_option maxRecDepth 100000
open Go.RowKit Im Go.Maps

/-- What two rooms tell of each other. -/
theorem draw_two {s : ByteArray} {one two : Int} (h1 : drawE s one = 0) (h2 : ¬ drawE s two = 0) : drawE s two = 3 ∨ two < one := by
  unfold drawE at h1 h2 ⊢
  by_cases ha : 2048 < s.size
  · rw [if_pos ha] at h1; cases h1
  · rw [if_neg ha] at h1 h2 ⊢
    by_cases hb : rdE (numsOf s) = 0
    · rw [if_neg (fun h => h hb)] at h1 h2 ⊢
      by_cases hc : two < 0 ∨ 4096 < two
      · rw [if_pos hc]; exact .inl rfl
      · rw [if_neg hc] at h2 ⊢
        by_cases hd : one < 0 ∨ 4096 < one
        · rw [if_pos hd] at h1; cases h1
        · rw [if_neg hd] at h1
          by_cases he : one < dPeak s
          · rw [if_pos he] at h1; cases h1
          · by_cases hg : two < dPeak s
            · right; omega
            · rw [if_neg hg] at h2; exact absurd rfl h2
    · rw [if_pos hb] at h1; cases h1
theorem draw_ok {s : ByteArray} {room : Int} (h : drawE s room = 0) : ¬ 2048 < s.size ∧ rdE (numsOf s) = 0 := by
  unfold drawE at h
  by_cases ha : 2048 < s.size
  · rw [if_pos ha] at h; cases h
  · rw [if_neg ha] at h
    by_cases hb : rdE (numsOf s) = 0
    · exact ⟨ha, hb⟩
    · rw [if_pos hb] at h; cases h
set_option maxHeartbeats 4000000 in
theorem deskAlike_any (s : ByteArray) (one two : Int) (w : World) (_hs : s.size ≤ maxLen) (hp : Pow w) :
    Calls Tryz.prog 4 #[.string s, .int .i64 one, .int .i64 two] w fun e w' => e = .returned (.bool true) ∧ Below w.heap.size w w' := by
  have hd1 := deskDraw_any s one w hp
  have hd2 := fun wx hp => deskDraw_any s two wx hp
  have HT : Hid (drawE s one = 0 → ¬ drawE s two = 0 → drawE s two = 3 ∨ two < one) := fun h1 h2 => draw_two h1 h2
  have HS : Hid (∀ r, drawE s r = 0 → drawS s r = textS (renderP (dF s)).W (renderP (dF s)).H (renderP (dF s)).ps) := fun r h => by unfold drawS; rw [if_pos h]
  have HO : Hid (drawE s one = 0 → ¬ 2048 < s.size ∧ rdE (numsOf s) = 0) := fun h => draw_ok h
  go_enter Tryz.func4, Tryz.ntmps4
  go_wp2_with fail
  refine hd1.mono ?_
  clear hd1
  rintro e w1 ⟨rfl, b1⟩
  go_wp2_with fail
  refine (hd2 _ (hp.below b1)).mono ?_
  clear hd2
  rintro e w2 ⟨rfl, b2⟩
  have hb2 := below_step b1 b2
  have hbg := deskBegun_any w2 (hp.below hb2)
  by_cases h1 : drawE s one = 0
  · have h1' := h1
    by_cases h2 : drawE s two = 0
    · obtain ⟨hs, hok⟩ := HO.out h1
      have e1 := HS.out _ h1
      have e2 := HS.out _ h2
      rw [h1, h2, e1, e2]
      have hE := rdE_zero hok
      have hrd := read_x (numsOf_bytes s) (by rw [numsOf_len]; omega) w2
      rw [numsOf_str, hok] at hrd
      have HF : Hid (fineB (renderP (dF s)).W (renderP (dF s)).H (renderP (dF s)).ps = true) := render_fine hE
      have HRE : Hid (_) := renderP_E (dF s)
      have eF : rdF (numsOf s) = dF s := rfl
      rw [eF] at hrd hE
      clear e1 e2 HS HO HT hok h1 h2 h1' eF
      generalize dF s = F at *
      obtain ⟨FW, FH, FS, FO, Fp⟩ := F
      have hTx : ∃ T, T = textS (renderP ⟨FW, FH, FS, FO, Fp⟩).W (renderP ⟨FW, FH, FS, FO, Fp⟩).H (renderP ⟨FW, FH, FS, FO, Fp⟩).ps := ⟨_, rfl⟩
      obtain ⟨T, hT⟩ := hTx
      rw [← hT]
      have HT2 : Hid (_) := hT
      clear hT hbg
      go_wp2_with fail
      refine hrd.mono ?_
      clear hrd
      rintro e w3 ⟨a, c, rfl, hP3, b3⟩
      dsimp only at hP3 ⊢
      have hb3 := below_step hb2 b3
      have hF4 := FBox.new w3 FW FH FS FO a Fp.length c
      have bA := (Below.refl w3.heap.size w3).alloc (Nat.le_refl _) (.cells #[.int .i64 FW, .int .i64 FH, .int .i64 FS, .int .i64 FO, .slice a Fp.length c] 35)
      have hb4 := below_step hb3 bA
      have hre := render_any FW FH FS FO a Fp.length c Fp _ (hP3.below bA)
      have hrE := HRE.out
      rw [hE] at hrE
      have hfi := HF.out
      have hT := HT2.out
      generalize renderP ⟨FW, FH, FS, FO, Fp⟩ = R at *
      obtain ⟨_, g0, g1, g2, g3, g4⟩ := id hF4
      clear HF HRE HT2 hE hP3 hF4 bA
      go_wp2_with fail
      generalize w3.alloc (.cells #[.int .i64 FW, .int .i64 FH, .int .i64 FS, .int .i64 FO, .slice a Fp.length c] 35) = w4 at *
      refine hre.mono ?_
      clear hre g0 g1 g2 g3 g4
      rintro e w5 ⟨ia, ic, rfl, hI5, b5⟩
      have hb5 := below_step hb4 b5
      have hJ5 := JBox.new w5 R.W R.H (.slice ia R.ps.length ic)
      have bB := (Below.refl w5.heap.size w5).alloc (Nat.le_refl _) (.cells #[.int .i64 R.W, .int .i64 R.H, .slice ia R.ps.length ic] 24)
      have hb6 := below_step hb5 bB
      have hsh := show_any R.W R.H ia R.ps.length ic R.ps _ ((hI5.mono (Nat.zero_le _)).below (Nat.le_refl _) bB) (hp.below hb6)
      rw [← hT, if_pos hfi] at hsh
      rw [hrE]
      obtain ⟨_, x0, x1, x2⟩ := id hJ5
      clear hI5 hJ5 bB hfi hrE
      go_wp2_with fail
      generalize w5.alloc (.cells #[.int .i64 R.W, .int .i64 R.H, .slice ia R.ps.length ic] 24) = w6 at *
      refine hsh.mono ?_
      clear hsh x0 x1 x2
      rintro e w7 ⟨rfl, b7⟩
      have hb7 := below_step hb6 b7
      go_wp2_with fail
      refine (deskBegun_any _ (hp.below hb7)).mono ?_
      rintro e w8 ⟨rfl, b8⟩
      have hb8 := below_step hb7 b8
      go_wp2
      go_ret
      exact ⟨by simp, hb8⟩
    · have h3 := HT.out h1 h2
      rw [h1]
      clear HT HS HO h1 h1'
      generalize drawS s one = t1 at *
      generalize drawS s two = t2 at *
      generalize drawE s two = E at *
      have h2' : (E != 0) = true := by simpa using h2
      by_cases h12 : two < one
      · go_wp2_with fail
        refine hbg.mono ?_
        rintro e w3 ⟨rfl, b3⟩
        have hb3 := below_step hb2 b3
        go_wp2
        go_ret
        exact ⟨by simp, hb3⟩
      · obtain rfl : E = 3 := by rcases h3 with h | h; exact h; exact absurd h h12
        by_cases h10 : one < 0
        · go_wp2_with fail
          refine hbg.mono ?_
          rintro e w3 ⟨rfl, b3⟩
          have hb3 := below_step hb2 b3
          go_wp2
          go_ret
          exact ⟨by simp, hb3⟩
        · go_wp2_with fail
          refine hbg.mono ?_
          rintro e w3 ⟨rfl, b3⟩
          have hb3 := below_step hb2 b3
          go_wp2
          go_ret
          exact ⟨by simp, hb3⟩
  · clear HT HS HO
    generalize drawS s one = t1 at *
    generalize drawS s two = t2 at *
    generalize drawE s one = D at *
    generalize drawE s two = E at *
    have h1' : (D != 0) = true := by simpa using h1
    by_cases h12 : two < one
    · go_wp2_with fail
      refine hbg.mono ?_
      rintro e w3 ⟨rfl, b3⟩
      have hb3 := below_step hb2 b3
      go_wp2
      go_ret
      exact ⟨by simp, hb3⟩
    · go_wp2_with fail
      refine hbg.mono ?_
      rintro e w3 ⟨rfl, b3⟩
      have hb3 := below_step hb2 b3
      go_wp2
      go_ret
      exact ⟨by simp, hb3⟩
end Go.Proofs.YtaenpgdmiaekcaaGreatDoor
/-
  DESKTAB: where the table of the powers of ten lies.
-/
namespace Go.Proofs.YtaenpgdmiaekcaaGreatDoor
set_option maxRecDepth 100000
open Go.RowKit Im

theorem gPow : Tryz.prog.globalNamed "internal/strconv.uint64pow10" = some 0 := by kernel_rfl
theorem gPowType : (Tryz.prog.globals[0]?).map (·.type) = some 215 := by kernel_rfl
theorem cellsPowE : Tryz.prog.cellsOf 135 = 1 := by kernel_rfl
theorem cellsPowT : Tryz.prog.cellsOf 215 = 20 := by kernel_rfl
end Go.Proofs.YtaenpgdmiaekcaaGreatDoor
