/-
  LAWPLAN3: the walk of PlanTrue.
-/
import Derived.Test.YtfpkiimlaepnhabM15
namespace Go.Proofs.Ytfpkiimlaepnhab
set_option maxRecDepth 100000
open Go.RowKit Im Go.Maps

theorem check_zero {f : Fr} {os pl : List Int} {room : Int} (h : checkP f os pl room = 0) : planE f os pl = 0 ∧ (0 ≤ room ∧ room ≤ 4096) ∧ peakT os (lieP (gpOf f) os pl) os.length ≤ room ∧ clearP f os pl = true := by
  by_cases hE : frameE f = 0
  · by_cases hr : 0 ≤ room ∧ room ≤ 4096
    · by_cases hp : planE f os pl = 0
      · rw [check_fits hr hp] at h
        by_cases hc : peakT os (lieP (gpOf f) os pl) os.length ≤ room ∧ clearP f os pl = true
        · exact ⟨hp, hr, hc⟩
        · rw [if_neg hc] at h; cases h
      · rw [check_form hE hr hp] at h; exact absurd h hp
    · rw [check_room hE hr] at h; cases h
  · rw [check_none hE] at h; exact absurd h hE
/-- What PlanTrue asks of a plan that fits. -/
theorem fits_facts {f : Fr} {os pl : List Int} {room : Int} (h : checkP f os pl room = 0) : planE f os pl = 0 ∧ floorP f os pl ≤ peakP f os pl ∧ peakP f os pl ≤ room ∧ (1 ≤ peakP f os pl ∧ peakP f os pl ≤ 4096) ∧ checkP f os pl (peakP f os pl) = 0 ∧ checkP f os pl (peakP f os pl - 1) = 7 := by
  obtain ⟨hp, hr, hk, hc⟩ := check_zero h
  obtain ⟨hE, hO⟩ := planE_zero hp
  have hR := gp_right hE
  have e1 : peakP f os pl = peakT os (lieP (gpOf f) os pl) os.length := by unfold peakP; rw [if_pos hp]
  have e2 : floorP f os pl = floorT os (spanP (gpOf f) os) (lieP (gpOf f) os pl) os.length := by unfold floorP; rw [if_pos hp]
  have hcl : Clear os (spanP (gpOf f) os) (lieP (gpOf f) os pl) := (clearT_iff hO _ _).1 hc
  have hb := peak_bd hR hO
  have hf := floor_peak hR hO hcl
  rw [e1, e2]
  refine ⟨hp, hf, hk, ⟨hb.1, by omega⟩, ?_, ?_⟩
  · rw [check_fits ⟨by omega, by omega⟩ hp, if_pos ⟨Int.le_refl _, hc⟩]
  · rw [check_fits ⟨by omega, by omega⟩ hp, if_neg (fun h => by omega)]
set_option maxHeartbeats 4000000 in
theorem planTrue_any (W H S O : Int) (a : Option Addr) (len cap : Nat) (ps : List Ps) (oa : Option Addr) (olen ocap : Nat) (os : List Int) (pa : Option Addr) (plen pcap : Nat) (pl : List Int) (room : Int) (w : World) (hp : Passes w a len ps) (hO : Ints 0 w oa olen os) (hcap : olen ≤ ocap) (hL : Ints 0 w pa plen pl) :
    Calls Try.prog 5 #[.agg #[.int .i64 W, .int .i64 H, .int .i64 S, .int .i64 O, .slice a len cap], .agg #[.slice oa olen ocap, .slice pa plen pcap], .int .i64 room] w fun e w' => e = .returned (.bool true) ∧ Below w.heap.size w w' := by
  obtain ⟨hb0, hF0, hP0⟩ := two_boxes w W H S O a len cap (.slice oa olen ocap) (.slice pa plen pcap)
  have hck := fun room wx (h : Below w.heap.size w wx) => planCheck_any W H S O a len cap ps wx (hp.below h) oa olen ocap pa plen pcap os pl (hO.below (Nat.le_refl _) h) (hL.below (Nat.le_refl _) h) hcap room
  have hpk := fun wx (h : Below w.heap.size w wx) => planPeak_any W H S O a len cap ps wx (hp.below h) oa olen ocap pa plen pcap os pl (hO.below (Nat.le_refl _) h) (hL.below (Nat.le_refl _) h)
  have hfl := fun wx (h : Below w.heap.size w wx) => planFloor_any W H S O a len cap ps wx (hp.below h) oa olen ocap pa plen pcap os pl (hO.below (Nat.le_refl _) h) (hL.below (Nat.le_refl _) h)
  clear hp hO hL
  have hc0 := hck room _ hb0
  by_cases hC : checkP ⟨W, H, S, O, ps⟩ os pl room = 0
  · obtain ⟨f1, f2, f3, f4, f5, f6⟩ := fits_facts hC
    have hc1 := hck (peakP ⟨W, H, S, O, ps⟩ os pl)
    have hc2 := hck (peakP ⟨W, H, S, O, ps⟩ os pl - 1)
    rw [hC] at hc0
    rw [f5] at hc1
    rw [f6] at hc2
    rw [f1] at hpk hfl
    generalize peakP ⟨W, H, S, O, ps⟩ os pl = n at *
    generalize floorP ⟨W, H, S, O, ps⟩ os pl = m at *
    clear hC f1 f5 f6 hck
    have hwn : IntKind.i64.wrap (n - 1) = n - 1 := by rw [IntKind.wrap_i64]; omega
    go_enter Try.func5, Try.ntmps5
    go_wp2_with fail
    refine hc0.mono ?_
    clear hc0
    rintro e w1 ⟨rfl, b1⟩
    have hb1 := below_step hb0 b1
    have hF1 := hF0.below b1
    have hP1 := hP0.below b1
    obtain ⟨_, g0, g1, g2, g3, g4⟩ := id hF1
    obtain ⟨_, h0, h1⟩ := id hP1
    go_wp2_with fail
    refine (hpk _ hb1).mono ?_
    clear hpk
    rintro e w2 ⟨rfl, b2⟩
    have hb2 := below_step hb1 b2
    have hF2 := hF1.below b2
    have hP2 := hP1.below b2
    clear g0 g1 g2 g3 g4 h0 h1
    obtain ⟨_, g0, g1, g2, g3, g4⟩ := id hF2
    obtain ⟨_, h0, h1⟩ := id hP2
    go_wp2_with fail
    refine (hfl _ hb2).mono ?_
    clear hfl
    rintro e w3 ⟨rfl, b3⟩
    have hb3 := below_step hb2 b3
    have hF3 := hF2.below b3
    have hP3 := hP2.below b3
    clear g0 g1 g2 g3 g4 h0 h1
    obtain ⟨_, g0, g1, g2, g3, g4⟩ := id hF3
    obtain ⟨_, h0, h1⟩ := id hP3
    go_wp2_with fail
    refine (planBegun_any _).mono ?_
    rintro e w4 ⟨rfl, b4⟩
    have hb4 := below_step hb3 b4
    have hF4 := hF3.below b4
    have hP4 := hP3.below b4
    clear g0 g1 g2 g3 g4 h0 h1
    obtain ⟨_, g0, g1, g2, g3, g4⟩ := id hF4
    obtain ⟨_, h0, h1⟩ := id hP4
    go_wp2_with fail
    refine (hc1 _ hb4).mono ?_
    clear hc1
    rintro e w5 ⟨rfl, b5⟩
    have hb5 := below_step hb4 b5
    have hF5 := hF4.below b5
    have hP5 := hP4.below b5
    clear g0 g1 g2 g3 g4 h0 h1
    obtain ⟨_, g0, g1, g2, g3, g4⟩ := id hF5
    obtain ⟨_, h0, h1⟩ := id hP5
    go_wp2_with fail
    refine (hc2 _ hb5).mono ?_
    clear hc2
    rintro e w6 ⟨rfl, b6⟩
    go_wp2
    go_ret
    exact ⟨rfl, below_step hb5 b6⟩
  · clear hck hpk hfl
    generalize checkP ⟨W, H, S, O, ps⟩ os pl room = E at *
    go_enter Try.func5, Try.ntmps5
    go_wp2_with fail
    refine hc0.mono ?_
    rintro e w1 ⟨rfl, b1⟩
    go_wp2_with (go_at_call 11; refine (planBegun_any _).mono ?_; rintro e w2 ⟨rfl, b2⟩)
    go_ret
    exact ⟨rfl, below_step (below_step hb0 b1) b2⟩
end Go.Proofs.Ytfpkiimlaepnhab
