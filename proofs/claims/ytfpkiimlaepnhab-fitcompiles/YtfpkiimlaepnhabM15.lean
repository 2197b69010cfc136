/- PlanErrRef, Glow, PlanBegun, LawPlan, Open, OpenL, OpenF, OpenP: joined, in this order. -/
import Derived.Test.YtfpkiimlaepnhabM14
import Derived.Test.YtfpkiimlaepnhabM07
import Derived.Test.YtfpkiimlaepnhabM11
import Derived.Test.YtfpkiimlaepnhabM01
import Derived.ProofKit
import Derived.OpenShut
import Derived.ShutString
import Derived.ChangeOld
import Derived.Below
import Derived.Lib.SmallJoins
import Derived.Deep.Slices
import Derived.Test.YtfpkiimlaepnhabM05
/-
  PLANERRREF: the reference's PlanError and CheckPlan.
-/
namespace Go.Proofs.Ytfpkiimlaepnhab
set_option maxRecDepth 100000
open Go.RowKit Im Go.Maps

theorem ref_ord {f : Fr} (hE : frameE f = 0) (os pl : List Int) : refB (gpOf f) os pl = ordB (gpOf f) os pl := (ord_ref (gp_right hE) os pl).symm
theorem planE_if {f : Fr} (hE : frameE f = 0) (os pl : List Int) : planE f os pl = if ordB (gpOf f) os pl = true then 0 else 1 := by unfold planE; rw [if_pos hE]
/-- The frame and the plan in their boxes. -/
theorem two_boxes (w : World) (W H S O : Int) (a : Option Addr) (len cap : Nat) (v0 v1 : Value) : Below w.heap.size w ((w.alloc (.cells #[.int .i64 W, .int .i64 H, .int .i64 S, .int .i64 O, .slice a len cap] 24)).alloc (.cells #[v0, v1] 27)) ∧ FBox ((w.alloc (.cells #[.int .i64 W, .int .i64 H, .int .i64 S, .int .i64 O, .slice a len cap] 24)).alloc (.cells #[v0, v1] 27)) w.heap.size W H S O a len cap ∧ PlBox ((w.alloc (.cells #[.int .i64 W, .int .i64 H, .int .i64 S, .int .i64 O, .slice a len cap] 24)).alloc (.cells #[v0, v1] 27)) (w.heap.size + 1) v0 v1 := by
  refine ⟨below_box (below_box (Below.refl _ _) _) _, (FBox.new w W H S O a len cap).alloc _, ?_⟩
  have hP0 := PlBox.new (w.alloc (.cells #[.int .i64 W, .int .i64 H, .int .i64 S, .int .i64 O, .slice a len cap] 24)) v0 v1 27
  rwa [World.size_alloc] at hP0
set_option maxHeartbeats 2000000 in
theorem planError_any (W H S O : Int) (a : Option Addr) (len cap : Nat) (ps : List Ps) (w : World) (hp : Passes w a len ps) (oa : Option Addr) (olen ocap : Nat) (pa : Option Addr) (plen pcap : Nat) (os pl : List Int) (hO : Ints 0 w oa olen os) (hL : Ints 0 w pa plen pl) :
    Calls Try.prog 17 #[.agg #[.int .i64 W, .int .i64 H, .int .i64 S, .int .i64 O, .slice a len cap], .agg #[.slice oa olen ocap, .slice pa plen pcap]] w fun e w' => e = .returned (.int .i64 (planE ⟨W, H, S, O, ps⟩ os pl)) ∧ Below w.heap.size w w' := by
  obtain ⟨hb0, hF0, hP0⟩ := two_boxes w W H S O a len cap (.slice oa olen ocap) (.slice pa plen pcap)
  have hcf := checkFrame_any W H S O a len cap ps _ (hp.below hb0)
  by_cases hE : frameE ⟨W, H, S, O, ps⟩ = 0
  · have HPE : Hid (_) := planE_if hE os pl
    have hio := fun wx (h : Below w.heap.size w wx) => inOrder_any W H S O a len cap ps wx (hp.below h) oa olen ocap pa plen pcap os pl (hO.below (Nat.le_refl _) h) (hL.below (Nat.le_refl _) h) hE
    rw [ref_ord hE] at hio
    go_enter Try.func17, Try.ntmps17
    go_wp2_with fail
    refine hcf.mono ?_
    clear hcf
    rintro e w1 ⟨⟨vz, rfl, hZ⟩, b1⟩
    rw [hE]
    rw [hE, if_pos rfl] at hZ
    obtain ⟨za, zc, rfl⟩ := owns_slice hZ
    have hF1 := hF0.below b1
    have hP1 := hP0.below b1
    have hb1 := below_step hb0 b1
    obtain ⟨_, g0, g1, g2, g3, g4⟩ := id hF1
    obtain ⟨_, h0, h1⟩ := id hP1
    have hio1 := hio _ hb1
    generalize ordB (gpOf ⟨W, H, S, O, ps⟩) os pl = ob at hio1 HPE
    clear hZ hio hE
    cases ob with
    | true =>
      go_wp2_with (go_at_call 43; refine hio1.mono ?_; rintro e w2 ⟨rfl, b2⟩)
      go_ret
      exact ⟨by rw [HPE.out, if_pos (by trivial)]; rfl, below_step hb1 b2⟩
    | false =>
      go_wp2_with (go_at_call 43; refine hio1.mono ?_; rintro e w2 ⟨rfl, b2⟩)
      go_ret
      exact ⟨by rw [HPE.out, if_neg (by decide)]; rfl, below_step hb1 b2⟩
  · have HPE : Hid (planE ⟨W, H, S, O, ps⟩ os pl = frameE ⟨W, H, S, O, ps⟩) := by show _ = _; unfold planE; rw [if_neg hE]
    go_enter Try.func17, Try.ntmps17
    go_wp2_with fail
    refine hcf.mono ?_
    clear hcf
    rintro e w1 ⟨⟨vz, rfl, hZ⟩, b1⟩
    rw [if_neg hE] at hZ
    obtain ⟨za, zc, rfl⟩ := owns_slice hZ
    clear hZ
    generalize frameE ⟨W, H, S, O, ps⟩ = E at *
    go_wp2
    go_ret
    exact ⟨by rw [HPE.out]; rfl, below_step hb0 b1⟩
set_option maxHeartbeats 4000000 in
theorem checkPlan_any (W H S O : Int) (a : Option Addr) (len cap : Nat) (ps : List Ps) (w : World) (hp : Passes w a len ps) (oa : Option Addr) (olen ocap : Nat) (pa : Option Addr) (plen pcap : Nat) (os pl : List Int) (hO : Ints 0 w oa olen os) (hL : Ints 0 w pa plen pl) (room : Int) :
    Calls Try.prog 13 #[.agg #[.int .i64 W, .int .i64 H, .int .i64 S, .int .i64 O, .slice a len cap], .agg #[.slice oa olen ocap, .slice pa plen pcap], .int .i64 room] w fun e w' => e = .returned (.int .i64 (checkP ⟨W, H, S, O, ps⟩ os pl room)) ∧ Below w.heap.size w w' := by
  obtain ⟨hb0, hF0, hP0⟩ := two_boxes w W H S O a len cap (.slice oa olen ocap) (.slice pa plen pcap)
  have hcf := checkFrame_any W H S O a len cap ps _ (hp.below hb0)
  have hwi := fun wx => within_any room 0 4096 wx
  by_cases hE : frameE ⟨W, H, S, O, ps⟩ = 0
  · have hio := fun wx (h : Below w.heap.size w wx) => inOrder_any W H S O a len cap ps wx (hp.below h) oa olen ocap pa plen pcap os pl (hO.below (Nat.le_refl _) h) (hL.below (Nat.le_refl _) h) hE
    rw [ref_ord hE] at hio
    go_enter Try.func13, Try.ntmps13
    go_wp2_with fail
    refine hcf.mono ?_
    clear hcf
    rintro e w1 ⟨⟨vz, rfl, hZ⟩, b1⟩
    rw [hE]
    rw [hE, if_pos rfl] at hZ
    obtain ⟨za, zc, rfl⟩ := owns_slice hZ
    have hF1 := hF0.below b1
    have hP1 := hP0.below b1
    have hb1 := below_step hb0 b1
    obtain ⟨_, g0, g1, g2, g3, g4⟩ := id hF1
    obtain ⟨_, h0, h1⟩ := id hP1
    have hio1 := hio _ hb1
    clear hZ hio
    by_cases hr : 0 ≤ room ∧ room ≤ 4096
    · have e1 : withinB room 0 4096 = true := by unfold withinB; rw [decide_eq_true hr.1, decide_eq_true hr.2]; rfl
      rw [e1] at hwi
      by_cases ho : ordB (gpOf ⟨W, H, S, O, ps⟩) os pl = true
      · have hpe : planE ⟨W, H, S, O, ps⟩ os pl = 0 := by rw [planE_if hE, if_pos ho]
        have hOrd := ord_iff.1 ho
        have hfi := fun wx (h : Below w.heap.size w wx) => fitsRef_any W H S O a len cap ps wx (hp.below h) oa olen ocap pa plen pcap os pl (hO.below (Nat.le_refl _) h) (hL.below (Nat.le_refl _) h) hE hOrd room hr
        have hfr := fits_ref hOrd (spanP (gpOf ⟨W, H, S, O, ps⟩) os) hr.1
        have HC : Hid (_) := check_fits (os := os) (pl := pl) hr hpe
        rw [ho] at hio1
        have HFR : Hid (fitsR (gpOf ⟨W, H, S, O, ps⟩).ar pl (spanP (gpOf ⟨W, H, S, O, ps⟩) os) room ps.length = true ↔ peakT os (lieP (gpOf ⟨W, H, S, O, ps⟩) os pl) os.length ≤ room ∧ clearP ⟨W, H, S, O, ps⟩ os pl = true) := hfr
        generalize fitsR (gpOf ⟨W, H, S, O, ps⟩).ar pl (spanP (gpOf ⟨W, H, S, O, ps⟩) os) room ps.length = fb at hfi HFR
        clear hfr hOrd ho hpe hE e1
        cases fb with
        | true =>
          go_wp2_with (first
            | (go_at_call 42; refine (hwi _).mono ?_; rintro e w2 ⟨rfl, rfl⟩)
            | (go_at_call 43; refine hio1.mono ?_; rintro e w2 ⟨rfl, b2⟩; obtain ⟨_, p0, p1, p2, p3, p4⟩ := hF1.below b2; obtain ⟨_, q0, q1⟩ := hP1.below b2; have hb2 := below_step hb1 b2)
            | (go_at_call 44; refine (hfi _ hb2).mono ?_; rintro e w3 ⟨rfl, b3⟩))
          go_ret
          exact ⟨by rw [HC.out, if_pos (HFR.out.1 (by trivial))]; rfl, below_step hb2 b3⟩
        | false =>
          go_wp2_with (first
            | (go_at_call 42; refine (hwi _).mono ?_; rintro e w2 ⟨rfl, rfl⟩)
            | (go_at_call 43; refine hio1.mono ?_; rintro e w2 ⟨rfl, b2⟩; obtain ⟨_, p0, p1, p2, p3, p4⟩ := hF1.below b2; obtain ⟨_, q0, q1⟩ := hP1.below b2; have hb2 := below_step hb1 b2)
            | (go_at_call 44; refine (hfi _ hb2).mono ?_; rintro e w3 ⟨rfl, b3⟩))
          go_ret
          exact ⟨by rw [HC.out, if_neg (fun h => by have := HFR.out.2 h; revert this; decide)]; rfl, below_step hb2 b3⟩
      · have hpe : planE ⟨W, H, S, O, ps⟩ os pl = 1 := by rw [planE_if hE, if_neg ho]
        have HC : Hid (checkP ⟨W, H, S, O, ps⟩ os pl room = 1) := by show _ = _; rw [check_form hE hr (by rw [hpe]; decide), hpe]
        rw [eq_false_of_ne_true ho] at hio1
        clear ho hpe hE e1
        go_wp2_with (first
          | (go_at_call 42; refine (hwi _).mono ?_; rintro e w2 ⟨rfl, rfl⟩)
          | (go_at_call 43; refine hio1.mono ?_; rintro e w2 ⟨rfl, b2⟩))
        go_ret
        exact ⟨by rw [HC.out]; rfl, below_step hb1 b2⟩
    · have e1 : withinB room 0 4096 = false := by
        unfold withinB
        by_cases h : 0 ≤ room
        · rw [decide_eq_true h, decide_eq_false (fun h' => hr ⟨h, h'⟩)]; rfl
        · rw [decide_eq_false h]; rfl
      rw [e1] at hwi
      have HC : Hid (_) := check_room (os := os) (pl := pl) hE hr
      clear hE e1 hr
      go_wp2_with (go_at_call 42; refine (hwi _).mono ?_; rintro e w2 ⟨rfl, rfl⟩)
      go_ret
      exact ⟨by rw [HC.out]; rfl, hb1⟩
  · have HC : Hid (_) := check_none (os := os) (pl := pl) (room := room) hE
    go_enter Try.func13, Try.ntmps13
    go_wp2_with fail
    refine hcf.mono ?_
    clear hcf
    rintro e w1 ⟨⟨vz, rfl, hZ⟩, b1⟩
    rw [if_neg hE] at hZ
    obtain ⟨za, zc, rfl⟩ := owns_slice hZ
    clear hZ
    generalize frameE ⟨W, H, S, O, ps⟩ = E at *
    go_wp2
    go_ret
    exact ⟨by rw [HC.out]; rfl, below_step hb0 b1⟩
end Go.Proofs.Ytfpkiimlaepnhab
/-
  GLOW: the frame of five passes that the laws begin with.
-/
namespace Go.Proofs.Ytfpkiimlaepnhab
set_option maxRecDepth 100000
open Go.RowKit Im

def glowP : List Ps := [⟨2, 0, 0, 0, 100, []⟩, ⟨1, 2, 0, 0, 7, []⟩, ⟨10, 1, 0, 0, 0, []⟩, ⟨1, 2, 0, 0, 9, []⟩, ⟨4, 1, 0, 2, 0, []⟩]
def glowF : Fr := ⟨4, 2, 3, 1, glowP⟩
theorem glow_ok : frameE glowF = 0 := by decide
theorem glow_szs : szs glowF 5 = [(4, 2), (4, 2), (4, 2), (4, 2), (4, 2)] := by decide
theorem glow_srcs : srcs glowP 5 = [[], [], [0], [], [0, 3]] := by decide
theorem glow_shown : shownP glowF = 4 := by decide
theorem glow_pic : (pics glowF 5).getD 4 (noRes 0) = ⟨0, 4, 2, [9, 109, 209, 309, 10, 110, 210, 310]⟩ := by rfl
def glowC : Array Value := #[.int .i64 2, .int .i64 0, .int .i64 0, .int .i64 0, .int .i64 100, .slice none 0 0, .int .i64 1, .int .i64 2, .int .i64 0, .int .i64 0, .int .i64 7, .slice none 0 0, .int .i64 10, .int .i64 1, .int .i64 0, .int .i64 0, .int .i64 0, .slice none 0 0, .int .i64 1, .int .i64 2, .int .i64 0, .int .i64 0, .int .i64 9, .slice none 0 0, .int .i64 4, .int .i64 1, .int .i64 0, .int .i64 2, .int .i64 0, .slice none 0 0]
/-- The call's end tells the frame of five passes. -/
def ToldG (w : World) (e : Ending) (w' : World) : Prop :=
  ∃ b, e = .returned (.agg #[.int .i64 4, .int .i64 2, .int .i64 3, .int .i64 1, .slice (some ⟨b, 0, none⟩) 5 5]) ∧ Passes w' (some ⟨b, 0, none⟩) 5 glowP ∧ Below w.heap.size w w'
theorem Lights.nil (w : World) : Lights w none 0 [] := ⟨rfl, by omega, .inl rfl⟩
theorem glow_passes (w : World) : Passes (w.alloc (.cells glowC 92)) (some ⟨w.heap.size, 0, none⟩) 5 glowP := by
  have hc : ∀ o, (w.alloc (.cells glowC 92)).cell? ⟨w.heap.size, o, none⟩ = glowC[o]? := fun o => World.cell?_alloc_new w glowC 92 o
  refine ⟨rfl, by decide, .inr ⟨w.heap.size, 0, rfl, by simp, fun j hj => ⟨none, 0, 0, ?_⟩⟩⟩
  simp only [hc]
  match j, hj with
  | 0, _ => exact ⟨rfl, rfl, rfl, rfl, rfl, rfl, Lights.nil _⟩
  | 1, _ => exact ⟨rfl, rfl, rfl, rfl, rfl, rfl, Lights.nil _⟩
  | 2, _ => exact ⟨rfl, rfl, rfl, rfl, rfl, rfl, Lights.nil _⟩
  | 3, _ => exact ⟨rfl, rfl, rfl, rfl, rfl, rfl, Lights.nil _⟩
  | 4, _ => exact ⟨rfl, rfl, rfl, rfl, rfl, rfl, Lights.nil _⟩
theorem glow_any (w : World) : Calls Try.prog 36 #[] w (ToldG w) := by
  go_enter Try.func36, Try.ntmps36
  go_wp2
  refine bodyPost_ret (v := .agg #[.int .i64 4, .int .i64 2, .int .i64 3, .int .i64 1, .slice (some ⟨w.heap.size + 1, 0, none⟩) 5 5]) (by simp [results, Try.results36, go_sem]) rfl ?_
  have hg := glow_passes (w.alloc (.cells #[.int .i64 4, .int .i64 2, .int .i64 3, .int .i64 1, .slice (some ⟨w.heap.size + 1, 0, none⟩) 5 5] 24))
  rw [World.size_alloc] at hg
  exact ⟨_, rfl, hg, below_box (below_box (Below.refl _ _) _) _⟩
end Go.Proofs.Ytfpkiimlaepnhab
/-
  PLANBEGUN: what the laws of plans begin with comes out true.
-/
namespace Go.Proofs.Ytfpkiimlaepnhab
set_option maxRecDepth 100000
open Go.RowKit Im Go.Maps

abbrev oOs : List Int := [3, 0, 4]
abbrev oPl : List Int := [8, -1, -1, 0, 20]
theorem ints_new {w : World} {ps : List Int} (hl : ps.length ≤ 4096) (t : TypeId) : Ints 0 (w.alloc (.cells (ps.map (Value.int .i64)).toArray t)) (some ⟨w.heap.size, 0, none⟩) ps.length ps := by
  refine ⟨rfl, by omega, .inr ⟨w.heap.size, 0, rfl, Nat.zero_le _, by simp, fun j hj => ?_⟩⟩
  rw [World.cell?_alloc_new]
  simp [List.getD, hj]
def ToldO (w : World) (e : Ending) (w' : World) : Prop :=
  ∃ b c, e = .returned (.agg #[.slice (some ⟨b, 0, none⟩) 3 3, .slice (some ⟨c, 0, none⟩) 5 5]) ∧ Ints 0 w' (some ⟨b, 0, none⟩) 3 oOs ∧ Ints 0 w' (some ⟨c, 0, none⟩) 5 oPl ∧ Below w.heap.size w w'
theorem other_any (w : World) : Calls Try.prog 37 #[] w (ToldO w) := by
  go_enter Try.func37, Try.ntmps37
  go_wp2
  refine bodyPost_ret (v := .agg #[.slice (some ⟨w.heap.size + 1, 0, none⟩) 3 3, .slice (some ⟨w.heap.size + 2, 0, none⟩) 5 5]) (by simp [results, Try.results37, go_sem]) rfl ?_
  have h1 := ints_new (w := w.alloc (.cells #[.slice (some ⟨w.heap.size + 1, 0, none⟩) 3 3, .slice (some ⟨w.heap.size + 2, 0, none⟩) 5 5] 27)) (ps := oOs) (by decide) 3
  rw [World.size_alloc] at h1
  have h2 := ints_new (w := (w.alloc (.cells #[.slice (some ⟨w.heap.size + 1, 0, none⟩) 3 3, .slice (some ⟨w.heap.size + 2, 0, none⟩) 5 5] 27)).alloc (.cells (oOs.map (Value.int .i64)).toArray 3)) (ps := oPl) (by decide) 3
  rw [World.size_alloc, World.size_alloc] at h2
  exact ⟨_, _, rfl, h1.below (Nat.le_refl _) ((Below.refl _ _).alloc (Nat.le_refl _) _), h2, below_box (below_box (below_box (Below.refl _ _) _) _) _⟩
theorem o_plan : planE glowF oOs oPl = 0 := by decide
theorem o_peak : peakP glowF oOs oPl = 28 := by decide
theorem o_floor : floorP glowF oOs oPl = 24 := by decide
theorem o_check : checkP glowF oOs oPl 28 = 0 := by decide
theorem o_full : checkP glowF oOs oPl 27 = 7 := by decide
theorem o_none : checkP glowF [] [] 28 = 1 := by decide
theorem o_span3 : spanP (gpOf glowF) oOs 3 = (0, 2) := by decide
theorem o_span1 : spanP (gpOf glowF) oOs 1 = (-1, -1) := by decide
set_option maxHeartbeats 8000000 in
theorem planBegun_any (w : World) : Calls Try.prog 11 #[] w fun e w' => e = .returned (.bool true) ∧ Below w.heap.size w w' := by
  have hsp := fun a cap wx hp b c h1 h2 => spans_any 4 2 3 1 a 5 cap glowP wx hp (some ⟨b, 0, none⟩) 3 3 (some ⟨c, 0, none⟩) 5 5 oOs oPl h1 h2
  have hpk := fun a cap wx hp b c h1 h2 => planPeak_any 4 2 3 1 a 5 cap glowP wx hp (some ⟨b, 0, none⟩) 3 3 (some ⟨c, 0, none⟩) 5 5 oOs oPl h1 h2
  have hfl := fun a cap wx hp b c h1 h2 => planFloor_any 4 2 3 1 a 5 cap glowP wx hp (some ⟨b, 0, none⟩) 3 3 (some ⟨c, 0, none⟩) 5 5 oOs oPl h1 h2
  have hc1 := fun a cap wx hp b c h1 h2 => planCheck_any 4 2 3 1 a 5 cap glowP wx hp (some ⟨b, 0, none⟩) 3 3 (some ⟨c, 0, none⟩) 5 5 oOs oPl h1 h2 (by decide) 28
  have hc2 := fun a cap wx hp b c h1 h2 => planCheck_any 4 2 3 1 a 5 cap glowP wx hp (some ⟨b, 0, none⟩) 3 3 (some ⟨c, 0, none⟩) 5 5 oOs oPl h1 h2 (by decide) 27
  have hc3 := fun a cap wx hp => planCheck_any 4 2 3 1 a 5 cap glowP wx hp none 0 0 none 0 0 [] [] (Ints.nil 0 wx) (Ints.nil 0 wx) (by decide) 28
  have e1 : planE ⟨4, 2, 3, 1, glowP⟩ oOs oPl = 0 := o_plan
  have e2 : peakP ⟨4, 2, 3, 1, glowP⟩ oOs oPl = 28 := o_peak
  have e3 : floorP ⟨4, 2, 3, 1, glowP⟩ oOs oPl = 24 := o_floor
  have e4 : checkP ⟨4, 2, 3, 1, glowP⟩ oOs oPl 28 = 0 := o_check
  have e5 : checkP ⟨4, 2, 3, 1, glowP⟩ oOs oPl 27 = 7 := o_full
  have e6 : checkP ⟨4, 2, 3, 1, glowP⟩ [] [] 28 = 1 := o_none
  have e7 : spanP (gpOf ⟨4, 2, 3, 1, glowP⟩) oOs 3 = (0, 2) := o_span3
  have e8 : spanP (gpOf ⟨4, 2, 3, 1, glowP⟩) oOs 1 = (-1, -1) := o_span1
  have hlen : glowP.length = 5 := rfl
  rw [e1, e2] at hpk
  rw [e1, e3] at hfl
  rw [e4] at hc1
  rw [e5] at hc2
  rw [e6] at hc3
  rw [hlen] at hsp
  go_enter Try.func11, Try.ntmps11
  go_wp2_with fail
  refine (glow_any _).mono ?_
  rintro e w1 ⟨b1, rfl, hp1, bel1⟩
  go_wp2_with fail
  refine (other_any _).mono ?_
  rintro e w2 ⟨c2, d2, rfl, i2, j2, bel2⟩
  have hb2 := below_step bel1 bel2
  go_wp2_with fail
  refine (hsp _ _ _ (hp1.below bel2) _ _ i2 j2).mono ?_
  rintro e w3 ⟨⟨_, sb, rfl, hsb, hSp⟩ | ⟨h0, _⟩, bel3⟩
  case inr => exact absurd e1 h0
  replace hb2 := below_step hb2 bel3
  clear hsp hp1 i2 j2 bel1 bel2 bel3
  go_wp2_with fail
  refine (glow_any _).mono ?_
  rintro e w4 ⟨b4, rfl, hp4, bel4⟩
  replace hb2 := below_step hb2 bel4
  replace hSp := hSp.below bel4 hSp.lt bel4.size
  go_wp2_with fail
  refine (other_any _).mono ?_
  rintro e w5 ⟨c5, d5, rfl, i5, j5, bel5⟩
  replace hb2 := below_step hb2 bel5
  replace hSp := hSp.below bel5 hSp.lt bel5.size
  go_wp2_with fail
  refine (hpk _ _ _ (hp4.below bel5) _ _ i5 j5).mono ?_
  rintro e w6 ⟨rfl, bel6⟩
  replace hb2 := below_step hb2 bel6
  replace hSp := hSp.below bel6 hSp.lt bel6.size
  clear hpk hp4 i5 j5 bel4 bel5 bel6
  go_wp2_with fail
  refine (glow_any _).mono ?_
  rintro e w7 ⟨b7, rfl, hp7, bel7⟩
  replace hb2 := below_step hb2 bel7
  replace hSp := hSp.below bel7 hSp.lt bel7.size
  go_wp2_with fail
  refine (other_any _).mono ?_
  rintro e w8 ⟨c8, d8, rfl, i8, j8, bel8⟩
  replace hb2 := below_step hb2 bel8
  replace hSp := hSp.below bel8 hSp.lt bel8.size
  go_wp2_with fail
  refine (hfl _ _ _ (hp7.below bel8) _ _ i8 j8).mono ?_
  rintro e w9 ⟨rfl, bel9⟩
  replace hb2 := below_step hb2 bel9
  replace hSp := hSp.below bel9 hSp.lt bel9.size
  clear hfl hp7 i8 j8 bel7 bel8 bel9
  go_wp2_with fail
  refine (glow_any _).mono ?_
  rintro e wA ⟨bA, rfl, hpA, belA⟩
  replace hb2 := below_step hb2 belA
  replace hSp := hSp.below belA hSp.lt belA.size
  go_wp2_with fail
  refine (other_any _).mono ?_
  rintro e wB ⟨cB, dB, rfl, iB, jB, belB⟩
  replace hb2 := below_step hb2 belB
  replace hSp := hSp.below belB hSp.lt belB.size
  go_wp2_with fail
  refine (hc1 _ _ _ (hpA.below belB) _ _ iB jB).mono ?_
  rintro e wC ⟨rfl, belC⟩
  replace hb2 := below_step hb2 belC
  replace hSp := hSp.below belC hSp.lt belC.size
  clear hc1 hpA iB jB belA belB belC
  go_wp2_with fail
  refine (glow_any _).mono ?_
  rintro e wD ⟨bD, rfl, hpD, belD⟩
  replace hb2 := below_step hb2 belD
  replace hSp := hSp.below belD hSp.lt belD.size
  go_wp2_with fail
  refine (other_any _).mono ?_
  rintro e wE ⟨cE, dE, rfl, iE, jE, belE⟩
  replace hb2 := below_step hb2 belE
  replace hSp := hSp.below belE hSp.lt belE.size
  go_wp2_with fail
  refine (hc2 _ _ _ (hpD.below belE) _ _ iE jE).mono ?_
  rintro e wF ⟨rfl, belF⟩
  replace hb2 := below_step hb2 belF
  replace hSp := hSp.below belF hSp.lt belF.size
  clear hc2 hpD iE jE belD belE belF
  go_wp2_with fail
  refine (glow_any _).mono ?_
  rintro e wG ⟨bG, rfl, hpG, belG⟩
  replace hb2 := below_step hb2 belG
  replace hSp := hSp.below belG hSp.lt belG.size
  go_wp2_with fail
  refine (hc3 _ _ _ hpG).mono ?_
  rintro e wH ⟨rfl, belH⟩
  replace hb2 := below_step hb2 belH
  replace hSp := hSp.below belH hSp.lt belH.size
  clear hc3 hpG belG belH
  have x0 := hSp.c0 3 (by decide)
  have x1 := hSp.c1 3 (by decide)
  have y0 := hSp.c0 1 (by decide)
  have y1 := hSp.c1 1 (by decide)
  rw [e7] at x0 x1
  rw [e8] at y0 y1
  simp only [Nat.reduceMul, Nat.reduceAdd] at x0 x1 y0 y1
  clear e1 e2 e3 e4 e5 e6 e7 e8 hSp hlen
  go_wp2
  go_ret
  exact ⟨rfl, hb2⟩
end Go.Proofs.Ytfpkiimlaepnhab
/-
  LAWPLAN: the walk of PlanChecks.
-/
namespace Go.Proofs.Ytfpkiimlaepnhab
set_option maxRecDepth 100000
open Go.RowKit Im Go.Maps

/-- The seven cells of a frame and a plan in their boxes. -/
theorem seven {W0 : World} {b : Nat} {W H S O : Int} {a : Option Addr} {len cap : Nat} {v0 v1 : Value} (hF : FBox W0 b W H S O a len cap) (hP : PlBox W0 (b + 1) v0 v1) {w' : World} (h : Below W0.heap.size W0 w') :
    w'.cell? ⟨b, 0, none⟩ = some (.int .i64 W) ∧ w'.cell? ⟨b, 1, none⟩ = some (.int .i64 H) ∧ w'.cell? ⟨b, 2, none⟩ = some (.int .i64 S) ∧ w'.cell? ⟨b, 3, none⟩ = some (.int .i64 O) ∧ w'.cell? ⟨b, 4, none⟩ = some (.slice a len cap) ∧ w'.cell? ⟨b + 1, 0, none⟩ = some v0 ∧ w'.cell? ⟨b + 1, 1, none⟩ = some v1 := by
  obtain ⟨_, c0, c1, c2, c3, c4⟩ := hF.below h
  obtain ⟨_, p0, p1⟩ := hP.below h
  exact ⟨c0, c1, c2, c3, c4, p0, p1⟩
set_option maxHeartbeats 4000000 in
theorem planChecks_any (W H S O : Int) (a : Option Addr) (len cap : Nat) (ps : List Ps) (oa : Option Addr) (olen ocap : Nat) (os : List Int) (pa : Option Addr) (plen pcap : Nat) (pl : List Int) (room : Int) (w : World) (hp : Passes w a len ps) (hO : Ints 0 w oa olen os) (hcap : olen ≤ ocap) (hL : Ints 0 w pa plen pl) :
    Calls Try.prog 3 #[.agg #[.int .i64 W, .int .i64 H, .int .i64 S, .int .i64 O, .slice a len cap], .agg #[.slice oa olen ocap, .slice pa plen pcap], .int .i64 room] w fun e w' => e = .returned (.bool true) ∧ Below w.heap.size w w' := by
  obtain ⟨hb0, hF0, hP0⟩ := two_boxes w W H S O a len cap (.slice oa olen ocap) (.slice pa plen pcap)
  have hck := fun wx (h : Below w.heap.size w wx) => planCheck_any W H S O a len cap ps wx (hp.below h) oa olen ocap pa plen pcap os pl (hO.below (Nat.le_refl _) h) (hL.below (Nat.le_refl _) h) hcap room
  have hcr := fun wx (h : Below w.heap.size w wx) => checkPlan_any W H S O a len cap ps wx (hp.below h) oa olen ocap pa plen pcap os pl (hO.below (Nat.le_refl _) h) (hL.below (Nat.le_refl _) h) room
  generalize checkP ⟨W, H, S, O, ps⟩ os pl room = E at hck hcr
  clear hp hO hL
  go_enter Try.func3, Try.ntmps3
  go_wp2
  generalize (w.alloc (.cells #[.int .i64 W, .int .i64 H, .int .i64 S, .int .i64 O, .slice a len cap] 24)).alloc (.cells #[.slice oa olen ocap, .slice pa plen pcap] 27) = W0 at *
  have hd := (Below.refl W0.heap.size W0).drew
  go_region_held3 (fun w' => w'.cell? ⟨w.heap.size, 0, none⟩ = some (.int .i64 W) ∧ w'.cell? ⟨w.heap.size, 1, none⟩ = some (.int .i64 H) ∧ w'.cell? ⟨w.heap.size, 2, none⟩ = some (.int .i64 S) ∧ w'.cell? ⟨w.heap.size, 3, none⟩ = some (.int .i64 O) ∧ w'.cell? ⟨w.heap.size, 4, none⟩ = some (.slice a len cap) ∧ w'.cell? ⟨w.heap.size + 1, 0, none⟩ = some (.slice oa olen ocap) ∧ w'.cell? ⟨w.heap.size + 1, 1, none⟩ = some (.slice pa plen pcap))
    (first | exact seven hF0 hP0 hd | exact seven hF0 hP0 B1 | exact seven hF0 hP0 B2 | exact seven hF0 hP0 B3)
    (first
      | (go_at_call 11; (with_reducible refine (planBegun_any _).mono ?_); rintro e w1 ⟨rfl, b1⟩; have B1 := hd.trans b1)
      | (go_at_call 12; (with_reducible refine (hck _ (below_step hb0 B1)).mono ?_); rintro e w2 ⟨rfl, b2⟩; have B2 := below_step B1 b2)
      | (go_at_call 13; (with_reducible refine (hcr _ (below_step hb0 B2)).mono ?_); rintro e w3 ⟨rfl, b3⟩; have B3 := below_step B2 b3))
  go_wp2
  go_ret
  exact ⟨rfl, below_step hb0 B3⟩
end Go.Proofs.Ytfpkiimlaepnhab
/-
  OPEN: how an image that comes in as an argument is read.
-/
namespace Go.Proofs.Ytfpkiimlaepnhab
set_option maxRecDepth 100000
open Go.ChangeShapes Go.WideShapes Go.ChangeAt Go.RowKit Go.Joins

theorem own : ownKnob Try.prog.godebug = none := by kernel_rfl
theorem laidOut : laidOutB Try.prog = true := by kernel_rfl
theorem cellsInt : Try.prog.cellsOf 3 = 1 := by kernel_rfl

theorem addr_add (b off j : Nat) : (⟨b, off, none⟩ : Addr).add j = ⟨b, off + j, none⟩ := by
  simp only [Addr.add]; split <;> simp_all
/-- A slice of numbers that came in. -/
theorem ints_in {H : Type} {enc : TypeId × Value → H} {W : World} {n : Nat} {v : Value} {y : DataW H × List MemPlace} (h : DataW.trod enc Try.prog W 0 (fun _ => true) true n 25 [v] = some y) :
    ∃ a len cap ps, v = .slice a len cap ∧ Ints 0 W a len ps := by
  rcases open_ints Try.underlying25 Try.underlying3 cellsInt h with ⟨hcs, _⟩ | ⟨x, l, c, zs, hcs, _, hl, hm, hz, _, hcell, _⟩
  · simp at hcs
    exact ⟨none, 0, 0, [], hcs, Ints.nil 0 W⟩
  · simp at hcs
    simp at hz
    unfold maxLen at hm
    refine ⟨some x, l, c, zs.take l, hcs, by simp; omega, by omega, ?_⟩
    by_cases h0 : l = 0
    · subst h0; exact .inl (by simp)
    · right
      obtain ⟨b, off, spot⟩ := x
      have hc := hcell 0 (by omega)
      have hspot : spot = none := by simpa [Addr.add] using World.cell?_spot hc
      subst hspot
      refine ⟨b, off, rfl, Nat.zero_le _, ?_, fun j hj => ?_⟩
      · have := World.block_lt_of_cell? W _ hc
        simpa [Addr.add] using this
      · have := hcell j (by omega)
        rw [List.getD_eq_getElem?_getD, List.getElem?_take_of_lt hj]
        rw [addr_add] at this
        simpa using this

end Go.Proofs.Ytfpkiimlaepnhab
/-
  OPENL: how a list of lights that comes in as an argument is read.
-/
namespace Go.Proofs.Ytfpkiimlaepnhab
set_option maxRecDepth 100000
open Go.ChangeShapes Go.WideShapes Go.ChangeAt Go.RowKit Go.Joins Go.Deep

instance : Inhabited Lt := ⟨Lt.zero⟩
theorem cellsLight : Try.prog.cellsOf 105 = 4 := by kernel_rfl
theorem list4 {cs : List Value} (h : cs.length = 4) : ∃ c0 c1 c2 c3, cs = [c0, c1, c2, c3] := by
  match cs, h with
  | [c0, c1, c2, c3], _ => exact ⟨c0, c1, c2, c3, rfl⟩
/-- A light's four cells, read. -/
theorem light_cells {H : Type} {enc : TypeId × Value → H} {W : World} {n : Nat} {cs : List Value} {y : DataW H × List MemPlace} (h : DataW.trod enc Try.prog W 0 (fun _ => true) true n 105 cs = some y) :
    ∃ l : Lt, cs = [.int .i64 l.X, .int .i64 l.Y, .int .i64 l.R, .int .i64 l.P] := by
  obtain ⟨y0, y1, y2, y3, n, _, hl, h0, h1, h2, h3⟩ := trod_struct4 Try.underlying105 h
  rw [cellsLight] at hl
  obtain ⟨c0, c1, c2, c3, rfl⟩ := list4 hl
  simp only [cellsInt] at h0 h1 h2 h3
  obtain ⟨x0, e0, _, _⟩ := DataW.trod_int Try.underlying3 h0
  obtain ⟨x1, e1, _, _⟩ := DataW.trod_int Try.underlying3 h1
  obtain ⟨x2, e2, _, _⟩ := DataW.trod_int Try.underlying3 h2
  obtain ⟨x3, e3, _, _⟩ := DataW.trod_int Try.underlying3 h3
  simp at e0 e1 e2 e3
  subst e0 e1 e2 e3
  exact ⟨⟨x0, x1, x2, x3⟩, rfl⟩
/-- A list of lights that came in. -/
theorem lights_in {H : Type} {enc : TypeId × Value → H} {W : World} {b0 : Nat} {v : Value} {d : DataW H} {p : List MemPlace} (hv : Value.okWide Try.prog W .any b0 90 v) (h : DataW.Trod enc Try.prog W 0 (fun _ => true) true 90 v d p) :
    ∃ a len cap ls, v = .slice a len cap ∧ Lights W a len ls := by
  obtain ⟨a0, len, cap, rfl⟩ := okWide_slice Try.underlying90 hv
  obtain ⟨n, hn⟩ := h
  have hcs : (Value.slice a0 len cap).cells.toList = [.slice a0 len cap] := rfl
  rw [hcs] at hn
  rcases open_slice Try.underlying90 hn with ⟨e, _⟩ | ⟨x, l, c, m, n', D, Pl, e, _, hl, hm, hmm, _, hx⟩
  · simp at e
    obtain ⟨rfl, rfl, rfl⟩ := e
    exact ⟨none, 0, 0, [], rfl, rfl, by omega, .inl rfl⟩
  · simp at e
    obtain ⟨rfl, rfl, rfl⟩ := e
    simp at hmm
    subst hmm
    rw [cellsLight] at hx
    have each : ∀ i, i < m → ∃ lt : Lt, ∀ j, j < 4 → W.cell? (x.add (i * 4) |>.add j) = [Value.int .i64 lt.X, .int .i64 lt.Y, .int .i64 lt.R, .int .i64 lt.P][j]? := fun i hi => by
      obtain ⟨cs', h1, h2⟩ := hx i hi
      obtain ⟨lt, rfl⟩ := light_cells h2
      exact ⟨lt, (World.cells?_some h1).2.2⟩
    obtain ⟨L, hL⟩ := choose_lt each
    unfold maxLen at hm
    refine ⟨some x, len, m, (List.range len).map L, rfl, by simp, by omega, ?_⟩
    by_cases h0 : len = 0
    · subst h0; exact .inl rfl
    · right
      have h00 := hL 0 (by omega) 0 (by omega)
      obtain ⟨b, off, spot⟩ := x
      have hspot : spot = none := by simpa [Addr.add] using World.cell?_spot (h00.trans rfl)
      subst hspot
      refine ⟨b, off, rfl, ?_, fun j hj => ?_⟩
      · have := World.block_lt_of_cell? W _ (h00.trans rfl)
        simpa [Addr.add] using this
      · have g : ((List.range len).map L).getD j Lt.zero = L j := by simp [List.getD_eq_getElem?_getD, hj]
        rw [g]
        have q := hL j (by omega)
        simp only [addr_add] at q
        exact ⟨q 0 (by omega), q 1 (by omega), q 2 (by omega), q 3 (by omega)⟩
end Go.Proofs.Ytfpkiimlaepnhab
/-
  OPENF: how a frame that comes in as an argument is read.
-/
namespace Go.Proofs.Ytfpkiimlaepnhab
set_option maxRecDepth 100000
open Go.ChangeShapes Go.WideShapes Go.ChangeAt Go.RowKit Go.Joins Go.Deep

instance : Inhabited Ps := ⟨Ps.zero⟩
theorem cellsPass : Try.prog.cellsOf 92 = 6 := by kernel_rfl
theorem cellsFrame : Try.prog.cellsOf 24 = 5 := by kernel_rfl
theorem cellsLights : Try.prog.cellsOf 90 = 1 := by kernel_rfl
theorem cellsPasses : Try.prog.cellsOf 22 = 1 := by kernel_rfl
theorem list5 {α : Type} {cs : List α} (h : cs.length = 5) : ∃ c0 c1 c2 c3 c4, cs = [c0, c1, c2, c3, c4] := by
  match cs, h with
  | [c0, c1, c2, c3, c4], _ => exact ⟨c0, c1, c2, c3, c4, rfl⟩
theorem list6 {α : Type} {cs : List α} (h : cs.length = 6) : ∃ c0 c1 c2 c3 c4 c5, cs = [c0, c1, c2, c3, c4, c5] := by
  match cs, h with
  | [c0, c1, c2, c3, c4, c5], _ => exact ⟨c0, c1, c2, c3, c4, c5, rfl⟩
/-- A slice of lights, read. -/
theorem lights_of {H : Type} {enc : TypeId × Value → H} {W : World} {n : Nat} {v : Value} {y : DataW H × List MemPlace} (h : DataW.trod enc Try.prog W 0 (fun _ => true) true n 90 [v] = some y) :
    ∃ a len cap ls, v = .slice a len cap ∧ Lights W a len ls := by
  rcases open_slice Try.underlying90 h with ⟨e, _⟩ | ⟨x, l, c, m, n', D, Pl, e, _, hl, hm, hmm, _, hx⟩
  · simp at e
    subst e
    exact ⟨none, 0, 0, [], rfl, rfl, by omega, .inl rfl⟩
  · simp at e
    subst e
    simp at hmm
    subst hmm
    rw [cellsLight] at hx
    have each : ∀ i, i < m → ∃ lt : Lt, ∀ j, j < 4 → W.cell? (x.add (i * 4) |>.add j) = [Value.int .i64 lt.X, .int .i64 lt.Y, .int .i64 lt.R, .int .i64 lt.P][j]? := fun i hi => by
      obtain ⟨cs', h1, h2⟩ := hx i hi
      obtain ⟨lt, rfl⟩ := light_cells h2
      exact ⟨lt, (World.cells?_some h1).2.2⟩
    obtain ⟨L, hL⟩ := choose_lt each
    unfold maxLen at hm
    refine ⟨some x, l, m, (List.range l).map L, rfl, by simp, by omega, ?_⟩
    by_cases h0 : l = 0
    · subst h0; exact .inl rfl
    · right
      have h00 := hL 0 (by omega) 0 (by omega)
      obtain ⟨b, off, spot⟩ := x
      have hspot : spot = none := by simpa [Addr.add] using World.cell?_spot (h00.trans rfl)
      subst hspot
      refine ⟨b, off, rfl, ?_, fun j hj => ?_⟩
      · have := World.block_lt_of_cell? W _ (h00.trans rfl)
        simpa [Addr.add] using this
      · have g : ((List.range l).map L).getD j Lt.zero = L j := by simp [List.getD_eq_getElem?_getD, hj]
        rw [g]
        have q := hL j (by omega)
        simp only [addr_add] at q
        exact ⟨q 0 (by omega), q 1 (by omega), q 2 (by omega), q 3 (by omega)⟩
/-- A pass's six cells, read. -/
theorem pass_cells {H : Type} {enc : TypeId × Value → H} {W : World} {n : Nat} {cs : List Value} {y : DataW H × List MemPlace} (h : DataW.trod enc Try.prog W 0 (fun _ => true) true n 92 cs = some y) :
    ∃ p : Ps, ∃ la ll lc, cs = [.int .i64 p.Op, .int .i64 p.To, .int .i64 p.A, .int .i64 p.B, .int .i64 p.K, .slice la ll lc] ∧ Lights W la ll p.ls := by
  obtain ⟨xs, n, _, _, hl, hlen, hf⟩ := DataW.trod_struct Try.underlying92 h
  rw [cellsPass] at hl
  obtain ⟨c0, c1, c2, c3, c4, c5, rfl⟩ := list6 hl
  obtain ⟨y0, y1, y2, y3, y4, y5, rfl⟩ := list6 (by simpa using hlen)
  have h0 : DataW.trod enc Try.prog W 0 (fun _ => true) true n 3 [c0] = some y0 := by have := hf 0 _ rfl; simpa [cellsInt] using this
  have h1 : DataW.trod enc Try.prog W 0 (fun _ => true) true n 3 [c1] = some y1 := by have := hf 1 _ rfl; simpa [cellsInt] using this
  have h2 : DataW.trod enc Try.prog W 0 (fun _ => true) true n 3 [c2] = some y2 := by have := hf 2 _ rfl; simpa [cellsInt] using this
  have h3 : DataW.trod enc Try.prog W 0 (fun _ => true) true n 3 [c3] = some y3 := by have := hf 3 _ rfl; simpa [cellsInt] using this
  have h4 : DataW.trod enc Try.prog W 0 (fun _ => true) true n 3 [c4] = some y4 := by have := hf 4 _ rfl; simpa [cellsInt] using this
  have h5 : DataW.trod enc Try.prog W 0 (fun _ => true) true n 90 [c5] = some y5 := by have := hf 5 _ rfl; simpa [cellsLights] using this
  obtain ⟨x0, e0, _, _⟩ := DataW.trod_int Try.underlying3 h0
  obtain ⟨x1, e1, _, _⟩ := DataW.trod_int Try.underlying3 h1
  obtain ⟨x2, e2, _, _⟩ := DataW.trod_int Try.underlying3 h2
  obtain ⟨x3, e3, _, _⟩ := DataW.trod_int Try.underlying3 h3
  obtain ⟨x4, e4, _, _⟩ := DataW.trod_int Try.underlying3 h4
  obtain ⟨la, ll, lc, ls, e5, hL⟩ := lights_of h5
  simp at e0 e1 e2 e3 e4
  subst e0 e1 e2 e3 e4 e5
  exact ⟨⟨x0, x1, x2, x3, x4, ls⟩, la, ll, lc, rfl, hL⟩
/-- A slice of passes, read. -/
theorem passes_of {H : Type} {enc : TypeId × Value → H} {W : World} {n : Nat} {v : Value} {y : DataW H × List MemPlace} (h : DataW.trod enc Try.prog W 0 (fun _ => true) true n 22 [v] = some y) :
    ∃ a len cap ps, v = .slice a len cap ∧ Passes W a len ps := by
  rcases open_slice Try.underlying22 h with ⟨e, _⟩ | ⟨x, l, c, m, n', D, Pl, e, _, hl, hm, hmm, _, hx⟩
  · simp at e
    subst e
    exact ⟨none, 0, 0, [], rfl, rfl, by omega, .inl rfl⟩
  · simp at e
    subst e
    simp at hmm
    subst hmm
    rw [cellsPass] at hx
    have each : ∀ i, i < m → ∃ p : Ps, ∃ la ll lc, (∀ j, j < 6 → W.cell? (x.add (i * 6) |>.add j) = [Value.int .i64 p.Op, .int .i64 p.To, .int .i64 p.A, .int .i64 p.B, .int .i64 p.K, .slice la ll lc][j]?) ∧ Lights W la ll p.ls := fun i hi => by
      obtain ⟨cs', h1, h2⟩ := hx i hi
      obtain ⟨p, la, ll, lc, rfl, hL⟩ := pass_cells h2
      exact ⟨p, la, ll, lc, (World.cells?_some h1).2.2, hL⟩
    obtain ⟨L, hL⟩ := choose_lt each
    unfold maxLen at hm
    refine ⟨some x, l, m, (List.range l).map L, rfl, by simp, by omega, ?_⟩
    by_cases h0 : l = 0
    · subst h0; exact .inl rfl
    · right
      obtain ⟨la0, ll0, lc0, g0, _⟩ := hL 0 (by omega)
      have h00 := g0 0 (by omega)
      obtain ⟨b, off, spot⟩ := x
      have hspot : spot = none := by simpa [Addr.add] using World.cell?_spot (h00.trans rfl)
      subst hspot
      refine ⟨b, off, rfl, ?_, fun j hj => ?_⟩
      · have := World.block_lt_of_cell? W _ (h00.trans rfl)
        simpa [Addr.add] using this
      · have g : ((List.range l).map L).getD j Ps.zero = L j := by simp [List.getD_eq_getElem?_getD, hj]
        rw [g]
        obtain ⟨la, ll, lc, q, hLi⟩ := hL j (by omega)
        simp only [addr_add] at q
        exact ⟨la, ll, lc, q 0 (by omega), q 1 (by omega), q 2 (by omega), q 3 (by omega), q 4 (by omega), q 5 (by omega), hLi⟩
/-- A frame that came in. -/
theorem frame_in {H : Type} {enc : TypeId × Value → H} {W : World} {b0 : Nat} {v : Value} {d : DataW H} {p : List MemPlace} (hv : Value.okWide Try.prog W .any b0 24 v) (h : DataW.Trod enc Try.prog W 0 (fun _ => true) true 24 v d p) :
    ∃ w h s o a len cap ps, v = .agg #[.int .i64 w, .int .i64 h, .int .i64 s, .int .i64 o, .slice a len cap] ∧ Passes W a len ps := by
  obtain ⟨cs, rfl, hsz⟩ := okWide_struct Try.underlying24 hv
  obtain ⟨n, hn⟩ := h
  obtain ⟨xs, n, _, _, hl, hlen, hf⟩ := DataW.trod_struct Try.underlying24 hn
  rw [cellsFrame] at hsz
  obtain ⟨c0, c1, c2, c3, c4, hcs⟩ := list5 (cs := cs.toList) (by simpa using hsz)
  have hcs' : cs = #[c0, c1, c2, c3, c4] := by rw [← Array.toArray_toList (xs := cs), hcs]
  subst hcs'
  obtain ⟨y0, y1, y2, y3, y4, rfl⟩ := list5 (by simpa using hlen)
  have h0 : DataW.trod enc Try.prog W 0 (fun _ => true) true n 3 [c0] = some y0 := by have := hf 0 _ rfl; simpa [cellsInt, Value.cells] using this
  have h1 : DataW.trod enc Try.prog W 0 (fun _ => true) true n 3 [c1] = some y1 := by have := hf 1 _ rfl; simpa [cellsInt, Value.cells] using this
  have h2 : DataW.trod enc Try.prog W 0 (fun _ => true) true n 3 [c2] = some y2 := by have := hf 2 _ rfl; simpa [cellsInt, Value.cells] using this
  have h3 : DataW.trod enc Try.prog W 0 (fun _ => true) true n 3 [c3] = some y3 := by have := hf 3 _ rfl; simpa [cellsInt, Value.cells] using this
  have h4 : DataW.trod enc Try.prog W 0 (fun _ => true) true n 22 [c4] = some y4 := by have := hf 4 _ rfl; simpa [cellsPasses, Value.cells] using this
  obtain ⟨x0, e0, _, _⟩ := DataW.trod_int Try.underlying3 h0
  obtain ⟨x1, e1, _, _⟩ := DataW.trod_int Try.underlying3 h1
  obtain ⟨x2, e2, _, _⟩ := DataW.trod_int Try.underlying3 h2
  obtain ⟨x3, e3, _, _⟩ := DataW.trod_int Try.underlying3 h3
  obtain ⟨a, len, cap, ps, e4, hP⟩ := passes_of h4
  simp at e0 e1 e2 e3
  subst e0 e1 e2 e3 e4
  exact ⟨x0, x1, x2, x3, a, len, cap, ps, rfl, hP⟩
end Go.Proofs.Ytfpkiimlaepnhab
/-
  OPENP: how a plan that comes in as an argument is read.
-/
namespace Go.Proofs.Ytfpkiimlaepnhab
set_option maxRecDepth 100000
open Go.ChangeShapes Go.WideShapes Go.ChangeAt Go.RowKit Go.Joins

theorem cellsPlan : Try.prog.cellsOf 27 = 2 := by kernel_rfl
/-- A slice of numbers that came in, and its capacity. -/
theorem ints_cap {H : Type} {enc : TypeId × Value → H} {W : World} {n : Nat} {v : Value} {y : DataW H × List MemPlace} (h : DataW.trod enc Try.prog W 0 (fun _ => true) true n 25 [v] = some y) :
    ∃ a len cap ps, v = .slice a len cap ∧ len ≤ cap ∧ Ints 0 W a len ps := by
  obtain ⟨a, len, cap, ps, e, hi⟩ := ints_in h
  refine ⟨a, len, cap, ps, e, ?_, hi⟩
  rcases open_ints Try.underlying25 Try.underlying3 cellsInt h with ⟨hcs, _⟩ | ⟨x, l, c, zs, hcs, _, hl, _⟩
  · simp at hcs
    rw [hcs] at e
    injection e with e1 e2 e3
    omega
  · simp at hcs
    rw [hcs] at e
    injection e with e1 e2 e3
    omega
/-- A plan that came in. -/
theorem plan_in {H : Type} {enc : TypeId × Value → H} {W : World} {b0 : Nat} {v : Value} {d : DataW H} {p : List MemPlace} (hv : Value.okWide Try.prog W .any b0 27 v) (h : DataW.Trod enc Try.prog W 0 (fun _ => true) true 27 v d p) :
    ∃ oa olen ocap os pa plen pcap pl, v = .agg #[.slice oa olen ocap, .slice pa plen pcap] ∧ Ints 0 W oa olen os ∧ olen ≤ ocap ∧ Ints 0 W pa plen pl := by
  obtain ⟨v0, v1, y0, y1, n, rfl, _, _, h0, h1⟩ := open_agg2 Try.underlying27 (by kernel_rfl) cellsPlan hv h
  obtain ⟨oa, olen, ocap, os, e0, hc, hO⟩ := ints_cap h0
  obtain ⟨pa, plen, pcap, pl, e1, _, hL⟩ := ints_cap h1
  subst e0 e1
  exact ⟨oa, olen, ocap, os, pa, plen, pcap, pl, rfl, hO, hc, hL⟩
end Go.Proofs.Ytfpkiimlaepnhab
