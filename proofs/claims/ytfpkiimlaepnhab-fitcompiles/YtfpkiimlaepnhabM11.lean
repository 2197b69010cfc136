/- PlanCalls, StepRef, OrdRef: joined, in this order. -/
import Derived.Test.YtfpkiimlaepnhabM10
import Derived.Test.YtfpkiimlaepnhabM07
/-
  PLANCALLS: plan.Check, Spans, Peak and Floor.
-/
namespace Go.Proofs.Ytfpkiimlaepnhab
set_option maxRecDepth 100000
open Go.RowKit Im Go.Maps

def peakP (f : Fr) (os pl : List Int) : Int := if planE f os pl = 0 then peakT os (lieP (gpOf f) os pl) os.length else 0
def floorP (f : Fr) (os pl : List Int) : Int := if planE f os pl = 0 then floorT os (spanP (gpOf f) os) (lieP (gpOf f) os pl) os.length else 0
def clearP (f : Fr) (os pl : List Int) : Bool := clearT os (spanP (gpOf f) os) (lieP (gpOf f) os pl) os.length
/-- The error of a plan in an arena of room numbers. -/
def checkP (f : Fr) (os pl : List Int) (room : Int) : Int :=
  if frameE f = 0 then
    if 0 ≤ room ∧ room ≤ 4096 then
      if planE f os pl = 0 then
        if peakP f os pl ≤ room ∧ clearP f os pl = true then 0 else 7
      else planE f os pl
    else 3
  else frameE f
/-- A layout in a box of its own. -/
theorem Box3.alloc {w : World} {b : Nat} {v0 v1 v2 : Value} (h : Box3 w b v0 v1 v2) (o : Obj) : Box3 (w.alloc o) b v0 v1 v2 := h.below ((Below.refl _ _).alloc (Nat.le_refl _) _)
/-- What a plan in order gives peak, floor and clash. -/
structure Facts (f : Fr) (os pl : List Int) : Prop where
  hN : f.ps.length ≤ 12
  inN : ∀ o ∈ os, 0 ≤ o ∧ o < f.ps.length
  ol : os.length ≤ 12
  lie : ∀ k, k < f.ps.length → (0 ≤ (lieP (gpOf f) os pl k).1 ∧ (lieP (gpOf f) os pl k).1 ≤ 4096) ∧ (0 ≤ (lieP (gpOf f) os pl k).2 ∧ (lieP (gpOf f) os pl k).2 ≤ 4352) ∧ (lieP (gpOf f) os pl k).1 ≤ (lieP (gpOf f) os pl k).2 ∧ (lieP (gpOf f) os pl k).2 ≤ (lieP (gpOf f) os pl k).1 + 255
theorem facts {f : Fr} {os pl : List Int} (h : planE f os pl = 0) : Facts f os pl := by
  obtain ⟨hE, hO⟩ := planE_zero h
  have hR := gp_right hE
  exact ⟨hR.hN.2, hO.inN, Nat.le_trans hO.olen hR.hN.2, fun k hk => lie_bd hR hO hk⟩
set_option maxHeartbeats 1000000 in
theorem spans_any (W H S O : Int) (a : Option Addr) (len cap : Nat) (ps : List Ps) (w : World) (hp : Passes w a len ps) (oa : Option Addr) (olen ocap : Nat) (pa : Option Addr) (plen pcap : Nat) (os pl : List Int) (hO : Ints 0 w oa olen os) (hL : Ints 0 w pa plen pl) :
    Calls Try.prog 14 #[.agg #[.int .i64 W, .int .i64 H, .int .i64 S, .int .i64 O, .slice a len cap], .agg #[.slice oa olen ocap, .slice pa plen pcap]] w fun e w' =>
      ((planE ⟨W, H, S, O, ps⟩ os pl = 0 ∧ ∃ sb, e = .returned (.tuple #[.slice (some ⟨sb, 0, none⟩) ps.length ps.length, .int .i64 0]) ∧ w.heap.size ≤ sb ∧ Sp w' sb ps.length (spanP (gpOf ⟨W, H, S, O, ps⟩) os)) ∨ (planE ⟨W, H, S, O, ps⟩ os pl ≠ 0 ∧ e = .returned (.tuple #[.slice none 0 0, .int .i64 (planE ⟨W, H, S, O, ps⟩ os pl)]))) ∧ Below w.heap.size w w' := by
  have hb0 := below_box (below_box (Below.refl w.heap.size w) (.cells #[.int .i64 W, .int .i64 H, .int .i64 S, .int .i64 O, .slice a len cap] 24)) (.cells #[.slice oa olen ocap, .slice pa plen pcap] 27)
  have hla := lay_any W H S O a len cap ps _ (hp.below hb0) oa olen ocap pa plen pcap os pl (hO.below (Nat.le_refl _) hb0) (hL.below (Nat.le_refl _) hb0)
  go_enter Try.func14, Try.ntmps14
  go_wp2_with fail
  refine hla.mono ?_
  clear hla
  rintro e w1 ⟨⟨hE, sb, lb, rfl, hsb, hSp, hLi⟩ | ⟨hE, rfl⟩, b1⟩
  · have HE : Hid (_) := hE
    have hb1 := below_step hb0 b1
    have hsz := hb0.size
    dsimp only at hSp hLi ⊢
    clear hE hLi
    go_wp2
    go_ret2
    exact ⟨.inl ⟨HE.out, sb, rfl, by omega, hSp.alloc _⟩, below_box hb1 _⟩
  · have HE : Hid (_) := hE
    have hb1 := below_step hb0 b1
    clear hE
    go_wp2
    go_ret2
    exact ⟨.inr ⟨HE.out, rfl⟩, below_box hb1 _⟩
set_option maxHeartbeats 1000000 in
theorem planPeak_any (W H S O : Int) (a : Option Addr) (len cap : Nat) (ps : List Ps) (w : World) (hp : Passes w a len ps) (oa : Option Addr) (olen ocap : Nat) (pa : Option Addr) (plen pcap : Nat) (os pl : List Int) (hO : Ints 0 w oa olen os) (hL : Ints 0 w pa plen pl) :
    Calls Try.prog 15 #[.agg #[.int .i64 W, .int .i64 H, .int .i64 S, .int .i64 O, .slice a len cap], .agg #[.slice oa olen ocap, .slice pa plen pcap]] w fun e w' =>
      e = .returned (.tuple #[.int .i64 (peakP ⟨W, H, S, O, ps⟩ os pl), .int .i64 (planE ⟨W, H, S, O, ps⟩ os pl)]) ∧ Below w.heap.size w w' := by
  have hb0 := below_box (below_box (Below.refl w.heap.size w) (.cells #[.int .i64 W, .int .i64 H, .int .i64 S, .int .i64 O, .slice a len cap] 24)) (.cells #[.slice oa olen ocap, .slice pa plen pcap] 27)
  have hla := lay_any W H S O a len cap ps _ (hp.below hb0) oa olen ocap pa plen pcap os pl (hO.below (Nat.le_refl _) hb0) (hL.below (Nat.le_refl _) hb0)
  go_enter Try.func15, Try.ntmps15
  go_wp2_with fail
  refine hla.mono ?_
  clear hla
  rintro e w1 ⟨⟨hE, sb, lb, rfl, hsb, hSp, hLi⟩ | ⟨hE, rfl⟩, b1⟩
  · have hF := facts hE
    have HE : Hid (_) := hE
    have hb1 := below_step hb0 b1
    have HP : Hid (peakP ⟨W, H, S, O, ps⟩ os pl = peakT os (lieP (gpOf ⟨W, H, S, O, ps⟩) os pl) os.length) := by show _ = _; unfold peakP; rw [if_pos hE]
    have bA := (Below.refl w1.heap.size w1).alloc (Nat.le_refl _) (.cells #[.slice oa olen ocap, .slice (some ⟨sb, 0, none⟩) ps.length ps.length, .slice (some ⟨lb, 0, none⟩) ps.length ps.length] 70)
    have hO1 := (hO.below (Nat.le_refl _) hb1).below (Nat.le_refl _) bA
    have hS1 := hSp.alloc (.cells #[.slice oa olen ocap, .slice (some ⟨sb, 0, none⟩) ps.length ps.length, .slice (some ⟨lb, 0, none⟩) ps.length ps.length] 70)
    have hL1 := hLi.alloc (.cells #[.slice oa olen ocap, .slice (some ⟨sb, 0, none⟩) ps.length ps.length, .slice (some ⟨lb, 0, none⟩) ps.length ps.length] 70)
    have hpk := peak_any hF.inN hF.ol (fun k hk => (hF.lie k hk).2.1) ocap (.slice (some ⟨sb, 0, none⟩) ps.length ps.length) hO1 hL1
    dsimp only at hpk
    have hb2 := below_step hb1 bA
    dsimp only
    clear hE hLi hSp hF hO1 hL1 hS1
    go_wp2_with (go_at_call 40; refine hpk.mono ?_; rintro e w2 ⟨rfl, b2⟩)
    go_ret2
    exact ⟨by rw [HP.out, HE.out]; rfl, below_step hb2 b2⟩
  · have HE : Hid (_) := hE
    have hb1 := below_step hb0 b1
    have HP : Hid (peakP ⟨W, H, S, O, ps⟩ os pl = 0) := by show _ = _; unfold peakP; rw [if_neg hE]
    have bA := (Below.refl w1.heap.size w1).alloc (Nat.le_refl _) (.cells #[.slice none 0 0, .slice none 0 0, .slice none 0 0] 70)
    have hb2 := below_step hb1 bA
    clear hE
    go_wp2_with (go_at_call 40; refine (peak_nil _).mono ?_; rintro e w2 ⟨rfl, b2⟩)
    go_ret2
    exact ⟨by rw [HP.out]; rfl, below_step hb2 b2⟩
set_option maxHeartbeats 1000000 in
theorem planFloor_any (W H S O : Int) (a : Option Addr) (len cap : Nat) (ps : List Ps) (w : World) (hp : Passes w a len ps) (oa : Option Addr) (olen ocap : Nat) (pa : Option Addr) (plen pcap : Nat) (os pl : List Int) (hO : Ints 0 w oa olen os) (hL : Ints 0 w pa plen pl) :
    Calls Try.prog 16 #[.agg #[.int .i64 W, .int .i64 H, .int .i64 S, .int .i64 O, .slice a len cap], .agg #[.slice oa olen ocap, .slice pa plen pcap]] w fun e w' =>
      e = .returned (.tuple #[.int .i64 (floorP ⟨W, H, S, O, ps⟩ os pl), .int .i64 (planE ⟨W, H, S, O, ps⟩ os pl)]) ∧ Below w.heap.size w w' := by
  have hb0 := below_box (below_box (Below.refl w.heap.size w) (.cells #[.int .i64 W, .int .i64 H, .int .i64 S, .int .i64 O, .slice a len cap] 24)) (.cells #[.slice oa olen ocap, .slice pa plen pcap] 27)
  have hla := lay_any W H S O a len cap ps _ (hp.below hb0) oa olen ocap pa plen pcap os pl (hO.below (Nat.le_refl _) hb0) (hL.below (Nat.le_refl _) hb0)
  go_enter Try.func16, Try.ntmps16
  go_wp2_with fail
  refine hla.mono ?_
  clear hla
  rintro e w1 ⟨⟨hE, sb, lb, rfl, hsb, hSp, hLi⟩ | ⟨hE, rfl⟩, b1⟩
  · have hF := facts hE
    have HE : Hid (_) := hE
    have hb1 := below_step hb0 b1
    have HP : Hid (floorP ⟨W, H, S, O, ps⟩ os pl = floorT os (spanP (gpOf ⟨W, H, S, O, ps⟩) os) (lieP (gpOf ⟨W, H, S, O, ps⟩) os pl) os.length) := by show _ = _; unfold floorP; rw [if_pos hE]
    have bA := (Below.refl w1.heap.size w1).alloc (Nat.le_refl _) (.cells #[.slice oa olen ocap, .slice (some ⟨sb, 0, none⟩) ps.length ps.length, .slice (some ⟨lb, 0, none⟩) ps.length ps.length] 70)
    have hO1 := (hO.below (Nat.le_refl _) hb1).below (Nat.le_refl _) bA
    have hS1 := hSp.alloc (.cells #[.slice oa olen ocap, .slice (some ⟨sb, 0, none⟩) ps.length ps.length, .slice (some ⟨lb, 0, none⟩) ps.length ps.length] 70)
    have hL1 := hLi.alloc (.cells #[.slice oa olen ocap, .slice (some ⟨sb, 0, none⟩) ps.length ps.length, .slice (some ⟨lb, 0, none⟩) ps.length ps.length] 70)
    have hpk := floor_any hF.inN hF.ol (fun k hk => ⟨⟨(hF.lie k hk).1.1, (hF.lie k hk).2.1.2⟩, (hF.lie k hk).2.2⟩) ocap hO1 hS1 hL1
    dsimp only at hpk
    have hb2 := below_step hb1 bA
    dsimp only
    clear hE hLi hSp hF hO1 hL1 hS1
    go_wp2_with (go_at_call 45; refine hpk.mono ?_; rintro e w2 ⟨rfl, b2⟩)
    go_ret2
    exact ⟨by rw [HP.out, HE.out]; rfl, below_step hb2 b2⟩
  · have HE : Hid (_) := hE
    have hb1 := below_step hb0 b1
    have HP : Hid (floorP ⟨W, H, S, O, ps⟩ os pl = 0) := by show _ = _; unfold floorP; rw [if_neg hE]
    have bA := (Below.refl w1.heap.size w1).alloc (Nat.le_refl _) (.cells #[.slice none 0 0, .slice none 0 0, .slice none 0 0] 70)
    have hb2 := below_step hb1 bA
    clear hE
    go_wp2_with (go_at_call 45; refine (floor_nil _).mono ?_; rintro e w2 ⟨rfl, b2⟩)
    go_ret2
    exact ⟨by rw [HP.out]; rfl, below_step hb2 b2⟩
theorem check_none {f : Fr} {os pl : List Int} {room : Int} (h : frameE f ≠ 0) : checkP f os pl room = frameE f := by unfold checkP; rw [if_neg h]
theorem check_room {f : Fr} {os pl : List Int} {room : Int} (h : frameE f = 0) (hr : ¬ (0 ≤ room ∧ room ≤ 4096)) : checkP f os pl room = 3 := by unfold checkP; rw [if_pos h, if_neg hr]
theorem check_form {f : Fr} {os pl : List Int} {room : Int} (h : frameE f = 0) (hr : 0 ≤ room ∧ room ≤ 4096) (hp : planE f os pl ≠ 0) : checkP f os pl room = planE f os pl := by unfold checkP; rw [if_pos h, if_pos hr, if_neg hp]
theorem check_fits {f : Fr} {os pl : List Int} {room : Int} (hr : 0 ≤ room ∧ room ≤ 4096) (hp : planE f os pl = 0) : checkP f os pl room = if peakT os (lieP (gpOf f) os pl) os.length ≤ room ∧ clearP f os pl = true then 0 else 7 := by
  unfold checkP
  rw [if_pos (planE_zero hp).1, if_pos hr, if_pos hp]
  unfold peakP
  rw [if_pos hp]
set_option maxHeartbeats 4000000 in
theorem planCheck_any (W H S O : Int) (a : Option Addr) (len cap : Nat) (ps : List Ps) (w : World) (hp : Passes w a len ps) (oa : Option Addr) (olen ocap : Nat) (pa : Option Addr) (plen pcap : Nat) (os pl : List Int) (hO : Ints 0 w oa olen os) (hL : Ints 0 w pa plen pl) (hcap : olen ≤ ocap) (room : Int) :
    Calls Try.prog 12 #[.agg #[.int .i64 W, .int .i64 H, .int .i64 S, .int .i64 O, .slice a len cap], .agg #[.slice oa olen ocap, .slice pa plen pcap], .int .i64 room] w fun e w' =>
      e = .returned (.int .i64 (checkP ⟨W, H, S, O, ps⟩ os pl room)) ∧ Below w.heap.size w w' := by
  have hb0 := below_box (below_box (Below.refl w.heap.size w) (.cells #[.int .i64 W, .int .i64 H, .int .i64 S, .int .i64 O, .slice a len cap] 24)) (.cells #[.slice oa olen ocap, .slice pa plen pcap] 27)
  have hF0 := (FBox.new w W H S O a len cap).alloc (.cells #[.slice oa olen ocap, .slice pa plen pcap] 27)
  have hP0 := PlBox.new (w.alloc (.cells #[.int .i64 W, .int .i64 H, .int .i64 S, .int .i64 O, .slice a len cap] 24)) (.slice oa olen ocap) (.slice pa plen pcap) 27
  rw [World.size_alloc] at hP0
  have hfc := frameCheck_any W H S O a len cap ps _ (hp.below hb0)
  by_cases hE : frameE ⟨W, H, S, O, ps⟩ = 0
  · rw [hE] at hfc
    go_enter Try.func12, Try.ntmps12
    go_wp2_with fail
    refine hfc.mono ?_
    clear hfc
    rintro e w1 ⟨rfl, b1⟩
    have hF1 := hF0.below b1
    have hP1 := hP0.below b1
    have hb1 := below_step hb0 b1
    obtain ⟨_, g0, g1, g2, g3, g4⟩ := id hF1
    obtain ⟨_, h0, h1⟩ := id hP1
    have hla := lay_any W H S O a len cap ps _ (hp.below hb1) oa olen ocap pa plen pcap os pl (hO.below (Nat.le_refl _) hb1) (hL.below (Nat.le_refl _) hb1)
    by_cases hr1 : room < 0
    · have HC : Hid (_) := check_room (os := os) (pl := pl) (room := room) hE (by omega)
      clear hE hla
      go_wp2
      go_ret
      exact ⟨by rw [HC.out]; rfl, hb1⟩
    · by_cases hr2 : 4096 < room
      · have HC : Hid (_) := check_room (os := os) (pl := pl) (room := room) hE (by omega)
        clear hE hla
        go_wp2
        go_ret
        exact ⟨by rw [HC.out]; rfl, hb1⟩
      · have HC1 : Hid (_) := check_form (os := os) (pl := pl) (room := room) hE ⟨by omega, by omega⟩
        have HC2 : Hid (_) := check_fits (f := ⟨W, H, S, O, ps⟩) (os := os) (pl := pl) (room := room) ⟨by omega, by omega⟩
        clear hE
        go_wp2_with fail
        refine hla.mono ?_
        clear hla
        rintro e w2 ⟨⟨hE, sb, lb, rfl, hsb, hSp, hLi⟩ | ⟨hE, rfl⟩, b2⟩
        · have hF := facts hE
          have hb2 := below_step hb1 b2
          have bA := (Below.refl w2.heap.size w2).alloc (Nat.le_refl _) (.cells #[.slice oa olen ocap, .slice (some ⟨sb, 0, none⟩) ps.length ps.length, .slice (some ⟨lb, 0, none⟩) ps.length ps.length] 70)
          have hO1 := (hO.below (Nat.le_refl _) hb2).below (Nat.le_refl _) bA
          have hS1 := hSp.alloc (.cells #[.slice oa olen ocap, .slice (some ⟨sb, 0, none⟩) ps.length ps.length, .slice (some ⟨lb, 0, none⟩) ps.length ps.length] 70)
          have hL1 := hLi.alloc (.cells #[.slice oa olen ocap, .slice (some ⟨sb, 0, none⟩) ps.length ps.length, .slice (some ⟨lb, 0, none⟩) ps.length ps.length] 70)
          have hpk := peak_any hF.inN hF.ol (fun k hk => (hF.lie k hk).2.1) ocap (.slice (some ⟨sb, 0, none⟩) ps.length ps.length) hO1 hL1
          have hcl := fun wx (h : Below (w2.alloc (.cells #[.slice oa olen ocap, .slice (some ⟨sb, 0, none⟩) ps.length ps.length, .slice (some ⟨lb, 0, none⟩) ps.length ps.length] 70)).heap.size (w2.alloc (.cells #[.slice oa olen ocap, .slice (some ⟨sb, 0, none⟩) ps.length ps.length, .slice (some ⟨lb, 0, none⟩) ps.length ps.length] 70)) wx) => clash_any hF.inN hF.ol ocap hcap (hO1.below (Nat.le_refl _) h) (hS1.below h hS1.lt h.size) (hL1.below h hL1.lt h.size)
          dsimp only at hpk hcl
          have hb3 := below_step hb2 bA
          have hB := Box3.new w2 (.slice oa olen ocap) (.slice (some ⟨sb, 0, none⟩) ps.length ps.length) (.slice (some ⟨lb, 0, none⟩) ps.length ps.length) 70
          dsimp only
          have HC3 : Hid (checkP ⟨W, H, S, O, ps⟩ os pl room = if peakT os (lieP (gpOf ⟨W, H, S, O, ps⟩) os pl) os.length ≤ room ∧ clearT os (spanP (gpOf ⟨W, H, S, O, ps⟩) os) (lieP (gpOf ⟨W, H, S, O, ps⟩) os pl) os.length = true then 0 else 7) := HC2.out hE
          generalize peakT os (lieP (gpOf ⟨W, H, S, O, ps⟩) os pl) os.length = pk at *
          generalize clearT os (spanP (gpOf ⟨W, H, S, O, ps⟩) os) (lieP (gpOf ⟨W, H, S, O, ps⟩) os pl) os.length = cl at *
          clear hE hLi hSp hF hO1 hL1 hS1 g0 g1 g2 g3 g4 h0 h1 HC1 HC2
          by_cases hk : room < pk
          · go_wp2_with (go_at_call 40; refine hpk.mono ?_; rintro e w3 ⟨rfl, b3⟩)
            go_ret
            exact ⟨by rw [HC3.out, if_neg (fun h => by omega)]; rfl, below_step hb3 b3⟩
          · cases cl with
            | true =>
              go_wp2_with (first
                | (go_at_call 40; refine hpk.mono ?_; rintro e w3 ⟨rfl, b3⟩; obtain ⟨_, k0, k1, k2⟩ := hB.below b3)
                | (go_at_call 41; refine (hcl _ b3).mono ?_; rintro e w4 ⟨rfl, b4⟩))
              go_ret
              exact ⟨by rw [HC3.out, if_pos ⟨by omega, by trivial⟩]; rfl, below_step (below_step hb3 b3) b4⟩
            | false =>
              go_wp2_with (first
                | (go_at_call 40; refine hpk.mono ?_; rintro e w3 ⟨rfl, b3⟩; obtain ⟨_, k0, k1, k2⟩ := hB.below b3)
                | (go_at_call 41; refine (hcl _ b3).mono ?_; rintro e w4 ⟨rfl, b4⟩))
              go_ret
              exact ⟨by rw [HC3.out, if_neg (fun h => by cases h.2)]; rfl, below_step (below_step hb3 b3) b4⟩
        · have HE : Hid (_) := hE
          have hb2 := below_step hb1 b2
          have hne : ¬ planE ⟨W, H, S, O, ps⟩ os pl = 0 := hE
          have HC3 : Hid (_) := HC1.out hE
          clear hE HC1 HC2 g0 g1 g2 g3 g4 h0 h1
          generalize planE ⟨W, H, S, O, ps⟩ os pl = E at *
          go_wp2
          go_ret
          exact ⟨by rw [HC3.out]; rfl, below_box hb2 _⟩
  · have HC : Hid (_) := check_none (os := os) (pl := pl) (room := room) hE
    generalize frameE ⟨W, H, S, O, ps⟩ = E at *
    go_enter Try.func12, Try.ntmps12
    go_wp2_with fail
    refine hfc.mono ?_
    clear hfc
    rintro e w1 ⟨rfl, b1⟩
    go_wp2
    go_ret
    exact ⟨by rw [HC.out]; rfl, below_step hb0 b1⟩
end Go.Proofs.Ytfpkiimlaepnhab
/-
  STEPREF: the reference's stepOf, area and meet.
-/
namespace Go.Proofs.Ytfpkiimlaepnhab
set_option maxRecDepth 100000
open Go.RowKit Im Go.Maps

theorem stepAt_take_none {os : List Int} {p : Int} {k : Nat} (hk : k < os.length) (h : p ∉ os.take k) (e : os.getD k 0 = p) : stepAt os p = k := by
  induction os generalizing k with
  | nil => simp at hk
  | cons o l ih =>
    cases k with
    | zero => simp at e; subst e; simp [stepAt]
    | succ k =>
      rw [List.take_succ_cons, List.mem_cons, not_or] at h
      rw [List.getD_cons_succ] at e
      have := ih (k := k) (by simpa using hk) h.2 e
      unfold stepAt
      rw [if_neg (fun x => h.1 x.symm), this, if_neg (by omega)]
      omega
set_option maxHeartbeats 1000000 in
theorem stepOf_any {a : Option Addr} {len : Nat} (cap : Nat) {os : List Int} {base : Nat} {w : World} (hI : Ints base w a len os) (p : Int) :
    Calls Try.prog 47 #[.slice a len cap, .int .i64 p] w fun e w' => e = .returned (.int .i64 (stepAt os p)) ∧ w = w' := by
  obtain rfl := hI.leng
  have hbig := hI.big
  go_enter Try.func47, Try.ntmps47
  go_wp2
  go_loop [5] (fun i => ∃ k : Nat, k ≤ os.length ∧ i = .int .i64 k ∧ p ∉ os.take k) (fun i => os.length - (intOf i).toNat)
  case atStart => exact ⟨0, Nat.zero_le _, rfl, by simp⟩
  case round =>
    obtain ⟨k, hk, rfl, hno⟩ := hrel
    by_cases hlt : k < os.length
    · obtain ⟨b, off, rfl, hcx⟩ := hI.nth hlt
      have HT : Hid (os.getD k 0 = p → stepAt os p = k) := fun e => stepAt_take_none hlt hno e
      have HN : Hid (¬ os.getD k 0 = p → p ∉ os.take (k + 1)) := fun e h => ((mem_take_succ hlt p).1 h).elim hno e
      generalize os.getD k 0 = n at hcx HT HN
      clear hno
      by_cases hn : n = p
      · subst hn
        go_wp2
        go_ret
        exact ⟨by rw [HT.out (by trivial)]; rfl, rfl⟩
      · go_wp2
        go_round
        case rel => exact ⟨k + 1, by omega, by go_num, HN.out hn⟩
        case measure => simp [intOf]; omega
    · have hke : k = os.length := by omega
      subst hke
      rw [List.take_length] at hno
      have hs : stepAt os p = -1 := by
        have h1 := stepAt_bd os p
        have h2 : ¬ 0 ≤ stepAt os p := fun h => hno (stepAt_mem.1 h)
        omega
      have HS : Hid (_) := hs
      clear hs hno
      go_wp2
      go_ret
      exact ⟨by rw [HS.out]; rfl, rfl⟩
theorem area_any (zw zh : Int) (w : World) (hw : IntKind.i64.wrap (zw * zh) = zw * zh) : Calls Try.prog 49 #[.agg #[.int .i64 zw, .int .i64 zh]] w fun e w' => e = .returned (.int .i64 (zw * zh)) ∧ Below w.heap.size w w' := by
  go_enter Try.func49, Try.ntmps49
  go_wp2
  go_ret
  exact ⟨rfl, below_box (Below.refl _ _) _⟩
theorem meetRef_any (a b c d : Int) (w : World) : Calls Try.prog 50 #[.agg #[.int .i64 a, .int .i64 b], .agg #[.int .i64 c, .int .i64 d]] w fun e w' => e = .returned (.bool (meetB (a, b) (c, d))) ∧ Below w.heap.size w w' := by
  by_cases h1 : a ≤ d
  · by_cases h2 : c ≤ b
    · go_enter Try.func50, Try.ntmps50
      go_wp2
      go_ret
      exact ⟨by simp [meetB, h1, h2], below_box (below_box (Below.refl _ _) _) _⟩
    · go_enter Try.func50, Try.ntmps50
      go_wp2
      go_ret
      exact ⟨by simp [meetB, h1, h2], below_box (below_box (Below.refl _ _) _) _⟩
  · go_enter Try.func50, Try.ntmps50
    go_wp2
    go_ret
    exact ⟨by simp [meetB]; omega, below_box (below_box (Below.refl _ _) _) _⟩
end Go.Proofs.Ytfpkiimlaepnhab
/-
  ORDREF: the reference's InOrder.
-/
namespace Go.Proofs.Ytfpkiimlaepnhab
set_option maxRecDepth 100000
open Go.RowKit Im Go.Maps

set_option maxHeartbeats 8000000 in
theorem inOrder_any (W H S O : Int) (a : Option Addr) (len cap : Nat) (ps : List Ps) (w : World) (hp : Passes w a len ps) (oa : Option Addr) (olen ocap : Nat) (pa : Option Addr) (plen pcap : Nat) (os pl : List Int) (hO : Ints 0 w oa olen os) (hL : Ints 0 w pa plen pl) (hE : frameE ⟨W, H, S, O, ps⟩ = 0) :
    Calls Try.prog 43 #[.agg #[.int .i64 W, .int .i64 H, .int .i64 S, .int .i64 O, .slice a len cap], .agg #[.slice oa olen ocap, .slice pa plen pcap]] w fun e w' => e = .returned (.bool (refB (gpOf ⟨W, H, S, O, ps⟩) os pl)) ∧ Below w.heap.size w w' := by
  obtain rfl := hp.leng
  obtain rfl := hO.leng
  obtain rfl := hL.leng
  have hR := gp_right hE
  have hN12 : ps.length ≤ 12 := hR.hN.2
  have hN1 : 1 ≤ ps.length := hR.hN.1
  have hbig := hO.big
  have hbig2 := hL.big
  have hb0 := below_box (below_box (Below.refl w.heap.size w) (.cells #[.int .i64 W, .int .i64 H, .int .i64 S, .int .i64 O, .slice a ps.length cap] 24)) (.cells #[.slice oa os.length ocap, .slice pa pl.length pcap] 27)
  have hF0 := (FBox.new w W H S O a ps.length cap).alloc (.cells #[.slice oa os.length ocap, .slice pa pl.length pcap] 27)
  have hP0 := PlBox.new (w.alloc (.cells #[.int .i64 W, .int .i64 H, .int .i64 S, .int .i64 O, .slice a ps.length cap] 24)) (.slice oa os.length ocap) (.slice pa pl.length pcap) 27
  rw [World.size_alloc] at hP0
  have HR : Hid (refB (gpOf ⟨W, H, S, O, ps⟩) os pl = (decide (pl.length = ps.length) && decide (os.length ≤ ps.length) && allTo (refP (srcOf ps) ps.length os) os.length && allTo (refQ (keptG ps ps.length (shownP ⟨W, H, S, O, ps⟩) ps.length) os pl) ps.length)) := rfl
  by_cases hl1 : pl.length = ps.length
  case neg =>
    have hne : ¬ (pl.length : Int) = (ps.length : Int) := by omega
    go_enter Try.func43, Try.ntmps43
    go_wp2
    go_ret
    exact ⟨by rw [HR.out, decide_eq_false hl1]; rfl, hb0⟩
  by_cases hl2 : os.length ≤ ps.length
  case neg =>
    have hne : (ps.length : Int) < (os.length : Int) := by omega
    rw [hl1] at hb0 ⊢
    go_enter Try.func43, Try.ntmps43
    go_wp2
    go_ret
    exact ⟨by rw [HR.out, decide_eq_false hl2]; simp, hb0⟩
  rw [decide_eq_true hl1, decide_eq_true hl2] at HR
  have hs2 : ∀ x ∈ srcs ps ps.length, x.length ≤ 2 := by
    intro x hx
    unfold srcs at hx
    rw [List.mem_map] at hx
    obtain ⟨n, _, rfl⟩ := hx
    unfold srcOf
    rw [List.length_map]
    exact takesP_len _
  have hso := fun wx hp => sourcesOfRef_any W H S O a ps.length cap ps wx hp hN12
  have hke := fun wx hp => keptOf_any W H S O a ps.length cap ps wx hp hE
  have HSR : Hid (∀ k, k < ps.length → (srcs ps ps.length).getD k [] = srcOf ps k) := fun k hk => srcs_at ps hk
  have HS2 : Hid (∀ k, k < ps.length → (srcOf ps k).length ≤ 2 ∧ ∀ s ∈ srcOf ps k, 0 ≤ s ∧ s < ps.length) := fun k hk => ⟨by unfold srcOf; rw [List.length_map]; exact takesP_len _, fun s hs => by have := srcOk_of hE k hk s hs; omega⟩
  have hl2' : ¬ (ps.length : Int) < (os.length : Int) := by omega
  have hwn : IntKind.i64.wrap ((ps.length : Int) - 1) = (ps.length : Int) - 1 := by rw [IntKind.wrap_i64]; omega
  have hp0 := hp.below hb0
  have hO0 := hO.below (Nat.le_refl _) hb0
  have hL0 := hL.below (Nat.le_refl _) hb0
  rw [hl1] at hL0 hP0 hb0 hF0 hp0 hO0 ⊢
  clear hp hO hL hR
  go_enter Try.func43, Try.ntmps43
  go_wp2
  generalize (w.alloc (.cells #[.int .i64 W, .int .i64 H, .int .i64 S, .int .i64 O, .slice a ps.length cap] 24)).alloc (.cells #[.slice oa os.length ocap, .slice pa ps.length pcap] 27) = W0 at *
  have hd := (Below.refl W0.heap.size W0).drew
  have g5 : ∀ w', Below W0.heap.size W0 w' → w'.cell? ⟨w.heap.size, 0, none⟩ = some (.int .i64 W) ∧ w'.cell? ⟨w.heap.size, 1, none⟩ = some (.int .i64 H) ∧ w'.cell? ⟨w.heap.size, 2, none⟩ = some (.int .i64 S) ∧ w'.cell? ⟨w.heap.size, 3, none⟩ = some (.int .i64 O) ∧ w'.cell? ⟨w.heap.size, 4, none⟩ = some (.slice a ps.length cap) := fun w' h => by
    obtain ⟨_, c0, c1, c2, c3, c4⟩ := hF0.below h
    exact ⟨c0, c1, c2, c3, c4⟩
  go_region_held3 (fun w' => w'.cell? ⟨w.heap.size, 0, none⟩ = some (.int .i64 W) ∧ w'.cell? ⟨w.heap.size, 1, none⟩ = some (.int .i64 H) ∧ w'.cell? ⟨w.heap.size, 2, none⟩ = some (.int .i64 S) ∧ w'.cell? ⟨w.heap.size, 3, none⟩ = some (.int .i64 O) ∧ w'.cell? ⟨w.heap.size, 4, none⟩ = some (.slice a ps.length cap))
    (first | exact g5 _ hd | exact g5 _ B1 | exact g5 _ B2)
    (first
      | (go_at_call 46; (with_reducible refine (hso _ (hp0.below hd)).mono ?_); rintro e w1 ⟨⟨v1, rfl, hLL⟩, b1⟩; have B1 : Below W0.heap.size W0 w1 := hd.trans b1; obtain ⟨sa, sc, rfl, hSs⟩ := hLL.lls hs2)
      | (go_at_call 61; (with_reducible refine (hke _ (hp0.below B1)).mono ?_); rintro e w2 ⟨⟨kb, rfl, hkb, hK⟩, b2⟩; have B2 : Below W0.heap.size W0 w2 := below_step B1 b2))
  rw [srcs_length] at hSs ⊢
  have hS2 := hSs.below b2
  have hO2 := hO0.below (Nat.le_refl _) B2
  have hL2 := hL0.below (Nat.le_refl _) B2
  have hP2 := hP0.below B2
  have hb2 := below_step hb0 B2
  have HRP : Hid (∀ i, refP (srcOf ps) ps.length os i = (decide (0 ≤ os.getD i 0) && decide (os.getD i 0 ≤ (ps.length : Int) - 1) && decide (stepAt os (os.getD i 0) = i) && allTo (refS os i (srcOf ps (os.getD i 0).toNat)) (srcOf ps (os.getD i 0).toNat).length)) := fun _ => rfl
  clear hLL hs2 hso hke g5 hd B1 b1 b2 B2 hSs hp0 hO0 hL0 hP0 hF0 hb0
  go_wp2
  go_loopw [8] (fun i wr => ∃ n : Nat, n ≤ os.length ∧ i = .int .i64 n ∧ allTo (refP (srcOf ps) ps.length os) n = true ∧ Below w2.heap.size w2 wr) (fun i _ => os.length - (intOf i).toNat)
  case atStart => exact ⟨0, Nat.zero_le _, rfl, rfl, Below.refl _ _⟩
  case round =>
    obtain ⟨n, hn, rfl, hall, hbr⟩ := hrel
    obtain ⟨_, h0, h1⟩ := hP2.below hbr
    by_cases hlt : n < os.length
    · obtain ⟨ob, oo, rfl, hox⟩ := (hO2.below (Nat.le_refl _) hbr).nth hlt
      have HA : Hid (refP (srcOf ps) ps.length os n = true → allTo (refP (srcOf ps) ps.length os) (n + 1) = true) := fun h => allTo_succ hall h
      have HF : Hid (refP (srcOf ps) ps.length os n = false → allTo (refP (srcOf ps) ps.length os) os.length = false) := fun h => allTo_not hlt h
      have HP1 : Hid (_) := HRP.out n
      have hso := fun (p : Int) (wx : World) (h : Below wr.heap.size wr wx) => stepOf_any ocap ((hO2.below (Nat.le_refl _) hbr).below (Nat.le_refl _) h) p
      have hnI : (n : Int) < (os.length : Int) := by omega
      have hn0 : (0 : Int) ≤ (n : Int) := by omega
      obtain ⟨x, HXV⟩ : ∃ x, Hid (os.getD n 0 = x) := ⟨_, rfl⟩
      rw [HXV.out] at hox HP1
      clear hall
      have hwi := fun wx => within_any x 0 ((ps.length : Int) - 1) wx
      by_cases hx : 0 ≤ x ∧ x ≤ (ps.length : Int) - 1
      case neg =>
        have e1 : withinB x 0 ((ps.length : Int) - 1) = false := by
          unfold withinB
          by_cases h : 0 ≤ x
          · rw [decide_eq_true h, decide_eq_false (fun h' => hx ⟨h, h'⟩)]; rfl
          · rw [decide_eq_false h]; rfl
        have HX : Hid (refP (srcOf ps) ps.length os n = false) := by
          show _ = _
          rw [HP1.out, show (decide (0 ≤ x) && decide (x ≤ (ps.length : Int) - 1)) = false from e1]; rfl
        rw [e1] at hwi
        clear hx e1
        go_wp2
        refine wp_region_held_drew (S := (fun w' => w'.cell? ⟨w.heap.size + 1, 0, none⟩ = some (.slice (some ⟨ob, oo, none⟩) os.length ocap) ∧ w'.cell? ⟨ob, oo + n, none⟩ = some (.int .i64 x))) (by kernel_rfl) ⟨h0, hox⟩ (fun hHeld => ?_)
        refine wpAnyH_take (i := 0) (oi := { dst := some 39, op := Go.Op.fieldAddr 27 (Go.Operand.tmp 3) 0, type := 0, pos := "plan.go:23", after := #[], guard := none }) (v := .pointer (some ⟨w.heap.size + 1, 0, none⟩)) rfl (by kernel_rfl) (by kernel_rfl) (by kernel_rfl) (fun _ _ _ h => h) (Or.inl ⟨by rfl, fun wz hSw => ?_⟩) hHeld ?_
        · obtain ⟨r0, r1⟩ := hSw
          go_simp
        simp only [Act.put, List.setIfInBounds_toArray, List.set_cons_zero, List.set_cons_succ]
        refine wpAnyH_take (i := 1) (oi := { dst := some 40, op := Go.Op.load 25 (Go.Operand.tmp 39), type := 25, pos := "plan.go:23", after := #[{ on := 0, ground := Go.Ground.data }], guard := none }) (v := .slice (some ⟨ob, oo, none⟩) os.length ocap) rfl (by kernel_rfl) (by kernel_rfl) (by kernel_rfl) (fun _ _ _ h => h) (Or.inl ⟨by rfl, fun wz hSw => ?_⟩) hHeld ?_
        · obtain ⟨r0, r1⟩ := hSw
          go_simp
        simp only [Act.put, List.setIfInBounds_toArray, List.set_cons_zero, List.set_cons_succ]
        refine wpAnyH_take (i := 2) (oi := { dst := some 41, op := Go.Op.move (Go.Operand.tmp 8), type := 3, pos := "plan.go:23", after := #[], guard := none }) (v := .int .i64 n) rfl (by kernel_rfl) (by kernel_rfl) (by kernel_rfl) (fun _ _ _ h => h) (Or.inl ⟨by rfl, fun wz hSw => ?_⟩) hHeld ?_
        · obtain ⟨r0, r1⟩ := hSw
          go_simp
        simp only [Act.put, List.setIfInBounds_toArray, List.set_cons_zero, List.set_cons_succ]
        refine wpAnyH_take (i := 3) (oi := { dst := some 42, op := Go.Op.indexAddr 25 (Go.Operand.tmp 40) (Go.Operand.tmp 41), type := 0, pos := "plan.go:23", after := #[{ on := 1, ground := Go.Ground.data }, { on := 2, ground := Go.Ground.data }], guard := none }) (v := .pointer (some ⟨ob, oo + n, none⟩)) rfl (by kernel_rfl) (by kernel_rfl) (by kernel_rfl) (fun _ _ _ h => h) (Or.inl ⟨by rfl, fun wz hSw => ?_⟩) hHeld ?_
        · obtain ⟨r0, r1⟩ := hSw
          go_simp
        simp only [Act.put, List.setIfInBounds_toArray, List.set_cons_zero, List.set_cons_succ]
        refine wpAnyH_take (i := 4) (oi := { dst := some 43, op := Go.Op.load 3 (Go.Operand.tmp 42), type := 3, pos := "plan.go:23", after := #[{ on := 3, ground := Go.Ground.data }], guard := none }) (v := .int .i64 x) rfl (by kernel_rfl) (by kernel_rfl) (by kernel_rfl) (fun _ _ _ h => h) (Or.inl ⟨by rfl, fun wz hSw => ?_⟩) hHeld ?_
        · obtain ⟨r0, r1⟩ := hSw
          go_simp
        simp only [Act.put, List.setIfInBounds_toArray, List.set_cons_zero, List.set_cons_succ]
        refine wpAnyH_take (i := 5) (oi := { dst := some 44, op := Go.Op.move (Go.Operand.tmp 5), type := 3, pos := "plan.go:23", after := #[], guard := none }) (v := .int .i64 (ps.length)) rfl (by kernel_rfl) (by kernel_rfl) (by kernel_rfl) (fun _ _ _ h => h) (Or.inl ⟨by rfl, fun wz hSw => ?_⟩) hHeld ?_
        · obtain ⟨r0, r1⟩ := hSw
          go_simp
        simp only [Act.put, List.setIfInBounds_toArray, List.set_cons_zero, List.set_cons_succ]
        refine wpAnyH_take (i := 6) (oi := { dst := some 45, op := Go.Op.binOp Go.BinOp.sub 3 (Go.Operand.tmp 44) (Go.Operand.const (Go.Value.int Go.IntKind.i64 1)) 3, type := 3, pos := "plan.go:23", after := #[{ on := 5, ground := Go.Ground.data }], guard := none }) (v := .int .i64 (ps.length - 1)) rfl (by kernel_rfl) (by kernel_rfl) (by kernel_rfl) (fun _ _ _ h => h) (Or.inl ⟨by rfl, fun wz hSw => ?_⟩) hHeld ?_
        · obtain ⟨r0, r1⟩ := hSw
          go_simp
        simp only [Act.put, List.setIfInBounds_toArray, List.set_cons_zero, List.set_cons_succ]
        refine wpAnyH_ready (rs := [7]) (by kernel_rfl) (by simp) ?_
        refine AllReadyH.cons (o := { dst := some 46, op := Go.Op.call { callee := Go.Callee.value (Go.Operand.func 42), args := #[Go.Operand.tmp 43, Go.Operand.const (Go.Value.int Go.IntKind.i64 0), Go.Operand.tmp 45], argTypes := #[3, 3, 3] }, type := 4, pos := "plan.go:23", after := #[{ on := 4, ground := Go.Ground.data }, { on := 6, ground := Go.Ground.data }], guard := none }) rfl (fun K hK => ?_) AllReadyH.nil
        rw [if_pos (by rfl)]
        go_simp
        go_at_call 42
        refine (hwi _).mono ?_
        rintro e w2 ⟨rfl, rfl⟩
        go_simp
        refine hK.out _ _ hHeld (fun hHeld2 => ?_)
        clear hK K
        refine wpAnyH_take (i := 8) (oi := { dst := some 47, op := Go.Op.unOp Go.UnOp.not 4 (Go.Operand.tmp 46), type := 4, pos := "plan.go:23", after := #[{ on := 7, ground := Go.Ground.data }], guard := none }) (v := .bool true) rfl (by kernel_rfl) (by kernel_rfl) (by kernel_rfl) (fun _ _ _ h => h) (Or.inl ⟨by rfl, fun wz hSw => ?_⟩) hHeld2 ?_
        · obtain ⟨r0, r1⟩ := hSw
          go_simp
        simp only [Act.put, List.setIfInBounds_toArray, List.set_cons_zero, List.set_cons_succ]
        refine wpAnyH_take (i := 9) (oi := { dst := some 48, op := Go.Op.move (Go.Operand.tmp 47), type := 4, pos := "plan.go:23", after := #[{ on := 8, ground := Go.Ground.data }, { on := 7, ground := Go.Ground.chain }], guard := none }) (v := .bool true) rfl (by kernel_rfl) (by kernel_rfl) (by kernel_rfl) (fun _ _ _ h => h) (Or.inl ⟨by rfl, fun wz hSw => ?_⟩) hHeld2 ?_
        · obtain ⟨r0, r1⟩ := hSw
          go_simp
        simp only [Act.put, List.setIfInBounds_toArray, List.set_cons_zero, List.set_cons_succ]
        refine wpAnyH_take (i := 10) (oi := { dst := some 49, op := Go.Op.fieldAddr 27 (Go.Operand.tmp 3) 0, type := 0, pos := "plan.go:23", after := #[{ on := 9, ground := Go.Ground.guard }], guard := some (9, false) }) (v := undef) rfl (by kernel_rfl) (by kernel_rfl) (by kernel_rfl) (fun _ _ _ h => h) (Or.inr ⟨by rfl, rfl⟩) hHeld2 ?_
        simp only [Act.put, List.setIfInBounds_toArray, List.set_cons_zero, List.set_cons_succ]
        refine wpAnyH_take (i := 11) (oi := { dst := some 50, op := Go.Op.load 25 (Go.Operand.tmp 49), type := 25, pos := "plan.go:23", after := #[{ on := 10, ground := Go.Ground.data }, { on := 9, ground := Go.Ground.guard }], guard := some (9, false) }) (v := undef) rfl (by kernel_rfl) (by kernel_rfl) (by kernel_rfl) (fun _ _ _ h => h) (Or.inr ⟨by rfl, rfl⟩) hHeld2 ?_
        simp only [Act.put, List.setIfInBounds_toArray, List.set_cons_zero, List.set_cons_succ]
        refine wpAnyH_take (i := 12) (oi := { dst := some 51, op := Go.Op.fieldAddr 27 (Go.Operand.tmp 3) 0, type := 0, pos := "plan.go:23", after := #[{ on := 9, ground := Go.Ground.guard }], guard := some (9, false) }) (v := undef) rfl (by kernel_rfl) (by kernel_rfl) (by kernel_rfl) (fun _ _ _ h => h) (Or.inr ⟨by rfl, rfl⟩) hHeld2 ?_
        simp only [Act.put, List.setIfInBounds_toArray, List.set_cons_zero, List.set_cons_succ]
        refine wpAnyH_take (i := 13) (oi := { dst := some 52, op := Go.Op.load 25 (Go.Operand.tmp 51), type := 25, pos := "plan.go:23", after := #[{ on := 12, ground := Go.Ground.data }, { on := 9, ground := Go.Ground.guard }], guard := some (9, false) }) (v := undef) rfl (by kernel_rfl) (by kernel_rfl) (by kernel_rfl) (fun _ _ _ h => h) (Or.inr ⟨by rfl, rfl⟩) hHeld2 ?_
        simp only [Act.put, List.setIfInBounds_toArray, List.set_cons_zero, List.set_cons_succ]
        refine wpAnyH_take (i := 14) (oi := { dst := some 53, op := Go.Op.move (Go.Operand.tmp 8), type := 3, pos := "plan.go:23", after := #[{ on := 9, ground := Go.Ground.guard }], guard := some (9, false) }) (v := undef) rfl (by kernel_rfl) (by kernel_rfl) (by kernel_rfl) (fun _ _ _ h => h) (Or.inr ⟨by rfl, rfl⟩) hHeld2 ?_
        simp only [Act.put, List.setIfInBounds_toArray, List.set_cons_zero, List.set_cons_succ]
        refine wpAnyH_take (i := 15) (oi := { dst := some 54, op := Go.Op.indexAddr 25 (Go.Operand.tmp 52) (Go.Operand.tmp 53), type := 0, pos := "plan.go:23", after := #[{ on := 13, ground := Go.Ground.data }, { on := 14, ground := Go.Ground.data }, { on := 9, ground := Go.Ground.guard }], guard := some (9, false) }) (v := undef) rfl (by kernel_rfl) (by kernel_rfl) (by kernel_rfl) (fun _ _ _ h => h) (Or.inr ⟨by rfl, rfl⟩) hHeld2 ?_
        simp only [Act.put, List.setIfInBounds_toArray, List.set_cons_zero, List.set_cons_succ]
        refine wpAnyH_take (i := 16) (oi := { dst := some 55, op := Go.Op.load 3 (Go.Operand.tmp 54), type := 3, pos := "plan.go:23", after := #[{ on := 15, ground := Go.Ground.data }, { on := 9, ground := Go.Ground.guard }], guard := some (9, false) }) (v := undef) rfl (by kernel_rfl) (by kernel_rfl) (by kernel_rfl) (fun _ _ _ h => h) (Or.inr ⟨by rfl, rfl⟩) hHeld2 ?_
        simp only [Act.put, List.setIfInBounds_toArray, List.set_cons_zero, List.set_cons_succ]
        refine wpAnyH_take (i := 17) (oi := { dst := some 56, op := Go.Op.call { callee := Go.Callee.value (Go.Operand.func 47), args := #[Go.Operand.tmp 50, Go.Operand.tmp 55], argTypes := #[25, 3] }, type := 3, pos := "plan.go:23", after := #[{ on := 11, ground := Go.Ground.data }, { on := 16, ground := Go.Ground.data }, { on := 9, ground := Go.Ground.chain }, { on := 9, ground := Go.Ground.guard }], guard := some (9, false) }) (v := undef) rfl (by kernel_rfl) (by kernel_rfl) (by kernel_rfl) (fun _ _ _ h => h) (Or.inr ⟨by rfl, rfl⟩) hHeld2 ?_
        simp only [Act.put, List.setIfInBounds_toArray, List.set_cons_zero, List.set_cons_succ]
        refine wpAnyH_take (i := 18) (oi := { dst := some 57, op := Go.Op.move (Go.Operand.tmp 8), type := 3, pos := "plan.go:23", after := #[{ on := 9, ground := Go.Ground.guard }], guard := some (9, false) }) (v := undef) rfl (by kernel_rfl) (by kernel_rfl) (by kernel_rfl) (fun _ _ _ h => h) (Or.inr ⟨by rfl, rfl⟩) hHeld2 ?_
        simp only [Act.put, List.setIfInBounds_toArray, List.set_cons_zero, List.set_cons_succ]
        refine wpAnyH_take (i := 19) (oi := { dst := some 58, op := Go.Op.binOp Go.BinOp.neq 3 (Go.Operand.tmp 56) (Go.Operand.tmp 57) 3, type := 4, pos := "plan.go:23", after := #[{ on := 17, ground := Go.Ground.data }, { on := 18, ground := Go.Ground.data }, { on := 9, ground := Go.Ground.guard }], guard := some (9, false) }) (v := undef) rfl (by kernel_rfl) (by kernel_rfl) (by kernel_rfl) (fun _ _ _ h => h) (Or.inr ⟨by rfl, rfl⟩) hHeld2 ?_
        simp only [Act.put, List.setIfInBounds_toArray, List.set_cons_zero, List.set_cons_succ]
        refine wpAnyH_take (i := 20) (oi := { dst := some 59, op := Go.Op.pick (Go.Operand.tmp 48) (Go.Operand.const (Go.Value.bool true)) (Go.Operand.tmp 58), type := 4, pos := "plan.go:23", after := #[{ on := 9, ground := Go.Ground.data }, { on := 19, ground := Go.Ground.data }], guard := none }) (v := .bool true) rfl (by kernel_rfl) (by kernel_rfl) (by kernel_rfl) (fun _ _ _ h => h) (Or.inl ⟨by rfl, fun wz hSw => ?_⟩) hHeld2 ?_
        · obtain ⟨r0, r1⟩ := hSw
          go_simp
        simp only [Act.put, List.setIfInBounds_toArray, List.set_cons_zero, List.set_cons_succ]
        refine wpAnyH_done (by kernel_rfl) ?_ _
        go_wp2
        go_ret
        exact ⟨by rw [HR.out, HF.out HX.out]; rfl, (below_step hb2 hbr).drew⟩
      obtain ⟨q, rfl⟩ := Int.eq_ofNat_of_zero_le hx.1
      have hql : q < ps.length := by omega
      have hqI : (q : Int) < (ps.length : Int) := by omega
      have hq0 : (0 : Int) ≤ (q : Int) := by omega
      have e1 : withinB (q : Int) 0 ((ps.length : Int) - 1) = true := by unfold withinB; rw [decide_eq_true hx.1, decide_eq_true hx.2]; rfl
      rw [e1] at hwi
      rw [decide_eq_true hx.1, decide_eq_true hx.2, Int.toNat_natCast] at HP1
      have hd := (Below.refl wr.heap.size wr).drew
      have hsq := hso q _ hd
      have hdr := (below_step hb2 hbr).drew
      have hbd := hbr.drew
      clear e1 hx
      generalize hst : stepAt os q = st at hsq HP1
      have hst' := stepAt_bd os q
      rw [hst] at hst'
      clear hst
      by_cases hsn : st = (n : Int)
      case neg =>
        have HX : Hid (refP (srcOf ps) ps.length os n = false) := by show _ = _; rw [HP1.out, decide_eq_false hsn]; rfl
        go_wp2
        go_region_held3 (fun w' => w'.cell? ⟨w.heap.size + 1, 0, none⟩ = some (.slice (some ⟨ob, oo, none⟩) os.length ocap) ∧ w'.cell? ⟨ob, oo + n, none⟩ = some (.int .i64 q))
          (exact ⟨h0, hox⟩)
          (first | (go_at_call 42; refine (hwi _).mono ?_; rintro e w3 ⟨rfl, rfl⟩) | (go_at_call 47; refine hsq.mono ?_; rintro e w3 ⟨rfl, rfl⟩))
        go_wp2
        go_ret
        exact ⟨by rw [HR.out, HF.out HX.out]; rfl, hdr⟩
      subst hsn
      have HX : Hid (refP (srcOf ps) ps.length os n = allTo (refS os n (srcOf ps q)) (srcOf ps q).length) := by show _ = _; rw [HP1.out, decide_eq_true rfl]; rfl
      obtain ⟨sb, so, ua, uc, rfl, hsb, qq, hUI⟩ := hS2.nth hql
      rw [HSR.out q hql] at qq hUI
      obtain ⟨hl2x, hinx⟩ := HS2.out q hql
      have HIN : Hid (_) := hinx
      generalize srcOf ps q = sr at qq hUI hl2x HIN HX
      clear HP1 hinx
      go_wp2
      go_region_held3 (fun w' => w'.cell? ⟨w.heap.size + 1, 0, none⟩ = some (.slice (some ⟨ob, oo, none⟩) os.length ocap) ∧ w'.cell? ⟨ob, oo + n, none⟩ = some (.int .i64 q))
        (exact ⟨h0, hox⟩)
        (first | (go_at_call 42; refine (hwi _).mono ?_; rintro e w3 ⟨rfl, rfl⟩) | (go_at_call 47; refine hsq.mono ?_; rintro e w3 ⟨rfl, rfl⟩))
      go_wp2
      go_loopw [9] (fun i wt => ∃ t : Nat, t ≤ sr.length ∧ i = .int .i64 t ∧ allTo (refS os n sr) t = true ∧ Below w2.heap.size w2 wt) (fun i _ => sr.length - (intOf i).toNat)
      case atStart => exact ⟨0, Nat.zero_le _, rfl, rfl, hbd⟩
      case round =>
        obtain ⟨t, ht, rfl, hallt, hbt⟩ := hrel
        clear h0 h1 hox hsq hwi hbd hdr hd hso hbr
        obtain ⟨_, h0, h1⟩ := hP2.below hbt
        obtain ⟨ob', oo', he, hox⟩ := (hO2.below (Nat.le_refl _) hbt).nth hlt
        injection he with he
        injection he with he1 he2
        subst he1 he2
        have q0 := (hbt.cell (p := ⟨sb, so + q, none⟩) hsb).trans qq
        rw [HXV.out] at hox
        by_cases htl : t < sr.length
        · obtain ⟨bu, ou, rfl, hcx⟩ := (hUI.below (Nat.le_refl _) hbt).nth htl
          have hr := HIN.out _ (getD_mem htl 0)
          have HA2 : Hid (refS os n sr t = true → allTo (refS os n sr) (t + 1) = true) := fun h => allTo_succ hallt h
          have HF2 : Hid (refS os n sr t = false → allTo (refS os n sr) sr.length = false) := fun h => allTo_not htl h
          have HP2 : Hid (refS os n sr t = (decide (0 ≤ stepAt os (sr.getD t 0)) && decide (stepAt os (sr.getD t 0) < (n : Int)))) := rfl
          generalize sr.getD t 0 = m at hcx hr HP2
          have htI : (t : Int) < (sr.length : Int) := by omega
          have ht0 : (0 : Int) ≤ (t : Int) := by omega
          have hsm := stepOf_any ocap ((hO2.below (Nat.le_refl _) hbt).below (Nat.le_refl _) (Below.refl wr.heap.size wr).drew) m
          have hstb := stepAt_bd os m
          generalize stepAt os m = s at hsm HP2 hstb
          have hbd := hbt.drew
          clear hallt
          by_cases hs : 0 ≤ s ∧ s < (n : Int)
          · obtain ⟨hs1, hs2⟩ := hs
            have hs1' : ¬ s < 0 := by omega
            have hs2' : ¬ (n : Int) ≤ s := by omega
            go_wp2
            go_region_held3 (fun w' => w'.cell? ⟨w.heap.size + 1, 0, none⟩ = some (.slice (some ⟨ob, oo, none⟩) os.length ocap) ∧ w'.cell? ⟨ob, oo + n, none⟩ = some (.int .i64 q) ∧ w'.cell? ⟨sb, so + q, none⟩ = some (.slice (some ⟨bu, ou, none⟩) sr.length uc) ∧ w'.cell? ⟨bu, ou + t, none⟩ = some (.int .i64 m))
              (exact ⟨h0, hox, q0, hcx⟩)
              ((go_at_call 47; refine hsm.mono ?_; rintro e w3 ⟨rfl, rfl⟩))
            go_wp2
            go_roundw
            case rel => exact ⟨t + 1, by omega, by go_num, HA2.out (by rw [HP2.out, decide_eq_true hs1, decide_eq_true hs2]; rfl), hbd⟩
            case measure => simp [intOf]; omega
          · have HX2 : Hid (refS os n sr t = false) := by
              show _ = _
              rw [HP2.out]
              by_cases h : 0 ≤ s
              · rw [decide_eq_true h, decide_eq_false (fun h' => hs ⟨h, h'⟩)]; rfl
              · rw [decide_eq_false h]; rfl
            have hbz := below_step hb2 hbd
            by_cases hs1 : s < 0
            · go_wp2
              go_region_held3 (fun w' => w'.cell? ⟨w.heap.size + 1, 0, none⟩ = some (.slice (some ⟨ob, oo, none⟩) os.length ocap) ∧ w'.cell? ⟨ob, oo + n, none⟩ = some (.int .i64 q) ∧ w'.cell? ⟨sb, so + q, none⟩ = some (.slice (some ⟨bu, ou, none⟩) sr.length uc) ∧ w'.cell? ⟨bu, ou + t, none⟩ = some (.int .i64 m))
                (exact ⟨h0, hox, q0, hcx⟩)
                ((go_at_call 47; refine hsm.mono ?_; rintro e w3 ⟨rfl, rfl⟩))
              go_wp2
              go_ret
              exact ⟨by rw [HR.out, HF.out (by rw [HX.out, HF2.out HX2.out])]; rfl, hbz⟩
            · have hs2 : (n : Int) ≤ s := by omega
              clear hs
              go_wp2
              go_region_held3 (fun w' => w'.cell? ⟨w.heap.size + 1, 0, none⟩ = some (.slice (some ⟨ob, oo, none⟩) os.length ocap) ∧ w'.cell? ⟨ob, oo + n, none⟩ = some (.int .i64 q) ∧ w'.cell? ⟨sb, so + q, none⟩ = some (.slice (some ⟨bu, ou, none⟩) sr.length uc) ∧ w'.cell? ⟨bu, ou + t, none⟩ = some (.int .i64 m))
                (exact ⟨h0, hox, q0, hcx⟩)
                ((go_at_call 47; refine hsm.mono ?_; rintro e w3 ⟨rfl, rfl⟩))
              go_wp2
              go_ret
              exact ⟨by rw [HR.out, HF.out (by rw [HX.out, HF2.out HX2.out])]; rfl, hbz⟩
        · have hte : t = sr.length := by omega
          subst hte
          go_wp2
          go_roundw
          case rel => exact ⟨n + 1, by omega, by go_num, HA.out (by rw [HX.out, hallt]), hbt⟩
          case measure => simp [intOf]; omega
    · have hne : n = os.length := by omega
      subst hne
      have HR2 : Hid (refB (gpOf ⟨W, H, S, O, ps⟩) os pl = allTo (refQ (keptG ps ps.length (shownP ⟨W, H, S, O, ps⟩) ps.length) os pl) ps.length) := by show _ = _; rw [HR.out, hall]; rfl
      have hK2 := hK.below hbr hK.lt hbr.size
      have hL3 := hL2.below (Nat.le_refl _) hbr
      have hO3 := hO2.below (Nat.le_refl _) hbr
      have hso := fun (p : Int) => stepOf_any ocap hO3 p
      have hb3 := below_step hb2 hbr
      generalize keptG ps ps.length (shownP ⟨W, H, S, O, ps⟩) ps.length = g at *
      clear hall HR HRP hS2 HSR HS2
      go_wp2
      go_loop [11] (fun i => ∃ k : Nat, k ≤ ps.length ∧ i = .int .i64 k ∧ allTo (refQ g os pl) k = true) (fun i => ps.length - (intOf i).toNat)
      case atStart => exact ⟨0, Nat.zero_le _, rfl, rfl⟩
      case round =>
        obtain ⟨k, hk, rfl, hall⟩ := hrel
        by_cases hlt : k < ps.length
        · obtain ⟨pb, po, rfl, hpx⟩ := hL3.nth hlt
          have hkx := hK2.cells k hlt
          have HA : Hid (refQ g os pl k = true → allTo (refQ g os pl) (k + 1) = true) := fun h => allTo_succ hall h
          have HF : Hid (refQ g os pl k = false → refB (gpOf ⟨W, H, S, O, ps⟩) os pl = false) := fun h => by rw [HR2.out]; exact allTo_not hlt h
          have HP : Hid (refQ g os pl k = !((g k && !decide (0 ≤ stepAt os k)) || (decide (0 ≤ stepAt os k) && !(decide (0 ≤ pl.getD k 0) && decide (pl.getD k 0 ≤ 4096))) || (!decide (0 ≤ stepAt os k) && !decide (pl.getD k 0 = -1)))) := rfl
          have hsk := hso k
          have hkI : (k : Int) < (ps.length : Int) := by omega
          have hk0 : (0 : Int) ≤ (k : Int) := by omega
          have hwi := fun wx => within_any (pl.getD k 0) 0 4096 wx
          unfold withinB at hwi
          generalize pl.getD k 0 = y at hpx HP hwi
          generalize g k = gk at hkx HP
          generalize stepAt os k = st at hsk HP
          generalize hwB : (decide (0 ≤ y) && decide (y ≤ 4096)) = wB at hwi HP
          clear hall hwB
          by_cases hst : 0 ≤ st
          · rw [decide_eq_true hst] at HP
            cases wB <;> cases gk
            all_goals
              go_wp2_with (first | (go_at_call 47; refine hsk.mono ?_; rintro e w3 ⟨rfl, rfl⟩) | (go_at_call 42; refine (hwi _).mono ?_; rintro e w3 ⟨rfl, rfl⟩))
              first
              | (go_round
                 case rel => exact ⟨k + 1, by omega, by go_num, HA.out (by rw [HP.out]; rfl)⟩
                 case measure => simp [intOf]; omega)
              | (go_ret
                 exact ⟨by rw [HF.out (by rw [HP.out]; rfl)]; rfl, hb3⟩)
          · rw [decide_eq_false hst] at HP
            by_cases hy : y = -1
            · subst hy
              cases gk
              all_goals
                go_wp2_with (first | (go_at_call 47; refine hsk.mono ?_; rintro e w3 ⟨rfl, rfl⟩) | (go_at_call 42; refine (hwi _).mono ?_; rintro e w3 ⟨rfl, rfl⟩))
                first
                | (go_round
                   case rel => exact ⟨k + 1, by omega, by go_num, HA.out (by rw [HP.out]; rfl)⟩
                   case measure => simp [intOf]; omega)
                | (go_ret
                   exact ⟨by rw [HF.out (by rw [HP.out]; rfl)]; rfl, hb3⟩)
            · have HY : Hid (refQ g os pl k = false) := by show _ = _; rw [HP.out, decide_eq_false hy]; simp
              cases gk
              all_goals
                go_wp2_with (first | (go_at_call 47; refine hsk.mono ?_; rintro e w3 ⟨rfl, rfl⟩) | (go_at_call 42; refine (hwi _).mono ?_; rintro e w3 ⟨rfl, rfl⟩))
                go_ret
                exact ⟨by rw [HF.out HY.out]; rfl, hb3⟩
        · have hke : k = ps.length := by omega
          have HK : Hid (refB (gpOf ⟨W, H, S, O, ps⟩) os pl = true) := by show _ = _; rw [HR2.out, ← hke]; exact hall
          clear hall HR2 hK2
          rw [hke] at *
          go_wp2
          go_ret
          exact ⟨by rw [HK.out]; rfl, hb3⟩
end Go.Proofs.Ytfpkiimlaepnhab
