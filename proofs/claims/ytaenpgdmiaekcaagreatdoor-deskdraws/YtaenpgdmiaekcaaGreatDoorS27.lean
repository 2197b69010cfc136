/- ExecF, ExecBegun, LawExec3: joined, in this order. -/
import Derived.Test.YtaenpgdmiaekcaaGreatDoorS26
import Derived.Test.YtaenpgdmiaekcaaGreatDoorS14
import Derived.Test.YtaenpgdmiaekcaaGreatDoorS21
import Derived.Deep.OwnRows
import Derived.Test.YtaenpgdmiaekcaaGreatDoorS01
/-
  EXECF: exec.Run.
-/
namespace Go.Proofs.YtaenpgdmiaekcaaGreatDoor
set_option maxRecDepth 100000
open Go.RowKit Im

/-- What Run tells. -/
def runP (f : Fr) (os pl A : List Int) : Res := if execE f os pl A = 0 then runR f os pl A else noRes (execE f os pl A)
theorem IBox.grown {w w' : World} {b : Nat} {row : Option Nat} (h : IBox w b) (hg : w.grownBy w' row) (hne : some b ≠ row) : IBox w' b :=
  ⟨Nat.lt_of_lt_of_le h.lt hg.size, (grown_cell hg h.lt hne 0).1.trans h.c0, (grown_cell hg h.lt hne 1).1.trans h.c1, (grown_cell hg h.lt hne 2).1.trans h.c2, (grown_cell hg h.lt hne 0).2.trans h.f0, (grown_cell hg h.lt hne 1).2.trans h.f1, (grown_cell hg h.lt hne 2).2.trans h.f2⟩
theorem FBox.grown {w w' : World} {b : Nat} {W H S O : Int} {a : Option Addr} {len cap : Nat} {row : Option Nat} (h : FBox w b W H S O a len cap) (hg : w.grownBy w' row) (hne : some b ≠ row) : FBox w' b W H S O a len cap :=
  ⟨Nat.lt_of_lt_of_le h.lt hg.size, (grown_cell hg h.lt hne 0).1.trans h.c0, (grown_cell hg h.lt hne 1).1.trans h.c1, (grown_cell hg h.lt hne 2).1.trans h.c2, (grown_cell hg h.lt hne 3).1.trans h.c3, (grown_cell hg h.lt hne 4).1.trans h.c4⟩
set_option maxHeartbeats 8000000 in
theorem run_any (W H S O : Int) (a : Option Addr) (len cap : Nat) (ps : List Ps) (w : World) (hp : Passes w a len ps) (oa : Option Addr) (olen ocap : Nat) (pa : Option Addr) (plen pcap : Nat) (os pl : List Int) (hO : Ints 0 w oa olen os) (hL : Ints 0 w pa plen pl) (hcap : olen ≤ ocap) (aa : Option Addr) (alen ac : Nat) (A : List Int) (hA : Ints 0 w aa alen A) :
    Calls Tryz.prog 20 #[.agg #[.int .i64 W, .int .i64 H, .int .i64 S, .int .i64 O, .slice a len cap], .agg #[.slice oa olen ocap, .slice pa plen pcap], .slice aa alen ac] w (Told w (runP ⟨W, H, S, O, ps⟩ os pl A)) := by
  obtain rfl := hO.leng
  obtain rfl := hp.leng
  obtain ⟨hb0', hF0', hP0'⟩ := boxes2 w W H S O a ps.length cap (.slice oa os.length ocap) (.slice pa plen pcap)
  have bI := (Below.refl ((w.alloc (.cells #[.int .i64 W, .int .i64 H, .int .i64 S, .int .i64 O, .slice a ps.length cap] 35)).alloc (.cells #[.slice oa os.length ocap, .slice pa plen pcap] 48)).heap.size _).alloc (Nat.le_refl _) (.cells #[.int .i64 0, .int .i64 0, .slice none 0 0] 24)
  have hI0 := IBox.new ((w.alloc (.cells #[.int .i64 W, .int .i64 H, .int .i64 S, .int .i64 O, .slice a ps.length cap] 35)).alloc (.cells #[.slice oa os.length ocap, .slice pa plen pcap] 48))
  rw [World.size_alloc, World.size_alloc] at hI0
  have hb0 := below_step hb0' bI
  have hF0 := hF0'.below bI
  have hP0 := hP0'.below bI
  clear hb0' hF0' hP0' bI
  have hbg := begin_any W H S O a ps.length cap ps _ (hp.below hb0) oa os.length ocap pa plen pcap os pl (hO.below (Nat.le_refl _) hb0) (hL.below (Nat.le_refl _) hb0) hcap aa alen ac A (hA.below (Nat.le_refl _) hb0)
  go_enter Tryz.func20, Tryz.ntmps20
  obtain ⟨_, g0, g1, g2, g3, g4⟩ := id hF0
  obtain ⟨_, e0, e1⟩ := id hP0
  go_wp2_with fail
  generalize ((w.alloc (.cells #[.int .i64 W, .int .i64 H, .int .i64 S, .int .i64 O, .slice a ps.length cap] 35)).alloc (.cells #[.slice oa os.length ocap, .slice pa plen pcap] 48)).alloc (.cells #[.int .i64 0, .int .i64 0, .slice none 0 0] 24) = w1 at *
  refine hbg.mono ?_
  clear hbg g0 g1 g2 g3 g4 e0 e1
  have hw2 : w.heap.size ≤ w.heap.size + 1 + 1 := by omega
  rintro e w2 (⟨hX, wS, za, zc, sa, sc, g, gc, rfl, bS, hZ, hSr, hOw, b2⟩ | ⟨hX, rfl, b2⟩)
  · obtain ⟨hC, hfi⟩ := exec_zero hX
    have hFit : FitA ⟨W, H, S, O, ps⟩ os pl A := fit_of hC hfi
    have hS1 : w1.heap.size ≤ wS.heap.size := bS.size
    have hb2 : Below w1.heap.size w1 w2 := bS.trans (b2.mono hS1)
    have hbS := below_step hb0 bS
    have hbw := below_step hb0 hb2
    have HRP : Hid (runP ⟨W, H, S, O, ps⟩ os pl A = runR ⟨W, H, S, O, ps⟩ os pl A) := by show _ = _; unfold runP; rw [if_pos hX]
    dsimp only at hZ hSr ⊢
    have hpl : plen = ps.length := by rw [← hL.leng]; exact hFit.ord.len
    subst hpl
    have bA := (Below.refl w2.heap.size w2).alloc (Nat.le_refl _) (.cells #[.slice a ps.length cap, .slice pa ps.length pcap, .slice za ps.length zc, .slice sa ps.length sc, .slice (some ⟨g, 0, none⟩) A.length gc] 96)
    have hK := WkBox.new w2 (.slice a ps.length cap) (.slice pa ps.length pcap) (.slice za ps.length zc) (.slice sa ps.length sc) (.slice (some ⟨g, 0, none⟩) A.length gc) 96
    have hF3 := (hF0.below hb2).below bA
    have hP3 := (hP0.below hb2).below bA
    have hI3 := (hI0.below hb2 hI0.lt hb2.size).below bA (Nat.lt_of_lt_of_le hI0.lt hb2.size) bA.size
    have hg0 : wS.heap.size ≤ g ∧ g < w2.heap.size := World.ownsRow.lt (w := w2) hOw g rfl
    have hb3 : Below wS.heap.size wS (w2.alloc (.cells #[.slice a ps.length cap, .slice pa ps.length pcap, .slice za ps.length zc, .slice sa ps.length sc, .slice (some ⟨g, 0, none⟩) A.length gc] 96)) := b2.trans (bA.mono b2.size)
    have hO3 : Owns wS.heap.size _ (.slice (some ⟨g, 0, none⟩) A.length gc) A := ownsRow_below hOw bA (Nat.le_refl _)
    have hpS := hp.below hbS
    have hLS := hL.below (Nat.le_refl _) hbS
    have hOS := hO.below (Nat.le_refl _) hbS
    have hbig := hOS.big
    have hIl : w.heap.size + 1 + 1 < w1.heap.size := hI0.lt
    have e0 := hP3.c0
    have hs3 : wS.heap.size ≤ (w2.alloc (.cells #[.slice a ps.length cap, .slice pa ps.length pcap, .slice za ps.length zc, .slice sa ps.length sc, .slice (some ⟨g, 0, none⟩) A.length gc] 96)).heap.size := hb3.size
    have HE : Hid (frameE ⟨W, H, S, O, ps⟩ = 0) := hFit.E
    clear hO hL hp hA hOw hF0 hP0 hI0 hX hC hfi
    go_wp2_with fail
    generalize w2.alloc (.cells #[.slice a ps.length cap, .slice pa ps.length pcap, .slice za ps.length zc, .slice sa ps.length sc, .slice (some ⟨g, 0, none⟩) A.length gc] 96) = w3 at *
    have hne1 : some w2.heap.size ≠ some g := fun e => by injection e with e; omega
    have hne2 : some w.heap.size ≠ some g := fun e => by injection e with e; omega
    have hne3 : some (w.heap.size + 1 + 1) ≠ some g := fun e => by injection e with e; omega
    go_loopw [7, 28] (fun s7 i wr => ∃ j : Nat, j ≤ os.length ∧ s7 = .int .i64 0 ∧ i = .int .i64 j ∧ Owns wS.heap.size wr (.slice (some ⟨g, 0, none⟩) A.length gc) (runA ⟨W, H, S, O, ps⟩ os pl A j) ∧ w3.grownBy wr (some g)) (fun _ i _ => os.length - (intOf i).toNat)
    case atStart => exact ⟨0, Nat.zero_le _, rfl, rfl, hO3, World.grownBy.refl _ _⟩
    case round =>
      obtain ⟨j, hj, rfl, rfl, hOr, hgr⟩ := hrel
      clear e0 hO3
      obtain ⟨hl, hFj⟩ := hFit.run hj
      have hbr : Below wS.heap.size wS wr := grown_from hb3 hs3 hgr hg0.1
      have hbwr : Below w.heap.size w wr := hbS.trans (hbr.mono hbS.size)
      have hKr := hK.grown hgr hne1
      have hFr := hF3.grown hgr hne2
      by_cases hjl : j < os.length
      · obtain ⟨q, eq, hq, hqm⟩ := os_at hFit hjl
        obtain ⟨ob, oo, rfl, hoc⟩ := (hOS.below (Nat.le_refl _) hbr).nth hjl
        rw [eq] at hoc
        have hjI : (j : Int) < (os.length : Int) := by omega
        have hj0 : (0 : Int) ≤ (j : Int) := by omega
        have HNX : Hid (runA ⟨W, H, S, O, ps⟩ os pl A (j + 1) = stepA ⟨W, H, S, O, ps⟩ pl (runA ⟨W, H, S, O, ps⟩ os pl A j) q) := by
          show stepA _ _ _ (os.getD j 0).toNat = _
          rw [eq, Int.toNat_natCast]
        rw [← hl] at hOr
        have hdo := do_any (f := ⟨W, H, S, O, ps⟩) a cap pa pcap za zc sa sc g gc (hpS.below hbr) (hLS.below (Nat.le_refl _) hbr) (hZ.below hbr) (hSr.below hbr) hOr hFj hq hqm
        dsimp only at hdo
        rw [hl] at hdo
        obtain ⟨_, k0, k1, k2, k3, k4⟩ := id hKr
        clear hOr hFr hKr hFj hl hpS hLS hOS hZ hSr hFit
        generalize runA ⟨W, H, S, O, ps⟩ os pl A j = B at *
        go_wp2_with fail
        refine hdo.mono ?_
        clear hdo
        rintro e w5 ⟨rfl, hO5, g5⟩
        have HO5 : Hid (Owns wS.heap.size w5 (.slice (some ⟨g, 0, none⟩) A.length gc) (runA ⟨W, H, S, O, ps⟩ os pl A (j + 1))) := by show Owns _ _ _ _; rw [HNX.out]; exact hO5
        have g5' := hgr.trans g5
        clear hO5 g5 k0 k1 k2 k3 k4
        go_wp2
        go_roundw
        case rel => exact ⟨j + 1, by omega, rfl, by go_num, HO5.out, g5'⟩
        case measure => simp [intOf]; omega
      · have hje : j = os.length := by omega
        subst hje
        have hkI : ¬ (os.length : Int) < (os.length : Int) := by omega
        have hla := last_any W H S O a ps.length cap ps wr (hpS.below hbr)
        obtain ⟨q, eq, hq, hqm⟩ := hFit.last
        obtain ⟨_, g0, g1, g2, g3, g4⟩ := id hFr
        have HRR : Hid (runR ⟨W, H, S, O, ps⟩ os pl A = liesR ⟨W, H, S, O, ps⟩ pl (runA ⟨W, H, S, O, ps⟩ os pl A os.length) q) := by show _ = _; unfold runR; rw [eq]
        have hOr' := hOr
        rw [← hl] at hOr'
        obtain ⟨ga, gc', ev, hIr⟩ := hOr'.ints (by have := hFj.len; omega)
        injection ev with ev1 _ ev2
        subst ev1 ev2
        have hac : (runA ⟨W, H, S, O, ps⟩ os pl A os.length).length ≤ gc := by
          have hne : runA ⟨W, H, S, O, ps⟩ os pl A os.length ≠ [] := fun e => by
            obtain ⟨h1, _, h3, h4⟩ := hFj.place hq hqm
            have := congrArg List.length e
            rw [List.length_nil] at this
            omega
          obtain ⟨g', c', ev, _, _, hc⟩ := hOr'.block hne
          injection ev with _ _ ev
          rw [ev]; exact hc
        go_wp2_with fail
        refine hla.mono ?_
        clear hla g0 g1 g2 g3 g4
        rintro e w5 ⟨rfl, b5⟩
        rw [if_pos HE.out, HE.out, eq]
        have hb5 := below_step hbwr b5
        have hbS5 : Below wS.heap.size wS w5 := hbr.trans (b5.mono hbr.size)
        have him := image_lies hFj (.slice a ps.length cap) (.slice sa ps.length sc) pa ps.length pcap za zc (some ⟨g, 0, none⟩) gc (hLS.below (Nat.le_refl _) hbS5) (hZ.below hbS5) (hIr.below (Nat.le_refl _) b5) hac hq hqm
        rw [hl] at him
        obtain ⟨_, k0, k1, k2, k3, k4⟩ := hKr.below b5 hKr.lt b5.size
        have hI5 := (hI3.grown hgr hne3).below b5 (Nat.lt_of_lt_of_le hI3.lt hgr.size) b5.size
        dsimp only at him
        have HRE : Hid ((liesR ⟨W, H, S, O, ps⟩ pl (runA ⟨W, H, S, O, ps⟩ os pl A os.length) q).E = 0) := rfl
        clear hOr hOr' hIr hFr hKr hFj hpS hLS hOS hZ hSr hFit hac hl
        generalize liesR ⟨W, H, S, O, ps⟩ pl (runA ⟨W, H, S, O, ps⟩ os pl A os.length) q = r at *
        go_wp2_with fail
        refine him.mono ?_
        clear him
        rintro e w6 ⟨ia, ic, rfl, hii, b6⟩
        obtain ⟨_, c0, c1, c2, f0, f1, f2⟩ := hI5.below b6 hI5.lt b6.size
        have HT : Hid (Told w r (.returned (.tuple #[.agg #[.int .i64 r.W, .int .i64 r.H, .slice ia r.ps.length ic], .int .i64 r.E])) (((w6.setCell ⟨w.heap.size + 1 + 1, 0, none⟩ (.int .i64 r.W)).setCell ⟨w.heap.size + 1 + 1, 1, none⟩ (.int .i64 r.H)).setCell ⟨w.heap.size + 1 + 1, 2, none⟩ (.slice ia r.ps.length ic))) := paint_told hb5 hI5.lt hw2 hii b6
        clear hii b6 k0 k1 k2 k3 k4 hI5
        go_wp2
        refine bodyPost_ret (v := .tuple #[.agg #[.int .i64 r.W, .int .i64 r.H, .slice ia r.ps.length ic], .int .i64 r.E]) (by simp [results, Tryz.results20, go_sem, c0, c1, c2, HRE.out]) rfl ?_
        rw [HRP.out, HRR.out]
        exact HT.out
  · have HRP : Hid (runP ⟨W, H, S, O, ps⟩ os pl A = noRes (execE ⟨W, H, S, O, ps⟩ os pl A)) := by show _ = _; unfold runP; rw [if_neg hX]
    have bA := (Below.refl w2.heap.size w2).alloc (Nat.le_refl _) (.cells #[.slice none 0 0, .slice none 0 0, .slice none 0 0, .slice none 0 0, .slice none 0 0] 96)
    have hI3 := (hI0.below b2 hI0.lt b2.size).below bA (Nat.lt_of_lt_of_le hI0.lt b2.size) bA.size
    have hb3 := below_step (below_step hb0 b2) bA
    generalize execE ⟨W, H, S, O, ps⟩ os pl A = E at *
    have HT : Hid (∀ w', Below w.heap.size w w' → Told w (runP ⟨W, H, S, O, ps⟩ os pl A) (.returned (.tuple #[.agg #[.int .i64 0, .int .i64 0, .slice none 0 0], .int .i64 E])) w') := fun w' hb => by
      show Told _ _ _ _
      rw [HRP.out]
      exact told_no ⟨rfl, hb⟩
    obtain ⟨_, c0, c1, c2, f0, f1, f2⟩ := id hI3
    clear HRP hF0 hP0 hI0 bA b2
    go_wp2
    exact bodyPost_ret (v := .tuple #[.agg #[.int .i64 0, .int .i64 0, .slice none 0 0], .int .i64 E]) (by simp [results, Tryz.results20, go_sem, c0, c1, c2]) rfl (HT.out _ (((hb3.setCell (p := ⟨w.heap.size + 1 + 1, 0, none⟩) hw2 _).setCell (p := ⟨w.heap.size + 1 + 1, 1, none⟩) hw2 _).setCell (p := ⟨w.heap.size + 1 + 1, 2, none⟩) hw2 _))
end Go.Proofs.YtaenpgdmiaekcaaGreatDoor
/-
  EXECBEGUN: the law's execBegun answers true.
-/
namespace Go.Proofs.YtaenpgdmiaekcaaGreatDoor
set_option maxRecDepth 100000
open Go.RowKit Im

/-- An image in its box. -/
structure JBox (w : World) (b : Nat) (W H : Int) (v : Value) : Prop where
  lt : b < w.heap.size
  c0 : w.cell? ⟨b, 0, none⟩ = some (.int .i64 W)
  c1 : w.cell? ⟨b, 1, none⟩ = some (.int .i64 H)
  c2 : w.cell? ⟨b, 2, none⟩ = some v
theorem JBox.new (w : World) (W H : Int) (v : Value) : JBox (w.alloc (.cells #[.int .i64 W, .int .i64 H, v] 24)) w.heap.size W H v :=
  ⟨by simp, by simp [go_sem], by simp [go_sem], by simp [go_sem]⟩
theorem JBox.below {w w' : World} {b : Nat} {W H : Int} {v : Value} (h : JBox w b W H v) (hb : Below w.heap.size w w') : JBox w' b W H v :=
  ⟨Nat.lt_of_lt_of_le h.lt hb.size, (hb.cell (p := ⟨b, 0, none⟩) h.lt).trans h.c0, (hb.cell (p := ⟨b, 1, none⟩) h.lt).trans h.c1, (hb.cell (p := ⟨b, 2, none⟩) h.lt).trans h.c2⟩
theorem JBox.set {w : World} {b : Nat} {W H : Int} {v : Value} (h : JBox w b W H v) {p : Addr} (hp : p.block ≠ b) (u : Value) : JBox (w.setCell p u) b W H v := by
  have hn : ∀ o, p ≠ (⟨b, o, none⟩ : Addr) := fun o e => hp (by rw [e])
  exact ⟨by simpa using h.lt, (set_other _ (hn 0)).trans h.c0, (set_other _ (hn 1)).trans h.c1, (set_other _ (hn 2)).trans h.c2⟩
theorem IBox.put {w : World} {b : Nat} (h : IBox w b) (W H : Int) (v : Value) : JBox (((w.setCell ⟨b, 0, none⟩ (.int .i64 W)).setCell ⟨b, 1, none⟩ (.int .i64 H)).setCell ⟨b, 2, none⟩ v) b W H v :=
  ⟨by simpa using h.lt, (set_other _ (by simp)).trans ((set_other _ (by simp)).trans (set_same h.c0)), (set_other _ (by simp)).trans (set_same ((set_other _ (by simp)).trans h.c1)), set_same ((set_other _ (by simp)).trans ((set_other _ (by simp)).trans h.c2))⟩
theorem ar_render : renderP glowF = ⟨0, 4, 2, [9, 109, 209, 309, 10, 110, 210, 310]⟩ := by
  unfold renderP
  rw [if_pos glow_ok, glow_shown]
  exact glow_pic
end Go.Proofs.YtaenpgdmiaekcaaGreatDoor
/-
  LAWEXEC3: the law ExecSame.
-/
namespace Go.Proofs.YtaenpgdmiaekcaaGreatDoor
set_option maxRecDepth 100000
open Go.RowKit Im Go.Maps

theorem nm_list {w : World} {b n : Nat} {l : List Int} (h : Nm w b n (fun k => l.getD k 0)) (hl : l.length = n) (hn : n ≤ 4096) : Ints 0 w (some ⟨b, 0, none⟩) n l :=
  ⟨hl, by omega, .inr ⟨b, 0, rfl, Nat.zero_le _, h.lt, fun j hj => by rw [Nat.zero_add]; exact h.cells j hj⟩⟩
/-- The plan that is compiled. -/
abbrev cOs (f : Fr) : List Int := cOrd (gpOf f) f.ps.length
abbrev cPs (f : Fr) : List Int := cPl (gpOf f)
theorem comp_plan {f : Fr} (hE : frameE f = 0) : planE f (cOs f) (cPs f) = 0 ∧ (cPs f).length = f.ps.length := by
  have hG := gp_right hE
  have hC : Closed (gpOf f) := gp_closed hE
  have hO : Ord (gpOf f) (cOs f) (cPs f) := cPl_ord hG hC
  exact ⟨by unfold planE; rw [if_pos hE, if_pos (ord_iff.2 hO)], hO.len⟩
theorem runP_same {f : Fr} {os pl A : List Int} (h : execE f os pl A = 0) : runP f os pl A = renderP f := by
  obtain ⟨hC, hA⟩ := exec_zero h
  unfold runP
  rw [if_pos h, run_same (fit_of hC hA)]
theorem renderP_E (f : Fr) : (renderP f).E = frameE f := by
  unfold renderP
  by_cases h : frameE f = 0
  · rw [if_pos h, h]
    obtain ⟨hb, hfirst, hs⟩ := frameE_zero h
    have hl : shownP f < f.ps.length := (wrt_bd f.ps f.ps.length f.O).2
    exact (pics_right hb hfirst (shownP f).toNat (by omega)).1
  · rw [if_neg h]; rfl
theorem own_room {base : Nat} {w : World} {a : Option Addr} {n c : Nat} {A : List Int} (h : Owns base w (.slice a n c) A) : n ≤ c := by
  obtain ⟨h1, h2⟩ := h
  rcases h2 with ⟨e, _⟩ | ⟨g, cap, cur, e, _, _, hc, _⟩
  · injection e with _ e2 e3
    omega
  · injection e with _ e2 e3
    omega
end Go.Proofs.YtaenpgdmiaekcaaGreatDoor
