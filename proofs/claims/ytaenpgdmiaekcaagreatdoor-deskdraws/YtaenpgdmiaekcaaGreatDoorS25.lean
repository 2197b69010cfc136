/- ExecD, ExecE, ExecF, Glow, PlanBegun, ExecBegun, SortLay, StepRef, OrdRef: joined, in this order. -/
import Derived.Test.YtaenpgdmiaekcaaGreatDoorS24
import Derived.Test.YtaenpgdmiaekcaaGreatDoorS23
import Derived.Test.YtaenpgdmiaekcaaGreatDoorS15
import Derived.Test.YtaenpgdmiaekcaaGreatDoorS14
import Derived.Deep.OwnRows
import Derived.Test.YtaenpgdmiaekcaaGreatDoorS01
import Derived.Shelf.SlGeneric
import Derived.Shelf.SlSortCmp.WholeK
import Derived.Ground.SlsfProg
/-
  EXECD: exec's begin.
-/
namespace Go.Proofs.YtaenpgdmiaekcaaGreatDoor
set_option maxRecDepth 100000
open Go.RowKit Im

theorem boxes2 (w : World) (W H S O : Int) (a : Option Addr) (len cap : Nat) (v0 v1 : Value) : Below w.heap.size w ((w.alloc (.cells #[.int .i64 W, .int .i64 H, .int .i64 S, .int .i64 O, .slice a len cap] 35)).alloc (.cells #[v0, v1] 48)) ∧ FBox ((w.alloc (.cells #[.int .i64 W, .int .i64 H, .int .i64 S, .int .i64 O, .slice a len cap] 35)).alloc (.cells #[v0, v1] 48)) w.heap.size W H S O a len cap ∧ PlBox ((w.alloc (.cells #[.int .i64 W, .int .i64 H, .int .i64 S, .int .i64 O, .slice a len cap] 35)).alloc (.cells #[v0, v1] 48)) (w.heap.size + 1) v0 v1 := by
  refine ⟨below_box (below_box (Below.refl _ _) _) _, (FBox.new w W H S O a len cap).alloc _, ?_⟩
  have hP0 := PlBox.new (w.alloc (.cells #[.int .i64 W, .int .i64 H, .int .i64 S, .int .i64 O, .slice a len cap] 35)) v0 v1 48
  rwa [World.size_alloc] at hP0
/-- Five values in a box that may be written. -/
structure Bx5 (w : World) (b : Nat) : Prop where
  lt : b < w.heap.size
  c : ∀ j, j < 5 → ∃ v, w.cell? ⟨b, j, none⟩ = some v
  fz : ∀ o, w.frozen? ⟨b, o, none⟩ = false
theorem Bx5.below {w w' : World} {b B : Nat} (h : Bx5 w b) (hb : Below B w w') (hB : b < B) (hs : w.heap.size ≤ w'.heap.size) : Bx5 w' b :=
  ⟨Nat.lt_of_lt_of_le h.lt hs, fun j hj => by obtain ⟨v, hv⟩ := h.c j hj; exact ⟨v, (hb.cell (p := ⟨b, j, none⟩) hB).trans hv⟩, fun o => (hb.frozen (p := ⟨b, o, none⟩) hB).trans (h.fz o)⟩
theorem Bx5.new (w : World) (v0 v1 v2 v3 v4 : Value) (t : TypeId) : Bx5 (w.alloc (.cells #[v0, v1, v2, v3, v4] t)) w.heap.size := ⟨by simp, fun j hj => by
    match j, hj with
    | 0, _ => exact ⟨_, by simp [go_sem]; rfl⟩
    | 1, _ => exact ⟨_, by simp [go_sem]; rfl⟩
    | 2, _ => exact ⟨_, by simp [go_sem]; rfl⟩
    | 3, _ => exact ⟨_, by simp [go_sem]; rfl⟩
    | 4, _ => exact ⟨_, by simp [go_sem]; rfl⟩, fun o => frozen_new w _ _ o⟩
abbrev put5 (w : World) (b : Nat) (x0 x1 x2 x3 x4 : Value) : World := ((((w.setCell ⟨b, 0, none⟩ x0).setCell ⟨b, 1, none⟩ x1).setCell ⟨b, 2, none⟩ x2).setCell ⟨b, 3, none⟩ x3).setCell ⟨b, 4, none⟩ x4
theorem Bx5.sets {w : World} {b : Nat} (h : Bx5 w b) (x0 x1 x2 x3 x4 : Value) :
    (put5 w b x0 x1 x2 x3 x4).cell? ⟨b, 0, none⟩ = some x0 ∧ (put5 w b x0 x1 x2 x3 x4).cell? ⟨b, 1, none⟩ = some x1 ∧ (put5 w b x0 x1 x2 x3 x4).cell? ⟨b, 2, none⟩ = some x2 ∧ (put5 w b x0 x1 x2 x3 x4).cell? ⟨b, 3, none⟩ = some x3 ∧ (put5 w b x0 x1 x2 x3 x4).cell? ⟨b, 4, none⟩ = some x4 := by
  obtain ⟨v0, k0⟩ := h.c 0 (by decide)
  obtain ⟨v1, k1⟩ := h.c 1 (by decide)
  obtain ⟨v2, k2⟩ := h.c 2 (by decide)
  obtain ⟨v3, k3⟩ := h.c 3 (by decide)
  obtain ⟨v4, k4⟩ := h.c 4 (by decide)
  have ht : ∀ i j : Nat, i ≠ j → (⟨b, i, none⟩ : Addr) ≠ ⟨b, j, none⟩ := fun i j hij e => hij (by injection e)
  have A := fun (w : World) (u : Value) (i j : Nat) (hij : i ≠ j) => set_other (w := w) u (ht i j hij)
  unfold put5
  refine ⟨?_, ?_, ?_, ?_, ?_⟩
  · rw [A _ _ 4 0 (by decide), A _ _ 3 0 (by decide), A _ _ 2 0 (by decide), A _ _ 1 0 (by decide)]; exact set_same k0
  · rw [A _ _ 4 1 (by decide), A _ _ 3 1 (by decide), A _ _ 2 1 (by decide)]; exact set_same ((A _ _ 0 1 (by decide)).trans k1)
  · rw [A _ _ 4 2 (by decide), A _ _ 3 2 (by decide)]; exact set_same ((A _ _ 1 2 (by decide)).trans ((A _ _ 0 2 (by decide)).trans k2))
  · rw [A _ _ 4 3 (by decide)]; exact set_same ((A _ _ 2 3 (by decide)).trans ((A _ _ 1 3 (by decide)).trans ((A _ _ 0 3 (by decide)).trans k3)))
  · exact set_same ((A _ _ 3 4 (by decide)).trans ((A _ _ 2 4 (by decide)).trans ((A _ _ 1 4 (by decide)).trans ((A _ _ 0 4 (by decide)).trans k4))))
/-- The same store in two worlds that are alike below n. -/
theorem below_both {n : Nat} {a b : World} (h : Below n a b) (p : Addr) (v : Value) : Below n (a.setCell p v) (b.setCell p v) :=
  ⟨h.os, h.tape, h.output, by simpa using h.size, fun k hk => by
    have := h.block k hk
    simp only [World.setCell, Array.getElem?_modify, this]⟩
abbrev noWork : Value := .agg #[.slice none 0 0, .slice none 0 0, .slice none 0 0, .slice none 0 0, .slice none 0 0]
/-- What begin is told by. -/
def ToldBg (w : World) (f : Fr) (os pl A : List Int) (vp vl : Value) (e : Ending) (w' : World) : Prop :=
  (execE f os pl A = 0 ∧ ∃ wS za zc sa sc g ac, e = .returned (.tuple #[.agg #[vp, vl, .slice za f.ps.length zc, .slice sa f.ps.length sc, .slice (some ⟨g, 0, none⟩) A.length ac], .int .i64 0]) ∧ Below w.heap.size w wS ∧ Zs wS za f.ps.length (szs f f.ps.length) ∧ LLs wS sa f.ps.length (srcs f.ps f.ps.length) ∧ Owns wS.heap.size w' (.slice (some ⟨g, 0, none⟩) A.length ac) A ∧ Below wS.heap.size wS w') ∨
  (execE f os pl A ≠ 0 ∧ e = .returned (.tuple #[noWork, .int .i64 (execE f os pl A)]) ∧ Below w.heap.size w w')
theorem below_put5 {n : Nat} {a b : World} (h : Below n a b) {q : Nat} (hq : n ≤ q) (x0 x1 x2 x3 x4 : Value) : Below n a (put5 b q x0 x1 x2 x3 x4) :=
  ((((h.setCell (p := ⟨q, 0, none⟩) hq x0).setCell (p := ⟨q, 1, none⟩) hq x1).setCell (p := ⟨q, 2, none⟩) hq x2).setCell (p := ⟨q, 3, none⟩) hq x3).setCell (p := ⟨q, 4, none⟩) hq x4
theorem execE_no {f : Fr} {os pl A : List Int} (h : checkP f os pl A.length ≠ 0) : execE f os pl A = checkP f os pl A.length := by unfold execE; rw [if_neg h]
theorem execE_bad {f : Fr} {os pl A : List Int} (h : checkP f os pl A.length = 0) (hb : fineA A ≠ true) : execE f os pl A = 3 := by unfold execE; rw [if_pos h, if_neg hb]
theorem execE_ok {f : Fr} {os pl A : List Int} (h : checkP f os pl A.length = 0) (hb : fineA A = true) : execE f os pl A = 0 := by unfold execE; rw [if_pos h, if_pos hb]
abbrev Fit0 (A : List Int) (f : Fr) (os pl : List Int) : Prop := FitA f os pl A
set_option maxHeartbeats 8000000 in
theorem begin_any (W H S O : Int) (a : Option Addr) (len cap : Nat) (ps : List Ps) (w : World) (hp : Passes w a len ps) (oa : Option Addr) (olen ocap : Nat) (pa : Option Addr) (plen pcap : Nat) (os pl : List Int) (hO : Ints 0 w oa olen os) (hL : Ints 0 w pa plen pl) (hcap : olen ≤ ocap) (aa : Option Addr) (alen ac : Nat) (A : List Int) (hA : Ints 0 w aa alen A) :
    Calls Tryz.prog 45 #[.agg #[.int .i64 W, .int .i64 H, .int .i64 S, .int .i64 O, .slice a len cap], .agg #[.slice oa olen ocap, .slice pa plen pcap], .slice aa alen ac] w (ToldBg w ⟨W, H, S, O, ps⟩ os pl A (.slice a len cap) (.slice pa plen pcap)) := by
  obtain rfl := hA.leng
  obtain ⟨hb0, hF0, hP0⟩ := boxes2 w W H S O a len cap (.slice oa olen ocap) (.slice pa plen pcap)
  have hs0 : w.heap.size + 2 ≤ ((w.alloc (.cells #[.int .i64 W, .int .i64 H, .int .i64 S, .int .i64 O, .slice a len cap] 35)).alloc (.cells #[.slice oa olen ocap, .slice pa plen pcap] 48)).heap.size := by simp
  have hR0 := Bx5.new ((w.alloc (.cells #[.int .i64 W, .int .i64 H, .int .i64 S, .int .i64 O, .slice a len cap] 35)).alloc (.cells #[.slice oa olen ocap, .slice pa plen pcap] 48)) (.slice none 0 0) (.slice none 0 0) (.slice none 0 0) (.slice none 0 0) (.slice none 0 0) 96
  have hbx := (Below.refl ((w.alloc (.cells #[.int .i64 W, .int .i64 H, .int .i64 S, .int .i64 O, .slice a len cap] 35)).alloc (.cells #[.slice oa olen ocap, .slice pa plen pcap] 48)).heap.size _).alloc (Nat.le_refl _) (.cells #[.slice none 0 0, .slice none 0 0, .slice none 0 0, .slice none 0 0, .slice none 0 0] 96)
  have hF1 := hF0.below hbx
  have hP1 := hP0.below hbx
  have hb1 := below_step hb0 hbx
  rw [World.size_alloc, World.size_alloc] at hR0
  have hck := planCheck_any W H S O a len cap ps _ (hp.below hb1) oa olen ocap pa plen pcap os pl (hO.below (Nat.le_refl _) hb1) (hL.below (Nat.le_refl _) hb1) hcap A.length
  clear hF0 hP0 hb0 hbx
  go_enter Tryz.func45, Tryz.ntmps45
  obtain ⟨_, g0, g1, g2, g3, g4⟩ := id hF1
  obtain ⟨_, e0, e1⟩ := id hP1
  go_wp2_with fail
  generalize ((w.alloc (.cells #[.int .i64 W, .int .i64 H, .int .i64 S, .int .i64 O, .slice a len cap] 35)).alloc (.cells #[.slice oa olen ocap, .slice pa plen pcap] 48)).alloc (.cells #[.slice none 0 0, .slice none 0 0, .slice none 0 0, .slice none 0 0, .slice none 0 0] 96) = w1 at *
  refine hck.mono ?_
  clear hck g0 g1 g2 g3 g4 e0 e1 hs0
  rintro e w2 ⟨rfl, b2⟩
  have hb2 := below_step hb1 b2
  have hF2 := hF1.below b2
  have hP2 := hP1.below b2
  have hR2 := hR0.below b2 hR0.lt b2.size
  have hrb : w.heap.size ≤ w.heap.size + 1 + 1 := by omega
  obtain ⟨v0, k0⟩ := hR2.c 0 (by decide)
  obtain ⟨v1, k1⟩ := hR2.c 1 (by decide)
  obtain ⟨v2, k2⟩ := hR2.c 2 (by decide)
  obtain ⟨v3, k3⟩ := hR2.c 3 (by decide)
  obtain ⟨v4, k4⟩ := hR2.c 4 (by decide)
  have f0 := hR2.fz 0
  have f1 := hR2.fz 1
  have f2 := hR2.fz 2
  have f3 := hR2.fz 3
  have f4 := hR2.fz 4
  have HT : Hid (_) := hR2.sets (.slice none 0 0) (.slice none 0 0) (.slice none 0 0) (.slice none 0 0) (.slice none 0 0)
  have HBZ : Hid (_) := below_put5 hb2 hrb (.slice none 0 0) (.slice none 0 0) (.slice none 0 0) (.slice none 0 0) (.slice none 0 0)
  by_cases hC : checkP ⟨W, H, S, O, ps⟩ os pl A.length = 0
  · have hE : frameE ⟨W, H, S, O, ps⟩ = 0 := (planE_zero (check_zeroX hC).1).1
    have h12 : ps.length ≤ 12 := by
      obtain ⟨hb, _, _⟩ := frameE_zero hE
      exact (boundsE_zero hb).2.2.2.2.2
    have hA4 : A.length ≤ 4096 := by have := (check_zeroX hC).2.1; omega
    have hFP : fineA A = true → Fit0 A ⟨W, H, S, O, ps⟩ os pl := fun h => fit_of hC h
    have HFP : Hid (_) := hFP
    have HX0 : Hid (fineA A = true → execE ⟨W, H, S, O, ps⟩ os pl A = 0) := fun h => execE_ok hC h
    have HX3 : Hid (fineA A ≠ true → execE ⟨W, H, S, O, ps⟩ os pl A = 3) := fun h => execE_bad hC h
    have hpr := hp.below hb2
    have hAr := hA.below (Nat.le_refl _) hb2
    have HBAD : Hid (fineA A ≠ true → ToldBg w ⟨W, H, S, O, ps⟩ os pl A (.slice a len cap) (.slice pa plen pcap) (.returned (.tuple #[noWork, .int .i64 3])) (put5 w2 (w.heap.size + 1 + 1) (.slice none 0 0) (.slice none 0 0) (.slice none 0 0) (.slice none 0 0) (.slice none 0 0))) := fun h => .inr ⟨by rw [HX3.out h]; decide, by rw [HX3.out h], HBZ.out⟩
    rw [hC]
    clear hFP hC hb1 hF1 hP1 hR0 b2 hO hL
    go_wp2_with fail
    go_loopw [7, 25] (fun s7 i wr => ∃ j : Nat, j ≤ A.length ∧ s7 = .int .i64 0 ∧ i = .int .i64 j ∧ (A.take j).all numB = true ∧ wr = w2) (fun _ i _ => A.length - (intOf i).toNat)
    case atStart => exact ⟨0, Nat.zero_le _, rfl, rfl, by simp, rfl⟩
    case round =>
      obtain ⟨j, hj, rfl, rfl, hall, rfl⟩ := hrel
      have HALL : Hid (_) := hall
      clear hall
      by_cases hjl : j < A.length
      · have hjI : (j : Int) < (A.length : Int) := by omega
        have hjI0 : (0 : Int) ≤ (j : Int) := by omega
        obtain ⟨ab, ao, rfl, hc⟩ := hAr.nth hjl
        have HN : Hid (numB (A[j]?.getD 0) = true → (A.take (j + 1)).all numB = true) := fun h => all_succ A j hjl HALL.out h
        have HNN : Hid (numB (A[j]?.getD 0) = false → fineA A ≠ true) := fun h => by
          have := all_not A j hjl h
          unfold fineA
          rw [this]; decide
        have eg : A.getD j 0 = A[j]?.getD 0 := List.getD_eq_getElem?_getD
        rw [eg] at hc
        generalize A[j]?.getD 0 = n at *
        by_cases h1 : n < 0
        · have HBD : Hid (_) := HBAD.out (HNN.out (by simp [numB]; omega))
          go_wp2
          obtain ⟨t0, t1, t2, t3, t4⟩ := HT.out
          exact bodyPost_ret (v := .tuple #[noWork, .int .i64 3]) (by simp [results, Tryz.results45, go_sem, t0, t1, t2, t3, t4]) rfl HBD.out
        · by_cases h2 : 65535 < n
          · have HBD : Hid (_) := HBAD.out (HNN.out (by simp [numB]; omega))
            go_wp2
            obtain ⟨t0, t1, t2, t3, t4⟩ := HT.out
            exact bodyPost_ret (v := .tuple #[noWork, .int .i64 3]) (by simp [results, Tryz.results45, go_sem, t0, t1, t2, t3, t4]) rfl HBD.out
          · have HA2 : Hid (_) := HN.out (by simp [numB]; omega)
            go_wp2
            go_roundw
            case rel => exact ⟨j + 1, by omega, rfl, by go_num, HA2.out, trivial⟩
            case measure => simp [intOf]; omega
      · have hje : j = A.length := by omega
        subst hje
        have hfin : fineA A = true := by
          have := HALL.out
          rw [List.take_length] at this
          exact this
        have hFit := HFP.out hfin
        have HEX := HX0.out hfin
        have hkI : ¬ (A.length : Int) < (A.length : Int) := by omega
        clear k0 k1 k2 k3 k4 f0 f1 f2 f3 f4 HT HBZ HBAD HALL
        have hsi := sizes_any W H S O a len cap ps wr hpr
        obtain ⟨_, g0, g1, g2, g3, g4⟩ := id hF2
        go_wp2_with fail
        refine hsi.mono ?_
        clear hsi g0 g1 g2 g3 g4
        rintro e w3 ⟨⟨vz, rfl, hZ3⟩, b3⟩
        rw [if_pos hE] at hZ3
        have hso := sources_any W H S O a len cap ps w3 (hpr.below b3)
        obtain ⟨_, g0, g1, g2, g3, g4⟩ := hF2.below b3
        rw [hE]
        go_wp2_with fail
        refine hso.mono ?_
        clear hso g0 g1 g2 g3 g4
        rintro e w4 ⟨⟨vs, rfl, hS4⟩, b4⟩
        rw [if_pos hE] at hS4
        have b34 := below_step b3 b4
        have hb4 := below_step hb2 b34
        have hne : A ≠ [] := fun e => by
          obtain ⟨q, _, hq, hm⟩ := hFit.last
          obtain ⟨h1, _, h3, h4⟩ := hFit.place hq hm
          have := congrArg List.length e
          rw [List.length_nil] at this
          omega
        have hZ4 : OwnsZ wr.heap.size w4 vz (szs ⟨W, H, S, O, ps⟩ ps.length) := ownsRow_below hZ3 b4 (Nat.le_refl _)
        obtain ⟨za, zc, rfl, _⟩ := hZ4.zs (by rw [szs_length]; exact h12)
        rw [szs_length] at hZ4 ⊢
        obtain ⟨sa, sc, rfl, _⟩ := hS4.lls (fun x hx => by
          unfold srcs at hx
          rw [List.mem_map] at hx
          obtain ⟨q, _, rfl⟩ := hx
          exact src_two ps q)
        rw [srcs_length] at hS4 ⊢
        have hF4 := hF2.below b34
        have hP4 := hP2.below b34
        have hR4 := hR2.below b34 hR2.lt b34.size
        have hd := (Below.refl w4.heap.size w4).drew
        have hcl := cloneI_any ac ((hAr.below (Nat.le_refl _) b34).below (Nat.le_refl _) hd) hA4
        have g4 := hF4.c4
        have e1 := hP4.c1
        have hgd := below_grown hd (some (w.heap.size + 1 + 1))
        have held : ∀ wx, w4.grownBy wx (some (w.heap.size + 1 + 1)) → wx.cell? ⟨w.heap.size, 4, none⟩ = some (.slice a len cap) ∧ wx.cell? ⟨w.heap.size + 1, 1, none⟩ = some (.slice pa plen pcap) := fun wx h =>
          ⟨(grown_cell h hF4.lt (fun e => by injection e with e; omega) 4).1.trans g4, (grown_cell h hP4.lt (fun e => by injection e with e; omega) 1).1.trans e1⟩
        have HFIN : Hid (∀ w5 g gc, Below w4.heap.size w4 w5 → Owns w4.heap.size w5 (.slice (some ⟨g, 0, none⟩) A.length gc) A → ToldBg w ⟨W, H, S, O, ps⟩ os pl A (.slice a len cap) (.slice pa plen pcap) (.returned (.tuple #[.agg #[.slice a len cap, .slice pa plen pcap, .slice za ps.length zc, .slice sa ps.length sc, .slice (some ⟨g, 0, none⟩) A.length gc], .int .i64 0])) (put5 w5 (w.heap.size + 1 + 1) (.slice a len cap) (.slice pa plen pcap) (.slice za ps.length zc) (.slice sa ps.length sc) (.slice (some ⟨g, 0, none⟩) A.length gc))) := by
          intro w5 g gc b5 hO5
          have hRr : w.heap.size + 1 + 1 < wr.heap.size := hR2.lt
          have hR3 : w.heap.size + 1 + 1 < w3.heap.size := Nat.lt_of_lt_of_le hRr b3.size
          have hRw : w.heap.size + 1 + 1 < w4.heap.size := Nat.lt_of_lt_of_le hR3 b4.size
          refine .inl ⟨HEX, put5 w4 (w.heap.size + 1 + 1) (.slice a len cap) (.slice pa plen pcap) (.slice za ps.length zc) (.slice sa ps.length sc) (.slice (some ⟨g, 0, none⟩) A.length gc), za, zc, sa, sc, g, gc, rfl, below_put5 hb4 hrb _ _ _ _ _, ?_, ?_, ?_, ?_⟩
          · have X : OwnsZ wr.heap.size (put5 w4 (w.heap.size + 1 + 1) (.slice a len cap) (.slice pa plen pcap) (.slice za ps.length zc) (.slice sa ps.length sc) (.slice (some ⟨g, 0, none⟩) A.length gc)) (.slice za ps.length zc) (szs ⟨W, H, S, O, ps⟩ ps.length) := ownsRow_setCell_below (ownsRow_setCell_below (ownsRow_setCell_below (ownsRow_setCell_below (ownsRow_setCell_below hZ4 hRr _) hRr _) hRr _) hRr _) hRr _
            obtain ⟨za', zc', ev, hz⟩ := X.zs (by rw [szs_length]; exact h12)
            rw [szs_length] at ev hz
            injection ev with ev
            subst ev
            exact hz
          · have X := ((((hS4.setCell (p := ⟨w.heap.size + 1 + 1, 0, none⟩) hR3 (.slice a len cap)).setCell (p := ⟨w.heap.size + 1 + 1, 1, none⟩) hR3 (.slice pa plen pcap)).setCell (p := ⟨w.heap.size + 1 + 1, 2, none⟩) hR3 (.slice za ps.length zc)).setCell (p := ⟨w.heap.size + 1 + 1, 3, none⟩) hR3 (.slice sa ps.length sc)).setCell (p := ⟨w.heap.size + 1 + 1, 4, none⟩) hR3 (.slice (some ⟨g, 0, none⟩) A.length gc)
            obtain ⟨sa', sc', ev, hz⟩ := X.lls (fun x hx => by
              unfold srcs at hx
              rw [List.mem_map] at hx
              obtain ⟨q, _, rfl⟩ := hx
              exact src_two ps q)
            rw [srcs_length] at ev hz
            injection ev with ev
            subst ev
            exact hz
          · have X := ownsRow_setCell_below (ownsRow_setCell_below (ownsRow_setCell_below (ownsRow_setCell_below (ownsRow_setCell_below hO5 (a := ⟨w.heap.size + 1 + 1, 0, none⟩) hRw (.slice a len cap)) (a := ⟨w.heap.size + 1 + 1, 1, none⟩) hRw (.slice pa plen pcap)) (a := ⟨w.heap.size + 1 + 1, 2, none⟩) hRw (.slice za ps.length zc)) (a := ⟨w.heap.size + 1 + 1, 3, none⟩) hRw (.slice sa ps.length sc)) (a := ⟨w.heap.size + 1 + 1, 4, none⟩) hRw (.slice (some ⟨g, 0, none⟩) A.length gc)
            have e : (put5 w4 (w.heap.size + 1 + 1) (.slice a len cap) (.slice pa plen pcap) (.slice za ps.length zc) (.slice sa ps.length sc) (.slice (some ⟨g, 0, none⟩) A.length gc)).heap.size = w4.heap.size := by simp
            rw [e]
            exact X
          · have e : (put5 w4 (w.heap.size + 1 + 1) (.slice a len cap) (.slice pa plen pcap) (.slice za ps.length zc) (.slice sa ps.length sc) (.slice (some ⟨g, 0, none⟩) A.length gc)).heap.size = w4.heap.size := by simp
            rw [e]
            exact below_both (below_both (below_both (below_both (below_both b5 _ _) _ _) _ _) _ _) _ _
        clear hZ3 hZ4 hS4 hF2 hP2 hR2 hp hpr hA hAr hFit HFP
        go_upto_region 16 with fail
        go_region_held3 (fun wx => wx.cell? ⟨w.heap.size, 4, none⟩ = some (.slice a len cap) ∧ wx.cell? ⟨w.heap.size + 1, 1, none⟩ = some (.slice pa plen pcap))
          (first | exact held _ hgd | exact held _ g5 | exact held _ (grown_put (grown_put (grown_put (grown_put (grown_put g5 0 _) 1 _) 2 _) 3 _) 4 _))
          ((go_at_call 86; refine hcl.mono ?_; rintro e w5 ⟨⟨v, rfl, hO5⟩, b5'⟩; have b5 := below_step hd b5'; have g5 := below_grown b5 (some (w.heap.size + 1 + 1)); obtain ⟨g, gc, rfl, _, _, _⟩ := hO5.block hne; have hR5 := hR4.below b5 hR4.lt b5.size; obtain ⟨v0, k0⟩ := hR5.c 0 (by decide); obtain ⟨v1, k1⟩ := hR5.c 1 (by decide); obtain ⟨v2, k2⟩ := hR5.c 2 (by decide); obtain ⟨v3, k3⟩ := hR5.c 3 (by decide); obtain ⟨v4, k4⟩ := hR5.c 4 (by decide); have f0 := hR5.fz 0; have f1 := hR5.fz 1; have f2 := hR5.fz 2; have f3 := hR5.fz 3; have f4 := hR5.fz 4))
        all_goals
          have HT : Hid (_) := hR5.sets (.slice a len cap) (.slice pa plen pcap) (.slice za ps.length zc) (.slice sa ps.length sc) (.slice (some ⟨g, 0, none⟩) A.length gc)
          have HF : Hid (_) := HFIN.out w5 g gc b5 hO5
          clear hO5 b5' hR5 HFIN held
          go_wp2
          obtain ⟨t0, t1, t2, t3, t4⟩ := HT.out
          exact bodyPost_ret (v := .tuple #[.agg #[.slice a len cap, .slice pa plen pcap, .slice za ps.length zc, .slice sa ps.length sc, .slice (some ⟨g, 0, none⟩) A.length gc], .int .i64 0]) (by simp [results, Tryz.results45, go_sem, t0, t1, t2, t3, t4]) rfl HF.out
  · have HFIN : Hid (ToldBg w ⟨W, H, S, O, ps⟩ os pl A (.slice a len cap) (.slice pa plen pcap) (.returned (.tuple #[noWork, .int .i64 (checkP ⟨W, H, S, O, ps⟩ os pl A.length)])) (put5 w2 (w.heap.size + 1 + 1) (.slice none 0 0) (.slice none 0 0) (.slice none 0 0) (.slice none 0 0) (.slice none 0 0))) := .inr ⟨by rw [execE_no hC]; exact hC, by rw [execE_no hC], HBZ.out⟩
    generalize checkP ⟨W, H, S, O, ps⟩ os pl A.length = E at *
    go_wp2
    obtain ⟨t0, t1, t2, t3, t4⟩ := HT.out
    exact bodyPost_ret (v := .tuple #[noWork, .int .i64 E]) (by simp [results, Tryz.results45, go_sem, t0, t1, t2, t3, t4]) rfl HFIN.out
end Go.Proofs.YtaenpgdmiaekcaaGreatDoor
/-
  EXECE: exec.Step.
-/
namespace Go.Proofs.YtaenpgdmiaekcaaGreatDoor
set_option maxRecDepth 100000
open Go.RowKit Im

theorem WkBox.grown {w w' : World} {b : Nat} {v0 v1 v2 v3 v4 : Value} {row : Option Nat} (h : WkBox w b v0 v1 v2 v3 v4) (hg : w.grownBy w' row) (hne : some b ≠ row) : WkBox w' b v0 v1 v2 v3 v4 :=
  ⟨Nat.lt_of_lt_of_le h.lt hg.size, (grown_cell hg h.lt hne 0).1.trans h.c0, (grown_cell hg h.lt hne 1).1.trans h.c1, (grown_cell hg h.lt hne 2).1.trans h.c2, (grown_cell hg h.lt hne 3).1.trans h.c3, (grown_cell hg h.lt hne 4).1.trans h.c4⟩
theorem grown_from {n : Nat} {a w w' : World} {g : Nat} (h : Below n a w) (hn : n ≤ w.heap.size) (hg : w.grownBy w' (some g)) (hg2 : n ≤ g) : Below n a w' := h.grown hg hn (fun k hk => by injection hk with hk; omega)
end Go.Proofs.YtaenpgdmiaekcaaGreatDoor
/-
  EXECF: exec.Run.
-/
namespace Go.Proofs.YtaenpgdmiaekcaaGreatDoor
set_option maxRecDepth 100000
open Go.RowKit Im

/-- What Run tells. -/
def runP (f : Fr) (os pl A : List Int) : Res := if execE f os pl A = 0 then runR f os pl A else noRes (execE f os pl A)
theorem IBox.grown {w w' : World} {b : Nat} {row : Option Nat} (h : IBox w b) (hg : w.grownBy w' row) (hne : some b ≠ row) : IBox w' b :=
  ⟨Nat.lt_of_lt_of_le h.lt hg.size, (grown_cell hg h.lt hne 0).1.trans h.c0, (grown_cell hg h.lt hne 1).1.trans h.c1, (grown_cell hg h.lt hne 2).1.trans h.c2, (grown_cell hg h.lt hne 0).2.trans h.f0, (grown_cell hg h.lt hne 1).2.trans h.f1, (grown_cell hg h.lt hne 2).2.trans h.f2⟩
theorem FBox.grown {w w' : World} {b : Nat} {W H S O : Int} {a : Option Addr} {len cap : Nat} {row : Option Nat} (h : FBox w b W H S O a len cap) (hg : w.grownBy w' row) (hne : some b ≠ row) : FBox w' b W H S O a len cap :=
  ⟨Nat.lt_of_lt_of_le h.lt hg.size, (grown_cell hg h.lt hne 0).1.trans h.c0, (grown_cell hg h.lt hne 1).1.trans h.c1, (grown_cell hg h.lt hne 2).1.trans h.c2, (grown_cell hg h.lt hne 3).1.trans h.c3, (grown_cell hg h.lt hne 4).1.trans h.c4⟩
set_option maxHeartbeats 8000000 in
theorem run_any (W H S O : Int) (a : Option Addr) (len cap : Nat) (ps : List Ps) (w : World) (hp : Passes w a len ps) (oa : Option Addr) (olen ocap : Nat) (pa : Option Addr) (plen pcap : Nat) (os pl : List Int) (hO : Ints 0 w oa olen os) (hL : Ints 0 w pa plen pl) (hcap : olen ≤ ocap) (aa : Option Addr) (alen ac : Nat) (A : List Int) (hA : Ints 0 w aa alen A) :
    Calls Tryz.prog 20 #[.agg #[.int .i64 W, .int .i64 H, .int .i64 S, .int .i64 O, .slice a len cap], .agg #[.slice oa olen ocap, .slice pa plen pcap], .slice aa alen ac] w (Told w (runP ⟨W, H, S, O, ps⟩ os pl A)) := by
  obtain rfl := hO.leng
  obtain rfl := hp.leng
  obtain ⟨hb0', hF0', hP0'⟩ := boxes2 w W H S O a ps.length cap (.slice oa os.length ocap) (.slice pa plen pcap)
  have bI := (Below.refl ((w.alloc (.cells #[.int .i64 W, .int .i64 H, .int .i64 S, .int .i64 O, .slice a ps.length cap] 35)).alloc (.cells #[.slice oa os.length ocap, .slice pa plen pcap] 48)).heap.size _).alloc (Nat.le_refl _) (.cells #[.int .i64 0, .int .i64 0, .slice none 0 0] 24)
  have hI0 := IBox.new ((w.alloc (.cells #[.int .i64 W, .int .i64 H, .int .i64 S, .int .i64 O, .slice a ps.length cap] 35)).alloc (.cells #[.slice oa os.length ocap, .slice pa plen pcap] 48))
  rw [World.size_alloc, World.size_alloc] at hI0
  have hb0 := below_step hb0' bI
  have hF0 := hF0'.below bI
  have hP0 := hP0'.below bI
  clear hb0' hF0' hP0' bI
  have hbg := begin_any W H S O a ps.length cap ps _ (hp.below hb0) oa os.length ocap pa plen pcap os pl (hO.below (Nat.le_refl _) hb0) (hL.below (Nat.le_refl _) hb0) hcap aa alen ac A (hA.below (Nat.le_refl _) hb0)
  go_enter Tryz.func20, Tryz.ntmps20
  obtain ⟨_, g0, g1, g2, g3, g4⟩ := id hF0
  obtain ⟨_, e0, e1⟩ := id hP0
  go_wp2_with fail
  generalize ((w.alloc (.cells #[.int .i64 W, .int .i64 H, .int .i64 S, .int .i64 O, .slice a ps.length cap] 35)).alloc (.cells #[.slice oa os.length ocap, .slice pa plen pcap] 48)).alloc (.cells #[.int .i64 0, .int .i64 0, .slice none 0 0] 24) = w1 at *
  refine hbg.mono ?_
  clear hbg g0 g1 g2 g3 g4 e0 e1
  have hw2 : w.heap.size ≤ w.heap.size + 1 + 1 := by omega
  rintro e w2 (⟨hX, wS, za, zc, sa, sc, g, gc, rfl, bS, hZ, hSr, hOw, b2⟩ | ⟨hX, rfl, b2⟩)
  · obtain ⟨hC, hfi⟩ := exec_zero hX
    have hFit : FitA ⟨W, H, S, O, ps⟩ os pl A := fit_of hC hfi
    have hS1 : w1.heap.size ≤ wS.heap.size := bS.size
    have hb2 : Below w1.heap.size w1 w2 := bS.trans (b2.mono hS1)
    have hbS := below_step hb0 bS
    have hbw := below_step hb0 hb2
    have HRP : Hid (runP ⟨W, H, S, O, ps⟩ os pl A = runR ⟨W, H, S, O, ps⟩ os pl A) := by show _ = _; unfold runP; rw [if_pos hX]
    dsimp only at hZ hSr ⊢
    have hpl : plen = ps.length := by rw [← hL.leng]; exact hFit.ord.len
    subst hpl
    have bA := (Below.refl w2.heap.size w2).alloc (Nat.le_refl _) (.cells #[.slice a ps.length cap, .slice pa ps.length pcap, .slice za ps.length zc, .slice sa ps.length sc, .slice (some ⟨g, 0, none⟩) A.length gc] 96)
    have hK := WkBox.new w2 (.slice a ps.length cap) (.slice pa ps.length pcap) (.slice za ps.length zc) (.slice sa ps.length sc) (.slice (some ⟨g, 0, none⟩) A.length gc) 96
    have hF3 := (hF0.below hb2).below bA
    have hP3 := (hP0.below hb2).below bA
    have hI3 := (hI0.below hb2 hI0.lt hb2.size).below bA (Nat.lt_of_lt_of_le hI0.lt hb2.size) bA.size
    have hg0 : wS.heap.size ≤ g ∧ g < w2.heap.size := World.ownsRow.lt (w := w2) hOw g rfl
    have hb3 : Below wS.heap.size wS (w2.alloc (.cells #[.slice a ps.length cap, .slice pa ps.length pcap, .slice za ps.length zc, .slice sa ps.length sc, .slice (some ⟨g, 0, none⟩) A.length gc] 96)) := b2.trans (bA.mono b2.size)
    have hO3 : Owns wS.heap.size _ (.slice (some ⟨g, 0, none⟩) A.length gc) A := ownsRow_below hOw bA (Nat.le_refl _)
    have hpS := hp.below hbS
    have hLS := hL.below (Nat.le_refl _) hbS
    have hOS := hO.below (Nat.le_refl _) hbS
    have hbig := hOS.big
    have hIl : w.heap.size + 1 + 1 < w1.heap.size := hI0.lt
    have e0 := hP3.c0
    have hs3 : wS.heap.size ≤ (w2.alloc (.cells #[.slice a ps.length cap, .slice pa ps.length pcap, .slice za ps.length zc, .slice sa ps.length sc, .slice (some ⟨g, 0, none⟩) A.length gc] 96)).heap.size := hb3.size
    have HE : Hid (frameE ⟨W, H, S, O, ps⟩ = 0) := hFit.E
    clear hO hL hp hA hOw hF0 hP0 hI0 hX hC hfi
    go_wp2_with fail
    generalize w2.alloc (.cells #[.slice a ps.length cap, .slice pa ps.length pcap, .slice za ps.length zc, .slice sa ps.length sc, .slice (some ⟨g, 0, none⟩) A.length gc] 96) = w3 at *
    have hne1 : some w2.heap.size ≠ some g := fun e => by injection e with e; omega
    have hne2 : some w.heap.size ≠ some g := fun e => by injection e with e; omega
    have hne3 : some (w.heap.size + 1 + 1) ≠ some g := fun e => by injection e with e; omega
    go_loopw [7, 28] (fun s7 i wr => ∃ j : Nat, j ≤ os.length ∧ s7 = .int .i64 0 ∧ i = .int .i64 j ∧ Owns wS.heap.size wr (.slice (some ⟨g, 0, none⟩) A.length gc) (runA ⟨W, H, S, O, ps⟩ os pl A j) ∧ w3.grownBy wr (some g)) (fun _ i _ => os.length - (intOf i).toNat)
    case atStart => exact ⟨0, Nat.zero_le _, rfl, rfl, hO3, World.grownBy.refl _ _⟩
    case round =>
      obtain ⟨j, hj, rfl, rfl, hOr, hgr⟩ := hrel
      clear e0 hO3
      obtain ⟨hl, hFj⟩ := hFit.run hj
      have hbr : Below wS.heap.size wS wr := grown_from hb3 hs3 hgr hg0.1
      have hbwr : Below w.heap.size w wr := hbS.trans (hbr.mono hbS.size)
      have hKr := hK.grown hgr hne1
      have hFr := hF3.grown hgr hne2
      by_cases hjl : j < os.length
      · obtain ⟨q, eq, hq, hqm⟩ := os_at hFit hjl
        obtain ⟨ob, oo, rfl, hoc⟩ := (hOS.below (Nat.le_refl _) hbr).nth hjl
        rw [eq] at hoc
        have hjI : (j : Int) < (os.length : Int) := by omega
        have hj0 : (0 : Int) ≤ (j : Int) := by omega
        have HNX : Hid (runA ⟨W, H, S, O, ps⟩ os pl A (j + 1) = stepA ⟨W, H, S, O, ps⟩ pl (runA ⟨W, H, S, O, ps⟩ os pl A j) q) := by
          show stepA _ _ _ (os.getD j 0).toNat = _
          rw [eq, Int.toNat_natCast]
        rw [← hl] at hOr
        have hdo := do_any (f := ⟨W, H, S, O, ps⟩) a cap pa pcap za zc sa sc g gc (hpS.below hbr) (hLS.below (Nat.le_refl _) hbr) (hZ.below hbr) (hSr.below hbr) hOr hFj hq hqm
        dsimp only at hdo
        rw [hl] at hdo
        obtain ⟨_, k0, k1, k2, k3, k4⟩ := id hKr
        clear hOr hFr hKr hFj hl hpS hLS hOS hZ hSr hFit
        generalize runA ⟨W, H, S, O, ps⟩ os pl A j = B at *
        go_wp2_with fail
        refine hdo.mono ?_
        clear hdo
        rintro e w5 ⟨rfl, hO5, g5⟩
        have HO5 : Hid (Owns wS.heap.size w5 (.slice (some ⟨g, 0, none⟩) A.length gc) (runA ⟨W, H, S, O, ps⟩ os pl A (j + 1))) := by show Owns _ _ _ _; rw [HNX.out]; exact hO5
        have g5' := hgr.trans g5
        clear hO5 g5 k0 k1 k2 k3 k4
        go_wp2
        go_roundw
        case rel => exact ⟨j + 1, by omega, rfl, by go_num, HO5.out, g5'⟩
        case measure => simp [intOf]; omega
      · have hje : j = os.length := by omega
        subst hje
        have hkI : ¬ (os.length : Int) < (os.length : Int) := by omega
        have hla := last_any W H S O a ps.length cap ps wr (hpS.below hbr)
        obtain ⟨q, eq, hq, hqm⟩ := hFit.last
        obtain ⟨_, g0, g1, g2, g3, g4⟩ := id hFr
        have HRR : Hid (runR ⟨W, H, S, O, ps⟩ os pl A = liesR ⟨W, H, S, O, ps⟩ pl (runA ⟨W, H, S, O, ps⟩ os pl A os.length) q) := by show _ = _; unfold runR; rw [eq]
        have hOr' := hOr
        rw [← hl] at hOr'
        obtain ⟨ga, gc', ev, hIr⟩ := hOr'.ints (by have := hFj.len; omega)
        injection ev with ev1 _ ev2
        subst ev1 ev2
        have hac : (runA ⟨W, H, S, O, ps⟩ os pl A os.length).length ≤ gc := by
          have hne : runA ⟨W, H, S, O, ps⟩ os pl A os.length ≠ [] := fun e => by
            obtain ⟨h1, _, h3, h4⟩ := hFj.place hq hqm
            have := congrArg List.length e
            rw [List.length_nil] at this
            omega
          obtain ⟨g', c', ev, _, _, hc⟩ := hOr'.block hne
          injection ev with _ _ ev
          rw [ev]; exact hc
        go_wp2_with fail
        refine hla.mono ?_
        clear hla g0 g1 g2 g3 g4
        rintro e w5 ⟨rfl, b5⟩
        rw [if_pos HE.out, HE.out, eq]
        have hb5 := below_step hbwr b5
        have hbS5 : Below wS.heap.size wS w5 := hbr.trans (b5.mono hbr.size)
        have him := image_lies hFj (.slice a ps.length cap) (.slice sa ps.length sc) pa ps.length pcap za zc (some ⟨g, 0, none⟩) gc (hLS.below (Nat.le_refl _) hbS5) (hZ.below hbS5) (hIr.below (Nat.le_refl _) b5) hac hq hqm
        rw [hl] at him
        obtain ⟨_, k0, k1, k2, k3, k4⟩ := hKr.below b5 hKr.lt b5.size
        have hI5 := (hI3.grown hgr hne3).below b5 (Nat.lt_of_lt_of_le hI3.lt hgr.size) b5.size
        dsimp only at him
        have HRE : Hid ((liesR ⟨W, H, S, O, ps⟩ pl (runA ⟨W, H, S, O, ps⟩ os pl A os.length) q).E = 0) := rfl
        clear hOr hOr' hIr hFr hKr hFj hpS hLS hOS hZ hSr hFit hac hl
        generalize liesR ⟨W, H, S, O, ps⟩ pl (runA ⟨W, H, S, O, ps⟩ os pl A os.length) q = r at *
        go_wp2_with fail
        refine him.mono ?_
        clear him
        rintro e w6 ⟨ia, ic, rfl, hii, b6⟩
        obtain ⟨_, c0, c1, c2, f0, f1, f2⟩ := hI5.below b6 hI5.lt b6.size
        have HT : Hid (Told w r (.returned (.tuple #[.agg #[.int .i64 r.W, .int .i64 r.H, .slice ia r.ps.length ic], .int .i64 r.E])) (((w6.setCell ⟨w.heap.size + 1 + 1, 0, none⟩ (.int .i64 r.W)).setCell ⟨w.heap.size + 1 + 1, 1, none⟩ (.int .i64 r.H)).setCell ⟨w.heap.size + 1 + 1, 2, none⟩ (.slice ia r.ps.length ic))) := paint_told hb5 hI5.lt hw2 hii b6
        clear hii b6 k0 k1 k2 k3 k4 hI5
        go_wp2
        refine bodyPost_ret (v := .tuple #[.agg #[.int .i64 r.W, .int .i64 r.H, .slice ia r.ps.length ic], .int .i64 r.E]) (by simp [results, Tryz.results20, go_sem, c0, c1, c2, HRE.out]) rfl ?_
        rw [HRP.out, HRR.out]
        exact HT.out
  · have HRP : Hid (runP ⟨W, H, S, O, ps⟩ os pl A = noRes (execE ⟨W, H, S, O, ps⟩ os pl A)) := by show _ = _; unfold runP; rw [if_neg hX]
    have bA := (Below.refl w2.heap.size w2).alloc (Nat.le_refl _) (.cells #[.slice none 0 0, .slice none 0 0, .slice none 0 0, .slice none 0 0, .slice none 0 0] 96)
    have hI3 := (hI0.below b2 hI0.lt b2.size).below bA (Nat.lt_of_lt_of_le hI0.lt b2.size) bA.size
    have hb3 := below_step (below_step hb0 b2) bA
    generalize execE ⟨W, H, S, O, ps⟩ os pl A = E at *
    have HT : Hid (∀ w', Below w.heap.size w w' → Told w (runP ⟨W, H, S, O, ps⟩ os pl A) (.returned (.tuple #[.agg #[.int .i64 0, .int .i64 0, .slice none 0 0], .int .i64 E])) w') := fun w' hb => by
      show Told _ _ _ _
      rw [HRP.out]
      exact told_no ⟨rfl, hb⟩
    obtain ⟨_, c0, c1, c2, f0, f1, f2⟩ := id hI3
    clear HRP hF0 hP0 hI0 bA b2
    go_wp2
    exact bodyPost_ret (v := .tuple #[.agg #[.int .i64 0, .int .i64 0, .slice none 0 0], .int .i64 E]) (by simp [results, Tryz.results20, go_sem, c0, c1, c2]) rfl (HT.out _ (((hb3.setCell (p := ⟨w.heap.size + 1 + 1, 0, none⟩) hw2 _).setCell (p := ⟨w.heap.size + 1 + 1, 1, none⟩) hw2 _).setCell (p := ⟨w.heap.size + 1 + 1, 2, none⟩) hw2 _))
end Go.Proofs.YtaenpgdmiaekcaaGreatDoor
/-
  GLOW: the frame of five passes that the laws begin with.
-/
namespace Go.Proofs.YtaenpgdmiaekcaaGreatDoor
set_option maxRecDepth 100000
open Go.RowKit Im

def glowP : List Ps := [⟨2, 0, 0, 0, 100, []⟩, ⟨1, 2, 0, 0, 7, []⟩, ⟨10, 1, 0, 0, 0, []⟩, ⟨1, 2, 0, 0, 9, []⟩, ⟨4, 1, 0, 2, 0, []⟩]
def glowF : Fr := ⟨4, 2, 3, 1, glowP⟩
theorem glow_ok : frameE glowF = 0 := by decide
theorem glow_shown : shownP glowF = 4 := by decide
theorem glow_pic : (pics glowF 5).getD 4 (noRes 0) = ⟨0, 4, 2, [9, 109, 209, 309, 10, 110, 210, 310]⟩ := by rfl
def glowC : Array Value := #[.int .i64 2, .int .i64 0, .int .i64 0, .int .i64 0, .int .i64 100, .slice none 0 0, .int .i64 1, .int .i64 2, .int .i64 0, .int .i64 0, .int .i64 7, .slice none 0 0, .int .i64 10, .int .i64 1, .int .i64 0, .int .i64 0, .int .i64 0, .slice none 0 0, .int .i64 1, .int .i64 2, .int .i64 0, .int .i64 0, .int .i64 9, .slice none 0 0, .int .i64 4, .int .i64 1, .int .i64 0, .int .i64 2, .int .i64 0, .slice none 0 0]
/-- The call's end tells the frame of five passes. -/
def ToldG (w : World) (e : Ending) (w' : World) : Prop :=
  ∃ b, e = .returned (.agg #[.int .i64 4, .int .i64 2, .int .i64 3, .int .i64 1, .slice (some ⟨b, 0, none⟩) 5 5]) ∧ Passes w' (some ⟨b, 0, none⟩) 5 glowP ∧ Below w.heap.size w w'
theorem Lights.nil (w : World) : Lights w none 0 [] := ⟨rfl, by omega, .inl rfl⟩
theorem glow_passes (w : World) : Passes (w.alloc (.cells glowC 72)) (some ⟨w.heap.size, 0, none⟩) 5 glowP := by
  have hc : ∀ o, (w.alloc (.cells glowC 72)).cell? ⟨w.heap.size, o, none⟩ = glowC[o]? := fun o => World.cell?_alloc_new w glowC 72 o
  refine ⟨rfl, by decide, .inr ⟨w.heap.size, 0, rfl, by simp, fun j hj => ⟨none, 0, 0, ?_⟩⟩⟩
  simp only [hc]
  match j, hj with
  | 0, _ => exact ⟨rfl, rfl, rfl, rfl, rfl, rfl, Lights.nil _⟩
  | 1, _ => exact ⟨rfl, rfl, rfl, rfl, rfl, rfl, Lights.nil _⟩
  | 2, _ => exact ⟨rfl, rfl, rfl, rfl, rfl, rfl, Lights.nil _⟩
  | 3, _ => exact ⟨rfl, rfl, rfl, rfl, rfl, rfl, Lights.nil _⟩
  | 4, _ => exact ⟨rfl, rfl, rfl, rfl, rfl, rfl, Lights.nil _⟩
theorem glow_any (w : World) : Calls Tryz.prog 26 #[] w (ToldG w) := by
  go_enter Tryz.func26, Tryz.ntmps26
  go_wp2
  refine bodyPost_ret (v := .agg #[.int .i64 4, .int .i64 2, .int .i64 3, .int .i64 1, .slice (some ⟨w.heap.size + 1, 0, none⟩) 5 5]) (by simp [results, Tryz.results26, go_sem]) rfl ?_
  have hg := glow_passes (w.alloc (.cells #[.int .i64 4, .int .i64 2, .int .i64 3, .int .i64 1, .slice (some ⟨w.heap.size + 1, 0, none⟩) 5 5] 35))
  rw [World.size_alloc] at hg
  exact ⟨_, rfl, hg, below_box (below_box (Below.refl _ _) _) _⟩
end Go.Proofs.YtaenpgdmiaekcaaGreatDoor
/-
  PLANBEGUN: what the laws of plans begin with comes out true.
-/
namespace Go.Proofs.YtaenpgdmiaekcaaGreatDoor
set_option maxRecDepth 100000
open Go.RowKit Im Go.Maps

end Go.Proofs.YtaenpgdmiaekcaaGreatDoor
/-
  EXECBEGUN: the law's execBegun answers true.
-/
namespace Go.Proofs.YtaenpgdmiaekcaaGreatDoor
set_option maxRecDepth 100000
open Go.RowKit Im

/-- An image in its box. -/
structure JBox (w : World) (b : Nat) (W H : Int) (v : Value) : Prop where
  lt : b < w.heap.size
  c0 : w.cell? ⟨b, 0, none⟩ = some (.int .i64 W)
  c1 : w.cell? ⟨b, 1, none⟩ = some (.int .i64 H)
  c2 : w.cell? ⟨b, 2, none⟩ = some v
theorem JBox.new (w : World) (W H : Int) (v : Value) : JBox (w.alloc (.cells #[.int .i64 W, .int .i64 H, v] 24)) w.heap.size W H v :=
  ⟨by simp, by simp [go_sem], by simp [go_sem], by simp [go_sem]⟩
theorem JBox.below {w w' : World} {b : Nat} {W H : Int} {v : Value} (h : JBox w b W H v) (hb : Below w.heap.size w w') : JBox w' b W H v :=
  ⟨Nat.lt_of_lt_of_le h.lt hb.size, (hb.cell (p := ⟨b, 0, none⟩) h.lt).trans h.c0, (hb.cell (p := ⟨b, 1, none⟩) h.lt).trans h.c1, (hb.cell (p := ⟨b, 2, none⟩) h.lt).trans h.c2⟩
theorem JBox.set {w : World} {b : Nat} {W H : Int} {v : Value} (h : JBox w b W H v) {p : Addr} (hp : p.block ≠ b) (u : Value) : JBox (w.setCell p u) b W H v := by
  have hn : ∀ o, p ≠ (⟨b, o, none⟩ : Addr) := fun o e => hp (by rw [e])
  exact ⟨by simpa using h.lt, (set_other _ (hn 0)).trans h.c0, (set_other _ (hn 1)).trans h.c1, (set_other _ (hn 2)).trans h.c2⟩
theorem IBox.put {w : World} {b : Nat} (h : IBox w b) (W H : Int) (v : Value) : JBox (((w.setCell ⟨b, 0, none⟩ (.int .i64 W)).setCell ⟨b, 1, none⟩ (.int .i64 H)).setCell ⟨b, 2, none⟩ v) b W H v :=
  ⟨by simpa using h.lt, (set_other _ (by simp)).trans ((set_other _ (by simp)).trans (set_same h.c0)), (set_other _ (by simp)).trans (set_same ((set_other _ (by simp)).trans h.c1)), set_same ((set_other _ (by simp)).trans ((set_other _ (by simp)).trans h.c2))⟩
theorem ar_render : renderP glowF = ⟨0, 4, 2, [9, 109, 209, 309, 10, 110, 210, 310]⟩ := by
  unfold renderP
  rw [if_pos glow_ok, glow_shown]
  exact glow_pic
end Go.Proofs.YtaenpgdmiaekcaaGreatDoor
/-
  SORTLAY: slices.SortFunc at spans, laid: each body is the one that the library's contract was proved of.
-/
namespace Go.Proofs.YtaenpgdmiaekcaaGreatDoor
set_option maxRecDepth 100000
open Go.Shelf
def sortSpan_ren : Go.Shelf.Ren := ⟨fun | 6 => 76 | 15 => 127 | 14 => 126 | 28 => 170 | 29 => 158 | 20 => 162 | 21 => 163 | 22 => 164 | 23 => 165 | 24 => 166 | 25 => 167 | 26 => 168 | 27 => 169 | 46 => 177 | 47 => 178 | 48 => 179 | 49 => 180 | 50 => 181 | 57 => 183 | n => n, fun | 22 => 84 | 24 => 111 | 25 => 145 | 3 => 3 | 39 => 158 | 0 => 0 | 53 => 216 | 55 => 135 | 4 => 4 | 46 => 220 | 45 => 219 | 50 => 129 | 5 => 5 | 9 => 9 | 66 => 228 | 70 => 232 | 76 => 236 | 77 => 191 | n => n, fun | n => n⟩
theorem sortSpan : Go.Proofs.SlLaysF0.n6 Tryz.prog sortSpan_ren := {
  mixed := by kernel_rfl
  f6 := ⟨Tryz.f76.name, by decide, Tryz.func76.trans (congrArg some (by kernel_rfl))⟩
  f14 := ⟨Tryz.f126.name, by decide, Tryz.func126.trans (congrArg some (by kernel_rfl))⟩
  f15 := Tryz.func127.trans (congrArg some (by kernel_rfl))
  f20 := ⟨Tryz.f162.name, by decide, Tryz.func162.trans (congrArg some (by kernel_rfl))⟩
  f21 := ⟨Tryz.f163.name, by decide, Tryz.func163.trans (congrArg some (by kernel_rfl))⟩
  f22 := ⟨Tryz.f164.name, by decide, Tryz.func164.trans (congrArg some (by kernel_rfl))⟩
  f23 := ⟨Tryz.f165.name, by decide, Tryz.func165.trans (congrArg some (by kernel_rfl))⟩
  f24 := ⟨Tryz.f166.name, by decide, Tryz.func166.trans (congrArg some (by kernel_rfl))⟩
  f25 := ⟨Tryz.f167.name, by decide, Tryz.func167.trans (congrArg some (by kernel_rfl))⟩
  f26 := ⟨Tryz.f168.name, by decide, Tryz.func168.trans (congrArg some (by kernel_rfl))⟩
  f27 := ⟨Tryz.f169.name, by decide, Tryz.func169.trans (congrArg some (by kernel_rfl))⟩
  f28 := Tryz.func170.trans (congrArg some (by kernel_rfl))
  f29 := Tryz.func158.trans (congrArg some (by kernel_rfl))
  f46 := ⟨Tryz.f177.name, by decide, Tryz.func177.trans (congrArg some (by kernel_rfl))⟩
  f47 := Tryz.func178.trans (congrArg some (by kernel_rfl))
  f48 := Tryz.func179.trans (congrArg some (by kernel_rfl))
  f49 := ⟨Tryz.f180.name, by decide, Tryz.func180.trans (congrArg some (by kernel_rfl))⟩
  f50 := ⟨Tryz.f181.name, by decide, Tryz.func181.trans (congrArg some (by kernel_rfl))⟩
  f57 := ⟨Tryz.f183.name, by decide, Tryz.func183.trans (congrArg some (by kernel_rfl))⟩
  t0 := Tryz.underlying0
  a0 := Tryz.isAgg0
  z0 := Tryz.sizeOf0
  v0 := Tryz.zeroValue0
  t3 := Tryz.underlying3
  a3 := Tryz.isAgg3
  z3 := Tryz.sizeOf3
  v3 := Tryz.zeroValue3
  t4 := Tryz.underlying4
  a4 := Tryz.isAgg4
  z4 := Tryz.sizeOf4
  v4 := Tryz.zeroValue4
  t5 := Tryz.underlying5
  a5 := Tryz.isAgg5
  z5 := Tryz.sizeOf5
  v5 := Tryz.zeroValue5
  t9 := Tryz.underlying9
  a9 := Tryz.isAgg9
  z9 := Tryz.sizeOf9
  v9 := Tryz.zeroValue9
  t22 := Tryz.underlying84
  a22 := Tryz.isAgg84
  z22 := Tryz.sizeOf84
  v22 := Tryz.zeroValue84
  t25 := Tryz.underlying145
  a25 := Tryz.isAgg145
  z25 := Tryz.sizeOf145
  v25 := Tryz.zeroValue145
  t39 := Tryz.underlying158
  a39 := Tryz.isAgg158
  z39 := Tryz.sizeOf158
  v39 := Tryz.zeroValue158
  t45 := Tryz.underlying219
  a45 := Tryz.isAgg219
  z45 := Tryz.sizeOf219
  v45 := Tryz.zeroValue219
  t46 := Tryz.underlying220
  a46 := Tryz.isAgg220
  z46 := Tryz.sizeOf220
  v46 := Tryz.zeroValue220
  t50 := Tryz.underlying129
  a50 := Tryz.isAgg129
  z50 := Tryz.sizeOf129
  v50 := Tryz.zeroValue129
  t53 := Tryz.underlying216
  a53 := Tryz.isAgg216
  z53 := Tryz.sizeOf216
  v53 := Tryz.zeroValue216
  t55 := Tryz.underlying135
  a55 := Tryz.isAgg135
  z55 := Tryz.sizeOf135
  v55 := Tryz.zeroValue135
  t66 := Tryz.underlying228
  a66 := Tryz.isAgg228
  z66 := Tryz.sizeOf228
  v66 := Tryz.zeroValue228
  t70 := Tryz.underlying232
  a70 := Tryz.isAgg232
  z70 := Tryz.sizeOf232
  v70 := Tryz.zeroValue232
  t76 := Tryz.underlying236
  a76 := Tryz.isAgg236
  z76 := Tryz.sizeOf236
  v76 := Tryz.zeroValue236
  t77 := Tryz.underlying191
  a77 := Tryz.isAgg191
  z77 := Tryz.sizeOf191
  v77 := Tryz.zeroValue191 }
end Go.Proofs.YtaenpgdmiaekcaaGreatDoor
/-
  STEPREF: the reference's stepOf, area and meet.
-/
namespace Go.Proofs.YtaenpgdmiaekcaaGreatDoor
set_option maxRecDepth 100000
open Go.RowKit Im Go.Maps

theorem stepAt_take_none {os : List Int} {p : Int} {k : Nat} (hk : k < os.length) (h : p ∉ os.take k) (e : os.getD k 0 = p) : stepAt os p = k := by
  induction os generalizing k with
  | nil => simp at hk
  | cons o l ih =>
    cases k with
    | zero => simp at e; subst e; simp [stepAt]
    | succ k =>
      rw [List.take_succ_cons, List.mem_cons, not_or] at h
      rw [List.getD_cons_succ] at e
      have := ih (k := k) (by simpa using hk) h.2 e
      unfold stepAt
      rw [if_neg (fun x => h.1 x.symm), this, if_neg (by omega)]
      omega
set_option maxHeartbeats 1000000 in
theorem stepOf_any {a : Option Addr} {len : Nat} (cap : Nat) {os : List Int} {base : Nat} {w : World} (hI : Ints base w a len os) (p : Int) :
    Calls Tryz.prog 90 #[.slice a len cap, .int .i64 p] w fun e w' => e = .returned (.int .i64 (stepAt os p)) ∧ w = w' := by
  obtain rfl := hI.leng
  have hbig := hI.big
  go_enter Tryz.func90, Tryz.ntmps90
  go_wp2
  go_loop [5] (fun i => ∃ k : Nat, k ≤ os.length ∧ i = .int .i64 k ∧ p ∉ os.take k) (fun i => os.length - (intOf i).toNat)
  case atStart => exact ⟨0, Nat.zero_le _, rfl, by simp⟩
  case round =>
    obtain ⟨k, hk, rfl, hno⟩ := hrel
    by_cases hlt : k < os.length
    · obtain ⟨b, off, rfl, hcx⟩ := hI.nth hlt
      have HT : Hid (os.getD k 0 = p → stepAt os p = k) := fun e => stepAt_take_none hlt hno e
      have HN : Hid (¬ os.getD k 0 = p → p ∉ os.take (k + 1)) := fun e h => ((mem_take_succ hlt p).1 h).elim hno e
      generalize os.getD k 0 = n at hcx HT HN
      clear hno
      by_cases hn : n = p
      · subst hn
        go_wp2
        go_ret
        exact ⟨by rw [HT.out (by trivial)]; rfl, rfl⟩
      · go_wp2
        go_round
        case rel => exact ⟨k + 1, by omega, by go_num, HN.out hn⟩
        case measure => simp [intOf]; omega
    · have hke : k = os.length := by omega
      subst hke
      rw [List.take_length] at hno
      have hs : stepAt os p = -1 := by
        have h1 := stepAt_bd os p
        have h2 : ¬ 0 ≤ stepAt os p := fun h => hno (stepAt_mem.1 h)
        omega
      have HS : Hid (_) := hs
      clear hs hno
      go_wp2
      go_ret
      exact ⟨by rw [HS.out]; rfl, rfl⟩
theorem area_any (zw zh : Int) (w : World) (hw : IntKind.i64.wrap (zw * zh) = zw * zh) : Calls Tryz.prog 52 #[.agg #[.int .i64 zw, .int .i64 zh]] w fun e w' => e = .returned (.int .i64 (zw * zh)) ∧ Below w.heap.size w w' := by
  go_enter Tryz.func52, Tryz.ntmps52
  go_wp2
  go_ret
  exact ⟨rfl, below_box (Below.refl _ _) _⟩
theorem meetRef_any (a b c d : Int) (w : World) : Calls Tryz.prog 91 #[.agg #[.int .i64 a, .int .i64 b], .agg #[.int .i64 c, .int .i64 d]] w fun e w' => e = .returned (.bool (meetB (a, b) (c, d))) ∧ Below w.heap.size w w' := by
  by_cases h1 : a ≤ d
  · by_cases h2 : c ≤ b
    · go_enter Tryz.func91, Tryz.ntmps91
      go_wp2
      go_ret
      exact ⟨by simp [meetB, h1, h2], below_box (below_box (Below.refl _ _) _) _⟩
    · go_enter Tryz.func91, Tryz.ntmps91
      go_wp2
      go_ret
      exact ⟨by simp [meetB, h1, h2], below_box (below_box (Below.refl _ _) _) _⟩
  · go_enter Tryz.func91, Tryz.ntmps91
    go_wp2
    go_ret
    exact ⟨by simp [meetB]; omega, below_box (below_box (Below.refl _ _) _) _⟩
end Go.Proofs.YtaenpgdmiaekcaaGreatDoor
/-
  ORDREF: the reference's InOrder.
-/
namespace Go.Proofs.YtaenpgdmiaekcaaGreatDoor
set_option maxRecDepth 100000
open Go.RowKit Im Go.Maps

end Go.Proofs.YtaenpgdmiaekcaaGreatDoor
