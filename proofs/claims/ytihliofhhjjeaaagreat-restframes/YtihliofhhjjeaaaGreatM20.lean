/- ExecD, ExecE, ExecF, Glow, PlanBegun: joined, in this order. -/
import Derived.Test.YtihliofhhjjeaaaGreatM19
import Derived.Test.YtihliofhhjjeaaaGreatM18
import Derived.Test.YtihliofhhjjeaaaGreatM15
import Derived.Test.YtihliofhhjjeaaaGreatM13
set_option maxRecDepth 100000
namespace Go.Proofs.YtihliofhhjjeaaaGreat
open Go.RowKit Im
theorem boxes2 (w : World) (W H S O : Int) (a : Option Addr) (len cap : Nat) (v0 v1 : Value) : Below w.heap.size w ((w.alloc (.cells #[.int .i64 W, .int .i64 H, .int .i64 S, .int .i64 O, .slice a len cap] 24)).alloc (.cells #[v0, v1] 27)) ∧ FBox ((w.alloc (.cells #[.int .i64 W, .int .i64 H, .int .i64 S, .int .i64 O, .slice a len cap] 24)).alloc (.cells #[v0, v1] 27)) w.heap.size W H S O a len cap ∧ PlBox ((w.alloc (.cells #[.int .i64 W, .int .i64 H, .int .i64 S, .int .i64 O, .slice a len cap] 24)).alloc (.cells #[v0, v1] 27)) (w.heap.size + 1) v0 v1 := by
  refine ⟨below_box (below_box (Below.refl _ _) _) _, (FBox.new w W H S O a len cap).alloc _, ?_⟩
  have hP0 := PlBox.new (w.alloc (.cells #[.int .i64 W, .int .i64 H, .int .i64 S, .int .i64 O, .slice a len cap] 24)) v0 v1 27
  rwa [World.size_alloc] at hP0
structure Bx5 (w : World) (b : Nat) : Prop where
  lt : b < w.heap.size
  c : ∀ j, j < 5 → ∃ v, w.cell? ⟨b, j, none⟩ = some v
  fz : ∀ o, w.frozen? ⟨b, o, none⟩ = false
theorem Bx5.below {w w' : World} {b B : Nat} (h : Bx5 w b) (hb : Below B w w') (hB : b < B) (hs : w.heap.size ≤ w'.heap.size) : Bx5 w' b :=
  ⟨Nat.lt_of_lt_of_le h.lt hs, fun j hj => by obtain ⟨v, hv⟩ := h.c j hj; exact ⟨v, (hb.cell (p := ⟨b, j, none⟩) hB).trans hv⟩, fun o => (hb.frozen (p := ⟨b, o, none⟩) hB).trans (h.fz o)⟩
theorem Bx5.new (w : World) (v0 v1 v2 v3 v4 : Value) (t : TypeId) : Bx5 (w.alloc (.cells #[v0, v1, v2, v3, v4] t)) w.heap.size := ⟨by simp, fun j hj => by
    match j, hj with
    | 0, _ => exact ⟨_, by simp [go_sem]; rfl⟩
    | 1, _ => exact ⟨_, by simp [go_sem]; rfl⟩
    | 2, _ => exact ⟨_, by simp [go_sem]; rfl⟩
    | 3, _ => exact ⟨_, by simp [go_sem]; rfl⟩
    | 4, _ => exact ⟨_, by simp [go_sem]; rfl⟩, fun o => frozen_new w _ _ o⟩
abbrev put5 (w : World) (b : Nat) (x0 x1 x2 x3 x4 : Value) : World := ((((w.setCell ⟨b, 0, none⟩ x0).setCell ⟨b, 1, none⟩ x1).setCell ⟨b, 2, none⟩ x2).setCell ⟨b, 3, none⟩ x3).setCell ⟨b, 4, none⟩ x4
theorem Bx5.sets {w : World} {b : Nat} (h : Bx5 w b) (x0 x1 x2 x3 x4 : Value) :
    (put5 w b x0 x1 x2 x3 x4).cell? ⟨b, 0, none⟩ = some x0 ∧ (put5 w b x0 x1 x2 x3 x4).cell? ⟨b, 1, none⟩ = some x1 ∧ (put5 w b x0 x1 x2 x3 x4).cell? ⟨b, 2, none⟩ = some x2 ∧ (put5 w b x0 x1 x2 x3 x4).cell? ⟨b, 3, none⟩ = some x3 ∧ (put5 w b x0 x1 x2 x3 x4).cell? ⟨b, 4, none⟩ = some x4 := by
  obtain ⟨v0, k0⟩ := h.c 0 (by decide)
  obtain ⟨v1, k1⟩ := h.c 1 (by decide)
  obtain ⟨v2, k2⟩ := h.c 2 (by decide)
  obtain ⟨v3, k3⟩ := h.c 3 (by decide)
  obtain ⟨v4, k4⟩ := h.c 4 (by decide)
  have ht : ∀ i j : Nat, i ≠ j → (⟨b, i, none⟩ : Addr) ≠ ⟨b, j, none⟩ := fun i j hij e => hij (by injection e)
  have A := fun (w : World) (u : Value) (i j : Nat) (hij : i ≠ j) => set_other (w := w) u (ht i j hij)
  unfold put5
  refine ⟨?_, ?_, ?_, ?_, ?_⟩
  · rw [A _ _ 4 0 (by decide), A _ _ 3 0 (by decide), A _ _ 2 0 (by decide), A _ _ 1 0 (by decide)]; exact set_same k0
  · rw [A _ _ 4 1 (by decide), A _ _ 3 1 (by decide), A _ _ 2 1 (by decide)]; exact set_same ((A _ _ 0 1 (by decide)).trans k1)
  · rw [A _ _ 4 2 (by decide), A _ _ 3 2 (by decide)]; exact set_same ((A _ _ 1 2 (by decide)).trans ((A _ _ 0 2 (by decide)).trans k2))
  · rw [A _ _ 4 3 (by decide)]; exact set_same ((A _ _ 2 3 (by decide)).trans ((A _ _ 1 3 (by decide)).trans ((A _ _ 0 3 (by decide)).trans k3)))
  · exact set_same ((A _ _ 3 4 (by decide)).trans ((A _ _ 2 4 (by decide)).trans ((A _ _ 1 4 (by decide)).trans ((A _ _ 0 4 (by decide)).trans k4))))
theorem below_both {n : Nat} {a b : World} (h : Below n a b) (p : Addr) (v : Value) : Below n (a.setCell p v) (b.setCell p v) :=
  ⟨h.os, h.tape, h.output, by simpa using h.size, fun k hk => by
    have := h.block k hk
    simp only [World.setCell, Array.getElem?_modify, this]⟩
abbrev noWork : Value := .agg #[.slice none 0 0, .slice none 0 0, .slice none 0 0, .slice none 0 0, .slice none 0 0]
def ToldBg (w : World) (f : Fr) (os pl A : List Int) (vp vl : Value) (e : Ending) (w' : World) : Prop :=
  (execE f os pl A = 0 ∧ ∃ wS za zc sa sc g ac, e = .returned (.tuple #[.agg #[vp, vl, .slice za f.ps.length zc, .slice sa f.ps.length sc, .slice (some ⟨g, 0, none⟩) A.length ac], .int .i64 0]) ∧ Below w.heap.size w wS ∧ Zs wS za f.ps.length (szs f f.ps.length) ∧ LLs wS sa f.ps.length (srcs f.ps f.ps.length) ∧ Owns wS.heap.size w' (.slice (some ⟨g, 0, none⟩) A.length ac) A ∧ Below wS.heap.size wS w') ∨
  (execE f os pl A ≠ 0 ∧ e = .returned (.tuple #[noWork, .int .i64 (execE f os pl A)]) ∧ Below w.heap.size w w')
theorem below_put5 {n : Nat} {a b : World} (h : Below n a b) {q : Nat} (hq : n ≤ q) (x0 x1 x2 x3 x4 : Value) : Below n a (put5 b q x0 x1 x2 x3 x4) :=
  ((((h.setCell (p := ⟨q, 0, none⟩) hq x0).setCell (p := ⟨q, 1, none⟩) hq x1).setCell (p := ⟨q, 2, none⟩) hq x2).setCell (p := ⟨q, 3, none⟩) hq x3).setCell (p := ⟨q, 4, none⟩) hq x4
theorem execE_no {f : Fr} {os pl A : List Int} (h : checkP f os pl A.length ≠ 0) : execE f os pl A = checkP f os pl A.length := by unfold execE; rw [if_neg h]
theorem execE_bad {f : Fr} {os pl A : List Int} (h : checkP f os pl A.length = 0) (hb : fineA A ≠ true) : execE f os pl A = 3 := by unfold execE; rw [if_pos h, if_neg hb]
theorem execE_ok {f : Fr} {os pl A : List Int} (h : checkP f os pl A.length = 0) (hb : fineA A = true) : execE f os pl A = 0 := by unfold execE; rw [if_pos h, if_pos hb]
abbrev Fit0 (A : List Int) (f : Fr) (os pl : List Int) : Prop := FitA f os pl A
set_option maxHeartbeats 8000000 in
theorem begin_any (W H S O : Int) (a : Option Addr) (len cap : Nat) (ps : List Ps) (w : World) (hp : Passes w a len ps) (oa : Option Addr) (olen ocap : Nat) (pa : Option Addr) (plen pcap : Nat) (os pl : List Int) (hO : Ints 0 w oa olen os) (hL : Ints 0 w pa plen pl) (hcap : olen ≤ ocap) (aa : Option Addr) (alen ac : Nat) (A : List Int) (hA : Ints 0 w aa alen A) :
    Calls Tryz.prog 24 #[.agg #[.int .i64 W, .int .i64 H, .int .i64 S, .int .i64 O, .slice a len cap], .agg #[.slice oa olen ocap, .slice pa plen pcap], .slice aa alen ac] w (ToldBg w ⟨W, H, S, O, ps⟩ os pl A (.slice a len cap) (.slice pa plen pcap)) := by
  obtain rfl := hA.leng
  obtain ⟨hb0, hF0, hP0⟩ := boxes2 w W H S O a len cap (.slice oa olen ocap) (.slice pa plen pcap)
  have hs0 : w.heap.size + 2 ≤ ((w.alloc (.cells #[.int .i64 W, .int .i64 H, .int .i64 S, .int .i64 O, .slice a len cap] 24)).alloc (.cells #[.slice oa olen ocap, .slice pa plen pcap] 27)).heap.size := by simp
  have hR0 := Bx5.new ((w.alloc (.cells #[.int .i64 W, .int .i64 H, .int .i64 S, .int .i64 O, .slice a len cap] 24)).alloc (.cells #[.slice oa olen ocap, .slice pa plen pcap] 27)) (.slice none 0 0) (.slice none 0 0) (.slice none 0 0) (.slice none 0 0) (.slice none 0 0) 65
  have hbx := (Below.refl ((w.alloc (.cells #[.int .i64 W, .int .i64 H, .int .i64 S, .int .i64 O, .slice a len cap] 24)).alloc (.cells #[.slice oa olen ocap, .slice pa plen pcap] 27)).heap.size _).alloc (Nat.le_refl _) (.cells #[.slice none 0 0, .slice none 0 0, .slice none 0 0, .slice none 0 0, .slice none 0 0] 65)
  have hF1 := hF0.below hbx
  have hP1 := hP0.below hbx
  have hb1 := below_step hb0 hbx
  rw [World.size_alloc, World.size_alloc] at hR0
  have hck := planCheck_any W H S O a len cap ps _ (hp.below hb1) oa olen ocap pa plen pcap os pl (hO.below (Nat.le_refl _) hb1) (hL.below (Nat.le_refl _) hb1) hcap A.length
  clear hF0 hP0 hb0 hbx
  go_enter Tryz.func24, Tryz.ntmps24
  obtain ⟨_, g0, g1, g2, g3, g4⟩ := id hF1
  obtain ⟨_, e0, e1⟩ := id hP1
  go_wp2_with fail
  generalize ((w.alloc (.cells #[.int .i64 W, .int .i64 H, .int .i64 S, .int .i64 O, .slice a len cap] 24)).alloc (.cells #[.slice oa olen ocap, .slice pa plen pcap] 27)).alloc (.cells #[.slice none 0 0, .slice none 0 0, .slice none 0 0, .slice none 0 0, .slice none 0 0] 65) = w1 at *
  refine hck.mono ?_
  clear hck g0 g1 g2 g3 g4 e0 e1 hs0
  rintro e w2 ⟨rfl, b2⟩
  have hb2 := below_step hb1 b2
  have hF2 := hF1.below b2
  have hP2 := hP1.below b2
  have hR2 := hR0.below b2 hR0.lt b2.size
  have hrb : w.heap.size ≤ w.heap.size + 1 + 1 := by omega
  obtain ⟨v0, k0⟩ := hR2.c 0 (by decide)
  obtain ⟨v1, k1⟩ := hR2.c 1 (by decide)
  obtain ⟨v2, k2⟩ := hR2.c 2 (by decide)
  obtain ⟨v3, k3⟩ := hR2.c 3 (by decide)
  obtain ⟨v4, k4⟩ := hR2.c 4 (by decide)
  have f0 := hR2.fz 0
  have f1 := hR2.fz 1
  have f2 := hR2.fz 2
  have f3 := hR2.fz 3
  have f4 := hR2.fz 4
  have HT : Hid (_) := hR2.sets (.slice none 0 0) (.slice none 0 0) (.slice none 0 0) (.slice none 0 0) (.slice none 0 0)
  have HBZ : Hid (_) := below_put5 hb2 hrb (.slice none 0 0) (.slice none 0 0) (.slice none 0 0) (.slice none 0 0) (.slice none 0 0)
  by_cases hC : checkP ⟨W, H, S, O, ps⟩ os pl A.length = 0
  · have hE : frameE ⟨W, H, S, O, ps⟩ = 0 := (planE_zero (check_zeroX hC).1).1
    have h12 : ps.length ≤ 12 := by
      obtain ⟨hb, _, _⟩ := frameE_zero hE
      exact (boundsE_zero hb).2.2.2.2.2
    have hA4 : A.length ≤ 4096 := by have := (check_zeroX hC).2.1; omega
    have hFP : fineA A = true → Fit0 A ⟨W, H, S, O, ps⟩ os pl := fun h => fit_of hC h
    have HFP : Hid (_) := hFP
    have HX0 : Hid (fineA A = true → execE ⟨W, H, S, O, ps⟩ os pl A = 0) := fun h => execE_ok hC h
    have HX3 : Hid (fineA A ≠ true → execE ⟨W, H, S, O, ps⟩ os pl A = 3) := fun h => execE_bad hC h
    have hpr := hp.below hb2
    have hAr := hA.below (Nat.le_refl _) hb2
    have HBAD : Hid (fineA A ≠ true → ToldBg w ⟨W, H, S, O, ps⟩ os pl A (.slice a len cap) (.slice pa plen pcap) (.returned (.tuple #[noWork, .int .i64 3])) (put5 w2 (w.heap.size + 1 + 1) (.slice none 0 0) (.slice none 0 0) (.slice none 0 0) (.slice none 0 0) (.slice none 0 0))) := fun h => .inr ⟨by rw [HX3.out h]; decide, by rw [HX3.out h], HBZ.out⟩
    rw [hC]
    clear hFP hC hb1 hF1 hP1 hR0 b2 hO hL
    go_wp2_with fail
    go_loopw [7, 25] (fun s7 i wr => ∃ j : Nat, j ≤ A.length ∧ s7 = .int .i64 0 ∧ i = .int .i64 j ∧ (A.take j).all numB = true ∧ wr = w2) (fun _ i _ => A.length - (intOf i).toNat)
    case atStart => exact ⟨0, Nat.zero_le _, rfl, rfl, by simp, rfl⟩
    case round =>
      obtain ⟨j, hj, rfl, rfl, hall, rfl⟩ := hrel
      have HALL : Hid (_) := hall
      clear hall
      by_cases hjl : j < A.length
      · have hjI : (j : Int) < (A.length : Int) := by omega
        have hjI0 : (0 : Int) ≤ (j : Int) := by omega
        obtain ⟨ab, ao, rfl, hc⟩ := hAr.nth hjl
        have HN : Hid (numB (A[j]?.getD 0) = true → (A.take (j + 1)).all numB = true) := fun h => all_succ A j hjl HALL.out h
        have HNN : Hid (numB (A[j]?.getD 0) = false → fineA A ≠ true) := fun h => by
          have := all_not A j hjl h
          unfold fineA
          rw [this]; decide
        have eg : A.getD j 0 = A[j]?.getD 0 := List.getD_eq_getElem?_getD
        rw [eg] at hc
        generalize A[j]?.getD 0 = n at *
        by_cases h1 : n < 0
        · have HBD : Hid (_) := HBAD.out (HNN.out (by simp [numB]; omega))
          go_wp2
          obtain ⟨t0, t1, t2, t3, t4⟩ := HT.out
          exact bodyPost_ret (v := .tuple #[noWork, .int .i64 3]) (by simp [results, Tryz.results24, go_sem, t0, t1, t2, t3, t4]) rfl HBD.out
        · by_cases h2 : 65535 < n
          · have HBD : Hid (_) := HBAD.out (HNN.out (by simp [numB]; omega))
            go_wp2
            obtain ⟨t0, t1, t2, t3, t4⟩ := HT.out
            exact bodyPost_ret (v := .tuple #[noWork, .int .i64 3]) (by simp [results, Tryz.results24, go_sem, t0, t1, t2, t3, t4]) rfl HBD.out
          · have HA2 : Hid (_) := HN.out (by simp [numB]; omega)
            go_wp2
            go_roundw
            case rel => exact ⟨j + 1, by omega, rfl, by go_num, HA2.out, trivial⟩
            case measure => simp [intOf]; omega
      · have hje : j = A.length := by omega
        subst hje
        have hfin : fineA A = true := by
          have := HALL.out
          rw [List.take_length] at this
          exact this
        have hFit := HFP.out hfin
        have HEX := HX0.out hfin
        have hkI : ¬ (A.length : Int) < (A.length : Int) := by omega
        clear k0 k1 k2 k3 k4 f0 f1 f2 f3 f4 HT HBZ HBAD HALL
        have hsi := sizes_any W H S O a len cap ps wr hpr
        obtain ⟨_, g0, g1, g2, g3, g4⟩ := id hF2
        go_wp2_with fail
        refine hsi.mono ?_
        clear hsi g0 g1 g2 g3 g4
        rintro e w3 ⟨⟨vz, rfl, hZ3⟩, b3⟩
        rw [if_pos hE] at hZ3
        have hso := sources_any W H S O a len cap ps w3 (hpr.below b3)
        obtain ⟨_, g0, g1, g2, g3, g4⟩ := hF2.below b3
        rw [hE]
        go_wp2_with fail
        refine hso.mono ?_
        clear hso g0 g1 g2 g3 g4
        rintro e w4 ⟨⟨vs, rfl, hS4⟩, b4⟩
        rw [if_pos hE] at hS4
        have b34 := below_step b3 b4
        have hb4 := below_step hb2 b34
        have hne : A ≠ [] := fun e => by
          obtain ⟨q, _, hq, hm⟩ := hFit.last
          obtain ⟨h1, _, h3, h4⟩ := hFit.place hq hm
          have := congrArg List.length e
          rw [List.length_nil] at this
          omega
        have hZ4 : OwnsZ wr.heap.size w4 vz (szs ⟨W, H, S, O, ps⟩ ps.length) := ownsRow_below hZ3 b4 (Nat.le_refl _)
        obtain ⟨za, zc, rfl, _⟩ := hZ4.zs (by rw [szs_length]; exact h12)
        rw [szs_length] at hZ4 ⊢
        obtain ⟨sa, sc, rfl, _⟩ := hS4.lls (fun x hx => by
          unfold srcs at hx
          rw [List.mem_map] at hx
          obtain ⟨q, _, rfl⟩ := hx
          exact src_two ps q)
        rw [srcs_length] at hS4 ⊢
        have hF4 := hF2.below b34
        have hP4 := hP2.below b34
        have hR4 := hR2.below b34 hR2.lt b34.size
        have hd := (Below.refl w4.heap.size w4).drew
        have hcl := cloneI_any ac ((hAr.below (Nat.le_refl _) b34).below (Nat.le_refl _) hd) hA4
        have g4 := hF4.c4
        have e1 := hP4.c1
        have hgd := below_grown hd (some (w.heap.size + 1 + 1))
        have held : ∀ wx, w4.grownBy wx (some (w.heap.size + 1 + 1)) → wx.cell? ⟨w.heap.size, 4, none⟩ = some (.slice a len cap) ∧ wx.cell? ⟨w.heap.size + 1, 1, none⟩ = some (.slice pa plen pcap) := fun wx h =>
          ⟨(grown_cell h hF4.lt (fun e => by injection e with e; omega) 4).1.trans g4, (grown_cell h hP4.lt (fun e => by injection e with e; omega) 1).1.trans e1⟩
        have HFIN : Hid (∀ w5 g gc, Below w4.heap.size w4 w5 → Owns w4.heap.size w5 (.slice (some ⟨g, 0, none⟩) A.length gc) A → ToldBg w ⟨W, H, S, O, ps⟩ os pl A (.slice a len cap) (.slice pa plen pcap) (.returned (.tuple #[.agg #[.slice a len cap, .slice pa plen pcap, .slice za ps.length zc, .slice sa ps.length sc, .slice (some ⟨g, 0, none⟩) A.length gc], .int .i64 0])) (put5 w5 (w.heap.size + 1 + 1) (.slice a len cap) (.slice pa plen pcap) (.slice za ps.length zc) (.slice sa ps.length sc) (.slice (some ⟨g, 0, none⟩) A.length gc))) := by
          intro w5 g gc b5 hO5
          have hRr : w.heap.size + 1 + 1 < wr.heap.size := hR2.lt
          have hR3 : w.heap.size + 1 + 1 < w3.heap.size := Nat.lt_of_lt_of_le hRr b3.size
          have hRw : w.heap.size + 1 + 1 < w4.heap.size := Nat.lt_of_lt_of_le hR3 b4.size
          refine .inl ⟨HEX, put5 w4 (w.heap.size + 1 + 1) (.slice a len cap) (.slice pa plen pcap) (.slice za ps.length zc) (.slice sa ps.length sc) (.slice (some ⟨g, 0, none⟩) A.length gc), za, zc, sa, sc, g, gc, rfl, below_put5 hb4 hrb _ _ _ _ _, ?_, ?_, ?_, ?_⟩
          · have X : OwnsZ wr.heap.size (put5 w4 (w.heap.size + 1 + 1) (.slice a len cap) (.slice pa plen pcap) (.slice za ps.length zc) (.slice sa ps.length sc) (.slice (some ⟨g, 0, none⟩) A.length gc)) (.slice za ps.length zc) (szs ⟨W, H, S, O, ps⟩ ps.length) := ownsRow_setCell_below (ownsRow_setCell_below (ownsRow_setCell_below (ownsRow_setCell_below (ownsRow_setCell_below hZ4 hRr _) hRr _) hRr _) hRr _) hRr _
            obtain ⟨za', zc', ev, hz⟩ := X.zs (by rw [szs_length]; exact h12)
            rw [szs_length] at ev hz
            injection ev with ev
            subst ev
            exact hz
          · have X := ((((hS4.setCell (p := ⟨w.heap.size + 1 + 1, 0, none⟩) hR3 (.slice a len cap)).setCell (p := ⟨w.heap.size + 1 + 1, 1, none⟩) hR3 (.slice pa plen pcap)).setCell (p := ⟨w.heap.size + 1 + 1, 2, none⟩) hR3 (.slice za ps.length zc)).setCell (p := ⟨w.heap.size + 1 + 1, 3, none⟩) hR3 (.slice sa ps.length sc)).setCell (p := ⟨w.heap.size + 1 + 1, 4, none⟩) hR3 (.slice (some ⟨g, 0, none⟩) A.length gc)
            obtain ⟨sa', sc', ev, hz⟩ := X.lls (fun x hx => by
              unfold srcs at hx
              rw [List.mem_map] at hx
              obtain ⟨q, _, rfl⟩ := hx
              exact src_two ps q)
            rw [srcs_length] at ev hz
            injection ev with ev
            subst ev
            exact hz
          · have X := ownsRow_setCell_below (ownsRow_setCell_below (ownsRow_setCell_below (ownsRow_setCell_below (ownsRow_setCell_below hO5 (a := ⟨w.heap.size + 1 + 1, 0, none⟩) hRw (.slice a len cap)) (a := ⟨w.heap.size + 1 + 1, 1, none⟩) hRw (.slice pa plen pcap)) (a := ⟨w.heap.size + 1 + 1, 2, none⟩) hRw (.slice za ps.length zc)) (a := ⟨w.heap.size + 1 + 1, 3, none⟩) hRw (.slice sa ps.length sc)) (a := ⟨w.heap.size + 1 + 1, 4, none⟩) hRw (.slice (some ⟨g, 0, none⟩) A.length gc)
            have e : (put5 w4 (w.heap.size + 1 + 1) (.slice a len cap) (.slice pa plen pcap) (.slice za ps.length zc) (.slice sa ps.length sc) (.slice (some ⟨g, 0, none⟩) A.length gc)).heap.size = w4.heap.size := by simp
            rw [e]
            exact X
          · have e : (put5 w4 (w.heap.size + 1 + 1) (.slice a len cap) (.slice pa plen pcap) (.slice za ps.length zc) (.slice sa ps.length sc) (.slice (some ⟨g, 0, none⟩) A.length gc)).heap.size = w4.heap.size := by simp
            rw [e]
            exact below_both (below_both (below_both (below_both (below_both b5 _ _) _ _) _ _) _ _) _ _
        clear hZ3 hZ4 hS4 hF2 hP2 hR2 hp hpr hA hAr hFit HFP
        go_upto_region 16 with fail
        go_region_held3 (fun wx => wx.cell? ⟨w.heap.size, 4, none⟩ = some (.slice a len cap) ∧ wx.cell? ⟨w.heap.size + 1, 1, none⟩ = some (.slice pa plen pcap))
          (first | exact held _ hgd | exact held _ g5 | exact held _ (grown_put (grown_put (grown_put (grown_put (grown_put g5 0 _) 1 _) 2 _) 3 _) 4 _))
          ((go_at_call 58; refine hcl.mono ?_; rintro e w5 ⟨⟨v, rfl, hO5⟩, b5'⟩; have b5 := below_step hd b5'; have g5 := below_grown b5 (some (w.heap.size + 1 + 1)); obtain ⟨g, gc, rfl, _, _, _⟩ := hO5.block hne; have hR5 := hR4.below b5 hR4.lt b5.size; obtain ⟨v0, k0⟩ := hR5.c 0 (by decide); obtain ⟨v1, k1⟩ := hR5.c 1 (by decide); obtain ⟨v2, k2⟩ := hR5.c 2 (by decide); obtain ⟨v3, k3⟩ := hR5.c 3 (by decide); obtain ⟨v4, k4⟩ := hR5.c 4 (by decide); have f0 := hR5.fz 0; have f1 := hR5.fz 1; have f2 := hR5.fz 2; have f3 := hR5.fz 3; have f4 := hR5.fz 4))
        all_goals
          have HT : Hid (_) := hR5.sets (.slice a len cap) (.slice pa plen pcap) (.slice za ps.length zc) (.slice sa ps.length sc) (.slice (some ⟨g, 0, none⟩) A.length gc)
          have HF : Hid (_) := HFIN.out w5 g gc b5 hO5
          clear hO5 b5' hR5 HFIN held
          go_wp2
          obtain ⟨t0, t1, t2, t3, t4⟩ := HT.out
          exact bodyPost_ret (v := .tuple #[.agg #[.slice a len cap, .slice pa plen pcap, .slice za ps.length zc, .slice sa ps.length sc, .slice (some ⟨g, 0, none⟩) A.length gc], .int .i64 0]) (by simp [results, Tryz.results24, go_sem, t0, t1, t2, t3, t4]) rfl HF.out
  · have HFIN : Hid (ToldBg w ⟨W, H, S, O, ps⟩ os pl A (.slice a len cap) (.slice pa plen pcap) (.returned (.tuple #[noWork, .int .i64 (checkP ⟨W, H, S, O, ps⟩ os pl A.length)])) (put5 w2 (w.heap.size + 1 + 1) (.slice none 0 0) (.slice none 0 0) (.slice none 0 0) (.slice none 0 0) (.slice none 0 0))) := .inr ⟨by rw [execE_no hC]; exact hC, by rw [execE_no hC], HBZ.out⟩
    generalize checkP ⟨W, H, S, O, ps⟩ os pl A.length = E at *
    go_wp2
    obtain ⟨t0, t1, t2, t3, t4⟩ := HT.out
    exact bodyPost_ret (v := .tuple #[noWork, .int .i64 E]) (by simp [results, Tryz.results24, go_sem, t0, t1, t2, t3, t4]) rfl HFIN.out
end Go.Proofs.YtihliofhhjjeaaaGreat
namespace Go.Proofs.YtihliofhhjjeaaaGreat
open Go.RowKit Im
def stepErr (f : Fr) (os pl A : List Int) (n : Int) : Int := if execE f os pl A = 0 then (if 0 ≤ n ∧ n < os.length then 0 else 3) else execE f os pl A
def stepL (f : Fr) (os pl A : List Int) (n : Int) : List Int := if stepErr f os pl A n = 0 then stepA f pl A (os.getD n.toNat 0).toNat else []
def ToldN (w : World) (l : List Int) (E : Int) (e : Ending) (w' : World) : Prop := ∃ a c, e = .returned (.tuple #[.slice a l.length c, .int .i64 E]) ∧ Ints 0 w' a l.length l ∧ Below w.heap.size w w'
theorem WkBox.grown {w w' : World} {b : Nat} {v0 v1 v2 v3 v4 : Value} {row : Option Nat} (h : WkBox w b v0 v1 v2 v3 v4) (hg : w.grownBy w' row) (hne : some b ≠ row) : WkBox w' b v0 v1 v2 v3 v4 :=
  ⟨Nat.lt_of_lt_of_le h.lt hg.size, (grown_cell hg h.lt hne 0).1.trans h.c0, (grown_cell hg h.lt hne 1).1.trans h.c1, (grown_cell hg h.lt hne 2).1.trans h.c2, (grown_cell hg h.lt hne 3).1.trans h.c3, (grown_cell hg h.lt hne 4).1.trans h.c4⟩
theorem grown_from {n : Nat} {a w w' : World} {g : Nat} (h : Below n a w) (hn : n ≤ w.heap.size) (hg : w.grownBy w' (some g)) (hg2 : n ≤ g) : Below n a w' := h.grown hg hn (fun k hk => by injection hk with hk; omega)
set_option maxHeartbeats 8000000 in
theorem step_any (W H S O : Int) (a : Option Addr) (len cap : Nat) (ps : List Ps) (w : World) (hp : Passes w a len ps) (oa : Option Addr) (olen ocap : Nat) (pa : Option Addr) (plen pcap : Nat) (os pl : List Int) (hO : Ints 0 w oa olen os) (hL : Ints 0 w pa plen pl) (hcap : olen ≤ ocap) (aa : Option Addr) (alen ac : Nat) (A : List Int) (hA : Ints 0 w aa alen A) (n : Int) :
    Calls Tryz.prog 22 #[.agg #[.int .i64 W, .int .i64 H, .int .i64 S, .int .i64 O, .slice a len cap], .agg #[.slice oa olen ocap, .slice pa plen pcap], .slice aa alen ac, .int .i64 n] w (ToldN w (stepL ⟨W, H, S, O, ps⟩ os pl A n) (stepErr ⟨W, H, S, O, ps⟩ os pl A n)) := by
  obtain rfl := hO.leng
  obtain rfl := hp.leng
  obtain ⟨hb0, hF0, hP0⟩ := boxes2 w W H S O a ps.length cap (.slice oa os.length ocap) (.slice pa plen pcap)
  have hbg := begin_any W H S O a ps.length cap ps _ (hp.below hb0) oa os.length ocap pa plen pcap os pl (hO.below (Nat.le_refl _) hb0) (hL.below (Nat.le_refl _) hb0) hcap aa alen ac A (hA.below (Nat.le_refl _) hb0)
  go_enter Tryz.func22, Tryz.ntmps22
  obtain ⟨_, g0, g1, g2, g3, g4⟩ := id hF0
  obtain ⟨_, e0, e1⟩ := id hP0
  go_wp2_with fail
  generalize (w.alloc (.cells #[.int .i64 W, .int .i64 H, .int .i64 S, .int .i64 O, .slice a ps.length cap] 24)).alloc (.cells #[.slice oa os.length ocap, .slice pa plen pcap] 27) = w1 at *
  refine hbg.mono ?_
  clear hbg g0 g1 g2 g3 g4 e0 e1
  rintro e w2 (⟨hX, wS, za, zc, sa, sc, g, gc, rfl, bS, hZ, hSr, hOw, b2⟩ | ⟨hX, rfl, b2⟩)
  · obtain ⟨hC, hfi⟩ := exec_zero hX
    have hFit : FitA ⟨W, H, S, O, ps⟩ os pl A := fit_of hC hfi
    have hS1 : w1.heap.size ≤ wS.heap.size := bS.size
    have hb2 : Below w1.heap.size w1 w2 := bS.trans (b2.mono hS1)
    have hbS := below_step hb0 bS
    have hbw := below_step hb0 hb2
    by_cases hn : 0 ≤ n ∧ n < os.length
    · obtain ⟨m, rfl⟩ := Int.eq_ofNat_of_zero_le hn.1
      have hm : m < os.length := by omega
      obtain ⟨q, eq, hq, hqm⟩ := os_at hFit hm
      have HLL : Hid (stepL ⟨W, H, S, O, ps⟩ os pl A m = stepA ⟨W, H, S, O, ps⟩ pl A q ∧ stepErr ⟨W, H, S, O, ps⟩ os pl A m = 0) := by
        have h1 : stepErr ⟨W, H, S, O, ps⟩ os pl A m = 0 := by unfold stepErr; rw [if_pos hX, if_pos hn]
        refine ⟨?_, h1⟩
        unfold stepL
        rw [if_pos h1, Int.toNat_natCast, eq, Int.toNat_natCast]
      have bA := (Below.refl w2.heap.size w2).alloc (Nat.le_refl _) (.cells #[.slice a ps.length cap, .slice pa plen pcap, .slice za ps.length zc, .slice sa ps.length sc, .slice (some ⟨g, 0, none⟩) A.length gc] 65)
      have hK := WkBox.new w2 (.slice a ps.length cap) (.slice pa plen pcap) (.slice za ps.length zc) (.slice sa ps.length sc) (.slice (some ⟨g, 0, none⟩) A.length gc) 65
      have hP3 := (hP0.below hb2).below bA
      have hg0 : wS.heap.size ≤ g ∧ g < w2.heap.size := World.ownsRow.lt (w := w2) hOw g rfl
      have hb3 : Below wS.heap.size wS (w2.alloc (.cells #[.slice a ps.length cap, .slice pa plen pcap, .slice za ps.length zc, .slice sa ps.length sc, .slice (some ⟨g, 0, none⟩) A.length gc] 65)) := b2.trans (bA.mono b2.size)
      have hO3 : Owns wS.heap.size _ (.slice (some ⟨g, 0, none⟩) A.length gc) A := ownsRow_below hOw bA (Nat.le_refl _)
      have hpl : plen = ps.length := by rw [← hL.leng]; exact hFit.ord.len
      subst hpl
      have hb3w : Below w.heap.size w _ := below_step hbw bA
      have hpS := (hp.below hb3w)
      have hLS := (hL.below (Nat.le_refl _) hb3w)
      have hOS := (hO.below (Nat.le_refl _) hb3w)
      have hZS := hZ.below hb3
      have hSS := hSr.below hb3
      obtain ⟨ob, oo, rfl, hoc⟩ := hOS.nth hm
      rw [eq] at hoc
      have hs3 : w.heap.size + 2 ≤ w1.heap.size := hP0.lt
      go_upto_region 4 with fail
      generalize w2.alloc (.cells #[.slice a ps.length cap, .slice pa ps.length pcap, .slice za ps.length zc, .slice sa ps.length sc, .slice (some ⟨g, 0, none⟩) A.length gc] 65) = w3 at *
      have hmI : (m : Int) < (os.length : Int) := by omega
      have hm0 : (0 : Int) ≤ (m : Int) := by omega
      have hmn : ¬ (m : Int) < 0 := by omega
      have hmn2 : ¬ (os.length : Int) ≤ (m : Int) := by omega
      have e0 := hP3.c0
      have hd := (Below.refl w3.heap.size w3).drew
      have hdo := do_any (f := ⟨W, H, S, O, ps⟩) a cap pa pcap za zc sa sc g gc (w := w3.drew) (hpS.below hd) (hLS.below (Nat.le_refl _) hd) (hZS.below hd) (hSS.below hd) (ownsRow_below hO3 hd (Nat.le_refl _)) hFit hq hqm
      dsimp only at hdo
      have hob : ob < w3.heap.size := World.block_lt_of_cell? _ _ hoc
      have hobg : ob < wS.heap.size := by
        obtain ⟨ob', oo', ev, hcc⟩ := (hO.below (Nat.le_refl _) hbS).nth hm
        injection ev with ev
        injection ev with ev
        subst ev
        exact World.block_lt_of_cell? _ _ hcc
      have hne1 : some w2.heap.size ≠ some g := fun e => by injection e with e; omega
      have hne2 : some (w.heap.size + 1) ≠ some g := fun e => by injection e with e; omega
      have hne3 : some ob ≠ some g := fun e => by injection e with e; omega
      obtain ⟨_, k0, k1, k2, k3, k4⟩ := id hK
      have held : ∀ wx, w3.grownBy wx (some g) → (wx.cell? ⟨w2.heap.size, 0, none⟩ = some (.slice a ps.length cap) ∧ wx.cell? ⟨w2.heap.size, 1, none⟩ = some (.slice pa ps.length pcap) ∧ wx.cell? ⟨w2.heap.size, 2, none⟩ = some (.slice za ps.length zc) ∧ wx.cell? ⟨w2.heap.size, 3, none⟩ = some (.slice sa ps.length sc) ∧ wx.cell? ⟨w2.heap.size, 4, none⟩ = some (.slice (some ⟨g, 0, none⟩) A.length gc)) ∧ wx.cell? ⟨w.heap.size + 1, 0, none⟩ = some (.slice (some ⟨ob, oo, none⟩) os.length ocap) ∧ wx.cell? ⟨ob, oo + m, none⟩ = some (.int .i64 q) := fun wx h =>
        ⟨⟨(grown_cell h hK.lt hne1 0).1.trans k0, (grown_cell h hK.lt hne1 1).1.trans k1, (grown_cell h hK.lt hne1 2).1.trans k2, (grown_cell h hK.lt hne1 3).1.trans k3, (grown_cell h hK.lt hne1 4).1.trans k4⟩, (grown_cell h hP3.lt hne2 0).1.trans e0, (grown_cell h hob hne3 (oo + m)).1.trans hoc⟩
      have hgd := below_grown hd (some g)
      have HFIN : Hid (∀ w', w3.drew.grownBy w' (some g) → Owns wS.heap.size w' (.slice (some ⟨g, 0, none⟩) A.length gc) (stepA ⟨W, H, S, O, ps⟩ pl A q) → ToldN w (stepL ⟨W, H, S, O, ps⟩ os pl A m) (stepErr ⟨W, H, S, O, ps⟩ os pl A m) (.returned (.tuple #[.slice (some ⟨g, 0, none⟩) A.length gc, .int .i64 0])) w') := by
        intro w' hg hO'
        rw [HLL.out.1, HLL.out.2]
        have hl := (hFit.next hq hqm).2.1
        obtain ⟨a', c', ev, hI⟩ := hO'.ints (by have := hFit.len; omega)
        injection ev with ev1 ev2 ev3
        subst ev1 ev3
        refine ⟨some ⟨g, 0, none⟩, gc, by rw [hl], hI.mono (Nat.zero_le _), ?_⟩
        exact grown_from hb3w (Nat.le_trans hb3w.size (Nat.le_refl _)) (hgd.trans hg) (by have := hbS.size; omega)
      clear hO hL hp hA hpS hLS hOS hZS hSS hO3 hOw hZ hSr hFit HLL hF0 hX hC hfi hn
      go_upto_region 6 with fail
      go_region_held3 (fun wx => (wx.cell? ⟨w2.heap.size, 0, none⟩ = some (.slice a ps.length cap) ∧ wx.cell? ⟨w2.heap.size, 1, none⟩ = some (.slice pa ps.length pcap) ∧ wx.cell? ⟨w2.heap.size, 2, none⟩ = some (.slice za ps.length zc) ∧ wx.cell? ⟨w2.heap.size, 3, none⟩ = some (.slice sa ps.length sc) ∧ wx.cell? ⟨w2.heap.size, 4, none⟩ = some (.slice (some ⟨g, 0, none⟩) A.length gc)) ∧ wx.cell? ⟨w.heap.size + 1, 0, none⟩ = some (.slice (some ⟨ob, oo, none⟩) os.length ocap) ∧ wx.cell? ⟨ob, oo + m, none⟩ = some (.int .i64 q))
        (first | exact held _ hgd | exact held _ g5)
        ((go_at_call 25; refine hdo.mono ?_; rintro e w5 ⟨rfl, hO5, g5'⟩; have g5 := hgd.trans g5'))
      all_goals
        have c4 := (grown_cell g5 hK.lt hne1 4).1.trans k4
        have HT : Hid (_) := HFIN.out w5 g5' hO5
        clear hO5 g5' held hdo HFIN
        go_wp2
        go_ret2
        exact HT.out
    · have HLL : Hid (stepL ⟨W, H, S, O, ps⟩ os pl A n = [] ∧ stepErr ⟨W, H, S, O, ps⟩ os pl A n = 3) := by
        have h1 : stepErr ⟨W, H, S, O, ps⟩ os pl A n = 3 := by unfold stepErr; rw [if_pos hX, if_neg hn]
        refine ⟨?_, h1⟩
        unfold stepL
        rw [if_neg (by rw [h1]; decide)]
      have hP2 := hP0.below hb2
      have bA := (Below.refl w2.heap.size w2).alloc (Nat.le_refl _) (.cells #[.slice a ps.length cap, .slice pa plen pcap, .slice za ps.length zc, .slice sa ps.length sc, .slice (some ⟨g, 0, none⟩) A.length gc] 65)
      have e0 := (hP2.below bA).c0
      have HB : Hid (_) := below_box hbw (.cells #[.slice a ps.length cap, .slice pa plen pcap, .slice za ps.length zc, .slice sa ps.length sc, .slice (some ⟨g, 0, none⟩) A.length gc] 65)
      have HT : Hid (∀ w', Below w.heap.size w w' → ToldN w (stepL ⟨W, H, S, O, ps⟩ os pl A n) (stepErr ⟨W, H, S, O, ps⟩ os pl A n) (.returned (.tuple #[.slice none 0 0, .int .i64 3])) w') := fun w' hb => by
        show ToldN _ _ _ _ _
        rw [HLL.out.1, HLL.out.2]
        exact ⟨none, 0, rfl, Ints.nil _ _, hb⟩
      clear hOw hSr hZ hFit hX hC hfi HLL hF0
      by_cases h1 : n < 0
      · go_wp2
        go_ret2
        exact HT.out _ HB.out
      · have h2 : ¬ n < (os.length : Int) := fun h => hn ⟨by omega, h⟩
        have h3 : (os.length : Int) ≤ n := by omega
        go_wp2
        go_ret2
        exact HT.out _ HB.out
  · have HLL : Hid (stepL ⟨W, H, S, O, ps⟩ os pl A n = [] ∧ stepErr ⟨W, H, S, O, ps⟩ os pl A n = execE ⟨W, H, S, O, ps⟩ os pl A) := by
      have h1 : stepErr ⟨W, H, S, O, ps⟩ os pl A n = execE ⟨W, H, S, O, ps⟩ os pl A := by unfold stepErr; rw [if_neg hX]
      refine ⟨?_, h1⟩
      unfold stepL
      rw [if_neg (by rw [h1]; exact hX)]
    have HB : Hid (_) := below_box (below_step hb0 b2) (.cells #[.slice none 0 0, .slice none 0 0, .slice none 0 0, .slice none 0 0, .slice none 0 0] 65)
    have HT : Hid (∀ w', Below w.heap.size w w' → ToldN w (stepL ⟨W, H, S, O, ps⟩ os pl A n) (stepErr ⟨W, H, S, O, ps⟩ os pl A n) (.returned (.tuple #[.slice none 0 0, .int .i64 (execE ⟨W, H, S, O, ps⟩ os pl A)])) w') := fun w' hb => by
      show ToldN _ _ _ _ _
      rw [HLL.out.1, HLL.out.2]
      exact ⟨none, 0, rfl, Ints.nil _ _, hb⟩
    clear HLL
    generalize execE ⟨W, H, S, O, ps⟩ os pl A = E at *
    go_wp2
    go_ret2
    exact HT.out _ HB.out
end Go.Proofs.YtihliofhhjjeaaaGreat
namespace Go.Proofs.YtihliofhhjjeaaaGreat
open Go.RowKit Im
def runP (f : Fr) (os pl A : List Int) : Res := if execE f os pl A = 0 then runR f os pl A else noRes (execE f os pl A)
theorem IBox.grown {w w' : World} {b : Nat} {row : Option Nat} (h : IBox w b) (hg : w.grownBy w' row) (hne : some b ≠ row) : IBox w' b :=
  ⟨Nat.lt_of_lt_of_le h.lt hg.size, (grown_cell hg h.lt hne 0).1.trans h.c0, (grown_cell hg h.lt hne 1).1.trans h.c1, (grown_cell hg h.lt hne 2).1.trans h.c2, (grown_cell hg h.lt hne 0).2.trans h.f0, (grown_cell hg h.lt hne 1).2.trans h.f1, (grown_cell hg h.lt hne 2).2.trans h.f2⟩
theorem FBox.grown {w w' : World} {b : Nat} {W H S O : Int} {a : Option Addr} {len cap : Nat} {row : Option Nat} (h : FBox w b W H S O a len cap) (hg : w.grownBy w' row) (hne : some b ≠ row) : FBox w' b W H S O a len cap :=
  ⟨Nat.lt_of_lt_of_le h.lt hg.size, (grown_cell hg h.lt hne 0).1.trans h.c0, (grown_cell hg h.lt hne 1).1.trans h.c1, (grown_cell hg h.lt hne 2).1.trans h.c2, (grown_cell hg h.lt hne 3).1.trans h.c3, (grown_cell hg h.lt hne 4).1.trans h.c4⟩
set_option maxHeartbeats 8000000 in
theorem run_any (W H S O : Int) (a : Option Addr) (len cap : Nat) (ps : List Ps) (w : World) (hp : Passes w a len ps) (oa : Option Addr) (olen ocap : Nat) (pa : Option Addr) (plen pcap : Nat) (os pl : List Int) (hO : Ints 0 w oa olen os) (hL : Ints 0 w pa plen pl) (hcap : olen ≤ ocap) (aa : Option Addr) (alen ac : Nat) (A : List Int) (hA : Ints 0 w aa alen A) :
    Calls Tryz.prog 7 #[.agg #[.int .i64 W, .int .i64 H, .int .i64 S, .int .i64 O, .slice a len cap], .agg #[.slice oa olen ocap, .slice pa plen pcap], .slice aa alen ac] w (Told w (runP ⟨W, H, S, O, ps⟩ os pl A)) := by
  obtain rfl := hO.leng
  obtain rfl := hp.leng
  obtain ⟨hb0', hF0', hP0'⟩ := boxes2 w W H S O a ps.length cap (.slice oa os.length ocap) (.slice pa plen pcap)
  have bI := (Below.refl ((w.alloc (.cells #[.int .i64 W, .int .i64 H, .int .i64 S, .int .i64 O, .slice a ps.length cap] 24)).alloc (.cells #[.slice oa os.length ocap, .slice pa plen pcap] 27)).heap.size _).alloc (Nat.le_refl _) (.cells #[.int .i64 0, .int .i64 0, .slice none 0 0] 31)
  have hI0 := IBox.new ((w.alloc (.cells #[.int .i64 W, .int .i64 H, .int .i64 S, .int .i64 O, .slice a ps.length cap] 24)).alloc (.cells #[.slice oa os.length ocap, .slice pa plen pcap] 27))
  rw [World.size_alloc, World.size_alloc] at hI0
  have hb0 := below_step hb0' bI
  have hF0 := hF0'.below bI
  have hP0 := hP0'.below bI
  clear hb0' hF0' hP0' bI
  have hbg := begin_any W H S O a ps.length cap ps _ (hp.below hb0) oa os.length ocap pa plen pcap os pl (hO.below (Nat.le_refl _) hb0) (hL.below (Nat.le_refl _) hb0) hcap aa alen ac A (hA.below (Nat.le_refl _) hb0)
  go_enter Tryz.func7, Tryz.ntmps7
  obtain ⟨_, g0, g1, g2, g3, g4⟩ := id hF0
  obtain ⟨_, e0, e1⟩ := id hP0
  go_wp2_with fail
  generalize ((w.alloc (.cells #[.int .i64 W, .int .i64 H, .int .i64 S, .int .i64 O, .slice a ps.length cap] 24)).alloc (.cells #[.slice oa os.length ocap, .slice pa plen pcap] 27)).alloc (.cells #[.int .i64 0, .int .i64 0, .slice none 0 0] 31) = w1 at *
  refine hbg.mono ?_
  clear hbg g0 g1 g2 g3 g4 e0 e1
  have hw2 : w.heap.size ≤ w.heap.size + 1 + 1 := by omega
  rintro e w2 (⟨hX, wS, za, zc, sa, sc, g, gc, rfl, bS, hZ, hSr, hOw, b2⟩ | ⟨hX, rfl, b2⟩)
  · obtain ⟨hC, hfi⟩ := exec_zero hX
    have hFit : FitA ⟨W, H, S, O, ps⟩ os pl A := fit_of hC hfi
    have hS1 : w1.heap.size ≤ wS.heap.size := bS.size
    have hb2 : Below w1.heap.size w1 w2 := bS.trans (b2.mono hS1)
    have hbS := below_step hb0 bS
    have hbw := below_step hb0 hb2
    have HRP : Hid (runP ⟨W, H, S, O, ps⟩ os pl A = runR ⟨W, H, S, O, ps⟩ os pl A) := by show _ = _; unfold runP; rw [if_pos hX]
    dsimp only at hZ hSr ⊢
    have hpl : plen = ps.length := by rw [← hL.leng]; exact hFit.ord.len
    subst hpl
    have bA := (Below.refl w2.heap.size w2).alloc (Nat.le_refl _) (.cells #[.slice a ps.length cap, .slice pa ps.length pcap, .slice za ps.length zc, .slice sa ps.length sc, .slice (some ⟨g, 0, none⟩) A.length gc] 65)
    have hK := WkBox.new w2 (.slice a ps.length cap) (.slice pa ps.length pcap) (.slice za ps.length zc) (.slice sa ps.length sc) (.slice (some ⟨g, 0, none⟩) A.length gc) 65
    have hF3 := (hF0.below hb2).below bA
    have hP3 := (hP0.below hb2).below bA
    have hI3 := (hI0.below hb2 hI0.lt hb2.size).below bA (Nat.lt_of_lt_of_le hI0.lt hb2.size) bA.size
    have hg0 : wS.heap.size ≤ g ∧ g < w2.heap.size := World.ownsRow.lt (w := w2) hOw g rfl
    have hb3 : Below wS.heap.size wS (w2.alloc (.cells #[.slice a ps.length cap, .slice pa ps.length pcap, .slice za ps.length zc, .slice sa ps.length sc, .slice (some ⟨g, 0, none⟩) A.length gc] 65)) := b2.trans (bA.mono b2.size)
    have hO3 : Owns wS.heap.size _ (.slice (some ⟨g, 0, none⟩) A.length gc) A := ownsRow_below hOw bA (Nat.le_refl _)
    have hpS := hp.below hbS
    have hLS := hL.below (Nat.le_refl _) hbS
    have hOS := hO.below (Nat.le_refl _) hbS
    have hbig := hOS.big
    have hIl : w.heap.size + 1 + 1 < w1.heap.size := hI0.lt
    have e0 := hP3.c0
    have hs3 : wS.heap.size ≤ (w2.alloc (.cells #[.slice a ps.length cap, .slice pa ps.length pcap, .slice za ps.length zc, .slice sa ps.length sc, .slice (some ⟨g, 0, none⟩) A.length gc] 65)).heap.size := hb3.size
    have HE : Hid (frameE ⟨W, H, S, O, ps⟩ = 0) := hFit.E
    clear hO hL hp hA hOw hF0 hP0 hI0 hX hC hfi
    go_wp2_with fail
    generalize w2.alloc (.cells #[.slice a ps.length cap, .slice pa ps.length pcap, .slice za ps.length zc, .slice sa ps.length sc, .slice (some ⟨g, 0, none⟩) A.length gc] 65) = w3 at *
    have hne1 : some w2.heap.size ≠ some g := fun e => by injection e with e; omega
    have hne2 : some w.heap.size ≠ some g := fun e => by injection e with e; omega
    have hne3 : some (w.heap.size + 1 + 1) ≠ some g := fun e => by injection e with e; omega
    go_loopw [7, 28] (fun s7 i wr => ∃ j : Nat, j ≤ os.length ∧ s7 = .int .i64 0 ∧ i = .int .i64 j ∧ Owns wS.heap.size wr (.slice (some ⟨g, 0, none⟩) A.length gc) (runA ⟨W, H, S, O, ps⟩ os pl A j) ∧ w3.grownBy wr (some g)) (fun _ i _ => os.length - (intOf i).toNat)
    case atStart => exact ⟨0, Nat.zero_le _, rfl, rfl, hO3, World.grownBy.refl _ _⟩
    case round =>
      obtain ⟨j, hj, rfl, rfl, hOr, hgr⟩ := hrel
      clear e0 hO3
      obtain ⟨hl, hFj⟩ := hFit.run hj
      have hbr : Below wS.heap.size wS wr := grown_from hb3 hs3 hgr hg0.1
      have hbwr : Below w.heap.size w wr := hbS.trans (hbr.mono hbS.size)
      have hKr := hK.grown hgr hne1
      have hFr := hF3.grown hgr hne2
      by_cases hjl : j < os.length
      · obtain ⟨q, eq, hq, hqm⟩ := os_at hFit hjl
        obtain ⟨ob, oo, rfl, hoc⟩ := (hOS.below (Nat.le_refl _) hbr).nth hjl
        rw [eq] at hoc
        have hjI : (j : Int) < (os.length : Int) := by omega
        have hj0 : (0 : Int) ≤ (j : Int) := by omega
        have HNX : Hid (runA ⟨W, H, S, O, ps⟩ os pl A (j + 1) = stepA ⟨W, H, S, O, ps⟩ pl (runA ⟨W, H, S, O, ps⟩ os pl A j) q) := by
          show stepA _ _ _ (os.getD j 0).toNat = _
          rw [eq, Int.toNat_natCast]
        rw [← hl] at hOr
        have hdo := do_any (f := ⟨W, H, S, O, ps⟩) a cap pa pcap za zc sa sc g gc (hpS.below hbr) (hLS.below (Nat.le_refl _) hbr) (hZ.below hbr) (hSr.below hbr) hOr hFj hq hqm
        dsimp only at hdo
        rw [hl] at hdo
        obtain ⟨_, k0, k1, k2, k3, k4⟩ := id hKr
        clear hOr hFr hKr hFj hl hpS hLS hOS hZ hSr hFit
        generalize runA ⟨W, H, S, O, ps⟩ os pl A j = B at *
        go_wp2_with fail
        refine hdo.mono ?_
        clear hdo
        rintro e w5 ⟨rfl, hO5, g5⟩
        have HO5 : Hid (Owns wS.heap.size w5 (.slice (some ⟨g, 0, none⟩) A.length gc) (runA ⟨W, H, S, O, ps⟩ os pl A (j + 1))) := by show Owns _ _ _ _; rw [HNX.out]; exact hO5
        have g5' := hgr.trans g5
        clear hO5 g5 k0 k1 k2 k3 k4
        go_wp2
        go_roundw
        case rel => exact ⟨j + 1, by omega, rfl, by go_num, HO5.out, g5'⟩
        case measure => simp [intOf]; omega
      · have hje : j = os.length := by omega
        subst hje
        have hkI : ¬ (os.length : Int) < (os.length : Int) := by omega
        have hla := last_any W H S O a ps.length cap ps wr (hpS.below hbr)
        obtain ⟨q, eq, hq, hqm⟩ := hFit.last
        obtain ⟨_, g0, g1, g2, g3, g4⟩ := id hFr
        have HRR : Hid (runR ⟨W, H, S, O, ps⟩ os pl A = liesR ⟨W, H, S, O, ps⟩ pl (runA ⟨W, H, S, O, ps⟩ os pl A os.length) q) := by show _ = _; unfold runR; rw [eq]
        have hOr' := hOr
        rw [← hl] at hOr'
        obtain ⟨ga, gc', ev, hIr⟩ := hOr'.ints (by have := hFj.len; omega)
        injection ev with ev1 _ ev2
        subst ev1 ev2
        have hac : (runA ⟨W, H, S, O, ps⟩ os pl A os.length).length ≤ gc := by
          have hne : runA ⟨W, H, S, O, ps⟩ os pl A os.length ≠ [] := fun e => by
            obtain ⟨h1, _, h3, h4⟩ := hFj.place hq hqm
            have := congrArg List.length e
            rw [List.length_nil] at this
            omega
          obtain ⟨g', c', ev, _, _, hc⟩ := hOr'.block hne
          injection ev with _ _ ev
          rw [ev]; exact hc
        go_wp2_with fail
        refine hla.mono ?_
        clear hla g0 g1 g2 g3 g4
        rintro e w5 ⟨rfl, b5⟩
        rw [if_pos HE.out, HE.out, eq]
        have hb5 := below_step hbwr b5
        have hbS5 : Below wS.heap.size wS w5 := hbr.trans (b5.mono hbr.size)
        have him := image_lies hFj (.slice a ps.length cap) (.slice sa ps.length sc) pa ps.length pcap za zc (some ⟨g, 0, none⟩) gc (hLS.below (Nat.le_refl _) hbS5) (hZ.below hbS5) (hIr.below (Nat.le_refl _) b5) hac hq hqm
        rw [hl] at him
        obtain ⟨_, k0, k1, k2, k3, k4⟩ := hKr.below b5 hKr.lt b5.size
        have hI5 := (hI3.grown hgr hne3).below b5 (Nat.lt_of_lt_of_le hI3.lt hgr.size) b5.size
        dsimp only at him
        have HRE : Hid ((liesR ⟨W, H, S, O, ps⟩ pl (runA ⟨W, H, S, O, ps⟩ os pl A os.length) q).E = 0) := rfl
        clear hOr hOr' hIr hFr hKr hFj hpS hLS hOS hZ hSr hFit hac hl
        generalize liesR ⟨W, H, S, O, ps⟩ pl (runA ⟨W, H, S, O, ps⟩ os pl A os.length) q = r at *
        go_wp2_with fail
        refine him.mono ?_
        clear him
        rintro e w6 ⟨ia, ic, rfl, hii, b6⟩
        obtain ⟨_, c0, c1, c2, f0, f1, f2⟩ := hI5.below b6 hI5.lt b6.size
        have HT : Hid (Told w r (.returned (.tuple #[.agg #[.int .i64 r.W, .int .i64 r.H, .slice ia r.ps.length ic], .int .i64 r.E])) (((w6.setCell ⟨w.heap.size + 1 + 1, 0, none⟩ (.int .i64 r.W)).setCell ⟨w.heap.size + 1 + 1, 1, none⟩ (.int .i64 r.H)).setCell ⟨w.heap.size + 1 + 1, 2, none⟩ (.slice ia r.ps.length ic))) := paint_told hb5 hI5.lt hw2 hii b6
        clear hii b6 k0 k1 k2 k3 k4 hI5
        go_wp2
        refine bodyPost_ret (v := .tuple #[.agg #[.int .i64 r.W, .int .i64 r.H, .slice ia r.ps.length ic], .int .i64 r.E]) (by simp [results, Tryz.results7, go_sem, c0, c1, c2, HRE.out]) rfl ?_
        rw [HRP.out, HRR.out]
        exact HT.out
  · have HRP : Hid (runP ⟨W, H, S, O, ps⟩ os pl A = noRes (execE ⟨W, H, S, O, ps⟩ os pl A)) := by show _ = _; unfold runP; rw [if_neg hX]
    have bA := (Below.refl w2.heap.size w2).alloc (Nat.le_refl _) (.cells #[.slice none 0 0, .slice none 0 0, .slice none 0 0, .slice none 0 0, .slice none 0 0] 65)
    have hI3 := (hI0.below b2 hI0.lt b2.size).below bA (Nat.lt_of_lt_of_le hI0.lt b2.size) bA.size
    have hb3 := below_step (below_step hb0 b2) bA
    generalize execE ⟨W, H, S, O, ps⟩ os pl A = E at *
    have HT : Hid (∀ w', Below w.heap.size w w' → Told w (runP ⟨W, H, S, O, ps⟩ os pl A) (.returned (.tuple #[.agg #[.int .i64 0, .int .i64 0, .slice none 0 0], .int .i64 E])) w') := fun w' hb => by
      show Told _ _ _ _
      rw [HRP.out]
      exact told_no ⟨rfl, hb⟩
    obtain ⟨_, c0, c1, c2, f0, f1, f2⟩ := id hI3
    clear HRP hF0 hP0 hI0 bA b2
    go_wp2
    exact bodyPost_ret (v := .tuple #[.agg #[.int .i64 0, .int .i64 0, .slice none 0 0], .int .i64 E]) (by simp [results, Tryz.results7, go_sem, c0, c1, c2]) rfl (HT.out _ (((hb3.setCell (p := ⟨w.heap.size + 1 + 1, 0, none⟩) hw2 _).setCell (p := ⟨w.heap.size + 1 + 1, 1, none⟩) hw2 _).setCell (p := ⟨w.heap.size + 1 + 1, 2, none⟩) hw2 _))
end Go.Proofs.YtihliofhhjjeaaaGreat
namespace Go.Proofs.YtihliofhhjjeaaaGreat
open Go.RowKit Im
def glowP : List Ps := [⟨2, 0, 0, 0, 100, []⟩, ⟨1, 2, 0, 0, 7, []⟩, ⟨10, 1, 0, 0, 0, []⟩, ⟨1, 2, 0, 0, 9, []⟩, ⟨4, 1, 0, 2, 0, []⟩]
def glowF : Fr := ⟨4, 2, 3, 1, glowP⟩
theorem glow_ok : frameE glowF = 0 := by decide
theorem glow_shown : shownP glowF = 4 := by decide
theorem glow_pic : (pics glowF 5).getD 4 (noRes 0) = ⟨0, 4, 2, [9, 109, 209, 309, 10, 110, 210, 310]⟩ := by rfl
def glowC : Array Value := #[.int .i64 2, .int .i64 0, .int .i64 0, .int .i64 0, .int .i64 100, .slice none 0 0, .int .i64 1, .int .i64 2, .int .i64 0, .int .i64 0, .int .i64 7, .slice none 0 0, .int .i64 10, .int .i64 1, .int .i64 0, .int .i64 0, .int .i64 0, .slice none 0 0, .int .i64 1, .int .i64 2, .int .i64 0, .int .i64 0, .int .i64 9, .slice none 0 0, .int .i64 4, .int .i64 1, .int .i64 0, .int .i64 2, .int .i64 0, .slice none 0 0]
def ToldG (w : World) (e : Ending) (w' : World) : Prop :=
  ∃ b, e = .returned (.agg #[.int .i64 4, .int .i64 2, .int .i64 3, .int .i64 1, .slice (some ⟨b, 0, none⟩) 5 5]) ∧ Passes w' (some ⟨b, 0, none⟩) 5 glowP ∧ Below w.heap.size w w'
theorem Lights.nil (w : World) : Lights w none 0 [] := ⟨rfl, by omega, .inl rfl⟩
theorem glow_passes (w : World) : Passes (w.alloc (.cells glowC 62)) (some ⟨w.heap.size, 0, none⟩) 5 glowP := by
  have hc : ∀ o, (w.alloc (.cells glowC 62)).cell? ⟨w.heap.size, o, none⟩ = glowC[o]? := fun o => World.cell?_alloc_new w glowC 62 o
  refine ⟨rfl, by decide, .inr ⟨w.heap.size, 0, rfl, by simp, fun j hj => ⟨none, 0, 0, ?_⟩⟩⟩
  simp only [hc]
  match j, hj with
  | 0, _ => exact ⟨rfl, rfl, rfl, rfl, rfl, rfl, Lights.nil _⟩
  | 1, _ => exact ⟨rfl, rfl, rfl, rfl, rfl, rfl, Lights.nil _⟩
  | 2, _ => exact ⟨rfl, rfl, rfl, rfl, rfl, rfl, Lights.nil _⟩
  | 3, _ => exact ⟨rfl, rfl, rfl, rfl, rfl, rfl, Lights.nil _⟩
  | 4, _ => exact ⟨rfl, rfl, rfl, rfl, rfl, rfl, Lights.nil _⟩
theorem glow_any (w : World) : Calls Tryz.prog 20 #[] w (ToldG w) := by
  go_enter Tryz.func20, Tryz.ntmps20
  go_wp2
  refine bodyPost_ret (v := .agg #[.int .i64 4, .int .i64 2, .int .i64 3, .int .i64 1, .slice (some ⟨w.heap.size + 1, 0, none⟩) 5 5]) (by simp [results, Tryz.results20, go_sem]) rfl ?_
  have hg := glow_passes (w.alloc (.cells #[.int .i64 4, .int .i64 2, .int .i64 3, .int .i64 1, .slice (some ⟨w.heap.size + 1, 0, none⟩) 5 5] 24))
  rw [World.size_alloc] at hg
  exact ⟨_, rfl, hg, below_box (below_box (Below.refl _ _) _) _⟩
end Go.Proofs.YtihliofhhjjeaaaGreat
namespace Go.Proofs.YtihliofhhjjeaaaGreat
open Go.RowKit Im Go.Maps
abbrev oOs : List Int := [3, 0, 4]
abbrev oPl : List Int := [8, -1, -1, 0, 20]
theorem ints_new {w : World} {ps : List Int} (hl : ps.length ≤ 4096) (t : TypeId) : Ints 0 (w.alloc (.cells (ps.map (Value.int .i64)).toArray t)) (some ⟨w.heap.size, 0, none⟩) ps.length ps := by
  refine ⟨rfl, by omega, .inr ⟨w.heap.size, 0, rfl, Nat.zero_le _, by simp, fun j hj => ?_⟩, fun h0 => absurd h0 (Nat.lt_irrefl 0)⟩
  rw [World.cell?_alloc_new]
  simp [List.getD, hj]
def ToldO (w : World) (e : Ending) (w' : World) : Prop :=
  ∃ b c, e = .returned (.agg #[.slice (some ⟨b, 0, none⟩) 3 3, .slice (some ⟨c, 0, none⟩) 5 5]) ∧ Ints 0 w' (some ⟨b, 0, none⟩) 3 oOs ∧ Ints 0 w' (some ⟨c, 0, none⟩) 5 oPl ∧ Below w.heap.size w w'
theorem other_any (w : World) : Calls Tryz.prog 21 #[] w (ToldO w) := by
  go_enter Tryz.func21, Tryz.ntmps21
  go_wp2
  refine bodyPost_ret (v := .agg #[.slice (some ⟨w.heap.size + 1, 0, none⟩) 3 3, .slice (some ⟨w.heap.size + 2, 0, none⟩) 5 5]) (by simp [results, Tryz.results21, go_sem]) rfl ?_
  have h1 := ints_new (w := w.alloc (.cells #[.slice (some ⟨w.heap.size + 1, 0, none⟩) 3 3, .slice (some ⟨w.heap.size + 2, 0, none⟩) 5 5] 27)) (ps := oOs) (by decide) 3
  rw [World.size_alloc] at h1
  have h2 := ints_new (w := (w.alloc (.cells #[.slice (some ⟨w.heap.size + 1, 0, none⟩) 3 3, .slice (some ⟨w.heap.size + 2, 0, none⟩) 5 5] 27)).alloc (.cells (oOs.map (Value.int .i64)).toArray 3)) (ps := oPl) (by decide) 3
  rw [World.size_alloc, World.size_alloc] at h2
  exact ⟨_, _, rfl, h1.below (Nat.le_refl _) ((Below.refl _ _).alloc (Nat.le_refl _) _), h2, below_box (below_box (below_box (Below.refl _ _) _) _) _⟩
end Go.Proofs.YtihliofhhjjeaaaGreat
