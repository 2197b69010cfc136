/-
  LAWEXEC2: the law ExecRuns.
-/
import Derived.Test.YtifokbkhcaajnaaGreatM25
namespace Go.Proofs.YtifokbkhcaajnaaGreat
set_option maxRecDepth 100000
open Go.RowKit Im

/-- An image in its box. -/
structure JBox (w : World) (b : Nat) (W H : Int) (v : Value) : Prop where
  lt : b < w.heap.size
  c0 : w.cell? ⟨b, 0, none⟩ = some (.int .i64 W)
  c1 : w.cell? ⟨b, 1, none⟩ = some (.int .i64 H)
  c2 : w.cell? ⟨b, 2, none⟩ = some v
theorem JBox.new (w : World) (W H : Int) (v : Value) : JBox (w.alloc (.cells #[.int .i64 W, .int .i64 H, v] 37)) w.heap.size W H v :=
  ⟨by simp, by simp [go_sem], by simp [go_sem], by simp [go_sem]⟩
theorem JBox.below {w w' : World} {b : Nat} {W H : Int} {v : Value} (h : JBox w b W H v) (hb : Below w.heap.size w w') : JBox w' b W H v :=
  ⟨Nat.lt_of_lt_of_le h.lt hb.size, (hb.cell (p := ⟨b, 0, none⟩) h.lt).trans h.c0, (hb.cell (p := ⟨b, 1, none⟩) h.lt).trans h.c1, (hb.cell (p := ⟨b, 2, none⟩) h.lt).trans h.c2⟩
theorem JBox.set {w : World} {b : Nat} {W H : Int} {v : Value} (h : JBox w b W H v) {p : Addr} (hp : p.block ≠ b) (u : Value) : JBox (w.setCell p u) b W H v := by
  have hn : ∀ o, p ≠ (⟨b, o, none⟩ : Addr) := fun o e => hp (by rw [e])
  exact ⟨by simpa using h.lt, (set_other _ (hn 0)).trans h.c0, (set_other _ (hn 1)).trans h.c1, (set_other _ (hn 2)).trans h.c2⟩
theorem IBox.put {w : World} {b : Nat} (h : IBox w b) (W H : Int) (v : Value) : JBox (((w.setCell ⟨b, 0, none⟩ (.int .i64 W)).setCell ⟨b, 1, none⟩ (.int .i64 H)).setCell ⟨b, 2, none⟩ v) b W H v :=
  ⟨by simpa using h.lt, (set_other _ (by simp)).trans ((set_other _ (by simp)).trans (set_same h.c0)), (set_other _ (by simp)).trans (set_same ((set_other _ (by simp)).trans h.c1)), set_same ((set_other _ (by simp)).trans ((set_other _ (by simp)).trans h.c2))⟩
theorem runP_E (f : Fr) (os pl A : List Int) : (runP f os pl A).E = execE f os pl A := by
  unfold runP
  by_cases h : execE f os pl A = 0
  · rw [if_pos h, h]; rfl
  · rw [if_neg h]; rfl
set_option maxHeartbeats 8000000 in
theorem execRuns_any (W H S O : Int) (a : Option Addr) (len cap : Nat) (ps : List Ps) (oa : Option Addr) (olen ocap : Nat) (os : List Int) (pa : Option Addr) (plen pcap : Nat) (pl : List Int) (aa : Option Addr) (alen ac : Nat) (A : List Int) (w : World) (hp : Passes w a len ps) (hO : Ints 0 w oa olen os) (hcap : olen ≤ ocap) (hL : Ints 0 w pa plen pl) (hac : alen ≤ ac) (hA : Ints 0 w aa alen A) :
    Calls Tryz.prog 4 #[.agg #[.int .i64 W, .int .i64 H, .int .i64 S, .int .i64 O, .slice a len cap], .agg #[.slice oa olen ocap, .slice pa plen pcap], .slice aa alen ac] w fun e w' => e = .returned (.bool true) ∧ Below w.heap.size w w' := by
  obtain rfl := hA.leng
  obtain rfl := hO.leng
  obtain ⟨hb0, hF0, hP0⟩ := two_boxes w W H S O a len cap (.slice oa os.length ocap) (.slice pa plen pcap)
  have hru := run_any W H S O a len cap ps _ (hp.below hb0) oa os.length ocap pa plen pcap os pl (hO.below (Nat.le_refl _) hb0) (hL.below (Nat.le_refl _) hb0) hcap aa A.length ac A (hA.below (Nat.le_refl _) hb0)
  have hee := fun wx (h : Below w.heap.size w wx) => execError_any W H S O a len cap ps wx (hp.below h) oa os.length ocap pa plen pcap os pl (hO.below (Nat.le_refl _) h) (hL.below (Nat.le_refl _) h) aa A.length ac A (hA.below (Nat.le_refl _) h)
  have hro := fun wx (h : Below w.heap.size w wx) (hF : FitA ⟨W, H, S, O, ps⟩ os pl A) => runOf_any W H S O a len cap ps wx (hp.below h) oa os.length ocap pa plen pcap os pl (hO.below (Nat.le_refl _) h) (hL.below (Nat.le_refl _) h) aa ac A (hA.below (Nat.le_refl _) h) hac hF
  have HRO : Hid (_) := hro
  clear hro
  have HRE : Hid (_) := runP_E ⟨W, H, S, O, ps⟩ os pl A
  have HRR : Hid (execE ⟨W, H, S, O, ps⟩ os pl A = 0 → runP ⟨W, H, S, O, ps⟩ os pl A = runR ⟨W, H, S, O, ps⟩ os pl A) := fun h => by unfold runP; rw [if_pos h]
  have HRN : Hid (execE ⟨W, H, S, O, ps⟩ os pl A ≠ 0 → runP ⟨W, H, S, O, ps⟩ os pl A = noRes (execE ⟨W, H, S, O, ps⟩ os pl A)) := fun h => by unfold runP; rw [if_neg h]
  generalize runP ⟨W, H, S, O, ps⟩ os pl A = r at *
  go_enter Tryz.func4, Tryz.ntmps4
  obtain ⟨_, g0, g1, g2, g3, g4⟩ := id hF0
  obtain ⟨_, e0, e1⟩ := id hP0
  go_wp2_with fail
  generalize (w.alloc (.cells #[.int .i64 W, .int .i64 H, .int .i64 S, .int .i64 O, .slice a len cap] 24)).alloc (.cells #[.slice oa os.length ocap, .slice pa plen pcap] 27) = w1 at *
  refine hru.mono ?_
  clear hru g0 g1 g2 g3 g4 e0 e1
  rintro e w2 ⟨ia, ic, rfl, hI2, b2⟩
  have hJ2 := JBox.new w2 r.W r.H (.slice ia r.ps.length ic)
  have bA := (Below.refl w2.heap.size w2).alloc (Nat.le_refl _) (.cells #[.int .i64 r.W, .int .i64 r.H, .slice ia r.ps.length ic] 37)
  have hI3 := (hI2.mono (Nat.zero_le _)).below (Nat.le_refl _) bA
  have b23 := below_step b2 bA
  have hb3 := below_step hb0 b23
  have hcall := hee _ hb3
  obtain ⟨_, g0, g1, g2, g3, g4⟩ := hF0.below b23
  obtain ⟨_, e0, e1⟩ := hP0.below b23
  clear hee hI2
  go_wp2_with fail
  generalize w2.alloc (.cells #[.int .i64 r.W, .int .i64 r.H, .slice ia r.ps.length ic] 37) = w3 at *
  refine hcall.mono ?_
  clear hcall g0 g1 g2 g3 g4 e0 e1
  rintro e w4 ⟨rfl, b4⟩
  have hZ4 := IBox.new w4
  have bB := (Below.refl w4.heap.size w4).alloc (Nat.le_refl _) (.cells #[.int .i64 0, .int .i64 0, .slice none 0 0] 37)
  have b35 := below_step b4 bB
  have hb5 := below_step hb3 b35
  have hJ5 := hJ2.below b35
  have hI4 := hI3.below (Nat.le_refl _) b4
  have hI5 := hI4.below (Nat.le_refl _) bB
  have b15 := below_step b23 b35
  have hw4 : w.heap.size ≤ w4.heap.size := Nat.le_trans hb3.size b4.size
  have hJl : w2.heap.size < w4.heap.size := Nat.lt_of_lt_of_le hJ2.lt b4.size
  by_cases hX : execE ⟨W, H, S, O, ps⟩ os pl A = 0
  · obtain ⟨hC, hfi⟩ := exec_zero hX
    have hro := HRO.out _ hb5 (fit_of hC hfi)
    rw [← HRR.out hX] at hro
    obtain ⟨_, g0, g1, g2, g3, g4⟩ := hF0.below b15
    obtain ⟨_, e0, e1⟩ := hP0.below b15
    have hE0 : r.E = 0 := HRE.out.trans hX
    rw [hE0, hX]
    clear hE0 hX hC hfi HRO HRE HRR HRN hp hO hL hA hJ2 hI3
    go_wp2_with fail
    generalize w4.alloc (.cells #[.int .i64 0, .int .i64 0, .slice none 0 0] 37) = w5 at *
    refine hro.mono ?_
    clear hro g0 g1 g2 g3 g4 e0 e1
    rintro e w6 ⟨va, vc, rfl, hI6, b6⟩
    have hZ6 := hZ4.below b6 hZ4.lt b6.size
    have hJ6 := hJ5.below b6
    have hne : ∀ o, (⟨w4.heap.size, o, none⟩ : Addr).block ≠ w2.heap.size := fun o e => by simp at e; omega
    have hJ7 := ((hJ6.set (hne 0) (.int .i64 r.W)).set (hne 1) (.int .i64 r.H)).set (hne 2) (.slice va r.ps.length vc)
    have hV7 := hZ6.put r.W r.H (.slice va r.ps.length vc)
    have hl6 : w4.heap.size < w5.heap.size := hZ4.lt
    have hI7 := (((hI6.setCell (p := ⟨w4.heap.size, 0, none⟩) hl6 (.int .i64 r.W)).setCell (p := ⟨w4.heap.size, 1, none⟩) hl6 (.int .i64 r.H)).setCell (p := ⟨w4.heap.size, 2, none⟩) hl6 (.slice va r.ps.length vc)).mono (Nat.zero_le _)
    have hb7 := (((below_step hb5 b6).setCell (p := ⟨w4.heap.size, 0, none⟩) hw4 (.int .i64 r.W)).setCell (p := ⟨w4.heap.size, 1, none⟩) hw4 (.int .i64 r.H)).setCell (p := ⟨w4.heap.size, 2, none⟩) hw4 (.slice va r.ps.length vc)
    have b47 : Below w4.heap.size w4 (((w6.setCell ⟨w4.heap.size, 0, none⟩ (.int .i64 r.W)).setCell ⟨w4.heap.size, 1, none⟩ (.int .i64 r.H)).setCell ⟨w4.heap.size, 2, none⟩ (.slice va r.ps.length vc)) := (((below_step bB b6).setCell (p := ⟨w4.heap.size, 0, none⟩) (Nat.le_refl _) (.int .i64 r.W)).setCell (p := ⟨w4.heap.size, 1, none⟩) (Nat.le_refl _) (.int .i64 r.H)).setCell (p := ⟨w4.heap.size, 2, none⟩) (Nat.le_refl _) (.slice va r.ps.length vc)
    have hI7a := hI4.below (Nat.le_refl _) b47
    have f0 := hZ6.f0
    have f1 := hZ6.f1
    have f2 := hZ6.f2
    have c0 := hZ6.c0
    have c1 := hZ6.c1
    have c2 := hZ6.c2
    clear hI6 hI5 hI4 hJ6 hJ5 hZ4 hZ6 b6
    go_wp2_with fail
    generalize ((w6.setCell ⟨w4.heap.size, 0, none⟩ (.int .i64 r.W)).setCell ⟨w4.heap.size, 1, none⟩ (.int .i64 r.H)).setCell ⟨w4.heap.size, 2, none⟩ (.slice va r.ps.length vc) = w7 at *
    clear f0 f1 f2 c0 c1 c2
    refine (execBegun_any _).mono ?_
    rintro e w8 ⟨rfl, b8⟩
    have hb8 := below_step hb7 b8
    have hsi := sameImages_any r.W r.H r.W r.H ic vc (hI7a.below (Nat.le_refl _) b8) (hI7.below (Nat.le_refl _) b8)
    rw [decide_eq_true ⟨rfl, rfl, rfl⟩] at hsi
    obtain ⟨_, x0, x1, x2⟩ := hJ7.below b8
    obtain ⟨_, y0, y1, y2⟩ := hV7.below b8
    clear hJ7 hV7 hI7 hI7a
    go_wp2_with fail
    refine hsi.mono ?_
    clear hsi
    rintro e w9 ⟨rfl, b9⟩
    have hb9 := below_step hb8 b9
    go_wp2
    go_ret
    exact ⟨rfl, hb9⟩
  · have hrn := HRN.out hX
    subst hrn
    generalize execE ⟨W, H, S, O, ps⟩ os pl A = E at *
    clear HRO HRE HRR HRN hp hO hL hA hJ2 hI3 hI4
    have e1 : (noRes E).W = 0 := rfl
    have e2 : (noRes E).H = 0 := rfl
    have e3 : (noRes E).ps = [] := rfl
    have e4 : (noRes E).E = E := rfl
    rw [e1, e2, e3] at hJ5
    rw [e3] at hI5
    rw [e1, e2, e3, e4]
    clear e1 e2 e3 e4
    simp only [List.length_nil] at hJ5 hI5 ⊢
    have hJ6 : JBox _ w4.heap.size 0 0 (.slice none 0 0) := JBox.new w4 0 0 (.slice none 0 0)
    go_wp2_with fail
    generalize w4.alloc (.cells #[.int .i64 0, .int .i64 0, .slice none 0 0] 37) = w5 at *
    refine (execBegun_any _).mono ?_
    rintro e w8 ⟨rfl, b8⟩
    have hb8 := below_step hb5 b8
    have hsi := sameImages_any 0 0 0 0 ic 0 (hI5.below (Nat.le_refl _) b8) (Ints.nil 0 w8)
    rw [decide_eq_true ⟨rfl, rfl, rfl⟩] at hsi
    obtain ⟨_, x0, x1, x2⟩ := hJ5.below b8
    obtain ⟨_, y0, y1, y2⟩ := hJ6.below b8
    clear hJ5 hJ6 hI5
    go_wp2_with fail
    refine hsi.mono ?_
    clear hsi
    rintro e w9 ⟨rfl, b9⟩
    have hb9 := below_step hb8 b9
    go_wp2
    go_ret
    exact ⟨rfl, hb9⟩
end Go.Proofs.YtifokbkhcaajnaaGreat
