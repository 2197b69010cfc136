/- ExecBegun, LawExec, OpenL, OpenF, OpenP, OpenA: joined, in this order. -/
import Derived.Test.YtifokbkhcaajnaaGreatM24
import Derived.Test.YtifokbkhcaajnaaGreatM18
import Derived.Deep.OwnRows
import Derived.Test.YtifokbkhcaajnaaGreatM02
import Derived.Test.YtifokbkhcaajnaaGreatM22
import Derived.Test.YtifokbkhcaajnaaGreatM03
import Derived.Deep.Slices
import Derived.Test.YtifokbkhcaajnaaGreatM11
/-
  EXECBEGUN: the law's execBegun answers true.
-/
namespace Go.Proofs.YtifokbkhcaajnaaGreat
set_option maxRecDepth 100000
open Go.RowKit Im

def arA : List Int := [0, 0, 0, 0, 0, 77, 0, 0, 0, 0, 0, 0, 0, 0, 0, 0, 0, 0, 0, 0, 0, 0, 0, 0, 0, 0, 0, 0]
theorem ar_exec : execE glowF oOs oPl arA = 0 := by decide
theorem ar_render : renderP glowF = ⟨0, 4, 2, [9, 109, 209, 309, 10, 110, 210, 310]⟩ := by
  unfold renderP
  rw [if_pos glow_ok, glow_shown]
  exact glow_pic
theorem ar_run : runP glowF oOs oPl arA = ⟨0, 4, 2, [9, 109, 209, 309, 10, 110, 210, 310]⟩ := by
  obtain ⟨hC, hA⟩ := exec_zero ar_exec
  unfold runP
  rw [if_pos ar_exec, run_same (fit_of hC hA), ar_render]
theorem ar_err : stepErr glowF oOs oPl arA 0 = 0 := by decide
theorem ar_step : stepL glowF oOs oPl arA 0 = [9, 9, 9, 9, 9, 9, 9, 9, 0, 0, 0, 0, 0, 0, 0, 0, 0, 0, 0, 0, 0, 0, 0, 0, 0, 0, 0, 0] := by
  unfold stepL
  rw [if_pos ar_err]
  rfl
theorem ar_at {j : Nat} (h : j < 28) : arA.getD j 0 = if j = 5 then 77 else 0 := by
  have : ∀ j : Fin 28, arA.getD j.1 0 = if j.1 = 5 then 77 else 0 := by decide
  exact this ⟨j, h⟩
set_option maxHeartbeats 8000000 in
theorem execBegun_any (w : World) : Calls Tryz.prog 9 #[] w fun e w' => e = .returned (.bool true) ∧ Below w.heap.size w w' := by
  obtain ⟨i0, hi, hz0, hz1, hz2⟩ := info_parts Tryz.info3
  have hmk : ∀ wx : World, (Instr.makeSlice 25 (.int .i64 28) (.int .i64 28)).run Tryz.prog wx = .ok (.slice (some ⟨wx.heap.size, 0, none⟩) 28 28) (wx.alloc (.cells (madeCells #[.int .i64 0] 28) 3)) := fun wx => run_make_row (P := Tryz.prog) 25 3 i0 (.int .i64 0) Tryz.underlying25 hi hz0 hz1 rfl .i64 .i64 28 (by rw [hz2]; decide) (by decide) wx
  have hcm : ∀ j, j < 28 → (w.alloc (.cells (madeCells #[.int .i64 0] 28) 3)).cell? ⟨w.heap.size, j, none⟩ = some (.int .i64 0) := fun j hj => by
    rw [World.cell?_alloc_new]
    simp [madeCells, hj, Nat.mod_one]
  have hfz : (w.alloc (.cells (madeCells #[.int .i64 0] 28) 3)).frozen? ⟨w.heap.size, 5, none⟩ = false := frozen_new w _ _ 5
  have hb1 := below_box (Below.refl w.heap.size w) (.cells (madeCells #[.int .i64 0] 28) 3)
  have hl1 : w.heap.size < (w.alloc (.cells (madeCells #[.int .i64 0] 28) 3)).heap.size := by simp
  have hrn := fun a cap wx hp oa ocap pa pcap h1 h2 hc aa ac hA => run_any 4 2 3 1 a 5 cap glowP wx hp oa 3 ocap pa 5 pcap oOs oPl h1 h2 hc aa 28 ac arA hA
  have hst := fun a cap wx hp oa ocap pa pcap h1 h2 hc aa ac hA => step_any 4 2 3 1 a 5 cap glowP wx hp oa 3 ocap pa 5 pcap oOs oPl h1 h2 hc aa 28 ac arA hA 0
  have er : runP ⟨4, 2, 3, 1, glowP⟩ oOs oPl arA = _ := ar_run
  have es : stepL ⟨4, 2, 3, 1, glowP⟩ oOs oPl arA 0 = _ := ar_step
  have ee : stepErr ⟨4, 2, 3, 1, glowP⟩ oOs oPl arA 0 = 0 := ar_err
  rw [er] at hrn
  rw [es, ee] at hst
  clear er es ee
  go_enter Tryz.func9, Tryz.ntmps9
  go_upto_region 2 with fail
  clear hmk
  generalize w.alloc (.cells (madeCells #[.int .i64 0] 28) 3) = w1 at *
  have c5 := hcm 5 (by decide)
  have hA2 : Ints 0 (w1.setCell ⟨w.heap.size, 5, none⟩ (.int .i64 77)) (some ⟨w.heap.size, 0, none⟩) 28 arA := by
    refine ⟨rfl, by decide, .inr ⟨w.heap.size, 0, rfl, Nat.zero_le _, by simpa using hl1, fun j hj => ?_⟩⟩
    rw [ar_at hj, Nat.zero_add]
    by_cases h5 : j = 5
    · subst h5
      rw [if_pos rfl]
      exact set_same c5
    · rw [if_neg h5]
      exact (set_other _ (fun e => h5 (by injection e with _ e; exact e.symm))).trans (hcm j hj)
  have hb2 : Below w.heap.size w (w1.setCell ⟨w.heap.size, 5, none⟩ (.int .i64 77)) := hb1.setCell (p := ⟨w.heap.size, 5, none⟩) (Nat.le_refl _) _
  go_wp2_with fail
  generalize w1.setCell ⟨w.heap.size, 5, none⟩ (.int .i64 77) = w2 at *
  clear hcm c5 hfz hb1 hl1
  refine (glow_any _).mono ?_
  rintro e w3 ⟨gb, rfl, hG3, b3⟩
  go_wp2_with fail
  refine (other_any _).mono ?_
  rintro e w4 ⟨ob, pb, rfl, hO4, hL4, b4⟩
  have b24 := below_step b3 b4
  have hR := hrn (some ⟨gb, 0, none⟩) 5 w4 (hG3.below b4) (some ⟨ob, 0, none⟩) 3 (some ⟨pb, 0, none⟩) 5 hO4 hL4 (Nat.le_refl _) (some ⟨w.heap.size, 0, none⟩) 28 (hA2.below (Nat.le_refl _) b24)
  go_wp2_with fail
  refine hR.mono ?_
  clear hR
  rintro e w5 ⟨ia, ic, rfl, hI5, b5⟩
  dsimp only at hI5 ⊢
  have b25 := below_step b24 b5
  have hbA := (Below.refl w5.heap.size w5).alloc (Nat.le_refl _) (.cells #[.int .i64 4, .int .i64 2, .slice ia [9, 109, 209, 309, 10, 110, 210, 310].length ic] 37)
  have hMb : (w5.alloc (.cells #[.int .i64 4, .int .i64 2, .slice ia [9, 109, 209, 309, 10, 110, 210, 310].length ic] 37)).cell? ⟨w5.heap.size, 2, none⟩ = some (.slice ia 8 ic) := by simp [go_sem]
  have hMl : w5.heap.size < (w5.alloc (.cells #[.int .i64 4, .int .i64 2, .slice ia [9, 109, 209, 309, 10, 110, 210, 310].length ic] 37)).heap.size := by simp
  have b26 := below_step b25 hbA
  have hI6 : Ints 0 _ ia 8 [9, 109, 209, 309, 10, 110, 210, 310] := (hI5.mono (Nat.zero_le _)).below (Nat.le_refl _) hbA
  simp only [List.length_cons, List.length_nil, Nat.zero_add, Nat.reduceAdd] at hMb hMl hI6 b26 hbA ⊢
  go_wp2_with fail
  generalize w5.alloc (.cells #[.int .i64 4, .int .i64 2, .slice ia 8 ic] 37) = w6 at *
  clear hI5 hG3 hO4 hL4
  refine (glow_any _).mono ?_
  rintro e w7 ⟨gb7, rfl, hG7, b7⟩
  go_wp2_with fail
  refine (other_any _).mono ?_
  rintro e w8 ⟨ob8, pb8, rfl, hO8, hL8, b8⟩
  have b68 := below_step b7 b8
  have b28 := below_step b26 b68
  have hS := hst (some ⟨gb7, 0, none⟩) 5 w8 (hG7.below b8) (some ⟨ob8, 0, none⟩) 3 (some ⟨pb8, 0, none⟩) 5 hO8 hL8 (Nat.le_refl _) (some ⟨w.heap.size, 0, none⟩) 28 (hA2.below (Nat.le_refl _) b28)
  go_wp2_with fail
  refine hS.mono ?_
  clear hS hrn hst
  rintro e w9 ⟨sa, sc, rfl, hI9, b9⟩
  have b69 := below_step b68 b9
  have b29 := below_step b28 b9
  obtain ⟨sb, so, rfl, s0⟩ := hI9.nth (k := 0) (by decide)
  obtain ⟨sb', so', ev, s5⟩ := hI9.nth (k := 5) (by decide)
  injection ev with ev
  injection ev with e1 e2
  subst e1 e2
  simp only [List.length_cons, List.length_nil, Nat.zero_add, Nat.reduceAdd, Nat.add_zero] at s0 s5 ⊢
  have hA9 := hA2.below (Nat.le_refl _) b29
  obtain ⟨ab, ao, ev, a0⟩ := hA9.nth (k := 0) (by decide)
  injection ev with ev
  injection ev with e1 e2
  subst e1 e2
  obtain ⟨ab, ao, ev, a5⟩ := hA9.nth (k := 5) (by decide)
  injection ev with ev
  injection ev with e1 e2
  subst e1 e2
  have m2 := (b69.cell (p := ⟨w5.heap.size, 2, none⟩) hMl).trans hMb
  have hI9' := hI6.below (Nat.le_refl _) b69
  have hlit : Ints 0 (w9.alloc (.cells #[.int .i64 9, .int .i64 109, .int .i64 209, .int .i64 309, .int .i64 10, .int .i64 110, .int .i64 210, .int .i64 310] 3)) (some ⟨w9.heap.size, 0, none⟩) 8 [9, 109, 209, 309, 10, 110, 210, 310] := ints_new (w := w9) (ps := [9, 109, 209, 309, 10, 110, 210, 310]) (by decide) 3
  have hbL := (Below.refl w9.heap.size w9).alloc (Nat.le_refl _) (.cells #[.int .i64 9, .int .i64 109, .int .i64 209, .int .i64 309, .int .i64 10, .int .i64 110, .int .i64 210, .int .i64 310] 3)
  have hsi := sameInts_any ic 8 (hI9'.below (Nat.le_refl _) hbL) hlit
  rw [decide_eq_true rfl] at hsi
  have hsl : sb < w9.heap.size := World.block_lt_of_cell? _ _ s0
  have hal : w.heap.size < w9.heap.size := World.block_lt_of_cell? _ _ a0
  have hbF := below_step (below_step hb2 b29) hbL
  have t0 := (hbL.cell (p := ⟨sb, so, none⟩) hsl).trans s0
  have t5 := (hbL.cell (p := ⟨sb, so + 5, none⟩) hsl).trans s5
  have u0 := (hbL.cell (p := ⟨w.heap.size, 0 + 0, none⟩) hal).trans a0
  have u5 := (hbL.cell (p := ⟨w.heap.size, 0 + 5, none⟩) hal).trans a5
  clear hlit hI9' hI9 hA9 hA2 hI6 s0 s5 a0 a5 hMb
  go_wp2_with fail
  generalize w9.alloc (.cells #[.int .i64 9, .int .i64 109, .int .i64 209, .int .i64 309, .int .i64 10, .int .i64 110, .int .i64 210, .int .i64 310] 3) = w10 at *
  refine hsi.mono ?_
  clear hsi
  rintro e w11 ⟨rfl, b11⟩
  have hsl' : sb < w10.heap.size := Nat.lt_of_lt_of_le hsl hbL.size
  have hal' : w.heap.size < w10.heap.size := Nat.lt_of_lt_of_le hal hbL.size
  have v0 : w11.cell? ⟨sb, so, none⟩ = some (.int .i64 9) := (b11.cell (p := ⟨sb, so, none⟩) hsl').trans t0
  have v5 : w11.cell? ⟨sb, so + 5, none⟩ = some (.int .i64 9) := (b11.cell (p := ⟨sb, so + 5, none⟩) hsl').trans t5
  have x0 : w11.cell? ⟨w.heap.size, 0, none⟩ = some (.int .i64 0) := (b11.cell (p := ⟨w.heap.size, 0, none⟩) hal').trans u0
  have x5 : w11.cell? ⟨w.heap.size, 5, none⟩ = some (.int .i64 77) := (b11.cell (p := ⟨w.heap.size, 5, none⟩) hal').trans u5
  have hb11 := below_step hbF b11
  clear t0 t5 u0 u5
  go_wp2
  go_ret
  exact ⟨rfl, hb11⟩
end Go.Proofs.YtifokbkhcaajnaaGreat
/-
  LAWEXEC: the law ExecSteps.
-/
namespace Go.Proofs.YtifokbkhcaajnaaGreat
set_option maxRecDepth 100000
open Go.RowKit Im

set_option maxHeartbeats 8000000 in
theorem execSteps_any (W H S O : Int) (a : Option Addr) (len cap : Nat) (ps : List Ps) (oa : Option Addr) (olen ocap : Nat) (os : List Int) (pa : Option Addr) (plen pcap : Nat) (pl : List Int) (aa : Option Addr) (alen ac : Nat) (A : List Int) (n : Int) (w : World) (hp : Passes w a len ps) (hO : Ints 0 w oa olen os) (hcap : olen ≤ ocap) (hL : Ints 0 w pa plen pl) (hac : alen ≤ ac) (hA : Ints 0 w aa alen A) :
    Calls Tryz.prog 3 #[.agg #[.int .i64 W, .int .i64 H, .int .i64 S, .int .i64 O, .slice a len cap], .agg #[.slice oa olen ocap, .slice pa plen pcap], .slice aa alen ac, .int .i64 n] w fun e w' => e = .returned (.bool true) ∧ Below w.heap.size w w' := by
  obtain rfl := hA.leng
  obtain rfl := hO.leng
  obtain ⟨hb0, hF0, hP0⟩ := two_boxes w W H S O a len cap (.slice oa os.length ocap) (.slice pa plen pcap)
  have hst := step_any W H S O a len cap ps _ (hp.below hb0) oa os.length ocap pa plen pcap os pl (hO.below (Nat.le_refl _) hb0) (hL.below (Nat.le_refl _) hb0) hcap aa A.length ac A (hA.below (Nat.le_refl _) hb0) n
  have hee := fun wx (h : Below w.heap.size w wx) => execError_any W H S O a len cap ps wx (hp.below h) oa os.length ocap pa plen pcap os pl (hO.below (Nat.le_refl _) h) (hL.below (Nat.le_refl _) h) aa A.length ac A (hA.below (Nat.le_refl _) h)
  have hso := fun wx (h : Below w.heap.size w wx) (hF : FitA ⟨W, H, S, O, ps⟩ os pl A) (m : Nat) (hm : m < os.length) => stepOfRef_any W H S O a len cap ps wx (hp.below h) oa os.length ocap pa plen pcap os pl (hO.below (Nat.le_refl _) h) (hL.below (Nat.le_refl _) h) aa ac A (hA.below (Nat.le_refl _) h) hac hF hm
  have HSO : Hid (_) := hso
  clear hso
  go_enter Tryz.func3, Tryz.ntmps3
  obtain ⟨_, g0, g1, g2, g3, g4⟩ := id hF0
  obtain ⟨_, e0, e1⟩ := id hP0
  go_wp2_with fail
  generalize (w.alloc (.cells #[.int .i64 W, .int .i64 H, .int .i64 S, .int .i64 O, .slice a len cap] 24)).alloc (.cells #[.slice oa os.length ocap, .slice pa plen pcap] 27) = w1 at *
  refine hst.mono ?_
  clear hst g0 g1 g2 g3 g4 e0 e1
  rintro e w2 ⟨la, lc, rfl, hI2, b2⟩
  have hb2 := below_step hb0 b2
  obtain ⟨_, g0, g1, g2, g3, g4⟩ := hF0.below b2
  obtain ⟨_, e0, e1⟩ := hP0.below b2
  go_wp2_with fail
  refine (hee w2 hb2).mono ?_
  clear g0 g1 g2 g3 g4 e0 e1 hee
  rintro e w3 ⟨rfl, b3⟩
  have hb3 := below_step hb2 b3
  have hI3 := hI2.below (Nat.le_refl _) b3
  have hP3 := (hP0.below b2).below b3
  have hF3 := (hF0.below b2).below b3
  clear hI2 hp hO hL hA
  obtain ⟨_, g0, g1, g2, g3, g4⟩ := id hF3
  obtain ⟨_, e0, e1⟩ := id hP3
  by_cases hX : execE ⟨W, H, S, O, ps⟩ os pl A = 0
  · by_cases hn : 0 ≤ n ∧ n < os.length
    · obtain ⟨m, rfl⟩ := Int.eq_ofNat_of_zero_le hn.1
      have hm : m < os.length := by omega
      obtain ⟨hC, hfi⟩ := exec_zero hX
      have hso := HSO.out w3 hb3 (fit_of hC hfi) m hm
      have hE1 : stepErr ⟨W, H, S, O, ps⟩ os pl A m = 0 := by unfold stepErr; rw [if_pos hX, if_pos hn]
      have hE2 : stepL ⟨W, H, S, O, ps⟩ os pl A m = stepA ⟨W, H, S, O, ps⟩ pl A (os.getD m 0).toNat := by unfold stepL; rw [if_pos hE1, Int.toNat_natCast]
      have h4 : (stepA ⟨W, H, S, O, ps⟩ pl A (os.getD m 0).toNat).length ≤ 4096 := by
        obtain ⟨q, eq, hq, hqm⟩ := os_at (fit_of hC hfi) hm
        have h1 := ((fit_of hC hfi).next hq hqm).2.1
        have h2 := (fit_of hC hfi).len
        rw [eq, Int.toNat_natCast, h1]
        exact h2
      rw [hE2] at hI3 ⊢
      rw [hE1, hX]
      have hmn : ¬ (m : Int) < 0 := by omega
      have hmI : ¬ (os.length : Int) ≤ (m : Int) := by omega
      have hmI2 : (m : Int) < (os.length : Int) := by omega
      clear hX hn hC hfi hE1 hE2 HSO
      generalize stepA ⟨W, H, S, O, ps⟩ pl A (os.getD m 0).toNat = l at *
      go_wp2_with fail
      refine hso.mono ?_
      clear hso g0 g1 g2 g3 g4 e0 e1
      rintro e w4 ⟨⟨v, rfl, hO4⟩, b4⟩
      obtain ⟨va, vc, rfl, hI4⟩ := hO4.ints (by omega)
      have hb4 := below_step hb3 b4
      have hI4' := hI4.mono (Nat.zero_le _)
      have hI3' := hI3.below (Nat.le_refl _) b4
      clear hO4 hI4 hI3
      go_wp2_with fail
      refine (execBegun_any _).mono ?_
      rintro e w5 ⟨rfl, b5⟩
      have hb5 := below_step hb4 b5
      have hsi := sameInts_any lc vc (hI3'.below (Nat.le_refl _) b5) (hI4'.below (Nat.le_refl _) b5)
      rw [decide_eq_true rfl] at hsi
      go_wp2_with fail
      refine hsi.mono ?_
      rintro e w6 ⟨rfl, b6⟩
      have hb6 := below_step hb5 b6
      clear hsi hI3' hI4'
      go_wp2
      go_ret
      exact ⟨rfl, hb6⟩
    · have hE1 : stepErr ⟨W, H, S, O, ps⟩ os pl A n = 3 := by unfold stepErr; rw [if_pos hX, if_neg hn]
      have hE2 : stepL ⟨W, H, S, O, ps⟩ os pl A n = [] := by unfold stepL; rw [if_neg (by rw [hE1]; decide)]
      rw [hE2] at hI3 ⊢
      rw [hE1, hX]
      clear hX hE1 hE2 HSO
      simp only [List.length_nil] at hI3 ⊢
      by_cases h1 : n < 0
      case' neg =>
        have h2 : (os.length : Int) ≤ n := by
          rcases Int.lt_or_le n (os.length : Int) with h | h
          · exact absurd ⟨by omega, h⟩ hn
          · exact h
        have h3 : ¬ n < (os.length : Int) := by omega
      all_goals
        clear hn
        go_wp2_with fail
        refine (execBegun_any _).mono ?_
        rintro e w5 ⟨rfl, b5⟩
        have hb5 := below_step hb3 b5
        have hsi := sameInts_any lc 0 (hI3.below (Nat.le_refl _) b5) (Ints.nil 0 w5)
        rw [decide_eq_true rfl] at hsi
        go_wp2_with fail
        refine hsi.mono ?_
        rintro e w6 ⟨rfl, b6⟩
        have hb6 := below_step hb5 b6
        clear hsi hI3
        go_wp2
        go_ret
        exact ⟨rfl, hb6⟩
  · have hE1 : stepErr ⟨W, H, S, O, ps⟩ os pl A n = execE ⟨W, H, S, O, ps⟩ os pl A := by unfold stepErr; rw [if_neg hX]
    have hE2 : stepL ⟨W, H, S, O, ps⟩ os pl A n = [] := by unfold stepL; rw [if_neg (by rw [hE1]; exact hX)]
    rw [hE2] at hI3 ⊢
    rw [hE1]
    clear hE1 hE2 HSO
    simp only [List.length_nil] at hI3 ⊢
    generalize execE ⟨W, H, S, O, ps⟩ os pl A = E at *
    go_wp2_with fail
    refine (execBegun_any _).mono ?_
    rintro e w5 ⟨rfl, b5⟩
    have hb5 := below_step hb3 b5
    have hsi := sameInts_any lc 0 (hI3.below (Nat.le_refl _) b5) (Ints.nil 0 w5)
    rw [decide_eq_true rfl] at hsi
    go_wp2_with fail
    refine hsi.mono ?_
    rintro e w6 ⟨rfl, b6⟩
    have hb6 := below_step hb5 b6
    clear hsi hI3
    go_wp2
    go_ret
    exact ⟨rfl, hb6⟩
end Go.Proofs.YtifokbkhcaajnaaGreat
/-
  OPENL: how a list of lights that comes in as an argument is read.
-/
namespace Go.Proofs.YtifokbkhcaajnaaGreat
set_option maxRecDepth 100000
open Go.ChangeShapes Go.WideShapes Go.ChangeAt Go.RowKit Go.Joins Go.Deep

instance : Inhabited Lt := ⟨Lt.zero⟩
theorem cellsLight : Tryz.prog.cellsOf 176 = 4 := by kernel_rfl
theorem list4 {cs : List Value} (h : cs.length = 4) : ∃ c0 c1 c2 c3, cs = [c0, c1, c2, c3] := by
  match cs, h with
  | [c0, c1, c2, c3], _ => exact ⟨c0, c1, c2, c3, rfl⟩
/-- A light's four cells, read. -/
theorem light_cells {H : Type} {enc : TypeId × Value → H} {W : World} {n : Nat} {cs : List Value} {y : DataW H × List MemPlace} (h : DataW.trod enc Tryz.prog W 0 (fun _ => true) true n 176 cs = some y) :
    ∃ l : Lt, cs = [.int .i64 l.X, .int .i64 l.Y, .int .i64 l.R, .int .i64 l.P] := by
  obtain ⟨y0, y1, y2, y3, n, _, hl, h0, h1, h2, h3⟩ := trod_struct4 Tryz.underlying176 h
  rw [cellsLight] at hl
  obtain ⟨c0, c1, c2, c3, rfl⟩ := list4 hl
  simp only [cellsInt] at h0 h1 h2 h3
  obtain ⟨x0, e0, _, _⟩ := DataW.trod_int Tryz.underlying3 h0
  obtain ⟨x1, e1, _, _⟩ := DataW.trod_int Tryz.underlying3 h1
  obtain ⟨x2, e2, _, _⟩ := DataW.trod_int Tryz.underlying3 h2
  obtain ⟨x3, e3, _, _⟩ := DataW.trod_int Tryz.underlying3 h3
  simp at e0 e1 e2 e3
  subst e0 e1 e2 e3
  exact ⟨⟨x0, x1, x2, x3⟩, rfl⟩
/-- A list of lights that came in. -/
theorem lights_in {H : Type} {enc : TypeId × Value → H} {W : World} {b0 : Nat} {v : Value} {d : DataW H} {p : List MemPlace} (hv : Value.okWide Tryz.prog W .any b0 65 v) (h : DataW.Trod enc Tryz.prog W 0 (fun _ => true) true 65 v d p) :
    ∃ a len cap ls, v = .slice a len cap ∧ Lights W a len ls := by
  obtain ⟨a0, len, cap, rfl⟩ := okWide_slice Tryz.underlying65 hv
  obtain ⟨n, hn⟩ := h
  have hcs : (Value.slice a0 len cap).cells.toList = [.slice a0 len cap] := rfl
  rw [hcs] at hn
  rcases open_slice Tryz.underlying65 hn with ⟨e, _⟩ | ⟨x, l, c, m, n', D, Pl, e, _, hl, hm, hmm, _, hx⟩
  · simp at e
    obtain ⟨rfl, rfl, rfl⟩ := e
    exact ⟨none, 0, 0, [], rfl, rfl, by omega, .inl rfl⟩
  · simp at e
    obtain ⟨rfl, rfl, rfl⟩ := e
    simp at hmm
    subst hmm
    rw [cellsLight] at hx
    have each : ∀ i, i < m → ∃ lt : Lt, ∀ j, j < 4 → W.cell? (x.add (i * 4) |>.add j) = [Value.int .i64 lt.X, .int .i64 lt.Y, .int .i64 lt.R, .int .i64 lt.P][j]? := fun i hi => by
      obtain ⟨cs', h1, h2⟩ := hx i hi
      obtain ⟨lt, rfl⟩ := light_cells h2
      exact ⟨lt, (World.cells?_some h1).2.2⟩
    obtain ⟨L, hL⟩ := choose_lt each
    unfold maxLen at hm
    refine ⟨some x, len, m, (List.range len).map L, rfl, by simp, by omega, ?_⟩
    by_cases h0 : len = 0
    · subst h0; exact .inl rfl
    · right
      have h00 := hL 0 (by omega) 0 (by omega)
      obtain ⟨b, off, spot⟩ := x
      have hspot : spot = none := by simpa [Addr.add] using World.cell?_spot (h00.trans rfl)
      subst hspot
      refine ⟨b, off, rfl, ?_, fun j hj => ?_⟩
      · have := World.block_lt_of_cell? W _ (h00.trans rfl)
        simpa [Addr.add] using this
      · have g : ((List.range len).map L).getD j Lt.zero = L j := by simp [List.getD_eq_getElem?_getD, hj]
        rw [g]
        have q := hL j (by omega)
        simp only [addr_add] at q
        exact ⟨q 0 (by omega), q 1 (by omega), q 2 (by omega), q 3 (by omega)⟩
end Go.Proofs.YtifokbkhcaajnaaGreat
/-
  OPENF: how a frame that comes in as an argument is read.
-/
namespace Go.Proofs.YtifokbkhcaajnaaGreat
set_option maxRecDepth 100000
open Go.ChangeShapes Go.WideShapes Go.ChangeAt Go.RowKit Go.Joins Go.Deep

instance : Inhabited Ps := ⟨Ps.zero⟩
theorem cellsPass : Tryz.prog.cellsOf 67 = 6 := by kernel_rfl
theorem cellsFrame : Tryz.prog.cellsOf 24 = 5 := by kernel_rfl
theorem cellsLights : Tryz.prog.cellsOf 65 = 1 := by kernel_rfl
theorem cellsPasses : Tryz.prog.cellsOf 22 = 1 := by kernel_rfl
theorem list5 {α : Type} {cs : List α} (h : cs.length = 5) : ∃ c0 c1 c2 c3 c4, cs = [c0, c1, c2, c3, c4] := by
  match cs, h with
  | [c0, c1, c2, c3, c4], _ => exact ⟨c0, c1, c2, c3, c4, rfl⟩
theorem list6 {α : Type} {cs : List α} (h : cs.length = 6) : ∃ c0 c1 c2 c3 c4 c5, cs = [c0, c1, c2, c3, c4, c5] := by
  match cs, h with
  | [c0, c1, c2, c3, c4, c5], _ => exact ⟨c0, c1, c2, c3, c4, c5, rfl⟩
/-- A slice of lights, read. -/
theorem lights_of {H : Type} {enc : TypeId × Value → H} {W : World} {n : Nat} {v : Value} {y : DataW H × List MemPlace} (h : DataW.trod enc Tryz.prog W 0 (fun _ => true) true n 65 [v] = some y) :
    ∃ a len cap ls, v = .slice a len cap ∧ Lights W a len ls := by
  rcases open_slice Tryz.underlying65 h with ⟨e, _⟩ | ⟨x, l, c, m, n', D, Pl, e, _, hl, hm, hmm, _, hx⟩
  · simp at e
    subst e
    exact ⟨none, 0, 0, [], rfl, rfl, by omega, .inl rfl⟩
  · simp at e
    subst e
    simp at hmm
    subst hmm
    rw [cellsLight] at hx
    have each : ∀ i, i < m → ∃ lt : Lt, ∀ j, j < 4 → W.cell? (x.add (i * 4) |>.add j) = [Value.int .i64 lt.X, .int .i64 lt.Y, .int .i64 lt.R, .int .i64 lt.P][j]? := fun i hi => by
      obtain ⟨cs', h1, h2⟩ := hx i hi
      obtain ⟨lt, rfl⟩ := light_cells h2
      exact ⟨lt, (World.cells?_some h1).2.2⟩
    obtain ⟨L, hL⟩ := choose_lt each
    unfold maxLen at hm
    refine ⟨some x, l, m, (List.range l).map L, rfl, by simp, by omega, ?_⟩
    by_cases h0 : l = 0
    · subst h0; exact .inl rfl
    · right
      have h00 := hL 0 (by omega) 0 (by omega)
      obtain ⟨b, off, spot⟩ := x
      have hspot : spot = none := by simpa [Addr.add] using World.cell?_spot (h00.trans rfl)
      subst hspot
      refine ⟨b, off, rfl, ?_, fun j hj => ?_⟩
      · have := World.block_lt_of_cell? W _ (h00.trans rfl)
        simpa [Addr.add] using this
      · have g : ((List.range l).map L).getD j Lt.zero = L j := by simp [List.getD_eq_getElem?_getD, hj]
        rw [g]
        have q := hL j (by omega)
        simp only [addr_add] at q
        exact ⟨q 0 (by omega), q 1 (by omega), q 2 (by omega), q 3 (by omega)⟩
/-- A pass's six cells, read. -/
theorem pass_cells {H : Type} {enc : TypeId × Value → H} {W : World} {n : Nat} {cs : List Value} {y : DataW H × List MemPlace} (h : DataW.trod enc Tryz.prog W 0 (fun _ => true) true n 67 cs = some y) :
    ∃ p : Ps, ∃ la ll lc, cs = [.int .i64 p.Op, .int .i64 p.To, .int .i64 p.A, .int .i64 p.B, .int .i64 p.K, .slice la ll lc] ∧ Lights W la ll p.ls := by
  obtain ⟨xs, n, _, _, hl, hlen, hf⟩ := DataW.trod_struct Tryz.underlying67 h
  rw [cellsPass] at hl
  obtain ⟨c0, c1, c2, c3, c4, c5, rfl⟩ := list6 hl
  obtain ⟨y0, y1, y2, y3, y4, y5, rfl⟩ := list6 (by simpa using hlen)
  have h0 : DataW.trod enc Tryz.prog W 0 (fun _ => true) true n 3 [c0] = some y0 := by have := hf 0 _ rfl; simpa [cellsInt] using this
  have h1 : DataW.trod enc Tryz.prog W 0 (fun _ => true) true n 3 [c1] = some y1 := by have := hf 1 _ rfl; simpa [cellsInt] using this
  have h2 : DataW.trod enc Tryz.prog W 0 (fun _ => true) true n 3 [c2] = some y2 := by have := hf 2 _ rfl; simpa [cellsInt] using this
  have h3 : DataW.trod enc Tryz.prog W 0 (fun _ => true) true n 3 [c3] = some y3 := by have := hf 3 _ rfl; simpa [cellsInt] using this
  have h4 : DataW.trod enc Tryz.prog W 0 (fun _ => true) true n 3 [c4] = some y4 := by have := hf 4 _ rfl; simpa [cellsInt] using this
  have h5 : DataW.trod enc Tryz.prog W 0 (fun _ => true) true n 65 [c5] = some y5 := by have := hf 5 _ rfl; simpa [cellsLights] using this
  obtain ⟨x0, e0, _, _⟩ := DataW.trod_int Tryz.underlying3 h0
  obtain ⟨x1, e1, _, _⟩ := DataW.trod_int Tryz.underlying3 h1
  obtain ⟨x2, e2, _, _⟩ := DataW.trod_int Tryz.underlying3 h2
  obtain ⟨x3, e3, _, _⟩ := DataW.trod_int Tryz.underlying3 h3
  obtain ⟨x4, e4, _, _⟩ := DataW.trod_int Tryz.underlying3 h4
  obtain ⟨la, ll, lc, ls, e5, hL⟩ := lights_of h5
  simp at e0 e1 e2 e3 e4
  subst e0 e1 e2 e3 e4 e5
  exact ⟨⟨x0, x1, x2, x3, x4, ls⟩, la, ll, lc, rfl, hL⟩
/-- A slice of passes, read. -/
theorem passes_of {H : Type} {enc : TypeId × Value → H} {W : World} {n : Nat} {v : Value} {y : DataW H × List MemPlace} (h : DataW.trod enc Tryz.prog W 0 (fun _ => true) true n 22 [v] = some y) :
    ∃ a len cap ps, v = .slice a len cap ∧ Passes W a len ps := by
  rcases open_slice Tryz.underlying22 h with ⟨e, _⟩ | ⟨x, l, c, m, n', D, Pl, e, _, hl, hm, hmm, _, hx⟩
  · simp at e
    subst e
    exact ⟨none, 0, 0, [], rfl, rfl, by omega, .inl rfl⟩
  · simp at e
    subst e
    simp at hmm
    subst hmm
    rw [cellsPass] at hx
    have each : ∀ i, i < m → ∃ p : Ps, ∃ la ll lc, (∀ j, j < 6 → W.cell? (x.add (i * 6) |>.add j) = [Value.int .i64 p.Op, .int .i64 p.To, .int .i64 p.A, .int .i64 p.B, .int .i64 p.K, .slice la ll lc][j]?) ∧ Lights W la ll p.ls := fun i hi => by
      obtain ⟨cs', h1, h2⟩ := hx i hi
      obtain ⟨p, la, ll, lc, rfl, hL⟩ := pass_cells h2
      exact ⟨p, la, ll, lc, (World.cells?_some h1).2.2, hL⟩
    obtain ⟨L, hL⟩ := choose_lt each
    unfold maxLen at hm
    refine ⟨some x, l, m, (List.range l).map L, rfl, by simp, by omega, ?_⟩
    by_cases h0 : l = 0
    · subst h0; exact .inl rfl
    · right
      obtain ⟨la0, ll0, lc0, g0, _⟩ := hL 0 (by omega)
      have h00 := g0 0 (by omega)
      obtain ⟨b, off, spot⟩ := x
      have hspot : spot = none := by simpa [Addr.add] using World.cell?_spot (h00.trans rfl)
      subst hspot
      refine ⟨b, off, rfl, ?_, fun j hj => ?_⟩
      · have := World.block_lt_of_cell? W _ (h00.trans rfl)
        simpa [Addr.add] using this
      · have g : ((List.range l).map L).getD j Ps.zero = L j := by simp [List.getD_eq_getElem?_getD, hj]
        rw [g]
        obtain ⟨la, ll, lc, q, hLi⟩ := hL j (by omega)
        simp only [addr_add] at q
        exact ⟨la, ll, lc, q 0 (by omega), q 1 (by omega), q 2 (by omega), q 3 (by omega), q 4 (by omega), q 5 (by omega), hLi⟩
/-- A frame that came in. -/
theorem frame_in {H : Type} {enc : TypeId × Value → H} {W : World} {b0 : Nat} {v : Value} {d : DataW H} {p : List MemPlace} (hv : Value.okWide Tryz.prog W .any b0 24 v) (h : DataW.Trod enc Tryz.prog W 0 (fun _ => true) true 24 v d p) :
    ∃ w h s o a len cap ps, v = .agg #[.int .i64 w, .int .i64 h, .int .i64 s, .int .i64 o, .slice a len cap] ∧ Passes W a len ps := by
  obtain ⟨cs, rfl, hsz⟩ := okWide_struct Tryz.underlying24 hv
  obtain ⟨n, hn⟩ := h
  obtain ⟨xs, n, _, _, hl, hlen, hf⟩ := DataW.trod_struct Tryz.underlying24 hn
  rw [cellsFrame] at hsz
  obtain ⟨c0, c1, c2, c3, c4, hcs⟩ := list5 (cs := cs.toList) (by simpa using hsz)
  have hcs' : cs = #[c0, c1, c2, c3, c4] := by rw [← Array.toArray_toList (xs := cs), hcs]
  subst hcs'
  obtain ⟨y0, y1, y2, y3, y4, rfl⟩ := list5 (by simpa using hlen)
  have h0 : DataW.trod enc Tryz.prog W 0 (fun _ => true) true n 3 [c0] = some y0 := by have := hf 0 _ rfl; simpa [cellsInt, Value.cells] using this
  have h1 : DataW.trod enc Tryz.prog W 0 (fun _ => true) true n 3 [c1] = some y1 := by have := hf 1 _ rfl; simpa [cellsInt, Value.cells] using this
  have h2 : DataW.trod enc Tryz.prog W 0 (fun _ => true) true n 3 [c2] = some y2 := by have := hf 2 _ rfl; simpa [cellsInt, Value.cells] using this
  have h3 : DataW.trod enc Tryz.prog W 0 (fun _ => true) true n 3 [c3] = some y3 := by have := hf 3 _ rfl; simpa [cellsInt, Value.cells] using this
  have h4 : DataW.trod enc Tryz.prog W 0 (fun _ => true) true n 22 [c4] = some y4 := by have := hf 4 _ rfl; simpa [cellsPasses, Value.cells] using this
  obtain ⟨x0, e0, _, _⟩ := DataW.trod_int Tryz.underlying3 h0
  obtain ⟨x1, e1, _, _⟩ := DataW.trod_int Tryz.underlying3 h1
  obtain ⟨x2, e2, _, _⟩ := DataW.trod_int Tryz.underlying3 h2
  obtain ⟨x3, e3, _, _⟩ := DataW.trod_int Tryz.underlying3 h3
  obtain ⟨a, len, cap, ps, e4, hP⟩ := passes_of h4
  simp at e0 e1 e2 e3
  subst e0 e1 e2 e3 e4
  exact ⟨x0, x1, x2, x3, a, len, cap, ps, rfl, hP⟩
end Go.Proofs.YtifokbkhcaajnaaGreat
/-
  OPENP: how a plan that comes in as an argument is read.
-/
namespace Go.Proofs.YtifokbkhcaajnaaGreat
set_option maxRecDepth 100000
open Go.ChangeShapes Go.WideShapes Go.ChangeAt Go.RowKit Go.Joins

theorem cellsPlan : Tryz.prog.cellsOf 27 = 2 := by kernel_rfl
/-- A slice of numbers that came in, and its capacity. -/
theorem ints_cap {H : Type} {enc : TypeId × Value → H} {W : World} {n : Nat} {v : Value} {y : DataW H × List MemPlace} (h : DataW.trod enc Tryz.prog W 0 (fun _ => true) true n 25 [v] = some y) :
    ∃ a len cap ps, v = .slice a len cap ∧ len ≤ cap ∧ Ints 0 W a len ps := by
  obtain ⟨a, len, cap, ps, e, hi⟩ := ints_in h
  refine ⟨a, len, cap, ps, e, ?_, hi⟩
  rcases open_ints Tryz.underlying25 Tryz.underlying3 cellsInt h with ⟨hcs, _⟩ | ⟨x, l, c, zs, hcs, _, hl, _⟩
  · simp at hcs
    rw [hcs] at e
    injection e with e1 e2 e3
    omega
  · simp at hcs
    rw [hcs] at e
    injection e with e1 e2 e3
    omega
/-- A plan that came in. -/
theorem plan_in {H : Type} {enc : TypeId × Value → H} {W : World} {b0 : Nat} {v : Value} {d : DataW H} {p : List MemPlace} (hv : Value.okWide Tryz.prog W .any b0 27 v) (h : DataW.Trod enc Tryz.prog W 0 (fun _ => true) true 27 v d p) :
    ∃ oa olen ocap os pa plen pcap pl, v = .agg #[.slice oa olen ocap, .slice pa plen pcap] ∧ Ints 0 W oa olen os ∧ olen ≤ ocap ∧ Ints 0 W pa plen pl := by
  obtain ⟨v0, v1, y0, y1, n, rfl, _, _, h0, h1⟩ := open_agg2 Tryz.underlying27 (by kernel_rfl) cellsPlan hv h
  obtain ⟨oa, olen, ocap, os, e0, hc, hO⟩ := ints_cap h0
  obtain ⟨pa, plen, pcap, pl, e1, _, hL⟩ := ints_cap h1
  subst e0 e1
  exact ⟨oa, olen, ocap, os, pa, plen, pcap, pl, rfl, hO, hc, hL⟩
end Go.Proofs.YtifokbkhcaajnaaGreat
/-
  OPENA: how a slice of numbers that comes in as an argument is read.
-/
namespace Go.Proofs.YtifokbkhcaajnaaGreat
set_option maxRecDepth 100000
open Go.ChangeShapes Go.WideShapes Go.ChangeAt Go.RowKit Go.Joins

/-- Numbers that came in. -/
theorem arena_in {H : Type} {enc : TypeId × Value → H} {W : World} {b0 : Nat} {v : Value} {d : DataW H} {p : List MemPlace} (hv : Value.okWide Tryz.prog W .any b0 25 v) (h : DataW.Trod enc Tryz.prog W 0 (fun _ => true) true 25 v d p) :
    ∃ a len cap ps, v = .slice a len cap ∧ len ≤ cap ∧ Ints 0 W a len ps := by
  obtain ⟨a0, len, cap, rfl⟩ := okWide_slice Tryz.underlying25 hv
  obtain ⟨n, hn⟩ := h
  have hcs : (Value.slice a0 len cap).cells.toList = [.slice a0 len cap] := rfl
  rw [hcs] at hn
  exact ints_cap hn
end Go.Proofs.YtifokbkhcaajnaaGreat
