/- ExecBegun, StepRef, OrdRef: joined, in this order. -/
import Derived.Test.YtihliofhhjjeaaaGreatM20
import Derived.Deep.OwnRows
import Derived.Test.YtihliofhhjjeaaaGreatM18
import Derived.Test.YtihliofhhjjeaaaGreatM13
set_option maxRecDepth 100000
namespace Go.Proofs.YtihliofhhjjeaaaGreat
open Go.RowKit Im
structure JBox (w : World) (b : Nat) (W H : Int) (v : Value) : Prop where
  lt : b < w.heap.size
  c0 : w.cell? ⟨b, 0, none⟩ = some (.int .i64 W)
  c1 : w.cell? ⟨b, 1, none⟩ = some (.int .i64 H)
  c2 : w.cell? ⟨b, 2, none⟩ = some v
theorem JBox.new (w : World) (W H : Int) (v : Value) : JBox (w.alloc (.cells #[.int .i64 W, .int .i64 H, v] 31)) w.heap.size W H v :=
  ⟨by simp, by simp [go_sem], by simp [go_sem], by simp [go_sem]⟩
theorem JBox.below {w w' : World} {b : Nat} {W H : Int} {v : Value} (h : JBox w b W H v) (hb : Below w.heap.size w w') : JBox w' b W H v :=
  ⟨Nat.lt_of_lt_of_le h.lt hb.size, (hb.cell (p := ⟨b, 0, none⟩) h.lt).trans h.c0, (hb.cell (p := ⟨b, 1, none⟩) h.lt).trans h.c1, (hb.cell (p := ⟨b, 2, none⟩) h.lt).trans h.c2⟩
theorem JBox.set {w : World} {b : Nat} {W H : Int} {v : Value} (h : JBox w b W H v) {p : Addr} (hp : p.block ≠ b) (u : Value) : JBox (w.setCell p u) b W H v := by
  have hn : ∀ o, p ≠ (⟨b, o, none⟩ : Addr) := fun o e => hp (by rw [e])
  exact ⟨by simpa using h.lt, (set_other _ (hn 0)).trans h.c0, (set_other _ (hn 1)).trans h.c1, (set_other _ (hn 2)).trans h.c2⟩
theorem IBox.put {w : World} {b : Nat} (h : IBox w b) (W H : Int) (v : Value) : JBox (((w.setCell ⟨b, 0, none⟩ (.int .i64 W)).setCell ⟨b, 1, none⟩ (.int .i64 H)).setCell ⟨b, 2, none⟩ v) b W H v :=
  ⟨by simpa using h.lt, (set_other _ (by simp)).trans ((set_other _ (by simp)).trans (set_same h.c0)), (set_other _ (by simp)).trans (set_same ((set_other _ (by simp)).trans h.c1)), set_same ((set_other _ (by simp)).trans ((set_other _ (by simp)).trans h.c2))⟩
def arA : List Int := [0, 0, 0, 0, 0, 77, 0, 0, 0, 0, 0, 0, 0, 0, 0, 0, 0, 0, 0, 0, 0, 0, 0, 0, 0, 0, 0, 0]
theorem ar_exec : execE glowF oOs oPl arA = 0 := by decide
theorem ar_render : renderP glowF = ⟨0, 4, 2, [9, 109, 209, 309, 10, 110, 210, 310]⟩ := by
  unfold renderP
  rw [if_pos glow_ok, glow_shown]
  exact glow_pic
theorem ar_run : runP glowF oOs oPl arA = ⟨0, 4, 2, [9, 109, 209, 309, 10, 110, 210, 310]⟩ := by
  obtain ⟨hC, hA⟩ := exec_zero ar_exec
  unfold runP
  rw [if_pos ar_exec, run_same (fit_of hC hA), ar_render]
theorem ar_err : stepErr glowF oOs oPl arA 0 = 0 := by decide
theorem ar_step : stepL glowF oOs oPl arA 0 = [9, 9, 9, 9, 9, 9, 9, 9, 0, 0, 0, 0, 0, 0, 0, 0, 0, 0, 0, 0, 0, 0, 0, 0, 0, 0, 0, 0] := by
  unfold stepL
  rw [if_pos ar_err]
  rfl
theorem ar_at {j : Nat} (h : j < 28) : arA.getD j 0 = if j = 5 then 77 else 0 := by
  have : ∀ j : Fin 28, arA.getD j.1 0 = if j.1 = 5 then 77 else 0 := by decide
  exact this ⟨j, h⟩
set_option maxHeartbeats 8000000 in
theorem execBegun_any (w : World) : Calls Tryz.prog 4 #[] w fun e w' => e = .returned (.bool true) ∧ Below w.heap.size w w' := by
  obtain ⟨i0, hi, hz0, hz1, hz2⟩ := info_parts Tryz.info3
  have hmk : ∀ wx : World, (Instr.makeSlice 25 (.int .i64 28) (.int .i64 28)).run Tryz.prog wx = .ok (.slice (some ⟨wx.heap.size, 0, none⟩) 28 28) (wx.alloc (.cells (madeCells #[.int .i64 0] 28) 3)) := fun wx => run_make_row (P := Tryz.prog) 25 3 i0 (.int .i64 0) Tryz.underlying25 hi hz0 hz1 rfl .i64 .i64 28 (by rw [hz2]; decide) (by decide) wx
  have hcm : ∀ j, j < 28 → (w.alloc (.cells (madeCells #[.int .i64 0] 28) 3)).cell? ⟨w.heap.size, j, none⟩ = some (.int .i64 0) := fun j hj => by
    rw [World.cell?_alloc_new]
    simp [madeCells, hj, Nat.mod_one]
  have hfz : (w.alloc (.cells (madeCells #[.int .i64 0] 28) 3)).frozen? ⟨w.heap.size, 5, none⟩ = false := frozen_new w _ _ 5
  have hb1 := below_box (Below.refl w.heap.size w) (.cells (madeCells #[.int .i64 0] 28) 3)
  have hl1 : w.heap.size < (w.alloc (.cells (madeCells #[.int .i64 0] 28) 3)).heap.size := by simp
  have hrn := fun a cap wx hp oa ocap pa pcap h1 h2 hc aa ac hA => run_any 4 2 3 1 a 5 cap glowP wx hp oa 3 ocap pa 5 pcap oOs oPl h1 h2 hc aa 28 ac arA hA
  have hst := fun a cap wx hp oa ocap pa pcap h1 h2 hc aa ac hA => step_any 4 2 3 1 a 5 cap glowP wx hp oa 3 ocap pa 5 pcap oOs oPl h1 h2 hc aa 28 ac arA hA 0
  have er : runP ⟨4, 2, 3, 1, glowP⟩ oOs oPl arA = _ := ar_run
  have es : stepL ⟨4, 2, 3, 1, glowP⟩ oOs oPl arA 0 = _ := ar_step
  have ee : stepErr ⟨4, 2, 3, 1, glowP⟩ oOs oPl arA 0 = 0 := ar_err
  rw [er] at hrn
  rw [es, ee] at hst
  clear er es ee
  go_enter Tryz.func4, Tryz.ntmps4
  go_upto_region 2 with fail
  clear hmk
  generalize w.alloc (.cells (madeCells #[.int .i64 0] 28) 3) = w1 at *
  have c5 := hcm 5 (by decide)
  have hA2 : Ints 0 (w1.setCell ⟨w.heap.size, 5, none⟩ (.int .i64 77)) (some ⟨w.heap.size, 0, none⟩) 28 arA := by
    refine ⟨rfl, by decide, .inr ⟨w.heap.size, 0, rfl, Nat.zero_le _, by simpa using hl1, fun j hj => ?_⟩, fun h0 => absurd h0 (Nat.lt_irrefl 0)⟩
    rw [ar_at hj, Nat.zero_add]
    by_cases h5 : j = 5
    · subst h5
      rw [if_pos rfl]
      exact set_same c5
    · rw [if_neg h5]
      exact (set_other _ (fun e => h5 (by injection e with _ e; exact e.symm))).trans (hcm j hj)
  have hb2 : Below w.heap.size w (w1.setCell ⟨w.heap.size, 5, none⟩ (.int .i64 77)) := hb1.setCell (p := ⟨w.heap.size, 5, none⟩) (Nat.le_refl _) _
  go_wp2_with fail
  generalize w1.setCell ⟨w.heap.size, 5, none⟩ (.int .i64 77) = w2 at *
  clear hcm c5 hfz hb1 hl1
  refine (glow_any _).mono ?_
  rintro e w3 ⟨gb, rfl, hG3, b3⟩
  go_wp2_with fail
  refine (other_any _).mono ?_
  rintro e w4 ⟨ob, pb, rfl, hO4, hL4, b4⟩
  have b24 := below_step b3 b4
  have hR := hrn (some ⟨gb, 0, none⟩) 5 w4 (hG3.below b4) (some ⟨ob, 0, none⟩) 3 (some ⟨pb, 0, none⟩) 5 hO4 hL4 (Nat.le_refl _) (some ⟨w.heap.size, 0, none⟩) 28 (hA2.below (Nat.le_refl _) b24)
  go_wp2_with fail
  refine hR.mono ?_
  clear hR
  rintro e w5 ⟨ia, ic, rfl, hI5, b5⟩
  dsimp only at hI5 ⊢
  have b25 := below_step b24 b5
  have hbA := (Below.refl w5.heap.size w5).alloc (Nat.le_refl _) (.cells #[.int .i64 4, .int .i64 2, .slice ia [9, 109, 209, 309, 10, 110, 210, 310].length ic] 31)
  have hMb : (w5.alloc (.cells #[.int .i64 4, .int .i64 2, .slice ia [9, 109, 209, 309, 10, 110, 210, 310].length ic] 31)).cell? ⟨w5.heap.size, 2, none⟩ = some (.slice ia 8 ic) := by simp [go_sem]
  have hMl : w5.heap.size < (w5.alloc (.cells #[.int .i64 4, .int .i64 2, .slice ia [9, 109, 209, 309, 10, 110, 210, 310].length ic] 31)).heap.size := by simp
  have b26 := below_step b25 hbA
  have hI6 : Ints 0 _ ia 8 [9, 109, 209, 309, 10, 110, 210, 310] := (hI5.mono (Nat.zero_le _)).below (Nat.le_refl _) hbA
  simp only [List.length_cons, List.length_nil, Nat.zero_add, Nat.reduceAdd] at hMb hMl hI6 b26 hbA ⊢
  go_wp2_with fail
  generalize w5.alloc (.cells #[.int .i64 4, .int .i64 2, .slice ia 8 ic] 31) = w6 at *
  clear hI5 hG3 hO4 hL4
  refine (glow_any _).mono ?_
  rintro e w7 ⟨gb7, rfl, hG7, b7⟩
  go_wp2_with fail
  refine (other_any _).mono ?_
  rintro e w8 ⟨ob8, pb8, rfl, hO8, hL8, b8⟩
  have b68 := below_step b7 b8
  have b28 := below_step b26 b68
  have hS := hst (some ⟨gb7, 0, none⟩) 5 w8 (hG7.below b8) (some ⟨ob8, 0, none⟩) 3 (some ⟨pb8, 0, none⟩) 5 hO8 hL8 (Nat.le_refl _) (some ⟨w.heap.size, 0, none⟩) 28 (hA2.below (Nat.le_refl _) b28)
  go_wp2_with fail
  refine hS.mono ?_
  clear hS hrn hst
  rintro e w9 ⟨sa, sc, rfl, hI9, b9⟩
  have b69 := below_step b68 b9
  have b29 := below_step b28 b9
  obtain ⟨sb, so, rfl, s0⟩ := hI9.nth (k := 0) (by decide)
  obtain ⟨sb', so', ev, s5⟩ := hI9.nth (k := 5) (by decide)
  injection ev with ev
  injection ev with e1 e2
  subst e1 e2
  simp only [List.length_cons, List.length_nil, Nat.zero_add, Nat.reduceAdd, Nat.add_zero] at s0 s5 ⊢
  have hA9 := hA2.below (Nat.le_refl _) b29
  obtain ⟨ab, ao, ev, a0⟩ := hA9.nth (k := 0) (by decide)
  injection ev with ev
  injection ev with e1 e2
  subst e1 e2
  obtain ⟨ab, ao, ev, a5⟩ := hA9.nth (k := 5) (by decide)
  injection ev with ev
  injection ev with e1 e2
  subst e1 e2
  have m2 := (b69.cell (p := ⟨w5.heap.size, 2, none⟩) hMl).trans hMb
  have hI9' := hI6.below (Nat.le_refl _) b69
  have hlit : Ints 0 (w9.alloc (.cells #[.int .i64 9, .int .i64 109, .int .i64 209, .int .i64 309, .int .i64 10, .int .i64 110, .int .i64 210, .int .i64 310] 3)) (some ⟨w9.heap.size, 0, none⟩) 8 [9, 109, 209, 309, 10, 110, 210, 310] := ints_new (w := w9) (ps := [9, 109, 209, 309, 10, 110, 210, 310]) (by decide) 3
  have hbL := (Below.refl w9.heap.size w9).alloc (Nat.le_refl _) (.cells #[.int .i64 9, .int .i64 109, .int .i64 209, .int .i64 309, .int .i64 10, .int .i64 110, .int .i64 210, .int .i64 310] 3)
  have hsi := sameInts_any ic 8 (hI9'.below (Nat.le_refl _) hbL) hlit
  rw [decide_eq_true rfl] at hsi
  have hsl : sb < w9.heap.size := World.block_lt_of_cell? _ _ s0
  have hal : w.heap.size < w9.heap.size := World.block_lt_of_cell? _ _ a0
  have hbF := below_step (below_step hb2 b29) hbL
  have t0 := (hbL.cell (p := ⟨sb, so, none⟩) hsl).trans s0
  have t5 := (hbL.cell (p := ⟨sb, so + 5, none⟩) hsl).trans s5
  have u0 := (hbL.cell (p := ⟨w.heap.size, 0 + 0, none⟩) hal).trans a0
  have u5 := (hbL.cell (p := ⟨w.heap.size, 0 + 5, none⟩) hal).trans a5
  clear hlit hI9' hI9 hA9 hA2 hI6 s0 s5 a0 a5 hMb
  go_wp2_with fail
  generalize w9.alloc (.cells #[.int .i64 9, .int .i64 109, .int .i64 209, .int .i64 309, .int .i64 10, .int .i64 110, .int .i64 210, .int .i64 310] 3) = w10 at *
  refine hsi.mono ?_
  clear hsi
  rintro e w11 ⟨rfl, b11⟩
  have hsl' : sb < w10.heap.size := Nat.lt_of_lt_of_le hsl hbL.size
  have hal' : w.heap.size < w10.heap.size := Nat.lt_of_lt_of_le hal hbL.size
  have v0 : w11.cell? ⟨sb, so, none⟩ = some (.int .i64 9) := (b11.cell (p := ⟨sb, so, none⟩) hsl').trans t0
  have v5 : w11.cell? ⟨sb, so + 5, none⟩ = some (.int .i64 9) := (b11.cell (p := ⟨sb, so + 5, none⟩) hsl').trans t5
  have x0 : w11.cell? ⟨w.heap.size, 0, none⟩ = some (.int .i64 0) := (b11.cell (p := ⟨w.heap.size, 0, none⟩) hal').trans u0
  have x5 : w11.cell? ⟨w.heap.size, 5, none⟩ = some (.int .i64 77) := (b11.cell (p := ⟨w.heap.size, 5, none⟩) hal').trans u5
  have hb11 := below_step hbF b11
  clear t0 t5 u0 u5
  go_wp2
  go_ret
  exact ⟨rfl, hb11⟩
end Go.Proofs.YtihliofhhjjeaaaGreat
namespace Go.Proofs.YtihliofhhjjeaaaGreat
open Go.RowKit Im Go.Maps
theorem stepAt_take_none {os : List Int} {p : Int} {k : Nat} (hk : k < os.length) (h : p ∉ os.take k) (e : os.getD k 0 = p) : stepAt os p = k := by
  induction os generalizing k with
  | nil => simp at hk
  | cons o l ih =>
    cases k with
    | zero => simp at e; subst e; simp [stepAt]
    | succ k =>
      rw [List.take_succ_cons, List.mem_cons, not_or] at h
      rw [List.getD_cons_succ] at e
      have := ih (k := k) (by simpa using hk) h.2 e
      unfold stepAt
      rw [if_neg (fun x => h.1 x.symm), this, if_neg (by omega)]
      omega
set_option maxHeartbeats 1000000 in
theorem stepOf_any {a : Option Addr} {len : Nat} (cap : Nat) {os : List Int} {base : Nat} {w : World} (hI : Ints base w a len os) (p : Int) :
    Calls Tryz.prog 83 #[.slice a len cap, .int .i64 p] w fun e w' => e = .returned (.int .i64 (stepAt os p)) ∧ w = w' := by
  obtain rfl := hI.leng
  have hbig := hI.big
  go_enter Tryz.func83, Tryz.ntmps83
  go_wp2
  go_loop [5] (fun i => ∃ k : Nat, k ≤ os.length ∧ i = .int .i64 k ∧ p ∉ os.take k) (fun i => os.length - (intOf i).toNat)
  case atStart => exact ⟨0, Nat.zero_le _, rfl, by simp⟩
  case round =>
    obtain ⟨k, hk, rfl, hno⟩ := hrel
    by_cases hlt : k < os.length
    · obtain ⟨b, off, rfl, hcx⟩ := hI.nth hlt
      have HT : Hid (os.getD k 0 = p → stepAt os p = k) := fun e => stepAt_take_none hlt hno e
      have HN : Hid (¬ os.getD k 0 = p → p ∉ os.take (k + 1)) := fun e h => ((mem_take_succ hlt p).1 h).elim hno e
      generalize os.getD k 0 = n at hcx HT HN
      clear hno
      by_cases hn : n = p
      · subst hn
        go_wp2
        go_ret
        exact ⟨by rw [HT.out (by trivial)]; rfl, rfl⟩
      · go_wp2
        go_round
        case rel => exact ⟨k + 1, by omega, by go_num, HN.out hn⟩
        case measure => simp [intOf]; omega
    · have hke : k = os.length := by omega
      subst hke
      rw [List.take_length] at hno
      have hs : stepAt os p = -1 := by
        have h1 := stepAt_bd os p
        have h2 : ¬ 0 ≤ stepAt os p := fun h => hno (stepAt_mem.1 h)
        omega
      have HS : Hid (_) := hs
      clear hs hno
      go_wp2
      go_ret
      exact ⟨by rw [HS.out]; rfl, rfl⟩
theorem area_any (zw zh : Int) (w : World) (hw : IntKind.i64.wrap (zw * zh) = zw * zh) : Calls Tryz.prog 47 #[.agg #[.int .i64 zw, .int .i64 zh]] w fun e w' => e = .returned (.int .i64 (zw * zh)) ∧ Below w.heap.size w w' := by
  go_enter Tryz.func47, Tryz.ntmps47
  go_wp2
  go_ret
  exact ⟨rfl, below_box (Below.refl _ _) _⟩
theorem meetRef_any (a b c d : Int) (w : World) : Calls Tryz.prog 84 #[.agg #[.int .i64 a, .int .i64 b], .agg #[.int .i64 c, .int .i64 d]] w fun e w' => e = .returned (.bool (meetB (a, b) (c, d))) ∧ Below w.heap.size w w' := by
  by_cases h1 : a ≤ d
  · by_cases h2 : c ≤ b
    · go_enter Tryz.func84, Tryz.ntmps84
      go_wp2
      go_ret
      exact ⟨by simp [meetB, h1, h2], below_box (below_box (Below.refl _ _) _) _⟩
    · go_enter Tryz.func84, Tryz.ntmps84
      go_wp2
      go_ret
      exact ⟨by simp [meetB, h1, h2], below_box (below_box (Below.refl _ _) _) _⟩
  · go_enter Tryz.func84, Tryz.ntmps84
    go_wp2
    go_ret
    exact ⟨by simp [meetB]; omega, below_box (below_box (Below.refl _ _) _) _⟩
end Go.Proofs.YtihliofhhjjeaaaGreat
namespace Go.Proofs.YtihliofhhjjeaaaGreat
open Go.RowKit Im Go.Maps
set_option maxHeartbeats 8000000 in
theorem inOrder_any (W H S O : Int) (a : Option Addr) (len cap : Nat) (ps : List Ps) (w : World) (hp : Passes w a len ps) (oa : Option Addr) (olen ocap : Nat) (pa : Option Addr) (plen pcap : Nat) (os pl : List Int) (hO : Ints 0 w oa olen os) (hL : Ints 0 w pa plen pl) (hE : frameE ⟨W, H, S, O, ps⟩ = 0) :
    Calls Tryz.prog 73 #[.agg #[.int .i64 W, .int .i64 H, .int .i64 S, .int .i64 O, .slice a len cap], .agg #[.slice oa olen ocap, .slice pa plen pcap]] w fun e w' => e = .returned (.bool (refB (gpOf ⟨W, H, S, O, ps⟩) os pl)) ∧ Below w.heap.size w w' := by
  obtain rfl := hp.leng
  obtain rfl := hO.leng
  obtain rfl := hL.leng
  have hR := gp_right hE
  have hN12 : ps.length ≤ 12 := hR.hN.2
  have hN1 : 1 ≤ ps.length := hR.hN.1
  have hbig := hO.big
  have hbig2 := hL.big
  have hb0 := below_box (below_box (Below.refl w.heap.size w) (.cells #[.int .i64 W, .int .i64 H, .int .i64 S, .int .i64 O, .slice a ps.length cap] 24)) (.cells #[.slice oa os.length ocap, .slice pa pl.length pcap] 27)
  have hF0 := (FBox.new w W H S O a ps.length cap).alloc (.cells #[.slice oa os.length ocap, .slice pa pl.length pcap] 27)
  have hP0 := PlBox.new (w.alloc (.cells #[.int .i64 W, .int .i64 H, .int .i64 S, .int .i64 O, .slice a ps.length cap] 24)) (.slice oa os.length ocap) (.slice pa pl.length pcap) 27
  rw [World.size_alloc] at hP0
  have HR : Hid (refB (gpOf ⟨W, H, S, O, ps⟩) os pl = (decide (pl.length = ps.length) && decide (os.length ≤ ps.length) && allTo (refP (srcOf ps) ps.length os) os.length && allTo (refQ (keptG ps ps.length (shownP ⟨W, H, S, O, ps⟩) ps.length) os pl) ps.length)) := rfl
  by_cases hl1 : pl.length = ps.length
  case neg =>
    have hne : ¬ (pl.length : Int) = (ps.length : Int) := by omega
    go_enter Tryz.func73, Tryz.ntmps73
    go_wp2
    go_ret
    exact ⟨by rw [HR.out, decide_eq_false hl1]; rfl, hb0⟩
  by_cases hl2 : os.length ≤ ps.length
  case neg =>
    have hne : (ps.length : Int) < (os.length : Int) := by omega
    rw [hl1] at hb0 ⊢
    go_enter Tryz.func73, Tryz.ntmps73
    go_wp2
    go_ret
    exact ⟨by rw [HR.out, decide_eq_false hl2]; simp, hb0⟩
  rw [decide_eq_true hl1, decide_eq_true hl2] at HR
  have hs2 : ∀ x ∈ srcs ps ps.length, x.length ≤ 2 := by
    intro x hx
    unfold srcs at hx
    rw [List.mem_map] at hx
    obtain ⟨n, _, rfl⟩ := hx
    unfold srcOf
    rw [List.length_map]
    exact takesP_len _
  have hso := fun wx hp => sourcesOfRef_any W H S O a ps.length cap ps wx hp hN12
  have hke := fun wx hp => keptOf_any W H S O a ps.length cap ps wx hp hE
  have HSR : Hid (∀ k, k < ps.length → (srcs ps ps.length).getD k [] = srcOf ps k) := fun k hk => srcs_at ps hk
  have HS2 : Hid (∀ k, k < ps.length → (srcOf ps k).length ≤ 2 ∧ ∀ s ∈ srcOf ps k, 0 ≤ s ∧ s < ps.length) := fun k hk => ⟨by unfold srcOf; rw [List.length_map]; exact takesP_len _, fun s hs => by have := srcOk_of hE k hk s hs; omega⟩
  have hl2' : ¬ (ps.length : Int) < (os.length : Int) := by omega
  have hwn : IntKind.i64.wrap ((ps.length : Int) - 1) = (ps.length : Int) - 1 := by rw [IntKind.wrap_i64]; omega
  have hp0 := hp.below hb0
  have hO0 := hO.below (Nat.le_refl _) hb0
  have hL0 := hL.below (Nat.le_refl _) hb0
  rw [hl1] at hL0 hP0 hb0 hF0 hp0 hO0 ⊢
  clear hp hO hL hR
  go_enter Tryz.func73, Tryz.ntmps73
  go_wp2
  generalize (w.alloc (.cells #[.int .i64 W, .int .i64 H, .int .i64 S, .int .i64 O, .slice a ps.length cap] 24)).alloc (.cells #[.slice oa os.length ocap, .slice pa ps.length pcap] 27) = W0 at *
  have hd := (Below.refl W0.heap.size W0).drew
  have g5 : ∀ w', Below W0.heap.size W0 w' → w'.cell? ⟨w.heap.size, 0, none⟩ = some (.int .i64 W) ∧ w'.cell? ⟨w.heap.size, 1, none⟩ = some (.int .i64 H) ∧ w'.cell? ⟨w.heap.size, 2, none⟩ = some (.int .i64 S) ∧ w'.cell? ⟨w.heap.size, 3, none⟩ = some (.int .i64 O) ∧ w'.cell? ⟨w.heap.size, 4, none⟩ = some (.slice a ps.length cap) := fun w' h => by
    obtain ⟨_, c0, c1, c2, c3, c4⟩ := hF0.below h
    exact ⟨c0, c1, c2, c3, c4⟩
  go_region_held3 (fun w' => w'.cell? ⟨w.heap.size, 0, none⟩ = some (.int .i64 W) ∧ w'.cell? ⟨w.heap.size, 1, none⟩ = some (.int .i64 H) ∧ w'.cell? ⟨w.heap.size, 2, none⟩ = some (.int .i64 S) ∧ w'.cell? ⟨w.heap.size, 3, none⟩ = some (.int .i64 O) ∧ w'.cell? ⟨w.heap.size, 4, none⟩ = some (.slice a ps.length cap))
    (first | exact g5 _ hd | exact g5 _ B1 | exact g5 _ B2)
    (first
      | (go_at_call 75; (with_reducible refine (hso _ (hp0.below hd)).mono ?_); rintro e w1 ⟨⟨v1, rfl, hLL⟩, b1⟩; have B1 : Below W0.heap.size W0 w1 := hd.trans b1; obtain ⟨sa, sc, rfl, hSs⟩ := hLL.lls hs2)
      | (go_at_call 45; (with_reducible refine (hke _ (hp0.below B1)).mono ?_); rintro e w2 ⟨⟨kb, rfl, hkb, hK⟩, b2⟩; have B2 : Below W0.heap.size W0 w2 := below_step B1 b2))
  rw [srcs_length] at hSs ⊢
  have hS2 := hSs.below b2
  have hO2 := hO0.below (Nat.le_refl _) B2
  have hL2 := hL0.below (Nat.le_refl _) B2
  have hP2 := hP0.below B2
  have hb2 := below_step hb0 B2
  have HRP : Hid (∀ i, refP (srcOf ps) ps.length os i = (decide (0 ≤ os.getD i 0) && decide (os.getD i 0 ≤ (ps.length : Int) - 1) && decide (stepAt os (os.getD i 0) = i) && allTo (refS os i (srcOf ps (os.getD i 0).toNat)) (srcOf ps (os.getD i 0).toNat).length)) := fun _ => rfl
  clear hLL hs2 hso hke g5 hd B1 b1 b2 B2 hSs hp0 hO0 hL0 hP0 hF0 hb0
  go_wp2
  go_loopw [8] (fun i wr => ∃ n : Nat, n ≤ os.length ∧ i = .int .i64 n ∧ allTo (refP (srcOf ps) ps.length os) n = true ∧ Below w2.heap.size w2 wr) (fun i _ => os.length - (intOf i).toNat)
  case atStart => exact ⟨0, Nat.zero_le _, rfl, rfl, Below.refl _ _⟩
  case round =>
    obtain ⟨n, hn, rfl, hall, hbr⟩ := hrel
    obtain ⟨_, h0, h1⟩ := hP2.below hbr
    by_cases hlt : n < os.length
    · obtain ⟨ob, oo, rfl, hox⟩ := (hO2.below (Nat.le_refl _) hbr).nth hlt
      have HA : Hid (refP (srcOf ps) ps.length os n = true → allTo (refP (srcOf ps) ps.length os) (n + 1) = true) := fun h => allTo_succ hall h
      have HF : Hid (refP (srcOf ps) ps.length os n = false → allTo (refP (srcOf ps) ps.length os) os.length = false) := fun h => allTo_not hlt h
      have HP1 : Hid (_) := HRP.out n
      have hso := fun (p : Int) (wx : World) (h : Below wr.heap.size wr wx) => stepOf_any ocap ((hO2.below (Nat.le_refl _) hbr).below (Nat.le_refl _) h) p
      have hnI : (n : Int) < (os.length : Int) := by omega
      have hn0 : (0 : Int) ≤ (n : Int) := by omega
      obtain ⟨x, HXV⟩ : ∃ x, Hid (os.getD n 0 = x) := ⟨_, rfl⟩
      rw [HXV.out] at hox HP1
      clear hall
      have hwi := fun wx => within_any x 0 ((ps.length : Int) - 1) wx
      by_cases hx : 0 ≤ x ∧ x ≤ (ps.length : Int) - 1
      case neg =>
        have e1 : withinB x 0 ((ps.length : Int) - 1) = false := by
          unfold withinB
          by_cases h : 0 ≤ x
          · rw [decide_eq_true h, decide_eq_false (fun h' => hx ⟨h, h'⟩)]; rfl
          · rw [decide_eq_false h]; rfl
        have HX : Hid (refP (srcOf ps) ps.length os n = false) := by
          show _ = _
          rw [HP1.out, show (decide (0 ≤ x) && decide (x ≤ (ps.length : Int) - 1)) = false from e1]; rfl
        rw [e1] at hwi
        clear hx e1
        go_wp2
        refine wp_region_held_drew (S := (fun w' => w'.cell? ⟨w.heap.size + 1, 0, none⟩ = some (.slice (some ⟨ob, oo, none⟩) os.length ocap) ∧ w'.cell? ⟨ob, oo + n, none⟩ = some (.int .i64 x))) (by kernel_rfl) ⟨h0, hox⟩ (fun hHeld => ?_)
        refine wpAnyH_take (i := 0) (oi := { dst := some 39, op := Go.Op.fieldAddr 27 (Go.Operand.tmp 3) 0, type := 0, pos := "plan.go:23", after := #[], guard := none }) (v := .pointer (some ⟨w.heap.size + 1, 0, none⟩)) rfl (by kernel_rfl) (by kernel_rfl) (by kernel_rfl) (fun _ _ _ h => h) (Or.inl ⟨by rfl, fun wz hSw => ?_⟩) hHeld ?_
        · obtain ⟨r0, r1⟩ := hSw
          go_simp
        simp only [Act.put, List.setIfInBounds_toArray, List.set_cons_zero, List.set_cons_succ]
        refine wpAnyH_take (i := 1) (oi := { dst := some 40, op := Go.Op.load 25 (Go.Operand.tmp 39), type := 25, pos := "plan.go:23", after := #[{ on := 0, ground := Go.Ground.data }], guard := none }) (v := .slice (some ⟨ob, oo, none⟩) os.length ocap) rfl (by kernel_rfl) (by kernel_rfl) (by kernel_rfl) (fun _ _ _ h => h) (Or.inl ⟨by rfl, fun wz hSw => ?_⟩) hHeld ?_
        · obtain ⟨r0, r1⟩ := hSw
          go_simp
        simp only [Act.put, List.setIfInBounds_toArray, List.set_cons_zero, List.set_cons_succ]
        refine wpAnyH_take (i := 2) (oi := { dst := some 41, op := Go.Op.move (Go.Operand.tmp 8), type := 3, pos := "plan.go:23", after := #[], guard := none }) (v := .int .i64 n) rfl (by kernel_rfl) (by kernel_rfl) (by kernel_rfl) (fun _ _ _ h => h) (Or.inl ⟨by rfl, fun wz hSw => ?_⟩) hHeld ?_
        · obtain ⟨r0, r1⟩ := hSw
          go_simp
        simp only [Act.put, List.setIfInBounds_toArray, List.set_cons_zero, List.set_cons_succ]
        refine wpAnyH_take (i := 3) (oi := { dst := some 42, op := Go.Op.indexAddr 25 (Go.Operand.tmp 40) (Go.Operand.tmp 41), type := 0, pos := "plan.go:23", after := #[{ on := 1, ground := Go.Ground.data }, { on := 2, ground := Go.Ground.data }], guard := none }) (v := .pointer (some ⟨ob, oo + n, none⟩)) rfl (by kernel_rfl) (by kernel_rfl) (by kernel_rfl) (fun _ _ _ h => h) (Or.inl ⟨by rfl, fun wz hSw => ?_⟩) hHeld ?_
        · obtain ⟨r0, r1⟩ := hSw
          go_simp
        simp only [Act.put, List.setIfInBounds_toArray, List.set_cons_zero, List.set_cons_succ]
        refine wpAnyH_take (i := 4) (oi := { dst := some 43, op := Go.Op.load 3 (Go.Operand.tmp 42), type := 3, pos := "plan.go:23", after := #[{ on := 3, ground := Go.Ground.data }], guard := none }) (v := .int .i64 x) rfl (by kernel_rfl) (by kernel_rfl) (by kernel_rfl) (fun _ _ _ h => h) (Or.inl ⟨by rfl, fun wz hSw => ?_⟩) hHeld ?_
        · obtain ⟨r0, r1⟩ := hSw
          go_simp
        simp only [Act.put, List.setIfInBounds_toArray, List.set_cons_zero, List.set_cons_succ]
        refine wpAnyH_take (i := 5) (oi := { dst := some 44, op := Go.Op.move (Go.Operand.tmp 5), type := 3, pos := "plan.go:23", after := #[], guard := none }) (v := .int .i64 (ps.length)) rfl (by kernel_rfl) (by kernel_rfl) (by kernel_rfl) (fun _ _ _ h => h) (Or.inl ⟨by rfl, fun wz hSw => ?_⟩) hHeld ?_
        · obtain ⟨r0, r1⟩ := hSw
          go_simp
        simp only [Act.put, List.setIfInBounds_toArray, List.set_cons_zero, List.set_cons_succ]
        refine wpAnyH_take (i := 6) (oi := { dst := some 45, op := Go.Op.binOp Go.BinOp.sub 3 (Go.Operand.tmp 44) (Go.Operand.const (Go.Value.int Go.IntKind.i64 1)) 3, type := 3, pos := "plan.go:23", after := #[{ on := 5, ground := Go.Ground.data }], guard := none }) (v := .int .i64 (ps.length - 1)) rfl (by kernel_rfl) (by kernel_rfl) (by kernel_rfl) (fun _ _ _ h => h) (Or.inl ⟨by rfl, fun wz hSw => ?_⟩) hHeld ?_
        · obtain ⟨r0, r1⟩ := hSw
          go_simp
        simp only [Act.put, List.setIfInBounds_toArray, List.set_cons_zero, List.set_cons_succ]
        refine wpAnyH_ready (rs := [7]) (by kernel_rfl) (by simp) ?_
        refine AllReadyH.cons (o := { dst := some 46, op := Go.Op.call { callee := Go.Callee.value (Go.Operand.func 42), args := #[Go.Operand.tmp 43, Go.Operand.const (Go.Value.int Go.IntKind.i64 0), Go.Operand.tmp 45], argTypes := #[3, 3, 3] }, type := 4, pos := "plan.go:23", after := #[{ on := 4, ground := Go.Ground.data }, { on := 6, ground := Go.Ground.data }], guard := none }) rfl (fun K hK => ?_) AllReadyH.nil
        rw [if_pos (by rfl)]
        go_simp
        go_at_call 42
        refine (hwi _).mono ?_
        rintro e w2 ⟨rfl, rfl⟩
        go_simp
        refine hK.out _ _ hHeld (fun hHeld2 => ?_)
        clear hK K
        refine wpAnyH_take (i := 8) (oi := { dst := some 47, op := Go.Op.unOp Go.UnOp.not 4 (Go.Operand.tmp 46), type := 4, pos := "plan.go:23", after := #[{ on := 7, ground := Go.Ground.data }], guard := none }) (v := .bool true) rfl (by kernel_rfl) (by kernel_rfl) (by kernel_rfl) (fun _ _ _ h => h) (Or.inl ⟨by rfl, fun wz hSw => ?_⟩) hHeld2 ?_
        · obtain ⟨r0, r1⟩ := hSw
          go_simp
        simp only [Act.put, List.setIfInBounds_toArray, List.set_cons_zero, List.set_cons_succ]
        refine wpAnyH_take (i := 9) (oi := { dst := some 48, op := Go.Op.move (Go.Operand.tmp 47), type := 4, pos := "plan.go:23", after := #[{ on := 8, ground := Go.Ground.data }, { on := 7, ground := Go.Ground.chain }], guard := none }) (v := .bool true) rfl (by kernel_rfl) (by kernel_rfl) (by kernel_rfl) (fun _ _ _ h => h) (Or.inl ⟨by rfl, fun wz hSw => ?_⟩) hHeld2 ?_
        · obtain ⟨r0, r1⟩ := hSw
          go_simp
        simp only [Act.put, List.setIfInBounds_toArray, List.set_cons_zero, List.set_cons_succ]
        refine wpAnyH_take (i := 10) (oi := { dst := some 49, op := Go.Op.fieldAddr 27 (Go.Operand.tmp 3) 0, type := 0, pos := "plan.go:23", after := #[{ on := 9, ground := Go.Ground.guard }], guard := some (9, false) }) (v := undef) rfl (by kernel_rfl) (by kernel_rfl) (by kernel_rfl) (fun _ _ _ h => h) (Or.inr ⟨by rfl, rfl⟩) hHeld2 ?_
        simp only [Act.put, List.setIfInBounds_toArray, List.set_cons_zero, List.set_cons_succ]
        refine wpAnyH_take (i := 11) (oi := { dst := some 50, op := Go.Op.load 25 (Go.Operand.tmp 49), type := 25, pos := "plan.go:23", after := #[{ on := 10, ground := Go.Ground.data }, { on := 9, ground := Go.Ground.guard }], guard := some (9, false) }) (v := undef) rfl (by kernel_rfl) (by kernel_rfl) (by kernel_rfl) (fun _ _ _ h => h) (Or.inr ⟨by rfl, rfl⟩) hHeld2 ?_
        simp only [Act.put, List.setIfInBounds_toArray, List.set_cons_zero, List.set_cons_succ]
        refine wpAnyH_take (i := 12) (oi := { dst := some 51, op := Go.Op.fieldAddr 27 (Go.Operand.tmp 3) 0, type := 0, pos := "plan.go:23", after := #[{ on := 9, ground := Go.Ground.guard }], guard := some (9, false) }) (v := undef) rfl (by kernel_rfl) (by kernel_rfl) (by kernel_rfl) (fun _ _ _ h => h) (Or.inr ⟨by rfl, rfl⟩) hHeld2 ?_
        simp only [Act.put, List.setIfInBounds_toArray, List.set_cons_zero, List.set_cons_succ]
        refine wpAnyH_take (i := 13) (oi := { dst := some 52, op := Go.Op.load 25 (Go.Operand.tmp 51), type := 25, pos := "plan.go:23", after := #[{ on := 12, ground := Go.Ground.data }, { on := 9, ground := Go.Ground.guard }], guard := some (9, false) }) (v := undef) rfl (by kernel_rfl) (by kernel_rfl) (by kernel_rfl) (fun _ _ _ h => h) (Or.inr ⟨by rfl, rfl⟩) hHeld2 ?_
        simp only [Act.put, List.setIfInBounds_toArray, List.set_cons_zero, List.set_cons_succ]
        refine wpAnyH_take (i := 14) (oi := { dst := some 53, op := Go.Op.move (Go.Operand.tmp 8), type := 3, pos := "plan.go:23", after := #[{ on := 9, ground := Go.Ground.guard }], guard := some (9, false) }) (v := undef) rfl (by kernel_rfl) (by kernel_rfl) (by kernel_rfl) (fun _ _ _ h => h) (Or.inr ⟨by rfl, rfl⟩) hHeld2 ?_
        simp only [Act.put, List.setIfInBounds_toArray, List.set_cons_zero, List.set_cons_succ]
        refine wpAnyH_take (i := 15) (oi := { dst := some 54, op := Go.Op.indexAddr 25 (Go.Operand.tmp 52) (Go.Operand.tmp 53), type := 0, pos := "plan.go:23", after := #[{ on := 13, ground := Go.Ground.data }, { on := 14, ground := Go.Ground.data }, { on := 9, ground := Go.Ground.guard }], guard := some (9, false) }) (v := undef) rfl (by kernel_rfl) (by kernel_rfl) (by kernel_rfl) (fun _ _ _ h => h) (Or.inr ⟨by rfl, rfl⟩) hHeld2 ?_
        simp only [Act.put, List.setIfInBounds_toArray, List.set_cons_zero, List.set_cons_succ]
        refine wpAnyH_take (i := 16) (oi := { dst := some 55, op := Go.Op.load 3 (Go.Operand.tmp 54), type := 3, pos := "plan.go:23", after := #[{ on := 15, ground := Go.Ground.data }, { on := 9, ground := Go.Ground.guard }], guard := some (9, false) }) (v := undef) rfl (by kernel_rfl) (by kernel_rfl) (by kernel_rfl) (fun _ _ _ h => h) (Or.inr ⟨by rfl, rfl⟩) hHeld2 ?_
        simp only [Act.put, List.setIfInBounds_toArray, List.set_cons_zero, List.set_cons_succ]
        refine wpAnyH_take (i := 17) (oi := { dst := some 56, op := Go.Op.call { callee := Go.Callee.value (Go.Operand.func 83), args := #[Go.Operand.tmp 50, Go.Operand.tmp 55], argTypes := #[25, 3] }, type := 3, pos := "plan.go:23", after := #[{ on := 11, ground := Go.Ground.data }, { on := 16, ground := Go.Ground.data }, { on := 9, ground := Go.Ground.chain }, { on := 9, ground := Go.Ground.guard }], guard := some (9, false) }) (v := undef) rfl (by kernel_rfl) (by kernel_rfl) (by kernel_rfl) (fun _ _ _ h => h) (Or.inr ⟨by rfl, rfl⟩) hHeld2 ?_
        simp only [Act.put, List.setIfInBounds_toArray, List.set_cons_zero, List.set_cons_succ]
        refine wpAnyH_take (i := 18) (oi := { dst := some 57, op := Go.Op.move (Go.Operand.tmp 8), type := 3, pos := "plan.go:23", after := #[{ on := 9, ground := Go.Ground.guard }], guard := some (9, false) }) (v := undef) rfl (by kernel_rfl) (by kernel_rfl) (by kernel_rfl) (fun _ _ _ h => h) (Or.inr ⟨by rfl, rfl⟩) hHeld2 ?_
        simp only [Act.put, List.setIfInBounds_toArray, List.set_cons_zero, List.set_cons_succ]
        refine wpAnyH_take (i := 19) (oi := { dst := some 58, op := Go.Op.binOp Go.BinOp.neq 3 (Go.Operand.tmp 56) (Go.Operand.tmp 57) 3, type := 4, pos := "plan.go:23", after := #[{ on := 17, ground := Go.Ground.data }, { on := 18, ground := Go.Ground.data }, { on := 9, ground := Go.Ground.guard }], guard := some (9, false) }) (v := undef) rfl (by kernel_rfl) (by kernel_rfl) (by kernel_rfl) (fun _ _ _ h => h) (Or.inr ⟨by rfl, rfl⟩) hHeld2 ?_
        simp only [Act.put, List.setIfInBounds_toArray, List.set_cons_zero, List.set_cons_succ]
        refine wpAnyH_take (i := 20) (oi := { dst := some 59, op := Go.Op.pick (Go.Operand.tmp 48) (Go.Operand.const (Go.Value.bool true)) (Go.Operand.tmp 58), type := 4, pos := "plan.go:23", after := #[{ on := 9, ground := Go.Ground.data }, { on := 19, ground := Go.Ground.data }], guard := none }) (v := .bool true) rfl (by kernel_rfl) (by kernel_rfl) (by kernel_rfl) (fun _ _ _ h => h) (Or.inl ⟨by rfl, fun wz hSw => ?_⟩) hHeld2 ?_
        · obtain ⟨r0, r1⟩ := hSw
          go_simp
        simp only [Act.put, List.setIfInBounds_toArray, List.set_cons_zero, List.set_cons_succ]
        refine wpAnyH_done (by kernel_rfl) ?_ _
        go_wp2
        go_ret
        exact ⟨by rw [HR.out, HF.out HX.out]; rfl, (below_step hb2 hbr).drew⟩
      obtain ⟨q, rfl⟩ := Int.eq_ofNat_of_zero_le hx.1
      have hql : q < ps.length := by omega
      have hqI : (q : Int) < (ps.length : Int) := by omega
      have hq0 : (0 : Int) ≤ (q : Int) := by omega
      have e1 : withinB (q : Int) 0 ((ps.length : Int) - 1) = true := by unfold withinB; rw [decide_eq_true hx.1, decide_eq_true hx.2]; rfl
      rw [e1] at hwi
      rw [decide_eq_true hx.1, decide_eq_true hx.2, Int.toNat_natCast] at HP1
      have hd := (Below.refl wr.heap.size wr).drew
      have hsq := hso q _ hd
      have hdr := (below_step hb2 hbr).drew
      have hbd := hbr.drew
      clear e1 hx
      generalize hst : stepAt os q = st at hsq HP1
      have hst' := stepAt_bd os q
      rw [hst] at hst'
      clear hst
      by_cases hsn : st = (n : Int)
      case neg =>
        have HX : Hid (refP (srcOf ps) ps.length os n = false) := by show _ = _; rw [HP1.out, decide_eq_false hsn]; rfl
        go_wp2
        go_region_held3 (fun w' => w'.cell? ⟨w.heap.size + 1, 0, none⟩ = some (.slice (some ⟨ob, oo, none⟩) os.length ocap) ∧ w'.cell? ⟨ob, oo + n, none⟩ = some (.int .i64 q))
          (exact ⟨h0, hox⟩)
          (first | (go_at_call 42; refine (hwi _).mono ?_; rintro e w3 ⟨rfl, rfl⟩) | (go_at_call 83; refine hsq.mono ?_; rintro e w3 ⟨rfl, rfl⟩))
        go_wp2
        go_ret
        exact ⟨by rw [HR.out, HF.out HX.out]; rfl, hdr⟩
      subst hsn
      have HX : Hid (refP (srcOf ps) ps.length os n = allTo (refS os n (srcOf ps q)) (srcOf ps q).length) := by show _ = _; rw [HP1.out, decide_eq_true rfl]; rfl
      obtain ⟨sb, so, ua, uc, rfl, hsb, qq, hUI⟩ := hS2.nth hql
      rw [HSR.out q hql] at qq hUI
      obtain ⟨hl2x, hinx⟩ := HS2.out q hql
      have HIN : Hid (_) := hinx
      generalize srcOf ps q = sr at qq hUI hl2x HIN HX
      clear HP1 hinx
      go_wp2
      go_region_held3 (fun w' => w'.cell? ⟨w.heap.size + 1, 0, none⟩ = some (.slice (some ⟨ob, oo, none⟩) os.length ocap) ∧ w'.cell? ⟨ob, oo + n, none⟩ = some (.int .i64 q))
        (exact ⟨h0, hox⟩)
        (first | (go_at_call 42; refine (hwi _).mono ?_; rintro e w3 ⟨rfl, rfl⟩) | (go_at_call 83; refine hsq.mono ?_; rintro e w3 ⟨rfl, rfl⟩))
      go_wp2
      go_loopw [9] (fun i wt => ∃ t : Nat, t ≤ sr.length ∧ i = .int .i64 t ∧ allTo (refS os n sr) t = true ∧ Below w2.heap.size w2 wt) (fun i _ => sr.length - (intOf i).toNat)
      case atStart => exact ⟨0, Nat.zero_le _, rfl, rfl, hbd⟩
      case round =>
        obtain ⟨t, ht, rfl, hallt, hbt⟩ := hrel
        clear h0 h1 hox hsq hwi hbd hdr hd hso hbr
        obtain ⟨_, h0, h1⟩ := hP2.below hbt
        obtain ⟨ob', oo', he, hox⟩ := (hO2.below (Nat.le_refl _) hbt).nth hlt
        injection he with he
        injection he with he1 he2
        subst he1 he2
        have q0 := (hbt.cell (p := ⟨sb, so + q, none⟩) hsb).trans qq
        rw [HXV.out] at hox
        by_cases htl : t < sr.length
        · obtain ⟨bu, ou, rfl, hcx⟩ := (hUI.below (Nat.le_refl _) hbt).nth htl
          have hr := HIN.out _ (getD_mem htl 0)
          have HA2 : Hid (refS os n sr t = true → allTo (refS os n sr) (t + 1) = true) := fun h => allTo_succ hallt h
          have HF2 : Hid (refS os n sr t = false → allTo (refS os n sr) sr.length = false) := fun h => allTo_not htl h
          have HP2 : Hid (refS os n sr t = (decide (0 ≤ stepAt os (sr.getD t 0)) && decide (stepAt os (sr.getD t 0) < (n : Int)))) := rfl
          generalize sr.getD t 0 = m at hcx hr HP2
          have htI : (t : Int) < (sr.length : Int) := by omega
          have ht0 : (0 : Int) ≤ (t : Int) := by omega
          have hsm := stepOf_any ocap ((hO2.below (Nat.le_refl _) hbt).below (Nat.le_refl _) (Below.refl wr.heap.size wr).drew) m
          have hstb := stepAt_bd os m
          generalize stepAt os m = s at hsm HP2 hstb
          have hbd := hbt.drew
          clear hallt
          by_cases hs : 0 ≤ s ∧ s < (n : Int)
          · obtain ⟨hs1, hs2⟩ := hs
            have hs1' : ¬ s < 0 := by omega
            have hs2' : ¬ (n : Int) ≤ s := by omega
            go_wp2
            go_region_held3 (fun w' => w'.cell? ⟨w.heap.size + 1, 0, none⟩ = some (.slice (some ⟨ob, oo, none⟩) os.length ocap) ∧ w'.cell? ⟨ob, oo + n, none⟩ = some (.int .i64 q) ∧ w'.cell? ⟨sb, so + q, none⟩ = some (.slice (some ⟨bu, ou, none⟩) sr.length uc) ∧ w'.cell? ⟨bu, ou + t, none⟩ = some (.int .i64 m))
              (exact ⟨h0, hox, q0, hcx⟩)
              ((go_at_call 83; refine hsm.mono ?_; rintro e w3 ⟨rfl, rfl⟩))
            go_wp2
            go_roundw
            case rel => exact ⟨t + 1, by omega, by go_num, HA2.out (by rw [HP2.out, decide_eq_true hs1, decide_eq_true hs2]; rfl), hbd⟩
            case measure => simp [intOf]; omega
          · have HX2 : Hid (refS os n sr t = false) := by
              show _ = _
              rw [HP2.out]
              by_cases h : 0 ≤ s
              · rw [decide_eq_true h, decide_eq_false (fun h' => hs ⟨h, h'⟩)]; rfl
              · rw [decide_eq_false h]; rfl
            have hbz := below_step hb2 hbd
            by_cases hs1 : s < 0
            · go_wp2
              go_region_held3 (fun w' => w'.cell? ⟨w.heap.size + 1, 0, none⟩ = some (.slice (some ⟨ob, oo, none⟩) os.length ocap) ∧ w'.cell? ⟨ob, oo + n, none⟩ = some (.int .i64 q) ∧ w'.cell? ⟨sb, so + q, none⟩ = some (.slice (some ⟨bu, ou, none⟩) sr.length uc) ∧ w'.cell? ⟨bu, ou + t, none⟩ = some (.int .i64 m))
                (exact ⟨h0, hox, q0, hcx⟩)
                ((go_at_call 83; refine hsm.mono ?_; rintro e w3 ⟨rfl, rfl⟩))
              go_wp2
              go_ret
              exact ⟨by rw [HR.out, HF.out (by rw [HX.out, HF2.out HX2.out])]; rfl, hbz⟩
            · have hs2 : (n : Int) ≤ s := by omega
              clear hs
              go_wp2
              go_region_held3 (fun w' => w'.cell? ⟨w.heap.size + 1, 0, none⟩ = some (.slice (some ⟨ob, oo, none⟩) os.length ocap) ∧ w'.cell? ⟨ob, oo + n, none⟩ = some (.int .i64 q) ∧ w'.cell? ⟨sb, so + q, none⟩ = some (.slice (some ⟨bu, ou, none⟩) sr.length uc) ∧ w'.cell? ⟨bu, ou + t, none⟩ = some (.int .i64 m))
                (exact ⟨h0, hox, q0, hcx⟩)
                ((go_at_call 83; refine hsm.mono ?_; rintro e w3 ⟨rfl, rfl⟩))
              go_wp2
              go_ret
              exact ⟨by rw [HR.out, HF.out (by rw [HX.out, HF2.out HX2.out])]; rfl, hbz⟩
        · have hte : t = sr.length := by omega
          subst hte
          go_wp2
          go_roundw
          case rel => exact ⟨n + 1, by omega, by go_num, HA.out (by rw [HX.out, hallt]), hbt⟩
          case measure => simp [intOf]; omega
    · have hne : n = os.length := by omega
      subst hne
      have HR2 : Hid (refB (gpOf ⟨W, H, S, O, ps⟩) os pl = allTo (refQ (keptG ps ps.length (shownP ⟨W, H, S, O, ps⟩) ps.length) os pl) ps.length) := by show _ = _; rw [HR.out, hall]; rfl
      have hK2 := hK.below hbr hK.lt hbr.size
      have hL3 := hL2.below (Nat.le_refl _) hbr
      have hO3 := hO2.below (Nat.le_refl _) hbr
      have hso := fun (p : Int) => stepOf_any ocap hO3 p
      have hb3 := below_step hb2 hbr
      generalize keptG ps ps.length (shownP ⟨W, H, S, O, ps⟩) ps.length = g at *
      clear hall HR HRP hS2 HSR HS2
      go_wp2
      go_loop [11] (fun i => ∃ k : Nat, k ≤ ps.length ∧ i = .int .i64 k ∧ allTo (refQ g os pl) k = true) (fun i => ps.length - (intOf i).toNat)
      case atStart => exact ⟨0, Nat.zero_le _, rfl, rfl⟩
      case round =>
        obtain ⟨k, hk, rfl, hall⟩ := hrel
        by_cases hlt : k < ps.length
        · obtain ⟨pb, po, rfl, hpx⟩ := hL3.nth hlt
          have hkx := hK2.cells k hlt
          have HA : Hid (refQ g os pl k = true → allTo (refQ g os pl) (k + 1) = true) := fun h => allTo_succ hall h
          have HF : Hid (refQ g os pl k = false → refB (gpOf ⟨W, H, S, O, ps⟩) os pl = false) := fun h => by rw [HR2.out]; exact allTo_not hlt h
          have HP : Hid (refQ g os pl k = !((g k && !decide (0 ≤ stepAt os k)) || (decide (0 ≤ stepAt os k) && !(decide (0 ≤ pl.getD k 0) && decide (pl.getD k 0 ≤ 4096))) || (!decide (0 ≤ stepAt os k) && !decide (pl.getD k 0 = -1)))) := rfl
          have hsk := hso k
          have hkI : (k : Int) < (ps.length : Int) := by omega
          have hk0 : (0 : Int) ≤ (k : Int) := by omega
          have hwi := fun wx => within_any (pl.getD k 0) 0 4096 wx
          unfold withinB at hwi
          generalize pl.getD k 0 = y at hpx HP hwi
          generalize g k = gk at hkx HP
          generalize stepAt os k = st at hsk HP
          generalize hwB : (decide (0 ≤ y) && decide (y ≤ 4096)) = wB at hwi HP
          clear hall hwB
          by_cases hst : 0 ≤ st
          · rw [decide_eq_true hst] at HP
            cases wB <;> cases gk
            all_goals
              go_wp2_with (first | (go_at_call 83; refine hsk.mono ?_; rintro e w3 ⟨rfl, rfl⟩) | (go_at_call 42; refine (hwi _).mono ?_; rintro e w3 ⟨rfl, rfl⟩))
              first
              | (go_round
                 case rel => exact ⟨k + 1, by omega, by go_num, HA.out (by rw [HP.out]; rfl)⟩
                 case measure => simp [intOf]; omega)
              | (go_ret
                 exact ⟨by rw [HF.out (by rw [HP.out]; rfl)]; rfl, hb3⟩)
          · rw [decide_eq_false hst] at HP
            by_cases hy : y = -1
            · subst hy
              cases gk
              all_goals
                go_wp2_with (first | (go_at_call 83; refine hsk.mono ?_; rintro e w3 ⟨rfl, rfl⟩) | (go_at_call 42; refine (hwi _).mono ?_; rintro e w3 ⟨rfl, rfl⟩))
                first
                | (go_round
                   case rel => exact ⟨k + 1, by omega, by go_num, HA.out (by rw [HP.out]; rfl)⟩
                   case measure => simp [intOf]; omega)
                | (go_ret
                   exact ⟨by rw [HF.out (by rw [HP.out]; rfl)]; rfl, hb3⟩)
            · have HY : Hid (refQ g os pl k = false) := by show _ = _; rw [HP.out, decide_eq_false hy]; simp
              cases gk
              all_goals
                go_wp2_with (first | (go_at_call 83; refine hsk.mono ?_; rintro e w3 ⟨rfl, rfl⟩) | (go_at_call 42; refine (hwi _).mono ?_; rintro e w3 ⟨rfl, rfl⟩))
                go_ret
                exact ⟨by rw [HF.out HY.out]; rfl, hb3⟩
        · have hke : k = ps.length := by omega
          have HK : Hid (refB (gpOf ⟨W, H, S, O, ps⟩) os pl = true) := by show _ = _; rw [HR2.out, ← hke]; exact hall
          clear hall HR2 hK2
          rw [hke] at *
          go_wp2
          go_ret
          exact ⟨by rw [HK.out]; rfl, hb3⟩
end Go.Proofs.YtihliofhhjjeaaaGreat
