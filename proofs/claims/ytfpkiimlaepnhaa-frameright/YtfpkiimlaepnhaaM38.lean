/- LawRight, Open, OpenL, OpenF: joined, in this order. -/
import Derived.Test.YtfpkiimlaepnhaaM36
import Derived.Test.YtfpkiimlaepnhaaM37
import Derived.Test.YtfpkiimlaepnhaaM01
import Derived.ProofKit
import Derived.OpenShut
import Derived.ShutString
import Derived.ChangeOld
import Derived.Below
import Derived.Lib.SmallJoins
import Derived.Test.YtfpkiimlaepnhaaM02
import Derived.Deep.Slices
import Derived.Test.YtfpkiimlaepnhaaM27
/-
  LAWRIGHT: the walk of FrameRight.
-/
namespace Go.Proofs.Ytfpkiimlaepnhaa
set_option maxRecDepth 100000
open Go.RowKit Im

theorem render_E (f : Fr) : (renderP f).E = frameE f := by
  unfold renderP
  by_cases hE : frameE f = 0
  · rw [if_pos hE, hE]
    obtain ⟨h1, h2, h3⟩ := frameE_zero hE
    refine (pics_right h1 h2 _ ?_).1
    have := (wrt_bd f.ps f.ps.length f.O).2
    have e : shownP f = wrt f.ps f.ps.length f.O := rfl
    omega
  · rw [if_neg hE]; rfl
theorem shown_lt {f : Fr} (hE : frameE f = 0) : ∃ N : Nat, shownP f = N ∧ N < f.ps.length := by
  obtain ⟨h1, h2, h3⟩ := frameE_zero hE
  obtain ⟨N, hN⟩ := Int.eq_ofNat_of_zero_le h3
  refine ⟨N, hN, ?_⟩
  have := (wrt_bd f.ps f.ps.length f.O).2
  have e : shownP f = wrt f.ps f.ps.length f.O := rfl
  omega
theorem render_right {f : Fr} (hE : frameE f = 0) {N : Nat} (hN : shownP f = N) (hl : N < f.ps.length) : RB (renderP f) ((szs f f.ps.length).getD N Sz.zero) := by
  obtain ⟨h1, h2, h3⟩ := frameE_zero hE
  unfold renderP
  rw [if_pos hE, hN, Int.toNat_natCast]
  exact pics_right h1 h2 N hl
theorem keepJ {wL w' : World} {ib zb zo : Nat} {x0 x1 x2 z0 z1 : Value} (hb : Below wL.heap.size wL w') (h1 : ib < wL.heap.size) (h2 : zb < wL.heap.size) (i0 : wL.cell? ⟨ib, 0, none⟩ = some x0) (i1 : wL.cell? ⟨ib, 1, none⟩ = some x1) (i2 : wL.cell? ⟨ib, 2, none⟩ = some x2) (d0 : wL.cell? ⟨zb, zo, none⟩ = some z0) (d1 : wL.cell? ⟨zb, zo + 1, none⟩ = some z1) :
    Below wL.heap.size wL w' ∧ w'.cell? ⟨ib, 0, none⟩ = some x0 ∧ w'.cell? ⟨ib, 1, none⟩ = some x1 ∧ w'.cell? ⟨ib, 2, none⟩ = some x2 ∧ w'.cell? ⟨zb, zo, none⟩ = some z0 ∧ w'.cell? ⟨zb, zo + 1, none⟩ = some z1 :=
  ⟨hb, (hb.cell (p := ⟨ib, 0, none⟩) h1).trans i0, (hb.cell (p := ⟨ib, 1, none⟩) h1).trans i1, (hb.cell (p := ⟨ib, 2, none⟩) h1).trans i2, (hb.cell (p := ⟨zb, zo, none⟩) h2).trans d0, (hb.cell (p := ⟨zb, zo + 1, none⟩) h2).trans d1⟩
set_option maxHeartbeats 4000000 in
theorem frameRight_any (W H S O : Int) (a : Option Addr) (len cap : Nat) (ps : List Ps) (w : World) (hp : Passes w a len ps) :
    Calls Try.prog 12 #[.agg #[.int .i64 W, .int .i64 H, .int .i64 S, .int .i64 O, .slice a len cap]] w fun e w' => e = .returned (.bool true) ∧ Below w.heap.size w w' := by
  obtain rfl := hp.leng
  have hb0 := below_box (Below.refl w.heap.size w) (.cells #[.int .i64 W, .int .i64 H, .int .i64 S, .int .i64 O, .slice a ps.length cap] 63)
  have hB := FBox.new w W H S O a ps.length cap
  have hre := fun wx hp => render_any W H S O a ps.length cap ps wx hp
  have hzs := fun wx hp => sizes_any W H S O a ps.length cap ps wx hp
  have hla := fun wx hp => last_any W H S O a ps.length cap ps wx hp
  have hp0 := hp.below hb0
  have HRE : Hid (_) := render_E ⟨W, H, S, O, ps⟩
  have HRR : Hid (_) := fun hE N hN hl => render_right (f := ⟨W, H, S, O, ps⟩) hE (N := N) hN hl
  clear hp
  generalize renderP ⟨W, H, S, O, ps⟩ = r at *
  go_enter Try.func12, Try.ntmps12
  go_wp2_with fail
  refine (hre _ hp0).mono ?_
  rintro e w1 ⟨ra, rc, rfl, hri, bel1⟩
  rw [HRE.out]
  have bA := (Below.refl w1.heap.size w1).alloc (Nat.le_refl _) (.cells #[.int .i64 r.W, .int .i64 r.H, .slice ra r.ps.length rc] 24)
  have hb1 := below_step (below_step hb0 bel1) bA
  have hp1 := (hp0.below bel1).below bA
  have hB1 := (hB.below bel1).below bA
  have hri1 : Ints 0 _ ra r.ps.length r.ps := (hri.below (Nat.le_refl _) bA).mono (Nat.zero_le _)
  have i0 : (w1.alloc (.cells #[.int .i64 r.W, .int .i64 r.H, .slice ra r.ps.length rc] 24)).cell? ⟨w1.heap.size, 0, none⟩ = some (.int .i64 r.W) := by simp [go_sem]
  have i1 : (w1.alloc (.cells #[.int .i64 r.W, .int .i64 r.H, .slice ra r.ps.length rc] 24)).cell? ⟨w1.heap.size, 1, none⟩ = some (.int .i64 r.H) := by simp [go_sem]
  have i2 : (w1.alloc (.cells #[.int .i64 r.W, .int .i64 r.H, .slice ra r.ps.length rc] 24)).cell? ⟨w1.heap.size, 2, none⟩ = some (.slice ra r.ps.length rc) := by simp [go_sem]
  have hl1 : w1.heap.size < (w1.alloc (.cells #[.int .i64 r.W, .int .i64 r.H, .slice ra r.ps.length rc] 24)).heap.size := by simp
  clear hp0 hB hb0 bel1 hre bA hri
  go_upto_region 2 with fail
  generalize w1.alloc (.cells #[.int .i64 r.W, .int .i64 r.H, .slice ra r.ps.length rc] 24) = w2 at *
  by_cases hE : frameE ⟨W, H, S, O, ps⟩ = 0
  · obtain ⟨N, hN, hNl⟩ := shown_lt hE
    dsimp only at hNl
    obtain ⟨_, hfi, hw, hh⟩ := HRR.out hE N hN hNl
    obtain ⟨hbnd, _, _⟩ := frameE_zero hE
    obtain ⟨_, _, _, _, hL⟩ := boundsE_zero hbnd
    dsimp only at hL
    have lz := szs_length ⟨W, H, S, O, ps⟩ ps.length
    have HW : Hid (_) := hw
    have HH : Hid (_) := hh
    have HLZ : Hid (_) := lz
    clear hw hh hbnd lz HRR HRE
    obtain ⟨_, g0, g1, g2, g3, g4⟩ := id hB1
    rw [hE]
    go_wp2_with fail
    refine (hzs _ hp1).mono ?_
    rintro e w3 ⟨⟨v3, rfl, hZ⟩, bel3⟩
    rw [if_pos hE] at hZ
    rw [hE]
    obtain ⟨za, zc, rfl, hZs⟩ := hZ.zs (by rw [HLZ.out]; exact hL.2)
    dsimp only at hZs ⊢
    rw [HLZ.out] at hZs ⊢
    clear g0 g1 g2 g3 g4 hZ
    obtain ⟨_, g0, g1, g2, g3, g4⟩ := hB1.below bel3
    go_wp2_with fail
    refine (hla _ (hp1.below bel3)).mono ?_
    rintro e w4 ⟨rfl, bel4⟩
    rw [hE, if_pos rfl, hN]
    have b4 := below_step bel3 bel4
    replace i0 := (b4.cell (p := ⟨w1.heap.size, 0, none⟩) hl1).trans i0
    replace i1 := (b4.cell (p := ⟨w1.heap.size, 1, none⟩) hl1).trans i1
    replace i2 := (b4.cell (p := ⟨w1.heap.size, 2, none⟩) hl1).trans i2
    have hl4 := Nat.lt_of_lt_of_le hl1 b4.size
    have hri4 := hri1.below (Nat.le_refl _) b4
    obtain ⟨zb, zo, rfl, hzb, s0, s1⟩ := (hZs.below bel4).nth hNl
    rw [← HW.out] at s0
    rw [← HH.out] at s1
    have hb4 := below_step hb1 b4
    have hNi : (N : Int) < (ps.length : Int) := by omega
    have hN0 : (0 : Int) ≤ (N : Int) := by omega
    clear g0 g1 g2 g3 g4 hZs hB1 hp1 hri1 hzs hla hE hN bel3 bel4 b4 hb1 HW HH
    have hfa := fun w' (hb : Below w4.heap.size w4 w') => isfine_any r.W r.H rc (hri4.below (Nat.le_refl _) hb)
    rw [hfi] at hfa
    have HFI : Hid (_) := hfi
    clear hfi hri4
    go_upto_region 8 with fail
    go_region_held3 (fun w' => Below w4.heap.size w4 w' ∧ w'.cell? ⟨w1.heap.size, 0, none⟩ = some (.int .i64 r.W) ∧ w'.cell? ⟨w1.heap.size, 1, none⟩ = some (.int .i64 r.H) ∧ w'.cell? ⟨w1.heap.size, 2, none⟩ = some (.slice ra r.ps.length rc) ∧ w'.cell? ⟨zb, zo + N * 2, none⟩ = some (.int .i64 r.W) ∧ w'.cell? ⟨zb, zo + N * 2 + 1, none⟩ = some (.int .i64 r.H))
      (first | exact keepJ (Below.refl _ _).drew hl4 hzb i0 i1 i2 s0 s1 | exact keepJ hb6 hl4 hzb i0 i1 i2 s0 s1 | exact keepJ hb5 hl4 hzb i0 i1 i2 s0 s1)
      (first
        | (go_at_call 43; refine (frameBegun_any _).mono ?_; rintro e w5 ⟨rfl, b5⟩; have hb5 := below_step (Below.refl w4.heap.size w4).drew b5)
        | (go_at_call 20; refine (hfa _ hb5).mono ?_; rintro e w6 ⟨rfl, b6⟩; have hb6 := below_step hb5 b6))
    all_goals go_wp2
    all_goals go_ret
    all_goals exact ⟨by simp, below_step hb4 hb6⟩
  · have hE' : (frameE ⟨W, H, S, O, ps⟩ == 0) = false := by simpa using hE
    clear hzs hla HRR HRE hri1 hp1 hB1
    generalize frameE ⟨W, H, S, O, ps⟩ = E at *
    go_wp2_with fail
    refine (frameBegun_any _).mono ?_
    rintro e w3 ⟨rfl, b3⟩
    go_wp2
    go_ret
    exact ⟨rfl, below_step hb1 b3⟩
end Go.Proofs.Ytfpkiimlaepnhaa
/-
  OPEN: how an image that comes in as an argument is read.
-/
namespace Go.Proofs.Ytfpkiimlaepnhaa
set_option maxRecDepth 100000
open Go.ChangeShapes Go.WideShapes Go.ChangeAt Go.RowKit Go.Joins

theorem own : ownKnob Try.prog.godebug = none := by kernel_rfl
theorem laidOut : laidOutB Try.prog = true := by kernel_rfl
theorem cellsImage : Try.prog.cellsOf 24 = 3 := by kernel_rfl
theorem cellsInt : Try.prog.cellsOf 3 = 1 := by kernel_rfl

theorem addr_add (b off j : Nat) : (⟨b, off, none⟩ : Addr).add j = ⟨b, off + j, none⟩ := by
  simp only [Addr.add]; split <;> simp_all
/-- A slice of numbers that came in. -/
theorem ints_in {H : Type} {enc : TypeId × Value → H} {W : World} {n : Nat} {v : Value} {y : DataW H × List MemPlace} (h : DataW.trod enc Try.prog W 0 (fun _ => true) true n 22 [v] = some y) :
    ∃ a len cap ps, v = .slice a len cap ∧ Ints 0 W a len ps := by
  rcases open_ints Try.underlying22 Try.underlying3 cellsInt h with ⟨hcs, _⟩ | ⟨x, l, c, zs, hcs, _, hl, hm, hz, _, hcell, _⟩
  · simp at hcs
    exact ⟨none, 0, 0, [], hcs, Ints.nil 0 W⟩
  · simp at hcs
    simp at hz
    unfold maxLen at hm
    refine ⟨some x, l, c, zs.take l, hcs, by simp; omega, by omega, ?_⟩
    by_cases h0 : l = 0
    · subst h0; exact .inl (by simp)
    · right
      obtain ⟨b, off, spot⟩ := x
      have hc := hcell 0 (by omega)
      have hspot : spot = none := by simpa [Addr.add] using World.cell?_spot hc
      subst hspot
      refine ⟨b, off, rfl, Nat.zero_le _, ?_, fun j hj => ?_⟩
      · have := World.block_lt_of_cell? W _ hc
        simpa [Addr.add] using this
      · have := hcell j (by omega)
        rw [List.getD_eq_getElem?_getD, List.getElem?_take_of_lt hj]
        rw [addr_add] at this
        simpa using this

/-- An image that came in. -/
theorem image_in {H : Type} {enc : TypeId × Value → H} {W : World} {b0 : Nat} {v : Value} {d : DataW H} {p : List MemPlace} (hv : Value.okWide Try.prog W .any b0 24 v) (h : DataW.Trod enc Try.prog W 0 (fun _ => true) true 24 v d p) :
    ∃ w h a len cap ps, v = .agg #[.int .i64 w, .int .i64 h, .slice a len cap] ∧ Ints 0 W a len ps := by
  obtain ⟨v0, v1, v2, y0, y1, y2, n, rfl, _, _, h0, h1, h2⟩ := open_agg3 Try.underlying24 (by kernel_rfl) cellsImage hv h
  obtain ⟨x, e0, _, _⟩ := DataW.trod_int Try.underlying3 h0
  obtain ⟨y, e1, _, _⟩ := DataW.trod_int Try.underlying3 h1
  obtain ⟨a, len, cap, ps, e2, hi⟩ := ints_in h2
  simp at e0 e1
  subst e0 e1 e2
  exact ⟨x, y, a, len, cap, ps, rfl, hi⟩
end Go.Proofs.Ytfpkiimlaepnhaa
/-
  OPENL: how a list of lights that comes in as an argument is read.
-/
namespace Go.Proofs.Ytfpkiimlaepnhaa
set_option maxRecDepth 100000
open Go.ChangeShapes Go.WideShapes Go.ChangeAt Go.RowKit Go.Joins Go.Deep

instance : Inhabited Lt := ⟨Lt.zero⟩
theorem cellsLight : Try.prog.cellsOf 59 = 4 := by kernel_rfl
theorem list4 {cs : List Value} (h : cs.length = 4) : ∃ c0 c1 c2 c3, cs = [c0, c1, c2, c3] := by
  match cs, h with
  | [c0, c1, c2, c3], _ => exact ⟨c0, c1, c2, c3, rfl⟩
/-- A light's four cells, read. -/
theorem light_cells {H : Type} {enc : TypeId × Value → H} {W : World} {n : Nat} {cs : List Value} {y : DataW H × List MemPlace} (h : DataW.trod enc Try.prog W 0 (fun _ => true) true n 59 cs = some y) :
    ∃ l : Lt, cs = [.int .i64 l.X, .int .i64 l.Y, .int .i64 l.R, .int .i64 l.P] := by
  obtain ⟨y0, y1, y2, y3, n, _, hl, h0, h1, h2, h3⟩ := trod_struct4 Try.underlying59 h
  rw [cellsLight] at hl
  obtain ⟨c0, c1, c2, c3, rfl⟩ := list4 hl
  simp only [cellsInt] at h0 h1 h2 h3
  obtain ⟨x0, e0, _, _⟩ := DataW.trod_int Try.underlying3 h0
  obtain ⟨x1, e1, _, _⟩ := DataW.trod_int Try.underlying3 h1
  obtain ⟨x2, e2, _, _⟩ := DataW.trod_int Try.underlying3 h2
  obtain ⟨x3, e3, _, _⟩ := DataW.trod_int Try.underlying3 h3
  simp at e0 e1 e2 e3
  subst e0 e1 e2 e3
  exact ⟨⟨x0, x1, x2, x3⟩, rfl⟩
/-- A list of lights that came in. -/
theorem lights_in {H : Type} {enc : TypeId × Value → H} {W : World} {b0 : Nat} {v : Value} {d : DataW H} {p : List MemPlace} (hv : Value.okWide Try.prog W .any b0 45 v) (h : DataW.Trod enc Try.prog W 0 (fun _ => true) true 45 v d p) :
    ∃ a len cap ls, v = .slice a len cap ∧ Lights W a len ls := by
  obtain ⟨a0, len, cap, rfl⟩ := okWide_slice Try.underlying45 hv
  obtain ⟨n, hn⟩ := h
  have hcs : (Value.slice a0 len cap).cells.toList = [.slice a0 len cap] := rfl
  rw [hcs] at hn
  rcases open_slice Try.underlying45 hn with ⟨e, _⟩ | ⟨x, l, c, m, n', D, Pl, e, _, hl, hm, hmm, _, hx⟩
  · simp at e
    obtain ⟨rfl, rfl, rfl⟩ := e
    exact ⟨none, 0, 0, [], rfl, rfl, by omega, .inl rfl⟩
  · simp at e
    obtain ⟨rfl, rfl, rfl⟩ := e
    simp at hmm
    subst hmm
    rw [cellsLight] at hx
    have each : ∀ i, i < m → ∃ lt : Lt, ∀ j, j < 4 → W.cell? (x.add (i * 4) |>.add j) = [Value.int .i64 lt.X, .int .i64 lt.Y, .int .i64 lt.R, .int .i64 lt.P][j]? := fun i hi => by
      obtain ⟨cs', h1, h2⟩ := hx i hi
      obtain ⟨lt, rfl⟩ := light_cells h2
      exact ⟨lt, (World.cells?_some h1).2.2⟩
    obtain ⟨L, hL⟩ := choose_lt each
    unfold maxLen at hm
    refine ⟨some x, len, m, (List.range len).map L, rfl, by simp, by omega, ?_⟩
    by_cases h0 : len = 0
    · subst h0; exact .inl rfl
    · right
      have h00 := hL 0 (by omega) 0 (by omega)
      obtain ⟨b, off, spot⟩ := x
      have hspot : spot = none := by simpa [Addr.add] using World.cell?_spot (h00.trans rfl)
      subst hspot
      refine ⟨b, off, rfl, ?_, fun j hj => ?_⟩
      · have := World.block_lt_of_cell? W _ (h00.trans rfl)
        simpa [Addr.add] using this
      · have g : ((List.range len).map L).getD j Lt.zero = L j := by simp [List.getD_eq_getElem?_getD, hj]
        rw [g]
        have q := hL j (by omega)
        simp only [addr_add] at q
        exact ⟨q 0 (by omega), q 1 (by omega), q 2 (by omega), q 3 (by omega)⟩
end Go.Proofs.Ytfpkiimlaepnhaa
/-
  OPENF: how a frame that comes in as an argument is read.
-/
namespace Go.Proofs.Ytfpkiimlaepnhaa
set_option maxRecDepth 100000
open Go.ChangeShapes Go.WideShapes Go.ChangeAt Go.RowKit Go.Joins Go.Deep

instance : Inhabited Ps := ⟨Ps.zero⟩
theorem cellsPass : Try.prog.cellsOf 88 = 6 := by kernel_rfl
theorem cellsFrame : Try.prog.cellsOf 63 = 5 := by kernel_rfl
theorem cellsLights : Try.prog.cellsOf 45 = 1 := by kernel_rfl
theorem cellsPasses : Try.prog.cellsOf 61 = 1 := by kernel_rfl
theorem list5 {α : Type} {cs : List α} (h : cs.length = 5) : ∃ c0 c1 c2 c3 c4, cs = [c0, c1, c2, c3, c4] := by
  match cs, h with
  | [c0, c1, c2, c3, c4], _ => exact ⟨c0, c1, c2, c3, c4, rfl⟩
theorem list6 {α : Type} {cs : List α} (h : cs.length = 6) : ∃ c0 c1 c2 c3 c4 c5, cs = [c0, c1, c2, c3, c4, c5] := by
  match cs, h with
  | [c0, c1, c2, c3, c4, c5], _ => exact ⟨c0, c1, c2, c3, c4, c5, rfl⟩
/-- A slice of lights, read. -/
theorem lights_of {H : Type} {enc : TypeId × Value → H} {W : World} {n : Nat} {v : Value} {y : DataW H × List MemPlace} (h : DataW.trod enc Try.prog W 0 (fun _ => true) true n 45 [v] = some y) :
    ∃ a len cap ls, v = .slice a len cap ∧ Lights W a len ls := by
  rcases open_slice Try.underlying45 h with ⟨e, _⟩ | ⟨x, l, c, m, n', D, Pl, e, _, hl, hm, hmm, _, hx⟩
  · simp at e
    subst e
    exact ⟨none, 0, 0, [], rfl, rfl, by omega, .inl rfl⟩
  · simp at e
    subst e
    simp at hmm
    subst hmm
    rw [cellsLight] at hx
    have each : ∀ i, i < m → ∃ lt : Lt, ∀ j, j < 4 → W.cell? (x.add (i * 4) |>.add j) = [Value.int .i64 lt.X, .int .i64 lt.Y, .int .i64 lt.R, .int .i64 lt.P][j]? := fun i hi => by
      obtain ⟨cs', h1, h2⟩ := hx i hi
      obtain ⟨lt, rfl⟩ := light_cells h2
      exact ⟨lt, (World.cells?_some h1).2.2⟩
    obtain ⟨L, hL⟩ := choose_lt each
    unfold maxLen at hm
    refine ⟨some x, l, m, (List.range l).map L, rfl, by simp, by omega, ?_⟩
    by_cases h0 : l = 0
    · subst h0; exact .inl rfl
    · right
      have h00 := hL 0 (by omega) 0 (by omega)
      obtain ⟨b, off, spot⟩ := x
      have hspot : spot = none := by simpa [Addr.add] using World.cell?_spot (h00.trans rfl)
      subst hspot
      refine ⟨b, off, rfl, ?_, fun j hj => ?_⟩
      · have := World.block_lt_of_cell? W _ (h00.trans rfl)
        simpa [Addr.add] using this
      · have g : ((List.range l).map L).getD j Lt.zero = L j := by simp [List.getD_eq_getElem?_getD, hj]
        rw [g]
        have q := hL j (by omega)
        simp only [addr_add] at q
        exact ⟨q 0 (by omega), q 1 (by omega), q 2 (by omega), q 3 (by omega)⟩
/-- A pass's six cells, read. -/
theorem pass_cells {H : Type} {enc : TypeId × Value → H} {W : World} {n : Nat} {cs : List Value} {y : DataW H × List MemPlace} (h : DataW.trod enc Try.prog W 0 (fun _ => true) true n 88 cs = some y) :
    ∃ p : Ps, ∃ la ll lc, cs = [.int .i64 p.Op, .int .i64 p.To, .int .i64 p.A, .int .i64 p.B, .int .i64 p.K, .slice la ll lc] ∧ Lights W la ll p.ls := by
  obtain ⟨xs, n, _, _, hl, hlen, hf⟩ := DataW.trod_struct Try.underlying88 h
  rw [cellsPass] at hl
  obtain ⟨c0, c1, c2, c3, c4, c5, rfl⟩ := list6 hl
  obtain ⟨y0, y1, y2, y3, y4, y5, rfl⟩ := list6 (by simpa using hlen)
  have h0 : DataW.trod enc Try.prog W 0 (fun _ => true) true n 3 [c0] = some y0 := by have := hf 0 _ rfl; simpa [cellsInt] using this
  have h1 : DataW.trod enc Try.prog W 0 (fun _ => true) true n 3 [c1] = some y1 := by have := hf 1 _ rfl; simpa [cellsInt] using this
  have h2 : DataW.trod enc Try.prog W 0 (fun _ => true) true n 3 [c2] = some y2 := by have := hf 2 _ rfl; simpa [cellsInt] using this
  have h3 : DataW.trod enc Try.prog W 0 (fun _ => true) true n 3 [c3] = some y3 := by have := hf 3 _ rfl; simpa [cellsInt] using this
  have h4 : DataW.trod enc Try.prog W 0 (fun _ => true) true n 3 [c4] = some y4 := by have := hf 4 _ rfl; simpa [cellsInt] using this
  have h5 : DataW.trod enc Try.prog W 0 (fun _ => true) true n 45 [c5] = some y5 := by have := hf 5 _ rfl; simpa [cellsLights] using this
  obtain ⟨x0, e0, _, _⟩ := DataW.trod_int Try.underlying3 h0
  obtain ⟨x1, e1, _, _⟩ := DataW.trod_int Try.underlying3 h1
  obtain ⟨x2, e2, _, _⟩ := DataW.trod_int Try.underlying3 h2
  obtain ⟨x3, e3, _, _⟩ := DataW.trod_int Try.underlying3 h3
  obtain ⟨x4, e4, _, _⟩ := DataW.trod_int Try.underlying3 h4
  obtain ⟨la, ll, lc, ls, e5, hL⟩ := lights_of h5
  simp at e0 e1 e2 e3 e4
  subst e0 e1 e2 e3 e4 e5
  exact ⟨⟨x0, x1, x2, x3, x4, ls⟩, la, ll, lc, rfl, hL⟩
/-- A slice of passes, read. -/
theorem passes_of {H : Type} {enc : TypeId × Value → H} {W : World} {n : Nat} {v : Value} {y : DataW H × List MemPlace} (h : DataW.trod enc Try.prog W 0 (fun _ => true) true n 61 [v] = some y) :
    ∃ a len cap ps, v = .slice a len cap ∧ Passes W a len ps := by
  rcases open_slice Try.underlying61 h with ⟨e, _⟩ | ⟨x, l, c, m, n', D, Pl, e, _, hl, hm, hmm, _, hx⟩
  · simp at e
    subst e
    exact ⟨none, 0, 0, [], rfl, rfl, by omega, .inl rfl⟩
  · simp at e
    subst e
    simp at hmm
    subst hmm
    rw [cellsPass] at hx
    have each : ∀ i, i < m → ∃ p : Ps, ∃ la ll lc, (∀ j, j < 6 → W.cell? (x.add (i * 6) |>.add j) = [Value.int .i64 p.Op, .int .i64 p.To, .int .i64 p.A, .int .i64 p.B, .int .i64 p.K, .slice la ll lc][j]?) ∧ Lights W la ll p.ls := fun i hi => by
      obtain ⟨cs', h1, h2⟩ := hx i hi
      obtain ⟨p, la, ll, lc, rfl, hL⟩ := pass_cells h2
      exact ⟨p, la, ll, lc, (World.cells?_some h1).2.2, hL⟩
    obtain ⟨L, hL⟩ := choose_lt each
    unfold maxLen at hm
    refine ⟨some x, l, m, (List.range l).map L, rfl, by simp, by omega, ?_⟩
    by_cases h0 : l = 0
    · subst h0; exact .inl rfl
    · right
      obtain ⟨la0, ll0, lc0, g0, _⟩ := hL 0 (by omega)
      have h00 := g0 0 (by omega)
      obtain ⟨b, off, spot⟩ := x
      have hspot : spot = none := by simpa [Addr.add] using World.cell?_spot (h00.trans rfl)
      subst hspot
      refine ⟨b, off, rfl, ?_, fun j hj => ?_⟩
      · have := World.block_lt_of_cell? W _ (h00.trans rfl)
        simpa [Addr.add] using this
      · have g : ((List.range l).map L).getD j Ps.zero = L j := by simp [List.getD_eq_getElem?_getD, hj]
        rw [g]
        obtain ⟨la, ll, lc, q, hLi⟩ := hL j (by omega)
        simp only [addr_add] at q
        exact ⟨la, ll, lc, q 0 (by omega), q 1 (by omega), q 2 (by omega), q 3 (by omega), q 4 (by omega), q 5 (by omega), hLi⟩
/-- A frame that came in. -/
theorem frame_in {H : Type} {enc : TypeId × Value → H} {W : World} {b0 : Nat} {v : Value} {d : DataW H} {p : List MemPlace} (hv : Value.okWide Try.prog W .any b0 63 v) (h : DataW.Trod enc Try.prog W 0 (fun _ => true) true 63 v d p) :
    ∃ w h s o a len cap ps, v = .agg #[.int .i64 w, .int .i64 h, .int .i64 s, .int .i64 o, .slice a len cap] ∧ Passes W a len ps := by
  obtain ⟨cs, rfl, hsz⟩ := okWide_struct Try.underlying63 hv
  obtain ⟨n, hn⟩ := h
  obtain ⟨xs, n, _, _, hl, hlen, hf⟩ := DataW.trod_struct Try.underlying63 hn
  rw [cellsFrame] at hsz
  obtain ⟨c0, c1, c2, c3, c4, hcs⟩ := list5 (cs := cs.toList) (by simpa using hsz)
  have hcs' : cs = #[c0, c1, c2, c3, c4] := by rw [← Array.toArray_toList (xs := cs), hcs]
  subst hcs'
  obtain ⟨y0, y1, y2, y3, y4, rfl⟩ := list5 (by simpa using hlen)
  have h0 : DataW.trod enc Try.prog W 0 (fun _ => true) true n 3 [c0] = some y0 := by have := hf 0 _ rfl; simpa [cellsInt, Value.cells] using this
  have h1 : DataW.trod enc Try.prog W 0 (fun _ => true) true n 3 [c1] = some y1 := by have := hf 1 _ rfl; simpa [cellsInt, Value.cells] using this
  have h2 : DataW.trod enc Try.prog W 0 (fun _ => true) true n 3 [c2] = some y2 := by have := hf 2 _ rfl; simpa [cellsInt, Value.cells] using this
  have h3 : DataW.trod enc Try.prog W 0 (fun _ => true) true n 3 [c3] = some y3 := by have := hf 3 _ rfl; simpa [cellsInt, Value.cells] using this
  have h4 : DataW.trod enc Try.prog W 0 (fun _ => true) true n 61 [c4] = some y4 := by have := hf 4 _ rfl; simpa [cellsPasses, Value.cells] using this
  obtain ⟨x0, e0, _, _⟩ := DataW.trod_int Try.underlying3 h0
  obtain ⟨x1, e1, _, _⟩ := DataW.trod_int Try.underlying3 h1
  obtain ⟨x2, e2, _, _⟩ := DataW.trod_int Try.underlying3 h2
  obtain ⟨x3, e3, _, _⟩ := DataW.trod_int Try.underlying3 h3
  obtain ⟨a, len, cap, ps, e4, hP⟩ := passes_of h4
  simp at e0 e1 e2 e3
  subst e0 e1 e2 e3 e4
  exact ⟨x0, x1, x2, x3, a, len, cap, ps, rfl, hP⟩
end Go.Proofs.Ytfpkiimlaepnhaa
