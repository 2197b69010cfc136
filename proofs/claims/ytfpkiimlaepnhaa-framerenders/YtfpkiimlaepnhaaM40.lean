/- RenderRef, LawRender, Open, OpenL: joined, in this order. -/
import Derived.Test.YtfpkiimlaepnhaaM39
import Derived.Test.YtfpkiimlaepnhaaM35
import Derived.Test.YtfpkiimlaepnhaaM36
import Derived.Test.YtfpkiimlaepnhaaM01
import Derived.ProofKit
import Derived.OpenShut
import Derived.ShutString
import Derived.ChangeOld
import Derived.Below
import Derived.Lib.SmallJoins
import Derived.Test.YtfpkiimlaepnhaaM02
import Derived.Deep.Slices
/-
  RENDERREF: the reference's RenderOf.
-/
namespace Go.Proofs.Ytfpkiimlaepnhaa
set_option maxRecDepth 100000
open Go.RowKit Im

theorem FBox.five {w : World} {b : Nat} {W H S O : Int} {a : Option Addr} {len cap : Nat} (h : FBox w b W H S O a len cap) : w.cell? ⟨b, 0, none⟩ = some (.int .i64 W) ∧ w.cell? ⟨b, 1, none⟩ = some (.int .i64 H) ∧ w.cell? ⟨b, 2, none⟩ = some (.int .i64 S) ∧ w.cell? ⟨b, 3, none⟩ = some (.int .i64 O) ∧ w.cell? ⟨b, 4, none⟩ = some (.slice a len cap) := ⟨h.c0, h.c1, h.c2, h.c3, h.c4⟩
set_option maxHeartbeats 4000000 in
theorem renderOf_any (W H S O : Int) (a : Option Addr) (len cap : Nat) (ps : List Ps) (w : World) (hp : Passes w a len ps) (hE : frameE ⟨W, H, S, O, ps⟩ = 0) :
    Calls Try.prog 46 #[.agg #[.int .i64 W, .int .i64 H, .int .i64 S, .int .i64 O, .slice a len cap]] w (ToldM w (renderP ⟨W, H, S, O, ps⟩)) := by
  obtain rfl := hp.leng
  obtain ⟨hbnd, hfirst, hsh⟩ := frameE_zero hE
  obtain ⟨_, _, _, _, hL⟩ := boundsE_zero hbnd
  dsimp only at hL
  have hr : renderP ⟨W, H, S, O, ps⟩ = (pics ⟨W, H, S, O, ps⟩ ps.length).getD (shownP ⟨W, H, S, O, ps⟩).toNat (noRes 0) := by unfold renderP; rw [if_pos hE]
  rw [hr]
  clear hr
  obtain ⟨N, hN⟩ := Int.eq_ofNat_of_zero_le hsh
  have hNl : N < ps.length := by have := (wrt_bd ps ps.length O).2; have e : shownP ⟨W, H, S, O, ps⟩ = wrt ps ps.length O := rfl; omega
  rw [hN, Int.toNat_natCast]
  have hb0 := below_box (below_box (Below.refl w.heap.size w) (.cells #[.int .i64 W, .int .i64 H, .int .i64 S, .int .i64 O, .slice a ps.length cap] 63)) (.cells #[.int .i64 0, .int .i64 0, .slice none 0 0] 24)
  have hbox := IBox.new (w.alloc (.cells #[.int .i64 W, .int .i64 H, .int .i64 S, .int .i64 O, .slice a ps.length cap] 63))
  have hB := (FBox.new w W H S O a ps.length cap).alloc (.cells #[.int .i64 0, .int .i64 0, .slice none 0 0] 24)
  rw [World.size_alloc] at hbox
  have him := fun wx hp => images_any W H S O a ps.length cap ps wx hp hE
  have hla := fun wx hp => lastOf_any W H S O a ps.length cap ps wx hp
  have hp2 := hp.below hb0
  have hsz2 : w.heap.size + 2 ≤ ((w.alloc (.cells #[.int .i64 W, .int .i64 H, .int .i64 S, .int .i64 O, .slice a ps.length cap] 63)).alloc (.cells #[.int .i64 0, .int .i64 0, .slice none 0 0] 24)).heap.size := by simp
  generalize hpp : pics ⟨W, H, S, O, ps⟩ ps.length = rs at *
  have hrl : rs.length = ps.length := by rw [← hpp]; exact pics_length _ _
  rw [hN] at hla
  clear hpp hp hbnd hfirst hsh hN hE
  go_enter Try.func46, Try.ntmps46
  go_wp2_with fail
  generalize (w.alloc (.cells #[.int .i64 W, .int .i64 H, .int .i64 S, .int .i64 O, .slice a ps.length cap] 63)).alloc (.cells #[.int .i64 0, .int .i64 0, .slice none 0 0] 24) = w2 at *
  obtain ⟨r, hr⟩ : ∃ r, rs.getD N (noRes 0) = r := ⟨_, rfl⟩
  have HR : Hid (rs.getD N (noRes 0) = r) := hr
  clear hr
  obtain ⟨_, g0, g1, g2, g3, g4⟩ := id hB
  go_region_law (first
    | (go_simp; go_at_call 91; refine (him _ (hp2.below (Below.refl _ _).drew)).mono ?_; rintro e w3 ⟨⟨v, L, rfl, hrow, hmap⟩, b3⟩; obtain ⟨va, vc, rfl, hImg⟩ := row_imgs hrow hmap (by have h1 := congrArg List.length hmap; simp at h1; omega); have b3' := below_step (Below.refl w2.heap.size w2).drew b3; have hB3 := hB.below b3'; have hp3 := hp2.below b3'; obtain ⟨_, j0, j1, j2, j3, j4⟩ := id hB3; clear hrow hmap b3; go_wp2_with fail)
    | (go_simp; go_at_call 50; refine (hla _ hp3).mono ?_; rintro e w4 ⟨rfl, b4⟩; have b4' := below_step b3' b4; obtain ⟨ib, io, pa, pc, rfl, hib, d0, d1, d2, hxi⟩ := (hImg.below b4).nth (k := N) (by omega); rw [HR.out] at d0 d1 d2 hxi; obtain ⟨_, c0, c1, c2, f0, f1, f2⟩ := hbox.below b4' hbox.lt b4'.size; have hNr : (N : Int) < (rs.length : Int) := (by omega); go_wp2_with fail))
  all_goals
    have hxw : Ints (w.heap.size + 2) w4 pa r.ps.length r.ps := hxi.mono hsz2
    clear hImg hxi
    go_wp2
    refine bodyPost_ret (v := .agg #[.int .i64 r.W, .int .i64 r.H, .slice pa r.ps.length pc]) (by simp [results, Try.results46, go_sem, c0, c1, c2]) rfl ?_
    rw [HR.out]
    exact ⟨pa, pc, rfl, (((hxw.setCell (p := ⟨w.heap.size + 1, 0, none⟩) (by simp) _).setCell (p := ⟨w.heap.size + 1, 1, none⟩) (by simp) _).setCell (p := ⟨w.heap.size + 1, 2, none⟩) (by simp) _).mono (by omega), (((below_step hb0 b4').setCell (p := ⟨w.heap.size + 1, 0, none⟩) (by simp) _).setCell (p := ⟨w.heap.size + 1, 1, none⟩) (by simp) _).setCell (p := ⟨w.heap.size + 1, 2, none⟩) (by simp) _⟩
end Go.Proofs.Ytfpkiimlaepnhaa
/-
  LAWRENDER: the walk of FrameRenders.
-/
namespace Go.Proofs.Ytfpkiimlaepnhaa
set_option maxRecDepth 100000
open Go.RowKit Im

set_option maxHeartbeats 4000000 in
theorem frameRenders_any (W H S O : Int) (a : Option Addr) (len cap : Nat) (ps : List Ps) (w : World) (hp : Passes w a len ps) :
    Calls Try.prog 11 #[.agg #[.int .i64 W, .int .i64 H, .int .i64 S, .int .i64 O, .slice a len cap]] w fun e w' => e = .returned (.bool true) ∧ Below w.heap.size w w' := by
  have hb0 := below_box (Below.refl w.heap.size w) (.cells #[.int .i64 W, .int .i64 H, .int .i64 S, .int .i64 O, .slice a len cap] 63)
  have hB := FBox.new w W H S O a len cap
  have hre := fun wx hp => render_any W H S O a len cap ps wx hp
  have hcf := fun wx hp => checkFrame_any W H S O a len cap ps wx hp
  have hro := fun wx hp => renderOf_any W H S O a len cap ps wx hp
  have hp0 := hp.below hb0
  have hrE : (renderP ⟨W, H, S, O, ps⟩).E = frameE ⟨W, H, S, O, ps⟩ := by
    unfold renderP
    by_cases hE : frameE ⟨W, H, S, O, ps⟩ = 0
    · rw [if_pos hE, hE]
      obtain ⟨h1, h2, h3⟩ := frameE_zero hE
      refine (pics_right h1 h2 _ ?_).1
      have := (wrt_bd ps ps.length O).2
      have e : shownP ⟨W, H, S, O, ps⟩ = wrt ps ps.length O := rfl
      dsimp only
      omega
    · rw [if_neg hE]; rfl
  have hno : frameE ⟨W, H, S, O, ps⟩ ≠ 0 → renderP ⟨W, H, S, O, ps⟩ = noRes (frameE ⟨W, H, S, O, ps⟩) := fun hE => by unfold renderP; rw [if_neg hE]
  have HNO : Hid (_) := hno
  have HRE : Hid (_) := hrE
  clear hno hrE hp
  generalize renderP ⟨W, H, S, O, ps⟩ = r at *
  go_enter Try.func11, Try.ntmps11
  go_wp2_with fail
  refine (hre _ hp0).mono ?_
  rintro e w1 ⟨ra, rc, rfl, hri, bel1⟩
  rw [HRE.out]
  have bA := (Below.refl w1.heap.size w1).alloc (Nat.le_refl _) (.cells #[.int .i64 r.W, .int .i64 r.H, .slice ra r.ps.length rc] 24)
  have hb1 := below_step (below_step hb0 bel1) bA
  have hp1 := (hp0.below bel1).below bA
  have hB1 := (hB.below bel1).below bA
  have hri1 : Ints 0 _ ra r.ps.length r.ps := (hri.below (Nat.le_refl _) bA).mono (Nat.zero_le _)
  have i0 : (w1.alloc (.cells #[.int .i64 r.W, .int .i64 r.H, .slice ra r.ps.length rc] 24)).cell? ⟨w1.heap.size, 0, none⟩ = some (.int .i64 r.W) := by simp [go_sem]
  have i1 : (w1.alloc (.cells #[.int .i64 r.W, .int .i64 r.H, .slice ra r.ps.length rc] 24)).cell? ⟨w1.heap.size, 1, none⟩ = some (.int .i64 r.H) := by simp [go_sem]
  have i2 : (w1.alloc (.cells #[.int .i64 r.W, .int .i64 r.H, .slice ra r.ps.length rc] 24)).cell? ⟨w1.heap.size, 2, none⟩ = some (.slice ra r.ps.length rc) := by simp [go_sem]
  have hl1 : w1.heap.size < (w1.alloc (.cells #[.int .i64 r.W, .int .i64 r.H, .slice ra r.ps.length rc] 24)).heap.size := by simp
  clear hp0 hB hb0 bel1 hre bA hri
  go_upto_region 2 with fail
  generalize w1.alloc (.cells #[.int .i64 r.W, .int .i64 r.H, .slice ra r.ps.length rc] 24) = w2 at *
  obtain ⟨_, g0, g1, g2, g3, g4⟩ := id hB1
  go_wp2_with fail
  refine (hcf _ hp1).mono ?_
  rintro e w3 ⟨⟨v3, rfl, hY⟩, bel3⟩
  obtain ⟨a3, c3, rfl⟩ := owns_slice hY
  have bA := (Below.refl w3.heap.size w3).alloc (Nat.le_refl _) (.cells #[.int .i64 0, .int .i64 0, .slice none 0 0] 24)
  have bB := below_step bel3 bA
  have hbox := IBox.new w3
  have h23 := bel3.size
  clear hY bel3 hcf g0 g1 g2 g3 g4 bA
  by_cases hE : frameE ⟨W, H, S, O, ps⟩ = 0
  · rw [hE]
    obtain ⟨_, g0, g1, g2, g3, g4⟩ := hB1.below bB
    go_wp2_with fail
    refine (hro _ (hp1.below bB) hE).mono ?_
    rintro e w4 ⟨qa, qc, rfl, hqi, bel4⟩
    obtain ⟨_, c0, c1, c2, f0, f1, f2⟩ := hbox.below bel4 hbox.lt bel4.size
    have b4 := below_step bB bel4
    have b5 := ((b4.setCell (p := ⟨w3.heap.size, 0, none⟩) h23 (.int .i64 r.W)).setCell (p := ⟨w3.heap.size, 1, none⟩) h23 (.int .i64 r.H)).setCell (p := ⟨w3.heap.size, 2, none⟩) h23 (.slice qa r.ps.length qc)
    have hq5 : Ints 0 _ qa r.ps.length r.ps := (((hqi.setCell (p := ⟨w3.heap.size, 0, none⟩) hbox.lt (.int .i64 r.W)).setCell (p := ⟨w3.heap.size, 1, none⟩) hbox.lt (.int .i64 r.H)).setCell (p := ⟨w3.heap.size, 2, none⟩) hbox.lt (.slice qa r.ps.length qc)).mono (Nat.zero_le _)
    have q0 : (((w4.setCell ⟨w3.heap.size, 0, none⟩ (.int .i64 r.W)).setCell ⟨w3.heap.size, 1, none⟩ (.int .i64 r.H)).setCell ⟨w3.heap.size, 2, none⟩ (.slice qa r.ps.length qc)).cell? ⟨w3.heap.size, 0, none⟩ = some (.int .i64 r.W) := (set_other _ (by simp)).trans ((set_other _ (by simp)).trans (set_same c0))
    have q1 : (((w4.setCell ⟨w3.heap.size, 0, none⟩ (.int .i64 r.W)).setCell ⟨w3.heap.size, 1, none⟩ (.int .i64 r.H)).setCell ⟨w3.heap.size, 2, none⟩ (.slice qa r.ps.length qc)).cell? ⟨w3.heap.size, 1, none⟩ = some (.int .i64 r.H) := (set_other _ (by simp)).trans (set_same ((set_other _ (by simp)).trans c1))
    have q2 : (((w4.setCell ⟨w3.heap.size, 0, none⟩ (.int .i64 r.W)).setCell ⟨w3.heap.size, 1, none⟩ (.int .i64 r.H)).setCell ⟨w3.heap.size, 2, none⟩ (.slice qa r.ps.length qc)).cell? ⟨w3.heap.size, 2, none⟩ = some (.slice qa r.ps.length qc) := set_same ((set_other _ (by simp)).trans ((set_other _ (by simp)).trans c2))
    have hl5 : w3.heap.size < (((w4.setCell ⟨w3.heap.size, 0, none⟩ (.int .i64 r.W)).setCell ⟨w3.heap.size, 1, none⟩ (.int .i64 r.H)).setCell ⟨w3.heap.size, 2, none⟩ (.slice qa r.ps.length qc)).heap.size := by
      have := Nat.lt_of_lt_of_le hbox.lt bel4.size
      simpa [World.setCell] using this
    clear g0 g1 g2 g3 g4 hqi bel4 b4 bB hro
    go_upto_region 6 with fail
    generalize ((w4.setCell ⟨w3.heap.size, 0, none⟩ (.int .i64 r.W)).setCell ⟨w3.heap.size, 1, none⟩ (.int .i64 r.H)).setCell ⟨w3.heap.size, 2, none⟩ (.slice qa r.ps.length qc) = w5 at *
    clear c0 c1 c2 f0 f1 f2 hbox
    go_wp2_with fail
    refine (frameBegun_any _).mono ?_
    rintro e w6 ⟨rfl, bel6⟩
    have b6 := below_step b5 bel6
    replace i0 := (b6.cell (p := ⟨w1.heap.size, 0, none⟩) hl1).trans i0
    replace i1 := (b6.cell (p := ⟨w1.heap.size, 1, none⟩) hl1).trans i1
    replace i2 := (b6.cell (p := ⟨w1.heap.size, 2, none⟩) hl1).trans i2
    replace q0 := (bel6.cell (p := ⟨w3.heap.size, 0, none⟩) hl5).trans q0
    replace q1 := (bel6.cell (p := ⟨w3.heap.size, 1, none⟩) hl5).trans q1
    replace q2 := (bel6.cell (p := ⟨w3.heap.size, 2, none⟩) hl5).trans q2
    have hs := sameImages_any r.W r.H r.W r.H rc qc (hri1.below (Nat.le_refl _) b6) (hq5.below (Nat.le_refl _) bel6)
    simp only [and_self, decide_true] at hs
    clear b5 bel6 hq5 hri1
    go_wp2_with fail
    refine hs.mono ?_
    rintro e w7 ⟨rfl, bel7⟩
    go_wp2
    go_ret
    exact ⟨rfl, below_step (below_step hb1 b6) bel7⟩
  · have hr := HNO.out hE
    subst hr
    generalize frameE ⟨W, H, S, O, ps⟩ = E at *
    obtain ⟨_, c0, c1, c2, _⟩ := id hbox
    clear hro HNO HRE
    dsimp only [noRes] at *
    go_wp2_with fail
    refine (frameBegun_any _).mono ?_
    rintro e w6 ⟨rfl, bel6⟩
    have b6 := below_step bB bel6
    replace i0 := (b6.cell (p := ⟨w1.heap.size, 0, none⟩) hl1).trans i0
    replace i1 := (b6.cell (p := ⟨w1.heap.size, 1, none⟩) hl1).trans i1
    replace i2 := (b6.cell (p := ⟨w1.heap.size, 2, none⟩) hl1).trans i2
    replace c0 := (bel6.cell (p := ⟨w3.heap.size, 0, none⟩) hbox.lt).trans c0
    replace c1 := (bel6.cell (p := ⟨w3.heap.size, 1, none⟩) hbox.lt).trans c1
    replace c2 := (bel6.cell (p := ⟨w3.heap.size, 2, none⟩) hbox.lt).trans c2
    have hs := sameImages_any 0 0 0 0 rc 0 (hri1.below (Nat.le_refl _) b6) (Ints.nil 0 w6)
    simp only [and_self, decide_true] at hs
    clear bel6 hri1
    go_wp2_with fail
    refine hs.mono ?_
    rintro e w7 ⟨rfl, bel7⟩
    go_wp2
    go_ret
    exact ⟨by simp, below_step (below_step hb1 b6) bel7⟩
end Go.Proofs.Ytfpkiimlaepnhaa
/-
  OPEN: how an image that comes in as an argument is read.
-/
namespace Go.Proofs.Ytfpkiimlaepnhaa
set_option maxRecDepth 100000
open Go.ChangeShapes Go.WideShapes Go.ChangeAt Go.RowKit Go.Joins

theorem own : ownKnob Try.prog.godebug = none := by kernel_rfl
theorem laidOut : laidOutB Try.prog = true := by kernel_rfl
theorem cellsImage : Try.prog.cellsOf 24 = 3 := by kernel_rfl
theorem cellsInt : Try.prog.cellsOf 3 = 1 := by kernel_rfl

theorem addr_add (b off j : Nat) : (⟨b, off, none⟩ : Addr).add j = ⟨b, off + j, none⟩ := by
  simp only [Addr.add]; split <;> simp_all
/-- A slice of numbers that came in. -/
theorem ints_in {H : Type} {enc : TypeId × Value → H} {W : World} {n : Nat} {v : Value} {y : DataW H × List MemPlace} (h : DataW.trod enc Try.prog W 0 (fun _ => true) true n 22 [v] = some y) :
    ∃ a len cap ps, v = .slice a len cap ∧ Ints 0 W a len ps := by
  rcases open_ints Try.underlying22 Try.underlying3 cellsInt h with ⟨hcs, _⟩ | ⟨x, l, c, zs, hcs, _, hl, hm, hz, _, hcell, _⟩
  · simp at hcs
    exact ⟨none, 0, 0, [], hcs, Ints.nil 0 W⟩
  · simp at hcs
    simp at hz
    unfold maxLen at hm
    refine ⟨some x, l, c, zs.take l, hcs, by simp; omega, by omega, ?_⟩
    by_cases h0 : l = 0
    · subst h0; exact .inl (by simp)
    · right
      obtain ⟨b, off, spot⟩ := x
      have hc := hcell 0 (by omega)
      have hspot : spot = none := by simpa [Addr.add] using World.cell?_spot hc
      subst hspot
      refine ⟨b, off, rfl, Nat.zero_le _, ?_, fun j hj => ?_⟩
      · have := World.block_lt_of_cell? W _ hc
        simpa [Addr.add] using this
      · have := hcell j (by omega)
        rw [List.getD_eq_getElem?_getD, List.getElem?_take_of_lt hj]
        rw [addr_add] at this
        simpa using this

/-- An image that came in. -/
theorem image_in {H : Type} {enc : TypeId × Value → H} {W : World} {b0 : Nat} {v : Value} {d : DataW H} {p : List MemPlace} (hv : Value.okWide Try.prog W .any b0 24 v) (h : DataW.Trod enc Try.prog W 0 (fun _ => true) true 24 v d p) :
    ∃ w h a len cap ps, v = .agg #[.int .i64 w, .int .i64 h, .slice a len cap] ∧ Ints 0 W a len ps := by
  obtain ⟨v0, v1, v2, y0, y1, y2, n, rfl, _, _, h0, h1, h2⟩ := open_agg3 Try.underlying24 (by kernel_rfl) cellsImage hv h
  obtain ⟨x, e0, _, _⟩ := DataW.trod_int Try.underlying3 h0
  obtain ⟨y, e1, _, _⟩ := DataW.trod_int Try.underlying3 h1
  obtain ⟨a, len, cap, ps, e2, hi⟩ := ints_in h2
  simp at e0 e1
  subst e0 e1 e2
  exact ⟨x, y, a, len, cap, ps, rfl, hi⟩
end Go.Proofs.Ytfpkiimlaepnhaa
/-
  OPENL: how a list of lights that comes in as an argument is read.
-/
namespace Go.Proofs.Ytfpkiimlaepnhaa
set_option maxRecDepth 100000
open Go.ChangeShapes Go.WideShapes Go.ChangeAt Go.RowKit Go.Joins Go.Deep

instance : Inhabited Lt := ⟨Lt.zero⟩
theorem cellsLight : Try.prog.cellsOf 59 = 4 := by kernel_rfl
theorem list4 {cs : List Value} (h : cs.length = 4) : ∃ c0 c1 c2 c3, cs = [c0, c1, c2, c3] := by
  match cs, h with
  | [c0, c1, c2, c3], _ => exact ⟨c0, c1, c2, c3, rfl⟩
/-- A light's four cells, read. -/
theorem light_cells {H : Type} {enc : TypeId × Value → H} {W : World} {n : Nat} {cs : List Value} {y : DataW H × List MemPlace} (h : DataW.trod enc Try.prog W 0 (fun _ => true) true n 59 cs = some y) :
    ∃ l : Lt, cs = [.int .i64 l.X, .int .i64 l.Y, .int .i64 l.R, .int .i64 l.P] := by
  obtain ⟨y0, y1, y2, y3, n, _, hl, h0, h1, h2, h3⟩ := trod_struct4 Try.underlying59 h
  rw [cellsLight] at hl
  obtain ⟨c0, c1, c2, c3, rfl⟩ := list4 hl
  simp only [cellsInt] at h0 h1 h2 h3
  obtain ⟨x0, e0, _, _⟩ := DataW.trod_int Try.underlying3 h0
  obtain ⟨x1, e1, _, _⟩ := DataW.trod_int Try.underlying3 h1
  obtain ⟨x2, e2, _, _⟩ := DataW.trod_int Try.underlying3 h2
  obtain ⟨x3, e3, _, _⟩ := DataW.trod_int Try.underlying3 h3
  simp at e0 e1 e2 e3
  subst e0 e1 e2 e3
  exact ⟨⟨x0, x1, x2, x3⟩, rfl⟩
/-- A list of lights that came in. -/
theorem lights_in {H : Type} {enc : TypeId × Value → H} {W : World} {b0 : Nat} {v : Value} {d : DataW H} {p : List MemPlace} (hv : Value.okWide Try.prog W .any b0 45 v) (h : DataW.Trod enc Try.prog W 0 (fun _ => true) true 45 v d p) :
    ∃ a len cap ls, v = .slice a len cap ∧ Lights W a len ls := by
  obtain ⟨a0, len, cap, rfl⟩ := okWide_slice Try.underlying45 hv
  obtain ⟨n, hn⟩ := h
  have hcs : (Value.slice a0 len cap).cells.toList = [.slice a0 len cap] := rfl
  rw [hcs] at hn
  rcases open_slice Try.underlying45 hn with ⟨e, _⟩ | ⟨x, l, c, m, n', D, Pl, e, _, hl, hm, hmm, _, hx⟩
  · simp at e
    obtain ⟨rfl, rfl, rfl⟩ := e
    exact ⟨none, 0, 0, [], rfl, rfl, by omega, .inl rfl⟩
  · simp at e
    obtain ⟨rfl, rfl, rfl⟩ := e
    simp at hmm
    subst hmm
    rw [cellsLight] at hx
    have each : ∀ i, i < m → ∃ lt : Lt, ∀ j, j < 4 → W.cell? (x.add (i * 4) |>.add j) = [Value.int .i64 lt.X, .int .i64 lt.Y, .int .i64 lt.R, .int .i64 lt.P][j]? := fun i hi => by
      obtain ⟨cs', h1, h2⟩ := hx i hi
      obtain ⟨lt, rfl⟩ := light_cells h2
      exact ⟨lt, (World.cells?_some h1).2.2⟩
    obtain ⟨L, hL⟩ := choose_lt each
    unfold maxLen at hm
    refine ⟨some x, len, m, (List.range len).map L, rfl, by simp, by omega, ?_⟩
    by_cases h0 : len = 0
    · subst h0; exact .inl rfl
    · right
      have h00 := hL 0 (by omega) 0 (by omega)
      obtain ⟨b, off, spot⟩ := x
      have hspot : spot = none := by simpa [Addr.add] using World.cell?_spot (h00.trans rfl)
      subst hspot
      refine ⟨b, off, rfl, ?_, fun j hj => ?_⟩
      · have := World.block_lt_of_cell? W _ (h00.trans rfl)
        simpa [Addr.add] using this
      · have g : ((List.range len).map L).getD j Lt.zero = L j := by simp [List.getD_eq_getElem?_getD, hj]
        rw [g]
        have q := hL j (by omega)
        simp only [addr_add] at q
        exact ⟨q 0 (by omega), q 1 (by omega), q 2 (by omega), q 3 (by omega)⟩
end Go.Proofs.Ytfpkiimlaepnhaa
