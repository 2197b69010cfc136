/- SourcesRef, Render, KeptRef, Steps2, Spans, Lies: joined, in this order. -/
import Derived.Test.YtfpkiimlaepnhabM06
import Derived.Deep.CutRange
import Derived.Test.YtfpkiimlaepnhabM03
import Derived.Deep.RegionHeld3
/-
  SOURCESREF: the reference's SourcesOf: of each pass, which passes made what it takes.
-/
namespace Go.Proofs.Ytfpkiimlaepnhab
set_option maxRecDepth 100000
open Go.RowKit Im

theorem ll_push {base : Nat} {wr w3 : World} {v2 v' u : Value} {ss : List (List Int)} {is : List Int} {us : List Value} (hu : Owns base wr u is) (hg : wr.grownBy w3 v2.ownBlock) (hus : wr.ownsRow base 25 1 v2 ss.length us) (hul : us.length = ss.length)
    (hue : ∀ (j : Nat) (x : List Int), ss[j]? = some x → ∃ u, us[j]? = some u ∧ Owns base wr u x) (h' : w3.ownsRow base 25 1 v' (ss.length + 1) (us ++ [u])) : OwnsLL base w3 v' (ss ++ [is]) := by
  have keep : ∀ {u : Value} {is : List Int}, Owns base wr u is → Owns base w3 u is := fun ho => World.ownsRow.kept ho hg (rows_apart ho hus (by decide))
  refine ⟨us ++ [u], by simpa using h', by simp [hul], fun j x hj => ?_⟩
  by_cases hjl : j < ss.length
  · rw [List.getElem?_append_left hjl] at hj
    obtain ⟨u', hu', ho'⟩ := hue j x hj
    exact ⟨u', by rw [List.getElem?_append_left (by omega)]; exact hu', keep ho'⟩
  · have hje : j = ss.length := by
      rcases Nat.lt_or_ge j (ss ++ [is]).length with hh | hh
      · simp at hh; omega
      · rw [List.getElem?_eq_none hh] at hj; cases hj
    subst hje
    have : x = is := by simpa using hj.symm
    subst this
    exact ⟨u, by rw [← hul]; simp, keep hu⟩
/-- The call's end tells the lists ss, in a slice of its own. -/
def ToldLL (w : World) (ss : List (List Int)) (e : Ending) (w' : World) : Prop :=
  (∃ v, e = .returned v ∧ OwnsLL w.heap.size w' v ss) ∧ Below w.heap.size w w'
set_option maxHeartbeats 4000000 in
theorem sourcesOfRef_any (W H S O : Int) (a : Option Addr) (len cap : Nat) (ps : List Ps) (w : World) (hp : Passes w a len ps) (hlen : len ≤ 12) :
    Calls Try.prog 46 #[.agg #[.int .i64 W, .int .i64 H, .int .i64 S, .int .i64 O, .slice a len cap]] w (ToldLL w (srcs ps len)) := by
  obtain ⟨i0, hi, hz0, hz1, hz2⟩ := info_parts Try.info3
  obtain ⟨l0, li, lz0, lz1, lz2⟩ := info_parts Try.infoInts
  have hB := FBox.new w W H S O a len cap
  have hb0 := below_box (Below.refl w.heap.size w) (.cells #[.int .i64 W, .int .i64 H, .int .i64 S, .int .i64 O, .slice a len cap] 24)
  have hp1 := hp.below hb0
  have hs1 : (w.alloc (.cells #[.int .i64 W, .int .i64 H, .int .i64 S, .int .i64 O, .slice a len cap] 24)).heap.size = w.heap.size + 1 := by simp
  clear hp
  go_enter Try.func46, Try.ntmps46
  go_wp2
  generalize w.alloc (.cells #[.int .i64 W, .int .i64 H, .int .i64 S, .int .i64 O, .slice a len cap] 24) = w1 at hB hb0 hp1 hs1 ⊢
  go_loopw [3, 4] (fun v i wr => ∃ k : Nat, k ≤ len ∧ i = .int .i64 k ∧ OwnsLL w1.heap.size wr v (srcs ps k) ∧ Below w1.heap.size w1 wr) (fun _ i _ => len - (intOf i).toNat)
  case atStart => exact ⟨0, Nat.zero_le _, rfl, OwnsLL.nil _ _, Below.refl _ _⟩
  case round =>
    obtain ⟨k, hk, rfl, hown, hbr⟩ := hrel
    have hBr := hB.below hbr
    have hpr := hp1.below hbr
    by_cases hlt : k < len
    · have H7 : Hid (srcOf ps k = (takesP (ps.getD k Ps.zero)).map (wrt ps k)) := rfl
      have H8 : Hid (srcs ps (k + 1) = srcs ps k ++ [srcOf ps k]) := srcs_succ ps k
      have H13 : Hid ((srcs ps k).length = k) := srcs_length _ _
      have hwr := fun (s : Int) wx (hx : Passes wx a len ps) => writer_any W H S O a len cap ps k s wx hx (by omega)
      generalize wrt ps k = q at hwr H7
      generalize srcs ps k = ss at hown H8 H13
      generalize srcOf ps k = sr at H7 H8
      obtain ⟨b, off, la, ll, lc, rfl, p0, p1, p2, p3, p4, p5, hLi⟩ := hpr.nth hlt
      generalize ps.getD k Ps.zero = p at p0 p1 p2 p3 p4 p5 hLi H7
      obtain ⟨Op, To, A, B, K, ls⟩ := p
      dsimp only at p0 p1 p2 p3 p4 p5 hLi
      have hh := fun wx => has_any Op wx
      have hab : hasB Op = true → hasA Op = true := by simp [hasA, hasB, withinB]; omega
      have hBp := hBr.alloc (.cells #[.int .i64 Op, .int .i64 To, .int .i64 A, .int .i64 B, .int .i64 K, .slice la ll lc] 92)
      have hPp := PBox.new wr Op To A B K la ll lc
      have hpp := hpr.below ((Below.refl _ _).alloc (Nat.le_refl _) (.cells #[.int .i64 Op, .int .i64 To, .int .i64 A, .int .i64 B, .int .i64 K, .slice la ll lc] 92))
      have hbp := hbr.alloc hbr.size (.cells #[.int .i64 Op, .int .i64 To, .int .i64 A, .int .i64 B, .int .i64 K, .slice la ll lc] 92)
      have howp := hown.below ((Below.refl _ _).alloc (Nat.le_refl _) (.cells #[.int .i64 Op, .int .i64 To, .int .i64 A, .int .i64 B, .int .i64 K, .slice la ll lc] 92))
      obtain ⟨_, g0, g1, g2, g3, g4⟩ := id hBr
      unfold takesP at H7
      dsimp only at H7
      generalize hasA Op = xa at hh H7 hab
      generalize hasB Op = xb at hh H7 hab
      generalize hasK Op = xk at hh
      generalize hasL Op = xl at hh
      go_upto_region 8 with (go_at_call 77; refine (hh _).mono ?_; rintro e w' ⟨rfl, rfl⟩)
      clear g0 g1 g2 g3 g4 p0 p1 p2 p3 p4 p5 hh hBr hpr hown hbr hLi
      generalize wr.alloc (.cells #[.int .i64 Op, .int .i64 To, .int .i64 A, .int .i64 B, .int .i64 K, .slice la ll lc] 92) = wA at hBp hPp hpp hbp howp ⊢
      cases xa
      · have hxb : xb = false := by cases xb; · rfl
                                    · exact absurd (hab rfl) (by decide)
        subst hxb
        have H7' : Hid (sr = []) := H7
        go_upto_region 12 with fail
        have hsr := H7'.out
        subst hsr
        have hfX := (howp).below ((Below.refl _ wA).alloc (Nat.le_refl _) (.cells #[.slice none 0 0] 25))
        have huX := World.ownsRow.alloc (World.ownsRow_nil wA w1.heap.size 3 1) (.cells #[.slice none 0 0] 25)
        have hbX : Below w1.heap.size w1 wA := hbp
        have hsX := hbX.size
        obtain ⟨us, hus, hul, hue⟩ := hfX
        go_wp2_with (at_builtin; refine wpList_append_own _ rfl _ _ 75 rfl w1.heap.size 25 l0 _ 1 24 Try.underlying75 li lz0 lz1 lz2 rfl (by decide) _ _ _ rfl hus ⟨wA.heap.size, 0, none⟩ 1 1 [.slice none 0 0] rfl rfl (cell_one_new _ _ _) (by intro u hu; simp at hu; subst hu; rfl) (by rw [H13.out]; unfold maxLen; omega) (by rw [H13.out]; omega) (by simp; omega) ?_; intro vY wY hownY hgrowY _)
        have RR := ll_push (is := []) (show Owns w1.heap.size _ _ [] from huX) hgrowY hus hul hue hownY
        have hbY := (hbX.alloc hsX (.cells #[.slice none 0 0] 25)).grown hgrowY (by simp; omega) (fun j hj => (World.ownsRow.lt hus j hj).1)
        go_roundw
        case rel => exact ⟨k + 1, by omega, by go_num, by rw [H8.out]; exact RR, hbY⟩
        case measure => simp [intOf]; omega
      · obtain ⟨_, g0, g1, g2, g3, g4⟩ := id hBp
        obtain ⟨_, p0, p1, p2, p3, p4, p5⟩ := id hPp
        go_upto_region 10 with (first
          | (go_at_call 78; refine (hwr _ _ hpp).mono ?_; rintro e wB ⟨rfl, bB⟩)
          | (at_builtin; refine wpList_append_own _ rfl _ _ 25 rfl wB.heap.size 3 i0 (.int .i64 0) 1 8 Try.underlying25 hi hz0 hz1 hz2 rfl (by decide) _ _ _ rfl (World.ownsRow_nil _ _ _ _) ⟨wB.heap.size, 0, none⟩ 1 1 [.int .i64 (q A)] rfl rfl (cell_one_new _ _ _) (by intro u hu; simp at hu; subst hu; rfl) (by unfold maxLen; omega) (by omega) (by simp; try omega) ?_; intro vC wC hownC hgrowC _; obtain ⟨aC, capC, hvC⟩ := owns_slice hownC; subst hvC))
        have bC : Below wB.heap.size wB wC := ((Below.refl _ wB).alloc (Nat.le_refl _) _).grown hgrowC (by simp) (fun j hj => by cases hj)
        clear g0 g1 g2 g3 g4 p0 p1 p2 p3 p4 p5 hgrowC
        have bAC := below_step bB bC
        have hsz : w1.heap.size ≤ wB.heap.size := Nat.le_trans hbp.size bB.size
        have howC := (howp.below bB).below bC
        cases xb
        · have H7' : Hid (sr = [q A]) := H7
          go_upto_region 12 with fail
          have hsr := H7'.out
          subst hsr
          have hfX := (howC).below ((Below.refl _ wC).alloc (Nat.le_refl _) (.cells #[.slice aC (0 + 1) capC] 25))
          have huX := World.ownsRow.alloc (row_mono hownC hsz) (.cells #[.slice aC (0 + 1) capC] 25)
          have hbX : Below w1.heap.size w1 wC := hbp.trans (bAC.mono hbp.size)
          have hsX := hbX.size
          obtain ⟨us, hus, hul, hue⟩ := hfX
          go_wp2_with (at_builtin; refine wpList_append_own _ rfl _ _ 75 rfl w1.heap.size 25 l0 _ 1 24 Try.underlying75 li lz0 lz1 lz2 rfl (by decide) _ _ _ rfl hus ⟨wC.heap.size, 0, none⟩ 1 1 [.slice aC (0 + 1) capC] rfl rfl (cell_one_new _ _ _) (by intro u hu; simp at hu; subst hu; rfl) (by rw [H13.out]; unfold maxLen; omega) (by rw [H13.out]; omega) (by simp; omega) ?_; intro vY wY hownY hgrowY _)
          have RR := ll_push (is := [q A]) (show Owns w1.heap.size _ _ [q A] from huX) hgrowY hus hul hue hownY
          have hbY := (hbX.alloc hsX (.cells #[.slice aC (0 + 1) capC] 25)).grown hgrowY (by simp; omega) (fun j hj => (World.ownsRow.lt hus j hj).1)
          go_roundw
          case rel => exact ⟨k + 1, by omega, by go_num, by rw [H8.out]; exact RR, hbY⟩
          case measure => simp [intOf]; omega
        · have H7' : Hid (sr = [q A, q B]) := H7
          obtain ⟨_, g0, g1, g2, g3, g4⟩ := hBp.below bAC
          obtain ⟨_, p0, p1, p2, p3, p4, p5⟩ := hPp.below bAC
          have hpC := hpp.below bAC
          go_upto_region 12 with (first
            | (go_at_call 78; refine (hwr _ _ hpC).mono ?_; rintro e wD ⟨rfl, bD⟩)
            | (at_builtin; refine wpList_append_own _ rfl _ _ 25 rfl wB.heap.size 3 i0 (.int .i64 0) 1 8 Try.underlying25 hi hz0 hz1 hz2 rfl (by decide) _ _ _ rfl (World.ownsRow.alloc (ownsRow_below hownC bD (Nat.le_refl _)) _) ⟨wD.heap.size, 0, none⟩ 1 1 [.int .i64 (q B)] rfl rfl (cell_one_new _ _ _) (by intro u hu; simp at hu; subst hu; rfl) (by unfold maxLen; omega) (by omega) (by have h1 := bC.size; have h2 := bD.size; simp; omega) ?_; intro vE wE hownE hgrowE _; obtain ⟨aE, capE, hvE⟩ := owns_slice hownE; subst hvE))
          have bE : Below wB.heap.size wB wE := ((bC.trans (bD.mono bC.size)).alloc (Nat.le_trans bC.size bD.size) _).grown hgrowE (by have h1 := bC.size; have h2 := bD.size; simp; omega) (fun j hj => (World.ownsRow.lt (w := wC) hownC j hj).1)
          clear g0 g1 g2 g3 g4 p0 p1 p2 p3 p4 p5 hgrowE
          have hsr := H7'.out
          subst hsr
          have hfX := (((howp.below bB).below bE)).below ((Below.refl _ wE).alloc (Nat.le_refl _) (.cells #[.slice aE (0 + 1 + 1) capE] 25))
          have huX := World.ownsRow.alloc (row_mono hownE hsz) (.cells #[.slice aE (0 + 1 + 1) capE] 25)
          have hbX : Below w1.heap.size w1 wE := hbp.trans ((below_step bB bE).mono hbp.size)
          have hsX := hbX.size
          obtain ⟨us, hus, hul, hue⟩ := hfX
          go_wp2_with (at_builtin; refine wpList_append_own _ rfl _ _ 75 rfl w1.heap.size 25 l0 _ 1 24 Try.underlying75 li lz0 lz1 lz2 rfl (by decide) _ _ _ rfl hus ⟨wE.heap.size, 0, none⟩ 1 1 [.slice aE (0 + 1 + 1) capE] rfl rfl (cell_one_new _ _ _) (by intro u hu; simp at hu; subst hu; rfl) (by rw [H13.out]; unfold maxLen; omega) (by rw [H13.out]; omega) (by simp; omega) ?_; intro vY wY hownY hgrowY _)
          have RR := ll_push (is := [q A, q B]) (show Owns w1.heap.size _ _ [q A, q B] from huX) hgrowY hus hul hue hownY
          have hbY := (hbX.alloc hsX (.cells #[.slice aE (0 + 1 + 1) capE] 25)).grown hgrowY (by simp; omega) (fun j hj => (World.ownsRow.lt hus j hj).1)
          go_roundw
          case rel => exact ⟨k + 1, by omega, by go_num, by rw [H8.out]; exact RR, hbY⟩
          case measure => simp [intOf]; omega
    · have hke : k = len := by omega
      subst hke
      obtain ⟨a2, c2, rfl⟩ : ∃ a cap, _ = Value.slice a (srcs ps k).length cap := by obtain ⟨us, h1, _⟩ := id hown; exact owns_slice h1
      obtain ⟨_, g0, g1, g2, g3, g4⟩ := id hBr
      go_wp2
      go_ret
      exact ⟨⟨_, rfl, hown.mono hb0.size⟩, below_step hb0 hbr⟩
end Go.Proofs.Ytfpkiimlaepnhab
/-
  RENDER: frame.Render.
-/
namespace Go.Proofs.Ytfpkiimlaepnhab
set_option maxRecDepth 100000
open Go.RowKit Im

/-- What frame.Render tells. -/
def renderP (f : Fr) : Res := if frameE f = 0 then (pics f f.ps.length).getD (shownP f).toNat (noRes 0) else noRes (frameE f)
/-- Behind the region: the image r lies in a block of its own. -/
def Made9 (wP : World) (r : Res) (s9 s10 : Value) (wx : World) : Prop :=
  s10 = .int .i64 r.E ∧ ∃ b ra rc, s9 = .pointer (some ⟨b, 0, none⟩) ∧ wx.cell? ⟨b, 0, none⟩ = some (.int .i64 r.W) ∧ wx.cell? ⟨b, 1, none⟩ = some (.int .i64 r.H) ∧ wx.cell? ⟨b, 2, none⟩ = some (.slice ra r.ps.length rc) ∧ Ints wP.heap.size wx ra r.ps.length r.ps ∧ Below wP.heap.size wP wx
theorem getD_over {α : Type} (l : List α) (d : α) {k : Nat} (h : l.length ≤ k) : l.getD k d = d := by
  rw [List.getD_eq_getElem?_getD, List.getElem?_eq_none h]; rfl
theorem pics_next (f : Fr) (k j : Nat) : (pics f (k + 1)).getD j (noRes 0) = if k = j then paintRes (f.ps.getD k Ps.zero) (sizeN f k) (pickR (pics f k) (srcOf f.ps k)) else (pics f k).getD j (noRes 0) := by
  have e1 : pics f (k + 1) = pics f k ++ [paintRes (f.ps.getD k Ps.zero) (sizeN f k) (pickR (pics f k) (srcOf f.ps k))] := rfl
  have l1 := pics_length f k
  rw [e1]
  rcases Nat.lt_trichotomy j k with h | h | h
  · rw [getD_left _ _ _ (by omega), if_neg (by omega)]
  · rw [getD_last _ _ _ (by omega), if_pos h.symm]
  · rw [if_neg (by omega), getD_over _ _ (by simp; omega), getD_over _ _ (by omega)]
theorem szs_at (f : Fr) {n k : Nat} (h : k < n) : (szs f n).getD k Sz.zero = sizeN f k := by
  induction n with
  | zero => omega
  | succ n ih =>
    have e : szs f (n + 1) = szs f n ++ [sizeN f n] := rfl
    have l := szs_length f n
    rw [e]
    by_cases hk : k < n
    · rw [getD_left _ _ _ (by omega), ih hk]
    · have : k = n := by omega
      subst this
      rw [getD_last _ _ _ (by omega)]
theorem srcs_at (ps : List Ps) {n k : Nat} (h : k < n) : (srcs ps n).getD k [] = srcOf ps k := by
  unfold srcs
  simp [List.getD_eq_getElem?_getD, h]
theorem keepM {wP w' : World} {bp bc zb zo sb so : Nat} {x0 x1 x2 x3 x4 x5 y0 y1 z0 z1 s0 : Value} (hb : Below wP.heap.size wP w') (h1 : bp < wP.heap.size) (h2 : bc < wP.heap.size) (h3 : zb < wP.heap.size) (h4 : sb < wP.heap.size)
    (p0 : wP.cell? ⟨bp, 0, none⟩ = some x0) (p1 : wP.cell? ⟨bp, 1, none⟩ = some x1) (p2 : wP.cell? ⟨bp, 2, none⟩ = some x2) (p3 : wP.cell? ⟨bp, 3, none⟩ = some x3) (p4 : wP.cell? ⟨bp, 4, none⟩ = some x4) (p5 : wP.cell? ⟨bp, 5, none⟩ = some x5) (c0 : wP.cell? ⟨bc, 0, none⟩ = some y0) (c1 : wP.cell? ⟨bc, 1, none⟩ = some y1) (d0 : wP.cell? ⟨zb, zo, none⟩ = some z0) (d1 : wP.cell? ⟨zb, zo + 1, none⟩ = some z1) (e0 : wP.cell? ⟨sb, so, none⟩ = some s0) :
    Below wP.heap.size wP w' ∧ w'.cell? ⟨bp, 0, none⟩ = some x0 ∧ w'.cell? ⟨bp, 1, none⟩ = some x1 ∧ w'.cell? ⟨bp, 2, none⟩ = some x2 ∧ w'.cell? ⟨bp, 3, none⟩ = some x3 ∧ w'.cell? ⟨bp, 4, none⟩ = some x4 ∧ w'.cell? ⟨bp, 5, none⟩ = some x5 ∧ w'.cell? ⟨bc, 0, none⟩ = some y0 ∧ w'.cell? ⟨bc, 1, none⟩ = some y1 ∧ w'.cell? ⟨zb, zo, none⟩ = some z0 ∧ w'.cell? ⟨zb, zo + 1, none⟩ = some z1 ∧ w'.cell? ⟨sb, so, none⟩ = some s0 :=
  ⟨hb, (hb.cell (p := ⟨bp, 0, none⟩) h1).trans p0, (hb.cell (p := ⟨bp, 1, none⟩) h1).trans p1, (hb.cell (p := ⟨bp, 2, none⟩) h1).trans p2, (hb.cell (p := ⟨bp, 3, none⟩) h1).trans p3, (hb.cell (p := ⟨bp, 4, none⟩) h1).trans p4, (hb.cell (p := ⟨bp, 5, none⟩) h1).trans p5, (hb.cell (p := ⟨bc, 0, none⟩) h2).trans c0, (hb.cell (p := ⟨bc, 1, none⟩) h2).trans c1, (hb.cell (p := ⟨zb, zo, none⟩) h3).trans d0, (hb.cell (p := ⟨zb, zo + 1, none⟩) h3).trans d1, (hb.cell (p := ⟨sb, so, none⟩) h4).trans e0⟩
end Go.Proofs.Ytfpkiimlaepnhab
/-
  KEPTREF: which passes are needed, as numbers alone; the reference's KeptOf.
-/
namespace Go.Proofs.Ytfpkiimlaepnhab
set_option maxRecDepth 100000
open Go.RowKit Im

/-- The marks g, and those of is besides. -/
def markG (g : Nat → Bool) (is : List Int) (j : Nat) : Bool := g j || is.any fun i => decide (i = (j : Int))
/-- The marks when the last k of n passes have been asked. -/
def keptG (ps : List Ps) (n : Nat) (last : Int) : Nat → Nat → Bool
  | 0, j => decide (last = (j : Int))
  | k + 1, j => if keptG ps n last k (n - 1 - k) = true then markG (keptG ps n last k) (srcOf ps (n - 1 - k)) j else keptG ps n last k j
theorem markG_nil (g : Nat → Bool) : markG g [] = g := by funext j; simp [markG]
theorem markG_take (g : Nat → Bool) (is : List Int) (k : Nat) (hk : k < is.length) (j : Nat) : markG g (is.take (k + 1)) j = if is.getD k 0 = (j : Int) then true else markG g (is.take k) j := by
  unfold markG
  rw [List.take_succ_eq_append_getElem hk, List.any_append, List.getD_eq_getElem?_getD, List.getElem?_eq_getElem hk]
  by_cases h : is[k] = (j : Int) <;> simp [h]
/-- Marks in memory, in a block of their own. -/
structure Bl (w : World) (b n : Nat) (g : Nat → Bool) : Prop where
  lt : b < w.heap.size
  cells : ∀ j, j < n → w.cell? ⟨b, j, none⟩ = some (.bool (g j))
  froz : ∀ o, w.frozen? ⟨b, o, none⟩ = false
theorem Bl.below {w w' : World} {b n B : Nat} {g : Nat → Bool} (h : Bl w b n g) (hb : Below B w w') (hB : b < B) (hs : w.heap.size ≤ w'.heap.size) : Bl w' b n g :=
  ⟨Nat.lt_of_lt_of_le h.lt hs, fun j hj => (hb.cell (p := ⟨b, j, none⟩) hB).trans (h.cells j hj), fun o => (hb.frozen (p := ⟨b, o, none⟩) hB).trans (h.froz o)⟩
theorem Bl.put {w : World} {b n : Nat} {g g' : Nat → Bool} (h : Bl w b n g) (m : Nat) (hm : m < n) (hg : ∀ j, j < n → g' j = if m = j then true else g j) : Bl (w.setCell ⟨b, m, none⟩ (.bool true)) b n g' := by
  refine ⟨by simpa using h.lt, fun j hj => ?_, fun o => by simpa using h.froz o⟩
  rw [hg j hj]
  by_cases e : m = j
  · subst e
    rw [if_pos rfl]
    exact set_same (h.cells m hm)
  · rw [if_neg e, set_other _ (fun e' => e (by injection e'))]
    exact h.cells j hj
theorem Bl.congr {w : World} {b n : Nat} {g g' : Nat → Bool} (h : Bl w b n g) (hg : ∀ j, j < n → g' j = g j) : Bl w b n g' := ⟨h.lt, fun j hj => by rw [hg j hj]; exact h.cells j hj, h.froz⟩
theorem Bl.made {w : World} {base b N cap : Nat} (h : w.ownsRow base 4 1 (.slice (some ⟨b, 0, none⟩) N cap) N (madeCells (Value.bool false).cells (N * 1)).toList) (hb : b < w.heap.size) : Bl w b N (fun _ => false) := by
  refine ⟨hb, fun j hj => ?_, fun o => World.ownsRow.frozenAt h o⟩
  rw [World.ownsRow.cellAt h j (by omega)]
  have e : (Value.bool false).cells = #[.bool false] := rfl
  rw [e]
  simp only [madeCells, Array.toList_map, Array.toList_range, List.getElem?_map, List.getElem?_range (show j < N * 1 by omega), Option.map_some]
  congr 1
  show (#[Value.bool false] : Array Value)[j % 1]! = _
  rw [Nat.mod_one]
  rfl
theorem Try.infoBool : (Try.prog.info? 4).map (fun i => (i.zero, i.size, i.bytes)) = some (some (.bool false), 1, 1) := by kernel_rfl
/-- The call's end tells the marks g. -/
def ToldK (w : World) (n : Nat) (g : Nat → Bool) (e : Ending) (w' : World) : Prop :=
  (∃ b, e = .returned (.slice (some ⟨b, 0, none⟩) n n) ∧ w.heap.size ≤ b ∧ Bl w' b n g) ∧ Below w.heap.size w w'
set_option maxHeartbeats 4000000 in
theorem keptOf_any (W H S O : Int) (a : Option Addr) (len cap : Nat) (ps : List Ps) (w : World) (hp : Passes w a len ps) (hE : frameE ⟨W, H, S, O, ps⟩ = 0) :
    Calls Try.prog 61 #[.agg #[.int .i64 W, .int .i64 H, .int .i64 S, .int .i64 O, .slice a len cap]] w (ToldK w len (keptG ps len (shownP ⟨W, H, S, O, ps⟩) len)) := by
  obtain rfl := hp.leng
  obtain ⟨hbnd, hfirst, hsh⟩ := frameE_zero hE
  dsimp only at hfirst
  obtain ⟨_, _, _, _, hL⟩ := boundsE_zero hbnd
  dsimp only at hL
  obtain ⟨N, hN⟩ := Int.eq_ofNat_of_zero_le hsh
  have hNl : N < ps.length := by have := (wrt_bd ps ps.length O).2; have e : shownP ⟨W, H, S, O, ps⟩ = wrt ps ps.length O := rfl; omega
  obtain ⟨i0, hi, hz0, hz1, hz2⟩ := info_parts Try.infoBool
  have hb0 := below_box (Below.refl w.heap.size w) (.cells #[.int .i64 W, .int .i64 H, .int .i64 S, .int .i64 O, .slice a ps.length cap] 24)
  have hB := FBox.new w W H S O a ps.length cap
  have hsr := sourcesOfRef_any W H S O a ps.length cap ps _ (hp.below hb0) hL.2
  have hla := fun wx hp => lastOf_any W H S O a ps.length cap ps wx hp
  rw [hN] at hla ⊢
  have hs2 : ∀ x ∈ srcs ps ps.length, x.length ≤ 2 := by
    intro x hx
    unfold srcs at hx
    rw [List.mem_map] at hx
    obtain ⟨n, _, rfl⟩ := hx
    unfold srcOf
    rw [List.length_map]
    exact takesP_len _
  have hin : ∀ n, n < ps.length → ∀ i ∈ srcOf ps n, 0 ≤ i ∧ i < n := fun n hn => by
    have hfk := firstE_down ⟨W, H, S, O, ps⟩ hfirst (k := n) (by omega)
    have hpE : passE ⟨W, H, S, O, ps⟩ n = 0 := (firstE_at ⟨W, H, S, O, ps⟩ hfk).symm.trans (firstE_down ⟨W, H, S, O, ps⟩ hfirst (k := n + 1) (by omega))
    exact src_bd (passE_zero hpE).2.1
  have HIN : Hid (_) := hin
  have hp0 := hp.below hb0
  clear hN hin hbnd hfirst hsh hp hE
  go_enter Try.func61, Try.ntmps61
  go_wp2_with fail
  refine hsr.mono ?_
  clear hsr
  rintro e w1 ⟨⟨v1, rfl, hLL⟩, b1⟩
  obtain ⟨sa, scap, rfl, hSs⟩ := hLL.lls hs2
  rw [srcs_length] at hSs ⊢
  have hB1 := hB.below b1
  have hb1 := below_step hb0 b1
  have hp1 := hp0.below b1
  clear hB hb0 b1 hLL hs2 hp0
  obtain ⟨_, g0, g1, g2, g3, g4⟩ := id hB1
  go_upto_region 3 with (at_make; refine wpList_make_full _ rfl _ _ 85 rfl w1.heap.size 4 i0 (.bool false) 1 Try.underlying85 hi hz0 hz1 .i64 .i64 _ _ ps.length rfl rfl (by simp) (by simp) (by rw [hz2]; omega) (by unfold maxLen; omega) (Nat.le_refl _) ?_; intro wM hown hgrow)
  have hbM : Below w1.heap.size w1 wM := (Below.refl _ _).grown hgrow (Nat.le_refl _) (fun k hk => by cases hk)
  have hlM := (World.ownsRow.lt (w := wM) hown w1.heap.size rfl).2
  have hKM := Bl.made hown hlM
  clear hown hgrow g0 g1 g2 g3 g4
  have hBM := hB1.below hbM
  obtain ⟨_, g0, g1, g2, g3, g4⟩ := id hBM
  go_wp2_with fail
  refine (hla _ (hp1.below hbM)).mono ?_
  rintro e w2 ⟨rfl, b2⟩
  have hK2 := hKM.below b2 hlM b2.size
  have hbW2 := below_step hbM b2
  have hB2 := hB1.below hbW2
  have k0 := hK2.cells N hNl
  have kf := hK2.froz N
  have hNi : (N : Int) < (ps.length : Int) := by omega
  have hK3 := hK2.put (g' := keptG ps ps.length N 0) N hNl (fun j hj => by
    show decide ((N : Int) = (j : Int)) = _
    by_cases h : N = j
    · subst h; simp
    · have h' : ¬ (N : Int) = (j : Int) := by omega
      simp [h, h'])
  have hbW3 : Below w1.heap.size w1 (w2.setCell ⟨w1.heap.size, N, none⟩ (.bool true)) := hbW2.setCell (p := ⟨w1.heap.size, N, none⟩) (Nat.le_refl _) _
  have hwl : IntKind.i64.wrap ((ps.length : Int) - 1) = (ps.length : Int) - 1 := by rw [IntKind.wrap_i64]; omega
  clear g0 g1 g2 g3 g4 hKM hla hbM hlM hBM b2
  go_wp2
  go_loopw [5] (fun i wr => ∃ k : Nat, k ≤ ps.length ∧ i = .int .i64 ((ps.length : Int) - 1 - k) ∧ Bl wr w1.heap.size ps.length (keptG ps ps.length N k) ∧ Below w1.heap.size w1 wr) (fun i _ => (intOf i + 1).toNat)
  case atStart => exact ⟨0, Nat.zero_le _, by simp, hK3, hbW3⟩
  case round =>
    obtain ⟨k, hk, rfl, hKr, hbr⟩ := hrel
    clear hK2 hK3 hbW2 hbW3 hB2 k0 kf
    by_cases hlt : k < ps.length
    · obtain ⟨m, hm⟩ : ∃ m : Nat, m = ps.length - 1 - k := ⟨_, rfl⟩
      have hmi : (ps.length : Int) - 1 - k = (m : Int) := by omega
      have hml : m < ps.length := by omega
      have hmI : (m : Int) < (ps.length : Int) := by omega
      have hm0 : (0 : Int) ≤ (m : Int) := by omega
      obtain ⟨sb, so, ua, uc, rfl, hsb, qq, hUI⟩ := hSs.nth hml
      rw [srcs_at _ hml] at qq hUI
      have hin := HIN.out m hml
      have HKG : Hid (∀ j, keptG ps ps.length N (k + 1) j = if keptG ps ps.length N k m = true then markG (keptG ps ps.length N k) (srcOf ps m) j else keptG ps ps.length N k j) := fun j => by rw [hm]; rfl
      have hsl : (srcOf ps m).length ≤ 2 := by unfold srcOf; rw [List.length_map]; exact takesP_len _
      have hw1 : IntKind.i64.wrap ((m : Int) - 1) = (m : Int) - 1 := by rw [IntKind.wrap_i64]; omega
      have HMN : Hid ((m : Int) - 1 = (ps.length : Int) - 1 - ((k + 1 : Nat) : Int)) := by show _ = _; omega
      rw [hmi]
      have km := hKr.cells m hml
      generalize keptG ps ps.length N k = g at hKr HKG km
      generalize srcOf ps m = sr at qq hUI hin HKG hsl
      have q0 := (hbr.cell (p := ⟨sb, so + m, none⟩) hsb).trans qq
      clear hm hmi
      have hgm : ∀ k', markG g (sr.take k') m = true ∨ True := fun _ => .inr trivial
      clear hgm
      obtain ⟨wO, e0⟩ : ∃ z, z = wr := ⟨_, rfl⟩
      subst e0
      generalize hx : g m = x at km HKG
      cases x with
      | false =>
        go_wp2
        go_loopw [6] (fun i ws => i = .int .i64 0 ∧ ws = wO) (fun _ _ => 0)
        case atStart => exact ⟨rfl, rfl⟩
        case round =>
          obtain ⟨rfl, rfl⟩ := hrel
          go_wp2
          all_goals go_roundw
          all_goals first
            | exact ⟨k + 1, by omega, by rw [HMN.out], hKr.congr (fun j _ => by rw [HKG.out j, if_neg (by decide)]), hbr⟩
            | (show ((m : Int) - 1 + 1).toNat < ((m : Int) + 1).toNat; omega)
      | true =>
        clear q0 km
        go_wp2
        go_loopw [6] (fun i ws => ∃ t : Nat, t ≤ sr.length ∧ i = .int .i64 t ∧ Bl ws w1.heap.size ps.length (markG g (sr.take t)) ∧ Below w1.heap.size w1 ws) (fun i _ => sr.length - (intOf i).toNat)
        case atStart => exact ⟨0, Nat.zero_le _, rfl, by rw [List.take_zero, markG_nil]; exact hKr, hbr⟩
        case round =>
          obtain ⟨t, ht, rfl, hKt, hbt⟩ := hrel
          have q0 := (hbt.cell (p := ⟨sb, so + m, none⟩) hsb).trans qq
          have km := hKt.cells m hml
          have hgm : markG g (sr.take t) m = true := by unfold markG; rw [hx]; rfl
          rw [hgm] at km
          by_cases htl : t < sr.length
          · obtain ⟨bu, ou, rfl, hcx⟩ := (hUI.below (Nat.le_refl _) hbt).nth htl
            have hr := hin _ (getD_mem htl 0)
            have HS : Hid (∀ j : Nat, markG g (sr.take (t + 1)) j = if sr.getD t 0 = (j : Int) then true else markG g (sr.take t) j) := fun j => markG_take g sr t htl j
            generalize sr.getD t 0 = n at hcx hr HS
            obtain ⟨q, rfl⟩ := Int.eq_ofNat_of_zero_le hr.1
            have hql : q < ps.length := by omega
            have hqI : (q : Int) < (ps.length : Int) := by omega
            have kq := hKt.cells q hql
            have kf := hKt.froz q
            have hK9 := hKt.put (g' := markG g (sr.take (t + 1))) q hql (fun j hj => by
              rw [HS.out j]
              by_cases h : q = j
              · subst h; simp
              · have h' : ¬ (q : Int) = (j : Int) := by omega
                rw [if_neg h, if_neg h'])
            have hb9 := hbt.setCell (p := ⟨w1.heap.size, q, none⟩) (Nat.le_refl _) (.bool true)
            have HK9 : Hid (_) := hK9
            clear hK9 HKG hKr hx hgm
            go_wp2
            go_roundw
            case rel => exact ⟨t + 1, by omega, by go_num, HK9.out, hb9⟩
            case measure => simp [intOf]; omega
          · have hte : t = sr.length := by omega
            subst hte
            rw [List.take_length] at hKt
            clear hx hgm hKr
            go_wp2
            go_roundw
            case rel => exact ⟨k + 1, by omega, by rw [HMN.out], hKt.congr (fun j _ => by rw [HKG.out j, if_pos (by trivial)]), hbt⟩
            case measure => show ((m : Int) - 1 + 1).toNat < ((m : Int) + 1).toNat; omega
    · have hke : k = ps.length := by omega
      subst hke
      have hz : (ps.length : Int) - 1 - (ps.length : Int) = -1 := by omega
      rw [hz]
      go_wp2
      go_ret
      exact ⟨⟨w1.heap.size, rfl, hb1.size, hKr⟩, below_step hb1 hbr⟩
end Go.Proofs.Ytfpkiimlaepnhab
/-
  STEPS2: plan.hasAll, isBehind, isPlaced.
-/
namespace Go.Proofs.Ytfpkiimlaepnhab
set_option maxRecDepth 100000
open Go.RowKit Im Go.Maps

theorem Bl.at {w : World} {b n : Nat} {g : Nat → Bool} (h : Bl w b n g) {k : Nat} (hk : k < n) : w.cell? ⟨b, k, none⟩ = some (.bool (g k)) := h.cells k hk
set_option maxHeartbeats 1000000 in
theorem hasAll_any {B b n cap : Nat} {os : List Int} {g : Nat → Bool} {w : World} (hs : Steps w B os) (hK : Bl w b n g) (hn : n ≤ 12) :
    Calls Try.prog 71 #[.map (some B), .slice (some ⟨b, 0, none⟩) n cap] w fun e w' => e = .returned (.bool (hasAllB g os n)) ∧ w = w' := by
  go_enter Try.func71, Try.ntmps71
  go_wp2
  go_loop [11] (fun i => ∃ k : Nat, k ≤ n ∧ i = .int .i64 k ∧ allTo (hasP g os) k = true) (fun i => n - (intOf i).toNat)
  case atStart => exact ⟨0, Nat.zero_le _, rfl, rfl⟩
  case round =>
    obtain ⟨k, hk, rfl, hall⟩ := hrel
    by_cases hlt : k < n
    · have hcx := hK.cells k hlt
      have HA : Hid (hasP g os k = true → allTo (hasP g os) (k + 1) = true) := fun h => allTo_succ hall h
      have HF : Hid (hasP g os k = false → hasAllB g os n = false) := fun h => allTo_not hlt h
      have HP : Hid (hasP g os k = (!g k || stepB os k)) := rfl
      generalize g k = x at hcx HP
      generalize hy : stepB os k = y at HP
      clear hall
      cases x <;> cases y
      all_goals
        go_wp2_with (at_lookup; refine wpList_lookup_steps rfl _ rfl _ _ rfl hs rfl rfl (by omega) ?_)
        first
        | (go_round
           case rel => exact ⟨k + 1, by omega, by go_num, HA.out (by rw [HP.out]; rfl)⟩
           case measure => simp [intOf]; omega)
        | (go_ret
           exact ⟨by rw [HF.out (by rw [HP.out]; rfl)]; rfl, rfl⟩)
    · have hke : k = n := by omega
      subst hke
      go_wp2
      go_ret
      exact ⟨by unfold hasAllB; rw [hall]; rfl, rfl⟩
set_option maxHeartbeats 1000000 in
theorem isPlaced_any {B : Nat} {os pl : List Int} {a : Option Addr} {len cap N base : Nat} {w : World} (hs : Steps w B os) (hI : Ints base w a len pl) (hN : N ≤ 12) :
    Calls Try.prog 73 #[.map (some B), .slice a len cap, .int .i64 N] w fun e w' => e = .returned (.bool (plcB os pl N)) ∧ w = w' := by
  obtain rfl := hI.leng
  have hbig := hI.big
  by_cases hlN : pl.length = N
  · subst hlN
    go_enter Try.func73, Try.ntmps73
    go_wp2
    go_loop [17] (fun i => ∃ k : Nat, k ≤ pl.length ∧ i = .int .i64 k ∧ allTo (plcP os pl) k = true) (fun i => pl.length - (intOf i).toNat)
    case atStart => exact ⟨0, Nat.zero_le _, rfl, rfl⟩
    case round =>
      obtain ⟨k, hk, rfl, hall⟩ := hrel
      by_cases hlt : k < pl.length
      · obtain ⟨b, off, rfl, hcx⟩ := hI.nth hlt
        have HA : Hid (plcP os pl k = true → allTo (plcP os pl) (k + 1) = true) := fun h => allTo_succ hall h
        have HF : Hid (plcP os pl k = false → plcB os pl pl.length = false) := fun h => by unfold plcB; rw [allTo_not hlt h]; simp
        have HP : Hid (plcP os pl k = bif stepB os k then decide (0 ≤ pl.getD k 0) && decide (pl.getD k 0 ≤ 4096) else decide (pl.getD k 0 = -1)) := by show _ = _; unfold plcP stepB; by_cases h : 0 ≤ stepAt os k <;> simp [h]
        generalize pl.getD k 0 = n at hcx HP
        generalize hy : stepB os k = y at HP
        clear hall
        cases y with
        | true =>
          by_cases h1 : n < 0
          · go_wp2_with (at_lookup; refine wpList_lookup_steps rfl _ rfl _ _ rfl hs rfl rfl (by omega) ?_)
            go_ret
            exact ⟨by rw [HF.out (by rw [HP.out, decide_eq_false (show ¬ 0 ≤ n by omega)]; rfl)]; rfl, rfl⟩
          · by_cases h2 : 4096 < n
            · go_wp2_with (at_lookup; refine wpList_lookup_steps rfl _ rfl _ _ rfl hs rfl rfl (by omega) ?_)
              go_ret
              exact ⟨by rw [HF.out (by rw [HP.out, decide_eq_false (show ¬ n ≤ 4096 by omega)]; simp)]; rfl, rfl⟩
            · go_wp2_with (at_lookup; refine wpList_lookup_steps rfl _ rfl _ _ rfl hs rfl rfl (by omega) ?_)
              go_round
              case rel => exact ⟨k + 1, by omega, by go_num, HA.out (by rw [HP.out, decide_eq_true (show 0 ≤ n by omega), decide_eq_true (show n ≤ 4096 by omega)]; rfl)⟩
              case measure => simp [intOf]; omega
        | false =>
          by_cases h1 : n = -1
          · subst h1
            go_wp2_with (at_lookup; refine wpList_lookup_steps rfl _ rfl _ _ rfl hs rfl rfl (by omega) ?_)
            go_round
            case rel => exact ⟨k + 1, by omega, by go_num, HA.out (by rw [HP.out]; rfl)⟩
            case measure => simp [intOf]; omega
          · go_wp2_with (at_lookup; refine wpList_lookup_steps rfl _ rfl _ _ rfl hs rfl rfl (by omega) ?_)
            go_ret
            exact ⟨by rw [HF.out (by rw [HP.out, decide_eq_false h1]; rfl)]; rfl, rfl⟩
      · have hke : k = pl.length := by omega
        subst hke
        go_wp2
        go_ret
        exact ⟨by unfold plcB; rw [hall, decide_eq_true rfl]; rfl, rfl⟩
  · have hne : ¬ (pl.length : Int) = (N : Int) := by omega
    go_enter Try.func73, Try.ntmps73
    go_wp2
    go_ret
    exact ⟨by unfold plcB; rw [decide_eq_false hlN]; rfl, rfl⟩
set_option maxHeartbeats 1000000 in
theorem isBehind_any {B : Nat} {os : List Int} {ss : List (List Int)} {src : Nat → List Int} {a : Option Addr} {len cap : Nat} {w : World} (hs : Steps w B os) (hL : LLs w a len ss) (hn : len ≤ 12) (hsrc : ∀ k, k < len → ss.getD k [] = src k) (hs2 : ∀ k, k < len → (src k).length ≤ 2 ∧ ∀ s ∈ src k, 0 ≤ s ∧ s < len) :
    Calls Try.prog 72 #[.map (some B), .slice a len cap] w fun e w' => e = .returned (.bool (behB src os len)) ∧ w = w' := by
  have HS2 : Hid (_) := hs2
  have HSR : Hid (_) := hsrc
  clear hs2 hsrc
  go_enter Try.func72, Try.ntmps72
  go_wp2
  go_loop [15] (fun i => ∃ k : Nat, k ≤ len ∧ i = .int .i64 k ∧ allTo (behP src os) k = true) (fun i => len - (intOf i).toNat)
  case atStart => exact ⟨0, Nat.zero_le _, rfl, rfl⟩
  case round =>
    obtain ⟨k, hk, rfl, hall⟩ := hrel
    by_cases hlt : k < len
    · obtain ⟨sb, so, ua, uc, rfl, hsb, qq, hUI⟩ := hL.nth hlt
      rw [HSR.out k hlt] at qq hUI
      obtain ⟨hl2, hin⟩ := HS2.out k hlt
      have HA : Hid (behP src os k = true → allTo (behP src os) (k + 1) = true) := fun h => allTo_succ hall h
      have HF : Hid (behP src os k = false → behB src os len = false) := fun h => allTo_not hlt h
      have HP : Hid (behP src os k = (!stepB os k || allTo (behS os (stepAt os k) (src k)) (src k).length)) := by
        show _ = _
        unfold behP stepB
        congr 1
        by_cases h : 0 ≤ stepAt os k
        · rw [decide_eq_true h, decide_eq_false (by omega)]; rfl
        · rw [decide_eq_false h, decide_eq_true (by omega)]; rfl
      have HV : Hid (stepB os k = true → stepV os k = stepAt os k) := fun h => by unfold stepV; rw [if_pos (of_decide_eq_true h)]
      generalize src k = sr at qq hUI hl2 hin HP
      generalize hy : stepB os k = y at HP HV
      clear hall
      cases y with
      | false =>
        go_wp2_with (at_lookup; refine wpList_lookup_steps rfl _ rfl _ _ rfl hs rfl rfl (by omega) ?_)
        go_round
        case rel => exact ⟨k + 1, by omega, by go_num, HA.out (by rw [HP.out]; rfl)⟩
        case measure => simp [intOf]; omega
      | true =>
        have hv := HV.out rfl
        generalize stepAt os k = st at hv HP
        go_wp2_with (at_lookup; refine wpList_lookup_steps rfl _ rfl _ _ rfl hs rfl rfl (by omega) ?_)
        go_loop [30] (fun i => ∃ t : Nat, t ≤ sr.length ∧ i = .int .i64 t ∧ allTo (behS os st sr) t = true) (fun i => sr.length - (intOf i).toNat)
        case atStart => exact ⟨0, Nat.zero_le _, rfl, rfl⟩
        case round =>
          obtain ⟨t, ht, rfl, hallt⟩ := hrel
          by_cases htl : t < sr.length
          · obtain ⟨bu, ou, rfl, hcx⟩ := hUI.nth htl
            have hr := hin _ (getD_mem htl 0)
            have HA2 : Hid (behS os st sr t = true → allTo (behS os st sr) (t + 1) = true) := fun h => allTo_succ hallt h
            have HF2 : Hid (behS os st sr t = false → allTo (behS os st sr) sr.length = false) := fun h => allTo_not htl h
            have HP2 : Hid (behS os st sr t = (stepB os (sr.getD t 0) && decide (stepAt os (sr.getD t 0) ≤ st))) := rfl
            have HV2 : Hid (stepB os (sr.getD t 0) = true → stepV os (sr.getD t 0) = stepAt os (sr.getD t 0)) := fun h => by unfold stepV; rw [if_pos (of_decide_eq_true h)]
            generalize sr.getD t 0 = n at hcx hr HP2 HV2
            generalize hy2 : stepB os n = y2 at HP2 HV2
            clear hallt
            cases y2 with
            | false =>
              go_wp2_with (at_lookup; refine wpList_lookup_steps rfl _ rfl _ _ rfl hs rfl rfl (by omega) ?_)
              go_ret
              exact ⟨by rw [HF.out (by rw [HP.out, HF2.out (by rw [HP2.out]; rfl)]; rfl)]; rfl, rfl⟩
            | true =>
              have hv2 := HV2.out rfl
              generalize stepAt os n = st2 at hv2 HP2
              by_cases hc : st < st2
              · go_wp2_with (at_lookup; refine wpList_lookup_steps rfl _ rfl _ _ rfl hs rfl rfl (by omega) ?_)
                go_ret
                exact ⟨by rw [HF.out (by rw [HP.out, HF2.out (by rw [HP2.out, decide_eq_false (show ¬ st2 ≤ st by omega)]; rfl)]; rfl)]; rfl, rfl⟩
              · go_wp2_with (at_lookup; refine wpList_lookup_steps rfl _ rfl _ _ rfl hs rfl rfl (by omega) ?_)
                go_round
                case rel => exact ⟨t + 1, by omega, by go_num, HA2.out (by rw [HP2.out, decide_eq_true (show st2 ≤ st by omega)]; rfl)⟩
                case measure => simp [intOf]; omega
          · have hte : t = sr.length := by omega
            subst hte
            go_wp2
            go_round
            case rel => exact ⟨k + 1, by omega, by go_num, HA.out (by rw [HP.out, hallt]; rfl)⟩
            case measure => simp [intOf]; omega
    · have hke : k = len := by omega
      subst hke
      go_wp2
      go_ret
      exact ⟨by unfold behB; rw [hall]; rfl, rfl⟩
end Go.Proofs.Ytfpkiimlaepnhab
/-
  SPANS: rows of spans in memory that are written; plan.spansOf, plan.liesOf.
-/
namespace Go.Proofs.Ytfpkiimlaepnhab
set_option maxRecDepth 100000
open Go.RowKit Im Go.Maps

/-- Spans in a block of their own. -/
structure Sp (w : World) (b n : Nat) (g : Nat → Int × Int) : Prop where
  lt : b < w.heap.size
  c0 : ∀ j, j < n → w.cell? ⟨b, j * 2, none⟩ = some (.int .i64 (g j).1)
  c1 : ∀ j, j < n → w.cell? ⟨b, j * 2 + 1, none⟩ = some (.int .i64 (g j).2)
  froz : ∀ o, w.frozen? ⟨b, o, none⟩ = false
theorem Sp.below {w w' : World} {b n B : Nat} {g : Nat → Int × Int} (h : Sp w b n g) (hb : Below B w w') (hB : b < B) (hs : w.heap.size ≤ w'.heap.size) : Sp w' b n g :=
  ⟨Nat.lt_of_lt_of_le h.lt hs, fun j hj => (hb.cell (p := ⟨b, j * 2, none⟩) hB).trans (h.c0 j hj), fun j hj => (hb.cell (p := ⟨b, j * 2 + 1, none⟩) hB).trans (h.c1 j hj), fun o => (hb.frozen (p := ⟨b, o, none⟩) hB).trans (h.froz o)⟩
theorem Sp.congr {w : World} {b n : Nat} {g g' : Nat → Int × Int} (h : Sp w b n g) (hg : ∀ j, j < n → g' j = g j) : Sp w b n g' :=
  ⟨h.lt, fun j hj => by rw [hg j hj]; exact h.c0 j hj, fun j hj => by rw [hg j hj]; exact h.c1 j hj, h.froz⟩
theorem Sp.putLast {w : World} {b n : Nat} {g g' : Nat → Int × Int} (h : Sp w b n g) (m : Nat) (x : Int) (hm : m < n) (hg : ∀ j, j < n → g' j = if m = j then ((g j).1, x) else g j) : Sp (w.setCell ⟨b, m * 2 + 1, none⟩ (.int .i64 x)) b n g' := by
  refine ⟨by simpa using h.lt, fun j hj => ?_, fun j hj => ?_, fun o => by simpa using h.froz o⟩
  · rw [hg j hj, set_other _ (fun e => by injection e with e1 e2; omega), h.c0 j hj]
    split <;> rfl
  · rw [hg j hj]
    by_cases e : m = j
    · subst e
      rw [if_pos rfl]
      exact set_same (h.c1 m hm)
    · rw [if_neg e, set_other _ (fun e => by injection e with e1 e2; omega)]
      exact h.c1 j hj
theorem Sp.put {w : World} {b n : Nat} {g g' : Nat → Int × Int} (h : Sp w b n g) (m : Nat) (x y : Int) (hm : m < n) (hg : ∀ j, j < n → g' j = if m = j then (x, y) else g j) : Sp ((w.setCell ⟨b, m * 2, none⟩ (.int .i64 x)).setCell ⟨b, m * 2 + 1, none⟩ (.int .i64 y)) b n g' := by
  refine ⟨by simpa using h.lt, fun j hj => ?_, fun j hj => ?_, fun o => by simpa using h.froz o⟩
  · rw [hg j hj, set_other _ (fun e => by injection e with e1 e2; omega)]
    by_cases e : m = j
    · subst e
      rw [if_pos rfl]
      exact set_same (h.c0 m hm)
    · rw [if_neg e, set_other _ (fun e => by injection e with e1 e2; omega)]
      exact h.c0 j hj
  · rw [hg j hj]
    by_cases e : m = j
    · subst e
      rw [if_pos rfl]
      exact set_same ((set_other _ (fun e => by injection e with e1 e2; omega)).trans (h.c1 m hm))
    · rw [if_neg e, set_other _ (fun e => by injection e with e1 e2; omega), set_other _ (fun e => by injection e with e1 e2; omega)]
      exact h.c1 j hj
theorem Sp.made {w : World} {base b N cap : Nat} (h : w.ownsRow base 41 2 (.slice (some ⟨b, 0, none⟩) N cap) N (madeCells (Value.agg #[.int .i64 0, .int .i64 0]).cells (N * 2)).toList) (hb : b < w.heap.size) : Sp w b N (fun _ => (0, 0)) := by
  have hc : ∀ j, j < N * 2 → w.cell? ⟨b, j, none⟩ = some ((#[Value.int .i64 0, Value.int .i64 0] : Array Value)[j % 2]!) := by
    intro j hj
    rw [World.ownsRow.cellAt h j hj]
    have e : (Value.agg #[.int .i64 0, .int .i64 0]).cells = #[.int .i64 0, .int .i64 0] := rfl
    rw [e]
    simp only [madeCells, Array.toList_map, Array.toList_range, List.getElem?_map, List.getElem?_range hj, Option.map_some]
    rfl
  refine ⟨hb, fun m hm => ?_, fun m hm => ?_, fun o => World.ownsRow.frozenAt h o⟩
  · rw [hc _ (by omega), show (m * 2) % 2 = 0 by omega]; rfl
  · rw [hc _ (by omega), show (m * 2 + 1) % 2 = 1 by omega]; rfl
theorem Try.infoSpan : (Try.prog.info? 41).map (fun i => (i.zero, i.size, i.bytes)) = some (some (.agg #[.int .i64 0, .int .i64 0]), 2, 16) := by kernel_rfl
/-- The call's end tells the spans g, in a block of its own. -/
def ToldSp (w : World) (n : Nat) (g : Nat → Int × Int) (e : Ending) (w' : World) : Prop :=
  (∃ b, e = .returned (.slice (some ⟨b, 0, none⟩) n n) ∧ w.heap.size ≤ b ∧ Sp w' b n g) ∧ Below w.heap.size w w'
def spanQ (src : Nat → List Int) (os : List Int) (la : Int) (k : Nat) : Int × Int := (stepAt os k, if (k : Int) = la then (os.length : Int) - 1 else ltk src os k (stepAt os k) os.length)
theorem mem_take_succ {l : List Int} {t : Nat} (h : t < l.length) (x : Int) : x ∈ l.take (t + 1) ↔ x ∈ l.take t ∨ l.getD t 0 = x := by
  rw [List.take_succ_eq_append_getElem h, List.mem_append, List.mem_singleton, List.getD_eq_getElem?_getD, List.getElem?_eq_getElem h]
  exact or_congr_right ⟨fun e => e.symm, fun e => e.symm⟩
set_option maxHeartbeats 4000000 in
theorem spansOf_any {N la : Nat} {src : Nat → List Int} (hN : N ≤ 12) (hla : la < N) (hs2 : ∀ k, k < N → (src k).length ≤ 2 ∧ ∀ s ∈ src k, 0 ≤ s ∧ s < N) {os : List Int} (hos : ∀ o ∈ os, 0 ≤ o ∧ o < N) (hol : os.length ≤ 12)
    {a : Option Addr} {len : Nat} (cap : Nat) {base : Nat} {B : Nat} {ss : List (List Int)} {sa : Option Addr} (scap : Nat) {w : World} (hI : Ints base w a len os) (hS : Steps w B os) (hL : LLs w sa N ss) (hsrc : ∀ k, k < N → ss.getD k [] = src k) :
    Calls Try.prog 74 #[.slice a len cap, .map (some B), .slice sa N scap, .int .i64 la] w (ToldSp w N (spanQ src os la)) := by
  obtain rfl := hI.leng
  obtain ⟨i0, hi, hz0, hz1, hz2⟩ := info_parts Try.infoSpan
  have HS2 : Hid (_) := hs2
  have HSR : Hid (_) := hsrc
  have HOS : Hid (_) := hos
  have HLT : Hid (∀ k d n, ltk src os k d (n + 1) = if k ∈ src (os.getD n 0).toNat then (n : Int) else ltk src os k d n) := fun _ _ _ => rfl
  have hlaI : (la : Int) < (N : Int) := by omega
  have hwl : IntKind.i64.wrap ((os.length : Int) - 1) = (os.length : Int) - 1 := by rw [IntKind.wrap_i64]; omega
  clear hs2 hsrc hos
  go_enter Try.func74, Try.ntmps74
  go_upto_region 2 with (at_make; refine wpList_make_full _ rfl _ _ 32 rfl w.heap.size 41 i0 (.agg #[.int .i64 0, .int .i64 0]) 2 Try.underlying32 hi hz0 hz1 .i64 .i64 _ _ N rfl rfl (by simp) (by simp) (by rw [hz2]; omega) (by unfold maxLen; omega) (Nat.le_refl _) ?_; intro wM hown hgrow)
  have hbM : Below w.heap.size w wM := (Below.refl _ _).grown hgrow (Nat.le_refl _) (fun k hk => by cases hk)
  have hlM := (World.ownsRow.lt (w := wM) hown w.heap.size rfl).2
  have hKM := Sp.made hown hlM
  clear hown hgrow
  go_wp2
  go_loopw [22] (fun i wr => ∃ k : Nat, k ≤ N ∧ i = .int .i64 k ∧ Sp wr w.heap.size N (fun j => if j < k then (stepAt os j, stepAt os j) else (0, 0)) ∧ Below w.heap.size w wr) (fun i _ => N - (intOf i).toNat)
  case atStart => exact ⟨0, Nat.zero_le _, rfl, hKM.congr (fun j _ => by simp), hbM⟩
  case round =>
    obtain ⟨k, hk, rfl, hSp, hb⟩ := hrel
    clear hKM hbM hlM
    by_cases hlt : k < N
    · have hSr := hS.below hb
      have d0 := hSp.c0 k hlt
      have d1 := hSp.c1 k hlt
      have f0 := hSp.froz (k * 2)
      have f1 := hSp.froz (k * 2 + 1)
      have hkI : (k : Int) < (N : Int) := by omega
      have hk0 : (0 : Int) ≤ (k : Int) := by omega
      obtain ⟨st, hst⟩ : ∃ st, st = stepAt os k := ⟨_, rfl⟩
      have HV : Hid (stepB os k = true → stepV os k = st) := fun h => by unfold stepV; rw [if_pos (of_decide_eq_true h), hst]
      have HW : Hid (stepB os k = false → st = -1) := fun h => by have h1 := of_decide_eq_false h; have := stepAt_bd os k; omega
      have HSp : Hid (Sp ((wr.setCell ⟨w.heap.size, k * 2, none⟩ (.int .i64 st)).setCell ⟨w.heap.size, k * 2 + 1, none⟩ (.int .i64 st)) w.heap.size N (fun j => if j < k + 1 then (stepAt os j, stepAt os j) else (0, 0))) := hSp.put k st st hlt (fun j hj => by
        by_cases e : k = j
        · subst e; rw [if_pos (by omega), if_pos rfl, hst]
        · rw [if_neg e]
          by_cases h : j < k
          · rw [if_pos h, if_pos (by omega)]
          · rw [if_neg h, if_neg (by omega)])
      have hb9 := (hb.setCell (p := ⟨w.heap.size, k * 2, none⟩) (Nat.le_refl _) (.int .i64 st)).setCell (p := ⟨w.heap.size, k * 2 + 1, none⟩) (Nat.le_refl _) (.int .i64 st)
      generalize hy : stepB os k = y at HV HW
      clear hst hSp
      cases y with
      | true =>
        have hv := HV.out rfl
        go_wp2_with (at_lookup; refine wpList_lookup_steps rfl _ rfl _ _ rfl hSr rfl rfl (by omega) ?_)
        go_roundw
        case rel => exact ⟨k + 1, by omega, by go_num, HSp.out, hb9⟩
        case measure => simp [intOf]; omega
      | false =>
        obtain rfl := HW.out rfl
        go_wp2_with (at_lookup; refine wpList_lookup_steps rfl _ rfl _ _ rfl hSr rfl rfl (by omega) ?_)
        go_roundw
        case rel => exact ⟨k + 1, by omega, by go_num, HSp.out, hb9⟩
        case measure => simp [intOf]; omega
    · have hke : k = N := by omega
      subst hke
      replace hSp : Sp wr w.heap.size k (fun j => (stepAt os j, ltk src os j (stepAt os j) 0)) := hSp.congr (fun j hj => by rw [if_pos hj]; rfl)
      go_wp2
      go_loopw [42] (fun i ws => ∃ n : Nat, n ≤ os.length ∧ i = .int .i64 n ∧ Sp ws w.heap.size k (fun j => (stepAt os j, ltk src os j (stepAt os j) n)) ∧ Below w.heap.size w ws) (fun i _ => os.length - (intOf i).toNat)
      case atStart => exact ⟨0, Nat.zero_le _, rfl, hSp, hb⟩
      case round =>
        obtain ⟨n, hn, rfl, hSn, hbn⟩ := hrel
        clear hSp hb
        by_cases hnl : n < os.length
        · obtain ⟨ob, oo, rfl, hox⟩ := (hI.below (Nat.le_refl _) hbn).nth hnl
          have hor := HOS.out _ (getD_mem hnl 0)
          have HL1 : Hid (∀ k d, ltk src os k d (n + 1) = if k ∈ src (os.getD n 0).toNat then (n : Int) else ltk src os k d n) := fun k d => HLT.out k d n
          generalize os.getD n 0 = p at hox hor HL1
          obtain ⟨q, rfl⟩ := Int.eq_ofNat_of_zero_le hor.1
          have hql : q < k := by omega
          have hqI : (q : Int) < (k : Int) := by omega
          rw [Int.toNat_natCast] at HL1
          obtain ⟨sb, so, ua, uc, rfl, hsb, qq, hUI⟩ := hL.nth hql
          rw [HSR.out q hql] at qq hUI
          obtain ⟨hl2, hin⟩ := HS2.out q hql
          generalize src q = sr at qq hUI hl2 hin HL1
          have q0 := (hbn.cell (p := ⟨sb, so + q, none⟩) hsb).trans qq
          have HIN : Hid (_) := hin
          clear hin
          go_wp2
          go_loopw [52] (fun i wt => ∃ t : Nat, t ≤ sr.length ∧ i = .int .i64 t ∧ Sp wt w.heap.size k (fun j => (stepAt os j, if (j : Int) ∈ sr.take t then (n : Int) else ltk src os j (stepAt os j) n)) ∧ Below w.heap.size w wt) (fun i _ => sr.length - (intOf i).toNat)
          case atStart => exact ⟨0, Nat.zero_le _, rfl, hSn.congr (fun j _ => by simp), hbn⟩
          case round =>
            obtain ⟨t, ht, rfl, hSt, hbt⟩ := hrel
            clear hSn q0
            by_cases htl : t < sr.length
            · obtain ⟨bu, ou, rfl, hcx⟩ := (hUI.below (Nat.le_refl _) hbt).nth htl
              have hr := HIN.out _ (getD_mem htl 0)
              have HM : Hid (∀ x, x ∈ sr.take (t + 1) ↔ x ∈ sr.take t ∨ sr.getD t 0 = x) := fun x => mem_take_succ htl x
              generalize sr.getD t 0 = m at hcx hr HM
              obtain ⟨z, rfl⟩ := Int.eq_ofNat_of_zero_le hr.1
              have hzl : z < k := by omega
              have hzI : (z : Int) < (k : Int) := by omega
              have d1 := hSt.c1 z hzl
              have f1 := hSt.froz (z * 2 + 1)
              have HS9 : Hid (Sp (wr.setCell ⟨w.heap.size, z * 2 + 1, none⟩ (.int .i64 n)) w.heap.size k (fun j => (stepAt os j, if (j : Int) ∈ sr.take (t + 1) then (n : Int) else ltk src os j (stepAt os j) n))) := hSt.putLast z n hzl (fun j hj => by
                by_cases e : z = j
                · subst e; rw [if_pos rfl, if_pos ((HM.out _).2 (.inr rfl))]
                · rw [if_neg e]
                  have hne : ¬ (z : Int) = (j : Int) := by omega
                  by_cases h : (j : Int) ∈ sr.take t
                  · rw [if_pos h, if_pos ((HM.out _).2 (.inl h))]
                  · rw [if_neg h, if_neg (fun h' => ((HM.out _).1 h').elim h hne)])
              have hb9 := hbt.setCell (p := ⟨w.heap.size, z * 2 + 1, none⟩) (Nat.le_refl _) (.int .i64 n)
              clear hSt
              go_wp2
              go_roundw
              case rel => exact ⟨t + 1, by omega, by go_num, HS9.out, hb9⟩
              case measure => simp [intOf]; omega
            · have hte : t = sr.length := by omega
              subst hte
              rw [List.take_length] at hSt
              go_wp2
              go_roundw
              case rel => exact ⟨n + 1, by omega, by go_num, hSt.congr (fun j _ => by rw [HL1.out]), hbt⟩
              case measure => simp [intOf]; omega
        · have hne : n = os.length := by omega
          subst hne
          have d1 := hSn.c1 la hla
          have f1 := hSn.froz (la * 2 + 1)
          have HS9 : Hid (Sp (wr.setCell ⟨w.heap.size, la * 2 + 1, none⟩ (.int .i64 ((os.length : Int) - 1))) w.heap.size k (spanQ src os la)) := hSn.putLast la _ hla (fun j hj => by
            unfold spanQ
            by_cases e : la = j
            · subst e; rw [if_pos rfl, if_pos rfl]
            · have hne : ¬ (j : Int) = (la : Int) := by omega
              rw [if_neg e, if_neg hne])
          have hb9 := hbn.setCell (p := ⟨w.heap.size, la * 2 + 1, none⟩) (Nat.le_refl _) (.int .i64 ((os.length : Int) - 1))
          clear hSn
          go_wp2
          go_ret
          exact ⟨⟨_, rfl, Nat.le_refl _, HS9.out⟩, hb9⟩
end Go.Proofs.Ytfpkiimlaepnhab
/-
  LIES: plan.liesOf.
-/
namespace Go.Proofs.Ytfpkiimlaepnhab
set_option maxRecDepth 100000
open Go.RowKit Im Go.Maps

def areaZ (z : Sz) : Int := z.1 * z.2
def lieQ (os pl : List Int) (zs : List Sz) (k : Nat) : Int × Int := if 0 ≤ stepAt os k then (pl.getD k 0, pl.getD k 0 + areaZ (zs.getD k Sz.zero) - 1) else (0, 0)
theorem stepAt_take {os : List Int} {n : Nat} (h : n < os.length) (k : Int) : 0 ≤ stepAt (os.take (n + 1)) k ↔ 0 ≤ stepAt (os.take n) k ∨ os.getD n 0 = k := by
  rw [stepAt_mem, stepAt_mem]; exact mem_take_succ h k
theorem Sp.drew {w : World} {b n : Nat} {g : Nat → Int × Int} (h : Sp w b n g) : Sp w.drew b n g := h.below (Below.refl w.heap.size w).drew h.lt (Nat.le_refl _)
theorem Sp.alloc {w : World} {b n : Nat} {g : Nat → Int × Int} (h : Sp w b n g) (o : Obj) : Sp (w.alloc o) b n g := h.below ((Below.refl w.heap.size w).alloc (Nat.le_refl _) o) h.lt (by simp)
theorem keepZ {w : World} {b off pb i : Nat} {x0 x1 y0 : Value} (hb : b < w.heap.size) (hp : pb < w.heap.size) (e0 : w.cell? ⟨b, off, none⟩ = some x0) (e1 : w.cell? ⟨b, off + 1, none⟩ = some x1) (p0 : w.cell? ⟨pb, i, none⟩ = some y0) (o : Obj) : (w.alloc o).cell? ⟨pb, i, none⟩ = some y0 ∧ (w.alloc o).cell? ⟨b, off, none⟩ = some x0 ∧ (w.alloc o).cell? ⟨b, off + 1, none⟩ = some x1 := by
  have h := (Below.refl w.heap.size w).alloc (Nat.le_refl _) o
  exact ⟨(h.cell (p := ⟨pb, i, none⟩) hp).trans p0, (h.cell (p := ⟨b, off, none⟩) hb).trans e0, (h.cell (p := ⟨b, off + 1, none⟩) hb).trans e1⟩
theorem Ints.nth' {base : Nat} {w : World} {a : Option Addr} {len : Nat} {ps : List Int} (h : Ints base w a len ps) {k : Nat} (hk : k < len) : ∃ b off, a = some ⟨b, off, none⟩ ∧ b < w.heap.size ∧ w.cell? ⟨b, off + k, none⟩ = some (.int .i64 (ps.getD k 0)) := by
  rcases h.cells with e | ⟨b, off, ha, _, hl, hc⟩
  · have := h.leng; subst e; simp at this; omega
  · exact ⟨b, off, ha, hl, hc k hk⟩
theorem area_bd {z : Sz} (h : ZB z) : 1 ≤ areaZ z ∧ areaZ z ≤ 256 := side_mul ((side_iff _).2 h.1) ((side_iff _).2 h.2)
set_option maxHeartbeats 4000000 in
theorem liesOf_any {N : Nat} (hN : N ≤ 12) {os pl : List Int} {zs : List Sz} (hos : ∀ o ∈ os, 0 ≤ o ∧ o < N) (hol : os.length ≤ 12) (hpl : ∀ k : Nat, (k : Int) ∈ os → 0 ≤ pl.getD k 0 ∧ pl.getD k 0 ≤ 4096) (hz : ∀ z ∈ zs, ZB z)
    {a : Option Addr} {len : Nat} (cap : Nat) {base : Nat} {pa : Option Addr} (pcap : Nat) {base' : Nat} {za : Option Addr} (zcap : Nat) {w : World} (hI : Ints base w a len os) (hP : Ints base' w pa N pl) (hZ : Zs w za N zs) :
    Calls Try.prog 75 #[.slice a len cap, .slice pa N pcap, .slice za N zcap] w (ToldSp w N (lieQ os pl zs)) := by
  obtain rfl := hI.leng
  obtain ⟨i0, hi, hz0, hz1, hz2⟩ := info_parts Try.infoSpan
  have HOS : Hid (_) := hos
  have HPL : Hid (_) := hpl
  have HZB : Hid (_) := hz
  clear hos hpl hz
  go_enter Try.func75, Try.ntmps75
  go_upto_region 2 with (at_make; refine wpList_make_full _ rfl _ _ 32 rfl w.heap.size 41 i0 (.agg #[.int .i64 0, .int .i64 0]) 2 Try.underlying32 hi hz0 hz1 .i64 .i64 _ _ N rfl rfl (by simp) (by simp) (by rw [hz2]; omega) (by unfold maxLen; omega) (Nat.le_refl _) ?_; intro wM hown hgrow)
  have hbM : Below w.heap.size w wM := (Below.refl _ _).grown hgrow (Nat.le_refl _) (fun k hk => by cases hk)
  have hlM := (World.ownsRow.lt (w := wM) hown w.heap.size rfl).2
  have hKM := Sp.made hown hlM
  clear hown hgrow
  go_wp2
  go_loopw [17] (fun i wr => ∃ n : Nat, n ≤ os.length ∧ i = .int .i64 n ∧ Sp wr w.heap.size N (fun j => if 0 ≤ stepAt (os.take n) j then (pl.getD j 0, pl.getD j 0 + areaZ (zs.getD j Sz.zero) - 1) else (0, 0)) ∧ Below w.heap.size w wr) (fun i _ => os.length - (intOf i).toNat)
  case atStart => exact ⟨0, Nat.zero_le _, rfl, hKM.congr (fun j _ => by simp [stepAt]), hbM⟩
  case round =>
    obtain ⟨n, hn, rfl, hSp, hb⟩ := hrel
    clear hKM hbM hlM
    by_cases hlt : n < os.length
    · obtain ⟨ob, oo, rfl, hox⟩ := (hI.below (Nat.le_refl _) hb).nth hlt
      have hor := HOS.out _ (getD_mem hlt 0)
      have hom := getD_mem (l := os) hlt 0
      have HST : Hid (∀ k, 0 ≤ stepAt (os.take (n + 1)) k ↔ 0 ≤ stepAt (os.take n) k ∨ os.getD n 0 = k) := fun k => stepAt_take hlt k
      generalize os.getD n 0 = p at hox hor hom HST
      obtain ⟨q, rfl⟩ := Int.eq_ofNat_of_zero_le hor.1
      have hql : q < N := by omega
      have hqI : (q : Int) < (N : Int) := by omega
      have hpb := HPL.out q hom
      obtain ⟨pb, po, rfl, hpl, hpx⟩ := (hP.below (Nat.le_refl _) hb).nth' hql
      obtain ⟨zb, zo, rfl, hzl, z0, z1⟩ := (hZ.below hb).nth hql
      have hzb := HZB.out _ (getD_mem (l := zs) (k := q) (by rw [hZ.leng]; exact hql) Sz.zero)
      have hab := area_bd hzb
      obtain ⟨x0, d0⟩ : ∃ v, wr.cell? ⟨w.heap.size, q * 2, none⟩ = some v := ⟨_, hSp.c0 q hql⟩
      obtain ⟨x1, d1⟩ : ∃ v, wr.cell? ⟨w.heap.size, q * 2 + 1, none⟩ = some v := ⟨_, hSp.c1 q hql⟩
      have f0 := hSp.froz (q * 2)
      have f1 := hSp.froz (q * 2 + 1)
      have HS9 : Hid (Sp ((wr.setCell ⟨w.heap.size, q * 2, none⟩ (.int .i64 (pl.getD q 0))).setCell ⟨w.heap.size, q * 2 + 1, none⟩ (.int .i64 (pl.getD q 0 + areaZ (zs.getD q Sz.zero) - 1))) w.heap.size N (fun j => if 0 ≤ stepAt (os.take (n + 1)) j then (pl.getD j 0, pl.getD j 0 + areaZ (zs.getD j Sz.zero) - 1) else (0, 0))) := hSp.put q _ _ hql (fun j hj => by
        by_cases e : q = j
        · subst e; rw [if_pos rfl, if_pos ((HST.out _).2 (.inr rfl))]
        · rw [if_neg e]
          have hne : ¬ (q : Int) = (j : Int) := by omega
          by_cases h : 0 ≤ stepAt (os.take n) j
          · rw [if_pos h, if_pos ((HST.out _).2 (.inl h))]
          · rw [if_neg h, if_neg (fun h' => ((HST.out _).1 h').elim h hne)])
      have hb9 := (hb.setCell (p := ⟨w.heap.size, q * 2, none⟩) (Nat.le_refl _) (.int .i64 (pl.getD q 0))).setCell (p := ⟨w.heap.size, q * 2 + 1, none⟩) (Nat.le_refl _) (.int .i64 (pl.getD q 0 + areaZ (zs.getD q Sz.zero) - 1))
      have hsl := hSp.lt
      clear hSp
      generalize pl.getD q 0 = P at hpx hpb HS9 hb9
      unfold areaZ at hab HS9 hb9
      generalize zs.getD q Sz.zero = z at z0 z1 hzb hab HS9 hb9
      obtain ⟨zw, zh⟩ := z
      obtain ⟨⟨hw1, hw2⟩, hh1, hh2⟩ := hzb
      dsimp only at z0 z1 hab HS9 hb9 hw1 hw2 hh1 hh2
      have hk9 := keepZ hzl hpl z0 z1 hpx
      have hw1 : IntKind.i64.wrap (zw * zh) = zw * zh := by rw [IntKind.wrap_i64]; omega
      have hw2 : IntKind.i64.wrap (P + zw * zh) = P + zw * zh := by rw [IntKind.wrap_i64]; omega
      have hw3 : IntKind.i64.wrap (P + zw * zh - 1) = P + zw * zh - 1 := by rw [IntKind.wrap_i64]; omega
      go_wp2
      go_region_held3 (fun w' => w'.cell? ⟨pb, po + q, none⟩ = some (.int .i64 P) ∧ w'.cell? ⟨zb, zo + q * 2, none⟩ = some (.int .i64 zw) ∧ w'.cell? ⟨zb, zo + q * 2 + 1, none⟩ = some (.int .i64 zh))
        (first | exact ⟨hpx, z0, z1⟩ | exact hk9 _)
        (fail)
      go_wp2
      go_roundw
      case rel => exact ⟨n + 1, by omega, by go_num, (HS9.out.alloc _).drew, (below_box hb9 _).drew⟩
      case measure => simp [intOf]; omega
    · have hne : n = os.length := by omega
      subst hne
      rw [List.take_length] at hSp
      go_wp2
      go_ret
      exact ⟨⟨_, rfl, Nat.le_refl _, hSp⟩, hb⟩
end Go.Proofs.Ytfpkiimlaepnhab
