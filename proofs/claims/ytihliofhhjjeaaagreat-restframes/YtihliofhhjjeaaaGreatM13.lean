/- SourcesRef, Render, KeptRef: joined, in this order. -/
import Derived.Test.YtihliofhhjjeaaaGreatM12
import Derived.Deep.CutRange
set_option maxRecDepth 100000
namespace Go.Proofs.YtihliofhhjjeaaaGreat
open Go.RowKit Im
theorem ll_push {base : Nat} {wr w3 : World} {v2 v' u : Value} {ss : List (List Int)} {is : List Int} {us : List Value} (hu : Owns base wr u is) (hg : wr.grownBy w3 v2.ownBlock) (hus : wr.ownsRow base 25 1 v2 ss.length us) (hul : us.length = ss.length)
    (hue : ∀ (j : Nat) (x : List Int), ss[j]? = some x → ∃ u, us[j]? = some u ∧ Owns base wr u x) (h' : w3.ownsRow base 25 1 v' (ss.length + 1) (us ++ [u])) : OwnsLL base w3 v' (ss ++ [is]) := by
  have keep : ∀ {u : Value} {is : List Int}, Owns base wr u is → Owns base w3 u is := fun ho => World.ownsRow.kept ho hg (rows_apart ho hus (by decide))
  refine ⟨us ++ [u], by simpa using h', by simp [hul], fun j x hj => ?_⟩
  by_cases hjl : j < ss.length
  · rw [List.getElem?_append_left hjl] at hj
    obtain ⟨u', hu', ho'⟩ := hue j x hj
    exact ⟨u', by rw [List.getElem?_append_left (by omega)]; exact hu', keep ho'⟩
  · have hje : j = ss.length := by
      rcases Nat.lt_or_ge j (ss ++ [is]).length with hh | hh
      · simp at hh; omega
      · rw [List.getElem?_eq_none hh] at hj; cases hj
    subst hje
    have : x = is := by simpa using hj.symm
    subst this
    exact ⟨u, by rw [← hul]; simp, keep hu⟩
def ToldLL (w : World) (ss : List (List Int)) (e : Ending) (w' : World) : Prop :=
  (∃ v, e = .returned v ∧ OwnsLL w.heap.size w' v ss) ∧ Below w.heap.size w w'
set_option maxHeartbeats 4000000 in
theorem sourcesOfRef_any (W H S O : Int) (a : Option Addr) (len cap : Nat) (ps : List Ps) (w : World) (hp : Passes w a len ps) (hlen : len ≤ 12) :
    Calls Tryz.prog 75 #[.agg #[.int .i64 W, .int .i64 H, .int .i64 S, .int .i64 O, .slice a len cap]] w (ToldLL w (srcs ps len)) := by
  obtain ⟨i0, hi, hz0, hz1, hz2⟩ := info_parts Tryz.info3
  obtain ⟨l0, li, lz0, lz1, lz2⟩ := info_parts Tryz.infoInts
  have hB := FBox.new w W H S O a len cap
  have hb0 := below_box (Below.refl w.heap.size w) (.cells #[.int .i64 W, .int .i64 H, .int .i64 S, .int .i64 O, .slice a len cap] 24)
  have hp1 := hp.below hb0
  have hs1 : (w.alloc (.cells #[.int .i64 W, .int .i64 H, .int .i64 S, .int .i64 O, .slice a len cap] 24)).heap.size = w.heap.size + 1 := by simp
  clear hp
  go_enter Tryz.func75, Tryz.ntmps75
  go_wp2
  generalize w.alloc (.cells #[.int .i64 W, .int .i64 H, .int .i64 S, .int .i64 O, .slice a len cap] 24) = w1 at hB hb0 hp1 hs1 ⊢
  go_loopw [3, 4] (fun v i wr => ∃ k : Nat, k ≤ len ∧ i = .int .i64 k ∧ OwnsLL w1.heap.size wr v (srcs ps k) ∧ Below w1.heap.size w1 wr) (fun _ i _ => len - (intOf i).toNat)
  case atStart => exact ⟨0, Nat.zero_le _, rfl, OwnsLL.nil _ _, Below.refl _ _⟩
  case round =>
    obtain ⟨k, hk, rfl, hown, hbr⟩ := hrel
    have hBr := hB.below hbr
    have hpr := hp1.below hbr
    by_cases hlt : k < len
    · have H7 : Hid (srcOf ps k = (takesP (ps.getD k Ps.zero)).map (wrt ps k)) := rfl
      have H8 : Hid (srcs ps (k + 1) = srcs ps k ++ [srcOf ps k]) := srcs_succ ps k
      have H13 : Hid ((srcs ps k).length = k) := srcs_length _ _
      have hwr := fun (s : Int) wx (hx : Passes wx a len ps) => writer_any W H S O a len cap ps k s wx hx (by omega)
      generalize wrt ps k = q at hwr H7
      generalize srcs ps k = ss at hown H8 H13
      generalize srcOf ps k = sr at H7 H8
      obtain ⟨b, off, la, ll, lc, rfl, p0, p1, p2, p3, p4, p5, hLi⟩ := hpr.nth hlt
      generalize ps.getD k Ps.zero = p at p0 p1 p2 p3 p4 p5 hLi H7
      obtain ⟨Op, To, A, B, K, ls⟩ := p
      dsimp only at p0 p1 p2 p3 p4 p5 hLi
      have hh := fun wx => has_any Op wx
      have hab : hasB Op = true → hasA Op = true := by simp [hasA, hasB, withinB]; omega
      have hBp := hBr.alloc (.cells #[.int .i64 Op, .int .i64 To, .int .i64 A, .int .i64 B, .int .i64 K, .slice la ll lc] 62)
      have hPp := PBox.new wr Op To A B K la ll lc
      have hpp := hpr.below ((Below.refl _ _).alloc (Nat.le_refl _) (.cells #[.int .i64 Op, .int .i64 To, .int .i64 A, .int .i64 B, .int .i64 K, .slice la ll lc] 62))
      have hbp := hbr.alloc hbr.size (.cells #[.int .i64 Op, .int .i64 To, .int .i64 A, .int .i64 B, .int .i64 K, .slice la ll lc] 62)
      have howp := hown.below ((Below.refl _ _).alloc (Nat.le_refl _) (.cells #[.int .i64 Op, .int .i64 To, .int .i64 A, .int .i64 B, .int .i64 K, .slice la ll lc] 62))
      obtain ⟨_, g0, g1, g2, g3, g4⟩ := id hBr
      unfold takesP at H7
      dsimp only at H7
      generalize hasA Op = xa at hh H7 hab
      generalize hasB Op = xb at hh H7 hab
      generalize hasK Op = xk at hh
      generalize hasL Op = xl at hh
      go_upto_region 8 with (go_at_call 78; refine (hh _).mono ?_; rintro e w' ⟨rfl, rfl⟩)
      clear g0 g1 g2 g3 g4 p0 p1 p2 p3 p4 p5 hh hBr hpr hown hbr hLi
      generalize wr.alloc (.cells #[.int .i64 Op, .int .i64 To, .int .i64 A, .int .i64 B, .int .i64 K, .slice la ll lc] 62) = wA at hBp hPp hpp hbp howp ⊢
      cases xa
      · have hxb : xb = false := by cases xb; · rfl
                                    · exact absurd (hab rfl) (by decide)
        subst hxb
        have H7' : Hid (sr = []) := H7
        go_upto_region 12 with fail
        have hsr := H7'.out
        subst hsr
        have hfX := (howp).below ((Below.refl _ wA).alloc (Nat.le_refl _) (.cells #[.slice none 0 0] 25))
        have huX := World.ownsRow.alloc (World.ownsRow_nil wA w1.heap.size 3 1) (.cells #[.slice none 0 0] 25)
        have hbX : Below w1.heap.size w1 wA := hbp
        have hsX := hbX.size
        obtain ⟨us, hus, hul, hue⟩ := hfX
        go_wp2_with (at_builtin; refine wpList_append_own _ rfl _ _ 63 rfl w1.heap.size 25 l0 _ 1 24 Tryz.underlying63 li lz0 lz1 lz2 rfl (by decide) _ _ _ rfl hus ⟨wA.heap.size, 0, none⟩ 1 1 [.slice none 0 0] rfl rfl (cell_one_new _ _ _) (by intro u hu; simp at hu; subst hu; rfl) (by rw [H13.out]; unfold maxLen; omega) (by rw [H13.out]; omega) (by simp; omega) ?_; intro vY wY hownY hgrowY _)
        have RR := ll_push (is := []) (show Owns w1.heap.size _ _ [] from huX) hgrowY hus hul hue hownY
        have hbY := (hbX.alloc hsX (.cells #[.slice none 0 0] 25)).grown hgrowY (by simp; omega) (fun j hj => (World.ownsRow.lt hus j hj).1)
        go_roundw
        case rel => exact ⟨k + 1, by omega, by go_num, by rw [H8.out]; exact RR, hbY⟩
        case measure => simp [intOf]; omega
      · obtain ⟨_, g0, g1, g2, g3, g4⟩ := id hBp
        obtain ⟨_, p0, p1, p2, p3, p4, p5⟩ := id hPp
        go_upto_region 10 with (first
          | (go_at_call 77; refine (hwr _ _ hpp).mono ?_; rintro e wB ⟨rfl, bB⟩)
          | (at_builtin; refine wpList_append_own _ rfl _ _ 25 rfl wB.heap.size 3 i0 (.int .i64 0) 1 8 Tryz.underlying25 hi hz0 hz1 hz2 rfl (by decide) _ _ _ rfl (World.ownsRow_nil _ _ _ _) ⟨wB.heap.size, 0, none⟩ 1 1 [.int .i64 (q A)] rfl rfl (cell_one_new _ _ _) (by intro u hu; simp at hu; subst hu; rfl) (by unfold maxLen; omega) (by omega) (by simp; try omega) ?_; intro vC wC hownC hgrowC _; obtain ⟨aC, capC, hvC⟩ := owns_slice hownC; subst hvC))
        have bC : Below wB.heap.size wB wC := ((Below.refl _ wB).alloc (Nat.le_refl _) _).grown hgrowC (by simp) (fun j hj => by cases hj)
        clear g0 g1 g2 g3 g4 p0 p1 p2 p3 p4 p5 hgrowC
        have bAC := below_step bB bC
        have hsz : w1.heap.size ≤ wB.heap.size := Nat.le_trans hbp.size bB.size
        have howC := (howp.below bB).below bC
        cases xb
        · have H7' : Hid (sr = [q A]) := H7
          go_upto_region 12 with fail
          have hsr := H7'.out
          subst hsr
          have hfX := (howC).below ((Below.refl _ wC).alloc (Nat.le_refl _) (.cells #[.slice aC (0 + 1) capC] 25))
          have huX := World.ownsRow.alloc (row_mono hownC hsz) (.cells #[.slice aC (0 + 1) capC] 25)
          have hbX : Below w1.heap.size w1 wC := hbp.trans (bAC.mono hbp.size)
          have hsX := hbX.size
          obtain ⟨us, hus, hul, hue⟩ := hfX
          go_wp2_with (at_builtin; refine wpList_append_own _ rfl _ _ 63 rfl w1.heap.size 25 l0 _ 1 24 Tryz.underlying63 li lz0 lz1 lz2 rfl (by decide) _ _ _ rfl hus ⟨wC.heap.size, 0, none⟩ 1 1 [.slice aC (0 + 1) capC] rfl rfl (cell_one_new _ _ _) (by intro u hu; simp at hu; subst hu; rfl) (by rw [H13.out]; unfold maxLen; omega) (by rw [H13.out]; omega) (by simp; omega) ?_; intro vY wY hownY hgrowY _)
          have RR := ll_push (is := [q A]) (show Owns w1.heap.size _ _ [q A] from huX) hgrowY hus hul hue hownY
          have hbY := (hbX.alloc hsX (.cells #[.slice aC (0 + 1) capC] 25)).grown hgrowY (by simp; omega) (fun j hj => (World.ownsRow.lt hus j hj).1)
          go_roundw
          case rel => exact ⟨k + 1, by omega, by go_num, by rw [H8.out]; exact RR, hbY⟩
          case measure => simp [intOf]; omega
        · have H7' : Hid (sr = [q A, q B]) := H7
          obtain ⟨_, g0, g1, g2, g3, g4⟩ := hBp.below bAC
          obtain ⟨_, p0, p1, p2, p3, p4, p5⟩ := hPp.below bAC
          have hpC := hpp.below bAC
          go_upto_region 12 with (first
            | (go_at_call 77; refine (hwr _ _ hpC).mono ?_; rintro e wD ⟨rfl, bD⟩)
            | (at_builtin; refine wpList_append_own _ rfl _ _ 25 rfl wB.heap.size 3 i0 (.int .i64 0) 1 8 Tryz.underlying25 hi hz0 hz1 hz2 rfl (by decide) _ _ _ rfl (World.ownsRow.alloc (ownsRow_below hownC bD (Nat.le_refl _)) _) ⟨wD.heap.size, 0, none⟩ 1 1 [.int .i64 (q B)] rfl rfl (cell_one_new _ _ _) (by intro u hu; simp at hu; subst hu; rfl) (by unfold maxLen; omega) (by omega) (by have h1 := bC.size; have h2 := bD.size; simp; omega) ?_; intro vE wE hownE hgrowE _; obtain ⟨aE, capE, hvE⟩ := owns_slice hownE; subst hvE))
          have bE : Below wB.heap.size wB wE := ((bC.trans (bD.mono bC.size)).alloc (Nat.le_trans bC.size bD.size) _).grown hgrowE (by have h1 := bC.size; have h2 := bD.size; simp; omega) (fun j hj => (World.ownsRow.lt (w := wC) hownC j hj).1)
          clear g0 g1 g2 g3 g4 p0 p1 p2 p3 p4 p5 hgrowE
          have hsr := H7'.out
          subst hsr
          have hfX := (((howp.below bB).below bE)).below ((Below.refl _ wE).alloc (Nat.le_refl _) (.cells #[.slice aE (0 + 1 + 1) capE] 25))
          have huX := World.ownsRow.alloc (row_mono hownE hsz) (.cells #[.slice aE (0 + 1 + 1) capE] 25)
          have hbX : Below w1.heap.size w1 wE := hbp.trans ((below_step bB bE).mono hbp.size)
          have hsX := hbX.size
          obtain ⟨us, hus, hul, hue⟩ := hfX
          go_wp2_with (at_builtin; refine wpList_append_own _ rfl _ _ 63 rfl w1.heap.size 25 l0 _ 1 24 Tryz.underlying63 li lz0 lz1 lz2 rfl (by decide) _ _ _ rfl hus ⟨wE.heap.size, 0, none⟩ 1 1 [.slice aE (0 + 1 + 1) capE] rfl rfl (cell_one_new _ _ _) (by intro u hu; simp at hu; subst hu; rfl) (by rw [H13.out]; unfold maxLen; omega) (by rw [H13.out]; omega) (by simp; omega) ?_; intro vY wY hownY hgrowY _)
          have RR := ll_push (is := [q A, q B]) (show Owns w1.heap.size _ _ [q A, q B] from huX) hgrowY hus hul hue hownY
          have hbY := (hbX.alloc hsX (.cells #[.slice aE (0 + 1 + 1) capE] 25)).grown hgrowY (by simp; omega) (fun j hj => (World.ownsRow.lt hus j hj).1)
          go_roundw
          case rel => exact ⟨k + 1, by omega, by go_num, by rw [H8.out]; exact RR, hbY⟩
          case measure => simp [intOf]; omega
    · have hke : k = len := by omega
      subst hke
      obtain ⟨a2, c2, rfl⟩ : ∃ a cap, _ = Value.slice a (srcs ps k).length cap := by obtain ⟨us, h1, _⟩ := id hown; exact owns_slice h1
      obtain ⟨_, g0, g1, g2, g3, g4⟩ := id hBr
      go_wp2
      go_ret
      exact ⟨⟨_, rfl, hown.mono hb0.size⟩, below_step hb0 hbr⟩
end Go.Proofs.YtihliofhhjjeaaaGreat
namespace Go.Proofs.YtihliofhhjjeaaaGreat
open Go.RowKit Im
def renderP (f : Fr) : Res := if frameE f = 0 then (pics f f.ps.length).getD (shownP f).toNat (noRes 0) else noRes (frameE f)
set_option maxHeartbeats 1000000 in
theorem render_err (W H S O : Int) (a : Option Addr) (len cap : Nat) (ps : List Ps) (w : World) (hp : Passes w a len ps) (hE : frameE ⟨W, H, S, O, ps⟩ ≠ 0) :
    Calls Tryz.prog 9 #[.agg #[.int .i64 W, .int .i64 H, .int .i64 S, .int .i64 O, .slice a len cap]] w (Told w (noRes (frameE ⟨W, H, S, O, ps⟩))) := by
  have hb0 := below_box (below_box (Below.refl w.heap.size w) (.cells #[.int .i64 W, .int .i64 H, .int .i64 S, .int .i64 O, .slice a len cap] 24)) (.cells #[.int .i64 0, .int .i64 0, .slice none 0 0] 31)
  have hfo := follow_any W H S O a len cap ps _ (hp.below hb0)
  have hbox := IBox.new (w.alloc (.cells #[.int .i64 W, .int .i64 H, .int .i64 S, .int .i64 O, .slice a len cap] 24))
  rw [World.size_alloc] at hbox
  go_enter Tryz.func9, Tryz.ntmps9
  go_wp2_with fail
  refine hfo.mono ?_
  clear hfo
  rintro e w1 (⟨h0, _⟩ | ⟨_, rfl, b1⟩)
  · exact absurd h0 hE
  · have hbox1 := (hbox.below b1 hbox.lt b1.size)
    have hbox2 := hbox1.below ((Below.refl w1.heap.size w1).alloc (Nat.le_refl _) (.cells #[.slice none 0 0, .slice none 0 0, .int .i64 0] 82)) hbox1.lt (by simp)
    obtain ⟨_, c0, c1, c2, f0, f1, f2⟩ := hbox2
    have hb2 := below_box (below_step hb0 b1) (.cells #[.slice none 0 0, .slice none 0 0, .int .i64 0] 82)
    clear hbox hbox1 hb0 b1
    go_wp2
    refine bodyPost_ret (v := .tuple #[noImage, .int .i64 (frameE ⟨W, H, S, O, ps⟩)]) (by simp [results, Tryz.results9, go_sem, c0, c1, c2]) rfl ?_
    exact told_no ⟨rfl, ((hb2.setCell (by simp) _).setCell (by simp) _).setCell (by simp) _⟩
def Made9 (wP : World) (r : Res) (s9 s10 : Value) (wx : World) : Prop :=
  s10 = .int .i64 r.E ∧ ∃ b ra rc, s9 = .pointer (some ⟨b, 0, none⟩) ∧ wx.cell? ⟨b, 0, none⟩ = some (.int .i64 r.W) ∧ wx.cell? ⟨b, 1, none⟩ = some (.int .i64 r.H) ∧ wx.cell? ⟨b, 2, none⟩ = some (.slice ra r.ps.length rc) ∧ Ints wP.heap.size wx ra r.ps.length r.ps ∧ Below wP.heap.size wP wx
theorem getD_over {α : Type} (l : List α) (d : α) {k : Nat} (h : l.length ≤ k) : l.getD k d = d := by
  rw [List.getD_eq_getElem?_getD, List.getElem?_eq_none h]; rfl
theorem pics_next (f : Fr) (k j : Nat) : (pics f (k + 1)).getD j (noRes 0) = if k = j then paintRes (f.ps.getD k Ps.zero) (sizeN f k) (pickR (pics f k) (srcOf f.ps k)) else (pics f k).getD j (noRes 0) := by
  have e1 : pics f (k + 1) = pics f k ++ [paintRes (f.ps.getD k Ps.zero) (sizeN f k) (pickR (pics f k) (srcOf f.ps k))] := rfl
  have l1 := pics_length f k
  rw [e1]
  rcases Nat.lt_trichotomy j k with h | h | h
  · rw [getD_left _ _ _ (by omega), if_neg (by omega)]
  · rw [getD_last _ _ _ (by omega), if_pos h.symm]
  · rw [if_neg (by omega), getD_over _ _ (by simp; omega), getD_over _ _ (by omega)]
theorem szs_at (f : Fr) {n k : Nat} (h : k < n) : (szs f n).getD k Sz.zero = sizeN f k := by
  induction n with
  | zero => omega
  | succ n ih =>
    have e : szs f (n + 1) = szs f n ++ [sizeN f n] := rfl
    have l := szs_length f n
    rw [e]
    by_cases hk : k < n
    · rw [getD_left _ _ _ (by omega), ih hk]
    · have : k = n := by omega
      subst this
      rw [getD_last _ _ _ (by omega)]
theorem srcs_at (ps : List Ps) {n k : Nat} (h : k < n) : (srcs ps n).getD k [] = srcOf ps k := by
  unfold srcs
  simp [List.getD_eq_getElem?_getD, h]
theorem keepM {wP w' : World} {bp bc zb zo sb so : Nat} {x0 x1 x2 x3 x4 x5 y0 y1 z0 z1 s0 : Value} (hb : Below wP.heap.size wP w') (h1 : bp < wP.heap.size) (h2 : bc < wP.heap.size) (h3 : zb < wP.heap.size) (h4 : sb < wP.heap.size)
    (p0 : wP.cell? ⟨bp, 0, none⟩ = some x0) (p1 : wP.cell? ⟨bp, 1, none⟩ = some x1) (p2 : wP.cell? ⟨bp, 2, none⟩ = some x2) (p3 : wP.cell? ⟨bp, 3, none⟩ = some x3) (p4 : wP.cell? ⟨bp, 4, none⟩ = some x4) (p5 : wP.cell? ⟨bp, 5, none⟩ = some x5) (c0 : wP.cell? ⟨bc, 0, none⟩ = some y0) (c1 : wP.cell? ⟨bc, 1, none⟩ = some y1) (d0 : wP.cell? ⟨zb, zo, none⟩ = some z0) (d1 : wP.cell? ⟨zb, zo + 1, none⟩ = some z1) (e0 : wP.cell? ⟨sb, so, none⟩ = some s0) :
    Below wP.heap.size wP w' ∧ w'.cell? ⟨bp, 0, none⟩ = some x0 ∧ w'.cell? ⟨bp, 1, none⟩ = some x1 ∧ w'.cell? ⟨bp, 2, none⟩ = some x2 ∧ w'.cell? ⟨bp, 3, none⟩ = some x3 ∧ w'.cell? ⟨bp, 4, none⟩ = some x4 ∧ w'.cell? ⟨bp, 5, none⟩ = some x5 ∧ w'.cell? ⟨bc, 0, none⟩ = some y0 ∧ w'.cell? ⟨bc, 1, none⟩ = some y1 ∧ w'.cell? ⟨zb, zo, none⟩ = some z0 ∧ w'.cell? ⟨zb, zo + 1, none⟩ = some z1 ∧ w'.cell? ⟨sb, so, none⟩ = some s0 :=
  ⟨hb, (hb.cell (p := ⟨bp, 0, none⟩) h1).trans p0, (hb.cell (p := ⟨bp, 1, none⟩) h1).trans p1, (hb.cell (p := ⟨bp, 2, none⟩) h1).trans p2, (hb.cell (p := ⟨bp, 3, none⟩) h1).trans p3, (hb.cell (p := ⟨bp, 4, none⟩) h1).trans p4, (hb.cell (p := ⟨bp, 5, none⟩) h1).trans p5, (hb.cell (p := ⟨bc, 0, none⟩) h2).trans c0, (hb.cell (p := ⟨bc, 1, none⟩) h2).trans c1, (hb.cell (p := ⟨zb, zo, none⟩) h3).trans d0, (hb.cell (p := ⟨zb, zo + 1, none⟩) h3).trans d1, (hb.cell (p := ⟨sb, so, none⟩) h4).trans e0⟩
set_option maxHeartbeats 4000000 in
theorem render_ok (W H S O : Int) (a : Option Addr) (len cap : Nat) (ps : List Ps) (w : World) (hp : Passes w a len ps) (hE : frameE ⟨W, H, S, O, ps⟩ = 0) :
    Calls Tryz.prog 9 #[.agg #[.int .i64 W, .int .i64 H, .int .i64 S, .int .i64 O, .slice a len cap]] w (Told w ((pics ⟨W, H, S, O, ps⟩ ps.length).getD (shownP ⟨W, H, S, O, ps⟩).toNat (noRes 0))) := by
  obtain rfl := hp.leng
  obtain ⟨hbnd, hfirst, hsh⟩ := frameE_zero hE
  dsimp only at hfirst
  obtain ⟨_, _, _, _, hL⟩ := boundsE_zero hbnd
  dsimp only at hL
  have hb0 := below_box (below_box (Below.refl w.heap.size w) (.cells #[.int .i64 W, .int .i64 H, .int .i64 S, .int .i64 O, .slice a ps.length cap] 24)) (.cells #[.int .i64 0, .int .i64 0, .slice none 0 0] 31)
  have hfo := follow_any W H S O a ps.length cap ps _ (hp.below hb0)
  have hbox := IBox.new (w.alloc (.cells #[.int .i64 W, .int .i64 H, .int .i64 S, .int .i64 O, .slice a ps.length cap] 24))
  have hB := (FBox.new w W H S O a ps.length cap).alloc (.cells #[.int .i64 0, .int .i64 0, .slice none 0 0] 31)
  rw [World.size_alloc] at hbox
  obtain ⟨i0, hi, hz0, hz1, hz2⟩ := info_parts Tryz.infoImage
  have hs2 : ∀ x ∈ srcs ps ps.length, x.length ≤ 2 := by
    intro x hx
    unfold srcs at hx
    rw [List.mem_map] at hx
    obtain ⟨n, _, rfl⟩ := hx
    unfold srcOf
    rw [List.length_map]
    exact takesP_len _
  go_enter Tryz.func9, Tryz.ntmps9
  go_wp2_with fail
  refine hfo.mono ?_
  clear hfo
  rintro e w1 (⟨_, ⟨v1, v2, rfl, hZ, hLL⟩, b1⟩ | ⟨h0, _⟩)
  · obtain ⟨za, zcap, rfl, hZs⟩ := hZ.zs (by rw [szs_length]; exact hL.2)
    obtain ⟨sa, scap, rfl, hSs⟩ := hLL.lls hs2
    rw [szs_length] at hZs ⊢
    rw [srcs_length] at hSs ⊢
    dsimp only at hZs hSs ⊢
    obtain ⟨N, hN⟩ := Int.eq_ofNat_of_zero_le hsh
    have HN : Hid (shownP ⟨W, H, S, O, ps⟩ = N) := hN
    rw [hN]
    have hbC := (Below.refl w1.heap.size w1).alloc (Nat.le_refl _) (.cells #[.slice za ps.length zcap, .slice sa ps.length scap, .int .i64 (N : Int)] 82)
    have hbox4 := (hbox.below b1 hbox.lt b1.size).below hbC (Nat.lt_of_lt_of_le hbox.lt b1.size) hbC.size
    have hB4 := (hB.below b1).alloc (.cells #[.slice za ps.length zcap, .slice sa ps.length scap, .int .i64 (N : Int)] 82)
    have hZ4 := hZs.below hbC
    have hS4 := hSs.below hbC
    have hb4 := below_box (below_step hb0 b1) (.cells #[.slice za ps.length zcap, .slice sa ps.length scap, .int .i64 (N : Int)] 82)
    have cc0 : (w1.alloc (.cells #[.slice za ps.length zcap, .slice sa ps.length scap, .int .i64 (N : Int)] 82)).cell? ⟨w1.heap.size, 0, none⟩ = some (.slice za ps.length zcap) := by simp [go_sem]
    have cc1 : (w1.alloc (.cells #[.slice za ps.length zcap, .slice sa ps.length scap, .int .i64 (N : Int)] 82)).cell? ⟨w1.heap.size, 1, none⟩ = some (.slice sa ps.length scap) := by simp [go_sem]
    have cc2 : (w1.alloc (.cells #[.slice za ps.length zcap, .slice sa ps.length scap, .int .i64 (N : Int)] 82)).cell? ⟨w1.heap.size, 2, none⟩ = some (.int .i64 (N : Int)) := by simp [go_sem]
    have hsz1 : w1.heap.size < (w1.alloc (.cells #[.slice za ps.length zcap, .slice sa ps.length scap, .int .i64 (N : Int)] 82)).heap.size := by simp
    have hp4 := hp.below hb4
    clear hbox hB hZs hSs hb0 hbC b1 hZ hLL
    have hNl : N < ps.length := by have := (wrt_bd ps ps.length O).2; have e : shownP ⟨W, H, S, O, ps⟩ = wrt ps ps.length O := rfl; omega
    clear hsh hN
    go_upto_region 2 with fail
    generalize w1.alloc (.cells #[.slice za ps.length zcap, .slice sa ps.length scap, .int .i64 (N : Int)] 82) = w4 at *
    have g4 := hB4.c4
    go_upto_region 5 with (at_make; refine wpList_make_full _ rfl _ _ 85 rfl w4.heap.size 31 i0 (.agg #[.int .i64 0, .int .i64 0, .slice none 0 0]) 3 Tryz.underlying85 hi hz0 hz1 .i64 .i64 _ _ ps.length rfl rfl (by simp) (by simp) (by rw [hz2]; omega) (by unfold maxLen; omega) (Nat.le_refl _) ?_; intro wM hown hgrow)
    have hbM : Below w4.heap.size w4 wM := (Below.refl _ _).grown hgrow (Nat.le_refl _) (fun k hk => by cases hk)
    have hlM := (World.ownsRow.lt (w := wM) hown w4.heap.size rfl).2
    have hIM := ImB.made hown hlM
    clear hown hgrow g4
    have g4 := (hB4.below hbM).c4
    go_wp2
    clear g4
    go_loopw [27] (fun i wr => ∃ k : Nat, k ≤ ps.length ∧ i = .int .i64 k ∧ ImB wr w4.heap.size ps.length (fun j => (pics ⟨W, H, S, O, ps⟩ k).getD j (noRes 0)) ∧ Below w4.heap.size w4 wr) (fun i _ => ps.length - (intOf i).toNat)
    case atStart => exact ⟨0, Nat.zero_le _, rfl, hIM, hbM⟩
    case round =>
      obtain ⟨k, hk, rfl, hIr, hbr⟩ := hrel
      clear hIM hbM hlM
      have hBr := hB4.below hbr
      have hpr := hp4.below hbr
      have hboxr := hbox4.below hbr hbox4.lt hbr.size
      have r0 := (hbr.cell (p := ⟨w1.heap.size, 0, none⟩) hsz1).trans cc0
      have r1 := (hbr.cell (p := ⟨w1.heap.size, 1, none⟩) hsz1).trans cc1
      have r2 := (hbr.cell (p := ⟨w1.heap.size, 2, none⟩) hsz1).trans cc2
      by_cases hlt : k < ps.length
      · have hfk := firstE_down ⟨W, H, S, O, ps⟩ hfirst (k := k) (by omega)
        have hpE : passE ⟨W, H, S, O, ps⟩ k = 0 := (firstE_at ⟨W, H, S, O, ps⟩ hfk).symm.trans (firstE_down ⟨W, H, S, O, ps⟩ hfirst (k := k + 1) (by omega))
        have hRR := paint_right hbnd hpE (pics_right hbnd hfk)
        obtain ⟨o1, o2, _⟩ := passE_zero hpE
        obtain ⟨hkn, _⟩ := ownE_zero o1
        have hin := src_bd o2
        have hsl : (srcOf ps k).length ≤ 2 := by unfold srcOf; rw [List.length_map]; exact takesP_len _
        have hAl : hasA (ps.getD k Ps.zero).Op = true → 1 ≤ (srcOf ps k).length := fun hA => by
          obtain ⟨r, hr⟩ := takes_pos hA
          unfold srcOf; rw [List.length_map, hr]; simp
        have hBl : hasB (ps.getD k Ps.zero).Op = true → 2 ≤ (srcOf ps k).length := fun hB => by
          unfold srcOf; rw [List.length_map, takes_two' hB]; simp
        have HG : Hid (∀ j, (pics ⟨W, H, S, O, ps⟩ (k + 1)).getD j (noRes 0) = if k = j then paintRes (ps.getD k Ps.zero) (sizeN ⟨W, H, S, O, ps⟩ k) (pickR (pics ⟨W, H, S, O, ps⟩ k) (srcOf ps k)) else (pics ⟨W, H, S, O, ps⟩ k).getD j (noRes 0)) := fun j => pics_next ⟨W, H, S, O, ps⟩ k j
        have hpr0 := pick_range (rs := pics ⟨W, H, S, O, ps⟩ k) (n := ps.length) (is := srcOf ps k) (fun i hi => by have := hin i hi; omega)
        have hin' : ∀ i ∈ srcOf ps k, 0 ≤ i ∧ i < ps.length := fun i hi => by have := hin i hi; omega
        have hImg := hIr.imgs hL.2
        obtain ⟨b, off, la, ll, lc, rfl, p0, p1, p2, p3, p4, p5, hLi⟩ := hpr.nth hlt
        obtain ⟨zb, zo, rfl, hzb, s0, s1⟩ := (hZ4.below hbr).nth hlt
        obtain ⟨sb, so, ua, uc, rfl, hsb, q0, hUI⟩ := (hS4.below hbr).nth hlt
        rw [szs_at _ hlt] at s0 s1
        rw [srcs_at _ hlt] at q0 hUI
        have hpk := fun w' (hb : Below wr.heap.size wr w') => pickedR_any ps.length uc (hImg.below hb) (hUI.below (Nat.le_refl _) hb) hin' hsl
        rw [hpr0] at hpk
        dsimp only at hRR hkn
        generalize pics ⟨W, H, S, O, ps⟩ k = rs at hIr hpk HG hRR
        generalize srcOf ps k = sr at hpk HG hRR hAl hBl q0 hUI hsl
        generalize sizeN ⟨W, H, S, O, ps⟩ k = z at s0 s1 HG hRR
        obtain ⟨zw, zh⟩ := z
        dsimp only at s0 s1
        generalize ps.getD k Ps.zero = p at p0 p1 p2 p3 p4 p5 hLi hRR hkn hAl hBl HG
        obtain ⟨Op, To, A, B, K, ls⟩ := p
        dsimp only at p0 p1 p2 p3 p4 p5 hLi hkn hAl hBl
        have hpl : (pickR rs sr).length = sr.length := by simp [pickR]
        rw [← hpl] at hAl hBl
        have hso := fun w' (pa : Option Addr) (pcap : Nat) (hz : Imgs 0 w' pa (pickR rs sr).length (pickR rs sr)) (hb : Below wr.heap.size wr w') => paint_any (Op := Op) To A B (K := K) lc zw zh pcap hkn (hLi.below hb) hz hAl hBl
        generalize paintRes ⟨Op, To, A, B, K, ls⟩ (zw, zh) (pickR rs sr) = r at hso HG hRR
        generalize pickR rs sr = fr at hpk hso
        have HR : Hid (r.E = 0) := hRR.1
        have hPp := PBox.new wr Op To A B K la ll lc
        have hbP := (Below.refl wr.heap.size wr).alloc (Nat.le_refl _) (.cells #[.int .i64 Op, .int .i64 To, .int .i64 A, .int .i64 B, .int .i64 K, .slice la ll lc] 62)
        have hIP := hIr.below hbP
        have t0 := (hbP.cell (p := ⟨w1.heap.size, 0, none⟩) (Nat.lt_of_lt_of_le hsz1 hbr.size)).trans r0
        have t1 := (hbP.cell (p := ⟨w1.heap.size, 1, none⟩) (Nat.lt_of_lt_of_le hsz1 hbr.size)).trans r1
        have u0 := (hbP.cell (p := ⟨zb, zo + k * 2, none⟩) hzb).trans s0
        have u1 := (hbP.cell (p := ⟨zb, zo + k * 2 + 1, none⟩) hzb).trans s1
        have q1 := (hbP.cell (p := ⟨sb, so + k, none⟩) hsb).trans q0
        have l1 : w1.heap.size < (wr.alloc (.cells #[.int .i64 Op, .int .i64 To, .int .i64 A, .int .i64 B, .int .i64 K, .slice la ll lc] 62)).heap.size := Nat.lt_of_lt_of_le hsz1 (Nat.le_trans hbr.size hbP.size)
        have l2 : zb < (wr.alloc (.cells #[.int .i64 Op, .int .i64 To, .int .i64 A, .int .i64 B, .int .i64 K, .slice la ll lc] 62)).heap.size := Nat.lt_of_lt_of_le hzb hbP.size
        have l3 : sb < (wr.alloc (.cells #[.int .i64 Op, .int .i64 To, .int .i64 A, .int .i64 B, .int .i64 K, .slice la ll lc] 62)).heap.size := Nat.lt_of_lt_of_le hsb hbP.size
        replace hpk := fun w' (hb : Below (wr.alloc (.cells #[.int .i64 Op, .int .i64 To, .int .i64 A, .int .i64 B, .int .i64 K, .slice la ll lc] 62)).heap.size (wr.alloc (.cells #[.int .i64 Op, .int .i64 To, .int .i64 A, .int .i64 B, .int .i64 K, .slice la ll lc] 62)) w') => hpk w' (below_step hbP hb)
        replace hso := fun w' (pa : Option Addr) (pcap : Nat) (hz : Imgs 0 w' pa fr.length fr) (hb : Below (wr.alloc (.cells #[.int .i64 Op, .int .i64 To, .int .i64 A, .int .i64 B, .int .i64 K, .slice la ll lc] 62)).heap.size (wr.alloc (.cells #[.int .i64 Op, .int .i64 To, .int .i64 A, .int .i64 B, .int .i64 K, .slice la ll lc] 62)) w') => hso w' pa pcap hz (below_step hbP hb)
        clear hp hp4 hpr hfirst hbnd hfk hpE o1 o2 hin hin' hpr0 hImg hUI hLi hRR hAl hBl hpl hkn
        go_upto_region 8 with fail
        obtain ⟨_, p0, p1, p2, p3, p4, p5⟩ := id hPp
        generalize wr.alloc (.cells #[.int .i64 Op, .int .i64 To, .int .i64 A, .int .i64 B, .int .i64 K, .slice la ll lc] 62) = wP at *
        go_cut [9, 10] from 32 to 48 (fun s9 s10 wx => Made9 wP r s9 s10 wx)
        case first =>
          go_region_held3 (fun w' => Below wP.heap.size wP w' ∧ w'.cell? ⟨wr.heap.size, 0, none⟩ = some (.int .i64 Op) ∧ w'.cell? ⟨wr.heap.size, 1, none⟩ = some (.int .i64 To) ∧ w'.cell? ⟨wr.heap.size, 2, none⟩ = some (.int .i64 A) ∧ w'.cell? ⟨wr.heap.size, 3, none⟩ = some (.int .i64 B) ∧ w'.cell? ⟨wr.heap.size, 4, none⟩ = some (.int .i64 K) ∧ w'.cell? ⟨wr.heap.size, 5, none⟩ = some (.slice la ll lc) ∧ w'.cell? ⟨w1.heap.size, 0, none⟩ = some (.slice (some ⟨zb, zo, none⟩) ps.length zcap) ∧ w'.cell? ⟨w1.heap.size, 1, none⟩ = some (.slice (some ⟨sb, so, none⟩) ps.length scap) ∧ w'.cell? ⟨zb, zo + k * 2, none⟩ = some (.int .i64 zw) ∧ w'.cell? ⟨zb, zo + k * 2 + 1, none⟩ = some (.int .i64 zh) ∧ w'.cell? ⟨sb, so + k, none⟩ = some (.slice ua sr.length uc))
            (first
              | exact keepM (Below.refl _ _).drew hPp.lt l1 l2 l3 p0 p1 p2 p3 p4 p5 t0 t1 u0 u1 q1
              | exact keepM hbt hPp.lt l1 l2 l3 p0 p1 p2 p3 p4 p5 t0 t1 u0 u1 q1
              | exact keepM hbs hPp.lt l1 l2 l3 p0 p1 p2 p3 p4 p5 t0 t1 u0 u1 q1
              | exact keepM hbn hPp.lt l1 l2 l3 p0 p1 p2 p3 p4 p5 t0 t1 u0 u1 q1
              | exact keepM hbx hPp.lt l1 l2 l3 p0 p1 p2 p3 p4 p5 t0 t1 u0 u1 q1
              | exact keepM (below_box (Below.refl _ _) _).drew hPp.lt l1 l2 l3 p0 p1 p2 p3 p4 p5 t0 t1 u0 u1 q1
              | exact keepM (below_box hbn _) hPp.lt l1 l2 l3 p0 p1 p2 p3 p4 p5 t0 t1 u0 u1 q1
              | exact keepM (below_box hbs _) hPp.lt l1 l2 l3 p0 p1 p2 p3 p4 p5 t0 t1 u0 u1 q1
              | exact keepM (((hbt.setCell (p := ⟨wP.heap.size, 0, none⟩) (Nat.le_refl _) _).setCell (p := ⟨wP.heap.size, 1, none⟩) (Nat.le_refl _) _).setCell (p := ⟨wP.heap.size, 2, none⟩) (Nat.le_refl _) _) hPp.lt l1 l2 l3 p0 p1 p2 p3 p4 p5 t0 t1 u0 u1 q1
              | exact keepM (((hbt.setCell (p := ⟨w2.heap.size, 0, none⟩) hbn.size _).setCell (p := ⟨w2.heap.size, 1, none⟩) hbn.size _).setCell (p := ⟨w2.heap.size, 2, none⟩) hbn.size _) hPp.lt l1 l2 l3 p0 p1 p2 p3 p4 p5 t0 t1 u0 u1 q1)
            (first
              | (go_at_call 36; (with_reducible show Calls _ _ _ (World.drew (World.alloc wP _)) _); refine (hpk _ (below_box (Below.refl _ _) _).drew).mono ?_; rintro e w2 ⟨pa, pcap, rfl, hpz, hb2⟩; have hbx : Below wP.heap.size wP w2 := below_step (below_box (Below.refl _ _) _).drew hb2; have hl2 : wP.heap.size < w2.heap.size := Nat.lt_of_lt_of_le (by simp) hb2.size; have x0 : w2.cell? ⟨wP.heap.size, 0, none⟩ = some (.int .i64 0) := (hb2.cell (by simp)).trans (by simp [go_sem]); have x1 : w2.cell? ⟨wP.heap.size, 1, none⟩ = some (.int .i64 0) := (hb2.cell (by simp)).trans (by simp [go_sem]); have x2 : w2.cell? ⟨wP.heap.size, 2, none⟩ = some (.slice none 0 0) := (hb2.cell (by simp)).trans (by simp [go_sem]); have y0 : w2.frozen? ⟨wP.heap.size, 0, none⟩ = false := (hb2.frozen (by simp)).trans (by simp [go_sem]); have y1 : w2.frozen? ⟨wP.heap.size, 1, none⟩ = false := (hb2.frozen (by simp)).trans (by simp [go_sem]); have y2 : w2.frozen? ⟨wP.heap.size, 2, none⟩ = false := (hb2.frozen (by simp)).trans (by simp [go_sem]))
              | (go_at_call 36; (with_reducible show Calls _ _ _ (World.drew wP) _); refine (hpk _ (Below.refl _ _).drew).mono ?_; rintro e w2 ⟨pa, pcap, rfl, hpz, hb2⟩; have hbn : Below wP.heap.size wP w2 := below_step (Below.refl _ _).drew hb2)
              | (go_at_call 35; have xx := x0; clear xx; refine (hso _ _ _ hpz hbx).mono ?_; rintro e w3 ⟨ra, rc, rfl, hri, hb3⟩; have hbt : Below wP.heap.size wP w3 := below_step hbx hb3; have z0 := (hb3.cell (p := ⟨wP.heap.size, 0, none⟩) hl2).trans x0; have z1 := (hb3.cell (p := ⟨wP.heap.size, 1, none⟩) hl2).trans x1; have z2 := (hb3.cell (p := ⟨wP.heap.size, 2, none⟩) hl2).trans x2; have v0 := (hb3.frozen (p := ⟨wP.heap.size, 0, none⟩) hl2).trans y0; have v1 := (hb3.frozen (p := ⟨wP.heap.size, 1, none⟩) hl2).trans y1; have v2 := (hb3.frozen (p := ⟨wP.heap.size, 2, none⟩) hl2).trans y2)
              | (go_at_call 35; (with_reducible show Calls _ _ _ (World.alloc _ _) _); refine (hso _ _ _ (hpz.below (below_box (Below.refl _ _) _)) (below_box hbn _)).mono ?_; rintro e w3 ⟨ra, rc, rfl, hri, hb3⟩; have hbt : Below wP.heap.size wP w3 := below_step (below_box hbn _) hb3; have z0 : w3.cell? ⟨w2.heap.size, 0, none⟩ = some (.int .i64 0) := (hb3.cell (by simp)).trans (by simp [go_sem]); have z1 : w3.cell? ⟨w2.heap.size, 1, none⟩ = some (.int .i64 0) := (hb3.cell (by simp)).trans (by simp [go_sem]); have z2 : w3.cell? ⟨w2.heap.size, 2, none⟩ = some (.slice none 0 0) := (hb3.cell (by simp)).trans (by simp [go_sem]); have v0 : w3.frozen? ⟨w2.heap.size, 0, none⟩ = false := (hb3.frozen (by simp)).trans (by simp [go_sem]); have v1 : w3.frozen? ⟨w2.heap.size, 1, none⟩ = false := (hb3.frozen (by simp)).trans (by simp [go_sem]); have v2 : w3.frozen? ⟨w2.heap.size, 2, none⟩ = false := (hb3.frozen (by simp)).trans (by simp [go_sem]))
              | (go_at_call 35; refine (hso _ _ _ hpz hbn).mono ?_; rintro e w3 ⟨ra, rc, rfl, hri, hb3⟩; have hbs : Below wP.heap.size wP w3 := below_step hbn hb3))
          all_goals (go_wp2_with fail; go_meet)
          all_goals first
            | exact ⟨rfl, _, ra, rc, rfl, by simp [go_sem], by simp [go_sem], by simp [go_sem], (hri.alloc _).mono hbn.size, below_box hbs _⟩
            | exact ⟨rfl, _, ra, rc, rfl, (set_other _ (by simp)).trans ((set_other _ (by simp)).trans (set_same z0)), (set_other _ (by simp)).trans (set_same ((set_other _ (by simp)).trans z1)), set_same ((set_other _ (by simp)).trans ((set_other _ (by simp)).trans z2)), (((hri.setCell (p := ⟨w2.heap.size, 0, none⟩) (by simp) _).setCell (p := ⟨w2.heap.size, 1, none⟩) (by simp) _).setCell (p := ⟨w2.heap.size, 2, none⟩) (by simp) _).mono (Nat.le_trans hbn.size (by simp)), (((hbt.setCell (p := ⟨w2.heap.size, 0, none⟩) hbn.size _).setCell (p := ⟨w2.heap.size, 1, none⟩) hbn.size _).setCell (p := ⟨w2.heap.size, 2, none⟩) hbn.size _)⟩
            | exact ⟨rfl, _, ra, rc, rfl, (set_other _ (by simp)).trans ((set_other _ (by simp)).trans (set_same z0)), (set_other _ (by simp)).trans (set_same ((set_other _ (by simp)).trans z1)), set_same ((set_other _ (by simp)).trans ((set_other _ (by simp)).trans z2)), (((hri.setCell (p := ⟨wP.heap.size, 0, none⟩) hl2 _).setCell (p := ⟨wP.heap.size, 1, none⟩) hl2 _).setCell (p := ⟨wP.heap.size, 2, none⟩) hl2 _).mono hbx.size, (((hbt.setCell (p := ⟨wP.heap.size, 0, none⟩) (Nat.le_refl _) _).setCell (p := ⟨wP.heap.size, 1, none⟩) (Nat.le_refl _) _).setCell (p := ⟨wP.heap.size, 2, none⟩) (Nat.le_refl _) _)⟩
        case rest =>
          obtain ⟨rfl, b9, ra, rc, rfl, m0, m1, m2, hri, bx⟩ := hcut
          rw [HR.out]
          have hIX := hIP.below bx
          have hbX := below_step hbr (below_step hbP bx)
          have hri' := hri.mono (show w4.heap.size + 1 ≤ wP.heap.size from hIP.lt)
          obtain ⟨xa, xc, k0, k1, k2, _⟩ := hIX.cells k hlt
          have f0 := hIX.froz (k * 3)
          have f1 := hIX.froz (k * 3 + 1)
          have f2 := hIX.froz (k * 3 + 2)
          rw [Nat.zero_add] at k0 k1 k2
          have hput := hIX.put (g' := fun j => (pics ⟨W, H, S, O, ps⟩ (k + 1)).getD j (noRes 0)) k r ra rc hlt hri' (fun j _ => HG.out j)
          simp only [Nat.zero_add] at hput
          have HP : Hid (_) := hput
          have HX : Hid (_) := hIX
          clear hput hIX hIP hri hri' hpk hso hPp hbP t0 t1 u0 u1 q1 p0 p1 p2 p3 p4 p5 HG hIr
          go_wp2
          go_roundw
          case rel => exact ⟨k + 1, by omega, by go_num, HP.out, ((hbX.setCell (by simp) _).setCell (by simp) _).setCell (by simp) _⟩
          case measure => simp [intOf]; omega
      · have hke : k = ps.length := by omega
        subst hke
        obtain ⟨xa, xc, k0, k1, k2, hxi⟩ := hIr.cells N hNl
        rw [Nat.zero_add] at k0 k1 k2
        have HNN : Hid ((shownP ⟨W, H, S, O, ps⟩).toNat = N) := by show _ = _; rw [HN.out]; rfl
        have HXI : Hid (_) := hxi
        generalize hrr : (pics ⟨W, H, S, O, ps⟩ ps.length).getD N (noRes 0) = r at k0 k1 k2 HXI
        have HRR : Hid (_) := hrr
        have HRE : Hid (r.E = 0) := by
          show _ = _
          rw [← hrr]
          exact (pics_right hbnd hfirst N hNl).1
        obtain ⟨_, c0, c1, c2, f0, f1, f2⟩ := id hboxr
        have hbw := below_step hb4 hbr
        have hlt2 : w.heap.size + 1 < w4.heap.size + 1 := by have := hbox4.lt; omega
        clear hrr hIr hxi hp hp4 hpr hfirst hbnd hBr
        go_wp2
        refine bodyPost_ret (v := .tuple #[.agg #[.int .i64 r.W, .int .i64 r.H, .slice xa r.ps.length xc], .int .i64 r.E]) (by simp [results, Tryz.results9, go_sem, c0, c1, c2, HRE.out]) rfl ?_
        rw [HNN.out, HRR.out]
        exact ⟨xa, xc, rfl, (((HXI.out.setCell (p := ⟨w.heap.size + 1, 0, none⟩) hlt2 _).setCell (p := ⟨w.heap.size + 1, 1, none⟩) hlt2 _).setCell (p := ⟨w.heap.size + 1, 2, none⟩) hlt2 _).mono (by have := hbox4.lt; omega), ((hbw.setCell (by simp) _).setCell (by simp) _).setCell (by simp) _⟩
  · exact absurd hE h0
theorem render_any (W H S O : Int) (a : Option Addr) (len cap : Nat) (ps : List Ps) (w : World) (hp : Passes w a len ps) :
    Calls Tryz.prog 9 #[.agg #[.int .i64 W, .int .i64 H, .int .i64 S, .int .i64 O, .slice a len cap]] w (Told w (renderP ⟨W, H, S, O, ps⟩)) := by
  unfold renderP
  by_cases hE : frameE ⟨W, H, S, O, ps⟩ = 0
  · rw [if_pos hE]; exact render_ok W H S O a len cap ps w hp hE
  · rw [if_neg hE]; exact render_err W H S O a len cap ps w hp hE
end Go.Proofs.YtihliofhhjjeaaaGreat
namespace Go.Proofs.YtihliofhhjjeaaaGreat
open Go.RowKit Im
def markG (g : Nat → Bool) (is : List Int) (j : Nat) : Bool := g j || is.any fun i => decide (i = (j : Int))
def keptG (ps : List Ps) (n : Nat) (last : Int) : Nat → Nat → Bool
  | 0, j => decide (last = (j : Int))
  | k + 1, j => if keptG ps n last k (n - 1 - k) = true then markG (keptG ps n last k) (srcOf ps (n - 1 - k)) j else keptG ps n last k j
theorem markG_nil (g : Nat → Bool) : markG g [] = g := by funext j; simp [markG]
theorem markG_take (g : Nat → Bool) (is : List Int) (k : Nat) (hk : k < is.length) (j : Nat) : markG g (is.take (k + 1)) j = if is.getD k 0 = (j : Int) then true else markG g (is.take k) j := by
  unfold markG
  rw [List.take_succ_eq_append_getElem hk, List.any_append, List.getD_eq_getElem?_getD, List.getElem?_eq_getElem hk]
  by_cases h : is[k] = (j : Int) <;> simp [h]
structure Bl (w : World) (b n : Nat) (g : Nat → Bool) : Prop where
  lt : b < w.heap.size
  cells : ∀ j, j < n → w.cell? ⟨b, j, none⟩ = some (.bool (g j))
  froz : ∀ o, w.frozen? ⟨b, o, none⟩ = false
theorem Bl.below {w w' : World} {b n B : Nat} {g : Nat → Bool} (h : Bl w b n g) (hb : Below B w w') (hB : b < B) (hs : w.heap.size ≤ w'.heap.size) : Bl w' b n g :=
  ⟨Nat.lt_of_lt_of_le h.lt hs, fun j hj => (hb.cell (p := ⟨b, j, none⟩) hB).trans (h.cells j hj), fun o => (hb.frozen (p := ⟨b, o, none⟩) hB).trans (h.froz o)⟩
theorem Bl.put {w : World} {b n : Nat} {g g' : Nat → Bool} (h : Bl w b n g) (m : Nat) (hm : m < n) (hg : ∀ j, j < n → g' j = if m = j then true else g j) : Bl (w.setCell ⟨b, m, none⟩ (.bool true)) b n g' := by
  refine ⟨by simpa using h.lt, fun j hj => ?_, fun o => by simpa using h.froz o⟩
  rw [hg j hj]
  by_cases e : m = j
  · subst e
    rw [if_pos rfl]
    exact set_same (h.cells m hm)
  · rw [if_neg e, set_other _ (fun e' => e (by injection e'))]
    exact h.cells j hj
theorem Bl.congr {w : World} {b n : Nat} {g g' : Nat → Bool} (h : Bl w b n g) (hg : ∀ j, j < n → g' j = g j) : Bl w b n g' := ⟨h.lt, fun j hj => by rw [hg j hj]; exact h.cells j hj, h.froz⟩
theorem Bl.made {w : World} {base b N cap : Nat} (h : w.ownsRow base 4 1 (.slice (some ⟨b, 0, none⟩) N cap) N (madeCells (Value.bool false).cells (N * 1)).toList) (hb : b < w.heap.size) : Bl w b N (fun _ => false) := by
  refine ⟨hb, fun j hj => ?_, fun o => World.ownsRow.frozenAt h o⟩
  rw [World.ownsRow.cellAt h j (by omega)]
  have e : (Value.bool false).cells = #[.bool false] := rfl
  rw [e]
  simp only [madeCells, Array.toList_map, Array.toList_range, List.getElem?_map, List.getElem?_range (show j < N * 1 by omega), Option.map_some]
  congr 1
  show (#[Value.bool false] : Array Value)[j % 1]! = _
  rw [Nat.mod_one]
  rfl
theorem Tryz.infoBool : (Tryz.prog.info? 4).map (fun i => (i.zero, i.size, i.bytes)) = some (some (.bool false), 1, 1) := by kernel_rfl
def ToldK (w : World) (n : Nat) (g : Nat → Bool) (e : Ending) (w' : World) : Prop :=
  (∃ b, e = .returned (.slice (some ⟨b, 0, none⟩) n n) ∧ w.heap.size ≤ b ∧ Bl w' b n g) ∧ Below w.heap.size w w'
set_option maxHeartbeats 4000000 in
theorem keptOf_any (W H S O : Int) (a : Option Addr) (len cap : Nat) (ps : List Ps) (w : World) (hp : Passes w a len ps) (hE : frameE ⟨W, H, S, O, ps⟩ = 0) :
    Calls Tryz.prog 45 #[.agg #[.int .i64 W, .int .i64 H, .int .i64 S, .int .i64 O, .slice a len cap]] w (ToldK w len (keptG ps len (shownP ⟨W, H, S, O, ps⟩) len)) := by
  obtain rfl := hp.leng
  obtain ⟨hbnd, hfirst, hsh⟩ := frameE_zero hE
  dsimp only at hfirst
  obtain ⟨_, _, _, _, hL⟩ := boundsE_zero hbnd
  dsimp only at hL
  obtain ⟨N, hN⟩ := Int.eq_ofNat_of_zero_le hsh
  have hNl : N < ps.length := by have := (wrt_bd ps ps.length O).2; have e : shownP ⟨W, H, S, O, ps⟩ = wrt ps ps.length O := rfl; omega
  obtain ⟨i0, hi, hz0, hz1, hz2⟩ := info_parts Tryz.infoBool
  have hb0 := below_box (Below.refl w.heap.size w) (.cells #[.int .i64 W, .int .i64 H, .int .i64 S, .int .i64 O, .slice a ps.length cap] 24)
  have hB := FBox.new w W H S O a ps.length cap
  have hsr := sourcesOfRef_any W H S O a ps.length cap ps _ (hp.below hb0) hL.2
  have hla := fun wx hp => lastOf_any W H S O a ps.length cap ps wx hp
  rw [hN] at hla ⊢
  have hs2 : ∀ x ∈ srcs ps ps.length, x.length ≤ 2 := by
    intro x hx
    unfold srcs at hx
    rw [List.mem_map] at hx
    obtain ⟨n, _, rfl⟩ := hx
    unfold srcOf
    rw [List.length_map]
    exact takesP_len _
  have hin : ∀ n, n < ps.length → ∀ i ∈ srcOf ps n, 0 ≤ i ∧ i < n := fun n hn => by
    have hfk := firstE_down ⟨W, H, S, O, ps⟩ hfirst (k := n) (by omega)
    have hpE : passE ⟨W, H, S, O, ps⟩ n = 0 := (firstE_at ⟨W, H, S, O, ps⟩ hfk).symm.trans (firstE_down ⟨W, H, S, O, ps⟩ hfirst (k := n + 1) (by omega))
    exact src_bd (passE_zero hpE).2.1
  have HIN : Hid (_) := hin
  have hp0 := hp.below hb0
  clear hN hin hbnd hfirst hsh hp hE
  go_enter Tryz.func45, Tryz.ntmps45
  go_wp2_with fail
  refine hsr.mono ?_
  clear hsr
  rintro e w1 ⟨⟨v1, rfl, hLL⟩, b1⟩
  obtain ⟨sa, scap, rfl, hSs⟩ := hLL.lls hs2
  rw [srcs_length] at hSs ⊢
  have hB1 := hB.below b1
  have hb1 := below_step hb0 b1
  have hp1 := hp0.below b1
  clear hB hb0 b1 hLL hs2 hp0
  obtain ⟨_, g0, g1, g2, g3, g4⟩ := id hB1
  go_upto_region 3 with (at_make; refine wpList_make_full _ rfl _ _ 71 rfl w1.heap.size 4 i0 (.bool false) 1 Tryz.underlying71 hi hz0 hz1 .i64 .i64 _ _ ps.length rfl rfl (by simp) (by simp) (by rw [hz2]; omega) (by unfold maxLen; omega) (Nat.le_refl _) ?_; intro wM hown hgrow)
  have hbM : Below w1.heap.size w1 wM := (Below.refl _ _).grown hgrow (Nat.le_refl _) (fun k hk => by cases hk)
  have hlM := (World.ownsRow.lt (w := wM) hown w1.heap.size rfl).2
  have hKM := Bl.made hown hlM
  clear hown hgrow g0 g1 g2 g3 g4
  have hBM := hB1.below hbM
  obtain ⟨_, g0, g1, g2, g3, g4⟩ := id hBM
  go_wp2_with fail
  refine (hla _ (hp1.below hbM)).mono ?_
  rintro e w2 ⟨rfl, b2⟩
  have hK2 := hKM.below b2 hlM b2.size
  have hbW2 := below_step hbM b2
  have hB2 := hB1.below hbW2
  have k0 := hK2.cells N hNl
  have kf := hK2.froz N
  have hNi : (N : Int) < (ps.length : Int) := by omega
  have hK3 := hK2.put (g' := keptG ps ps.length N 0) N hNl (fun j hj => by
    show decide ((N : Int) = (j : Int)) = _
    by_cases h : N = j
    · subst h; simp
    · have h' : ¬ (N : Int) = (j : Int) := by omega
      simp [h, h'])
  have hbW3 : Below w1.heap.size w1 (w2.setCell ⟨w1.heap.size, N, none⟩ (.bool true)) := hbW2.setCell (p := ⟨w1.heap.size, N, none⟩) (Nat.le_refl _) _
  have hwl : IntKind.i64.wrap ((ps.length : Int) - 1) = (ps.length : Int) - 1 := by rw [IntKind.wrap_i64]; omega
  clear g0 g1 g2 g3 g4 hKM hla hbM hlM hBM b2
  go_wp2
  go_loopw [5] (fun i wr => ∃ k : Nat, k ≤ ps.length ∧ i = .int .i64 ((ps.length : Int) - 1 - k) ∧ Bl wr w1.heap.size ps.length (keptG ps ps.length N k) ∧ Below w1.heap.size w1 wr) (fun i _ => (intOf i + 1).toNat)
  case atStart => exact ⟨0, Nat.zero_le _, by simp, hK3, hbW3⟩
  case round =>
    obtain ⟨k, hk, rfl, hKr, hbr⟩ := hrel
    clear hK2 hK3 hbW2 hbW3 hB2 k0 kf
    by_cases hlt : k < ps.length
    · obtain ⟨m, hm⟩ : ∃ m : Nat, m = ps.length - 1 - k := ⟨_, rfl⟩
      have hmi : (ps.length : Int) - 1 - k = (m : Int) := by omega
      have hml : m < ps.length := by omega
      have hmI : (m : Int) < (ps.length : Int) := by omega
      have hm0 : (0 : Int) ≤ (m : Int) := by omega
      obtain ⟨sb, so, ua, uc, rfl, hsb, qq, hUI⟩ := hSs.nth hml
      rw [srcs_at _ hml] at qq hUI
      have hin := HIN.out m hml
      have HKG : Hid (∀ j, keptG ps ps.length N (k + 1) j = if keptG ps ps.length N k m = true then markG (keptG ps ps.length N k) (srcOf ps m) j else keptG ps ps.length N k j) := fun j => by rw [hm]; rfl
      have hsl : (srcOf ps m).length ≤ 2 := by unfold srcOf; rw [List.length_map]; exact takesP_len _
      have hw1 : IntKind.i64.wrap ((m : Int) - 1) = (m : Int) - 1 := by rw [IntKind.wrap_i64]; omega
      have HMN : Hid ((m : Int) - 1 = (ps.length : Int) - 1 - ((k + 1 : Nat) : Int)) := by show _ = _; omega
      rw [hmi]
      have km := hKr.cells m hml
      generalize keptG ps ps.length N k = g at hKr HKG km
      generalize srcOf ps m = sr at qq hUI hin HKG hsl
      have q0 := (hbr.cell (p := ⟨sb, so + m, none⟩) hsb).trans qq
      clear hm hmi
      have hgm : ∀ k', markG g (sr.take k') m = true ∨ True := fun _ => .inr trivial
      clear hgm
      obtain ⟨wO, e0⟩ : ∃ z, z = wr := ⟨_, rfl⟩
      subst e0
      generalize hx : g m = x at km HKG
      cases x with
      | false =>
        go_wp2
        go_loopw [6] (fun i ws => i = .int .i64 0 ∧ ws = wO) (fun _ _ => 0)
        case atStart => exact ⟨rfl, rfl⟩
        case round =>
          obtain ⟨rfl, rfl⟩ := hrel
          go_wp2
          all_goals go_roundw
          all_goals first
            | exact ⟨k + 1, by omega, by rw [HMN.out], hKr.congr (fun j _ => by rw [HKG.out j, if_neg (by decide)]), hbr⟩
            | (show ((m : Int) - 1 + 1).toNat < ((m : Int) + 1).toNat; omega)
      | true =>
        clear q0 km
        go_wp2
        go_loopw [6] (fun i ws => ∃ t : Nat, t ≤ sr.length ∧ i = .int .i64 t ∧ Bl ws w1.heap.size ps.length (markG g (sr.take t)) ∧ Below w1.heap.size w1 ws) (fun i _ => sr.length - (intOf i).toNat)
        case atStart => exact ⟨0, Nat.zero_le _, rfl, by rw [List.take_zero, markG_nil]; exact hKr, hbr⟩
        case round =>
          obtain ⟨t, ht, rfl, hKt, hbt⟩ := hrel
          have q0 := (hbt.cell (p := ⟨sb, so + m, none⟩) hsb).trans qq
          have km := hKt.cells m hml
          have hgm : markG g (sr.take t) m = true := by unfold markG; rw [hx]; rfl
          rw [hgm] at km
          by_cases htl : t < sr.length
          · obtain ⟨bu, ou, rfl, hcx⟩ := (hUI.below (Nat.le_refl _) hbt).nth htl
            have hr := hin _ (getD_mem htl 0)
            have HS : Hid (∀ j : Nat, markG g (sr.take (t + 1)) j = if sr.getD t 0 = (j : Int) then true else markG g (sr.take t) j) := fun j => markG_take g sr t htl j
            generalize sr.getD t 0 = n at hcx hr HS
            obtain ⟨q, rfl⟩ := Int.eq_ofNat_of_zero_le hr.1
            have hql : q < ps.length := by omega
            have hqI : (q : Int) < (ps.length : Int) := by omega
            have kq := hKt.cells q hql
            have kf := hKt.froz q
            have hK9 := hKt.put (g' := markG g (sr.take (t + 1))) q hql (fun j hj => by
              rw [HS.out j]
              by_cases h : q = j
              · subst h; simp
              · have h' : ¬ (q : Int) = (j : Int) := by omega
                rw [if_neg h, if_neg h'])
            have hb9 := hbt.setCell (p := ⟨w1.heap.size, q, none⟩) (Nat.le_refl _) (.bool true)
            have HK9 : Hid (_) := hK9
            clear hK9 HKG hKr hx hgm
            go_wp2
            go_roundw
            case rel => exact ⟨t + 1, by omega, by go_num, HK9.out, hb9⟩
            case measure => simp [intOf]; omega
          · have hte : t = sr.length := by omega
            subst hte
            rw [List.take_length] at hKt
            clear hx hgm hKr
            go_wp2
            go_roundw
            case rel => exact ⟨k + 1, by omega, by rw [HMN.out], hKt.congr (fun j _ => by rw [HKG.out j, if_pos (by trivial)]), hbt⟩
            case measure => show ((m : Int) - 1 + 1).toNat < ((m : Int) + 1).toNat; omega
    · have hke : k = ps.length := by omega
      subst hke
      have hz : (ps.length : Int) - 1 - (ps.length : Int) = -1 := by omega
      rw [hz]
      go_wp2
      go_ret
      exact ⟨⟨w1.heap.size, rfl, hb1.size, hKr⟩, below_step hb1 hbr⟩
end Go.Proofs.YtihliofhhjjeaaaGreat
