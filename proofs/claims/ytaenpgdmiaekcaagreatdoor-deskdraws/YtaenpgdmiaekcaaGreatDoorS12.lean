/- SourcesRef, Render, KeptRef: joined, in this order. -/
import Derived.Test.YtaenpgdmiaekcaaGreatDoorS11
import Derived.Deep.CutRange
/-
  SOURCESREF: the reference's SourcesOf: of each pass, which passes made what it takes.
-/
namespace Go.Proofs.YtaenpgdmiaekcaaGreatDoor
set_option maxRecDepth 100000
open Go.RowKit Im

theorem ll_push {base : Nat} {wr w3 : World} {v2 v' u : Value} {ss : List (List Int)} {is : List Int} {us : List Value} (hu : Owns base wr u is) (hg : wr.grownBy w3 v2.ownBlock) (hus : wr.ownsRow base 22 1 v2 ss.length us) (hul : us.length = ss.length)
    (hue : ∀ (j : Nat) (x : List Int), ss[j]? = some x → ∃ u, us[j]? = some u ∧ Owns base wr u x) (h' : w3.ownsRow base 22 1 v' (ss.length + 1) (us ++ [u])) : OwnsLL base w3 v' (ss ++ [is]) := by
  have keep : ∀ {u : Value} {is : List Int}, Owns base wr u is → Owns base w3 u is := fun ho => World.ownsRow.kept ho hg (rows_apart ho hus (by decide))
  refine ⟨us ++ [u], by simpa using h', by simp [hul], fun j x hj => ?_⟩
  by_cases hjl : j < ss.length
  · rw [List.getElem?_append_left hjl] at hj
    obtain ⟨u', hu', ho'⟩ := hue j x hj
    exact ⟨u', by rw [List.getElem?_append_left (by omega)]; exact hu', keep ho'⟩
  · have hje : j = ss.length := by
      rcases Nat.lt_or_ge j (ss ++ [is]).length with hh | hh
      · simp at hh; omega
      · rw [List.getElem?_eq_none hh] at hj; cases hj
    subst hje
    have : x = is := by simpa using hj.symm
    subst this
    exact ⟨u, by rw [← hul]; simp, keep hu⟩
/-- The call's end tells the lists ss, in a slice of its own. -/
def ToldLL (w : World) (ss : List (List Int)) (e : Ending) (w' : World) : Prop :=
  (∃ v, e = .returned v ∧ OwnsLL w.heap.size w' v ss) ∧ Below w.heap.size w w'
set_option maxHeartbeats 4000000 in
theorem sourcesOfRef_any (W H S O : Int) (a : Option Addr) (len cap : Nat) (ps : List Ps) (w : World) (hp : Passes w a len ps) (hlen : len ≤ 12) :
    Calls Tryz.prog 89 #[.agg #[.int .i64 W, .int .i64 H, .int .i64 S, .int .i64 O, .slice a len cap]] w (ToldLL w (srcs ps len)) := by
  obtain ⟨i0, hi, hz0, hz1, hz2⟩ := info_parts Tryz.info3
  obtain ⟨l0, li, lz0, lz1, lz2⟩ := info_parts Tryz.infoInts
  have hB := FBox.new w W H S O a len cap
  have hb0 := below_box (Below.refl w.heap.size w) (.cells #[.int .i64 W, .int .i64 H, .int .i64 S, .int .i64 O, .slice a len cap] 35)
  have hp1 := hp.below hb0
  have hs1 : (w.alloc (.cells #[.int .i64 W, .int .i64 H, .int .i64 S, .int .i64 O, .slice a len cap] 35)).heap.size = w.heap.size + 1 := by simp
  clear hp
  go_enter Tryz.func89, Tryz.ntmps89
  go_wp2
  generalize w.alloc (.cells #[.int .i64 W, .int .i64 H, .int .i64 S, .int .i64 O, .slice a len cap] 35) = w1 at hB hb0 hp1 hs1 ⊢
  go_loopw [3, 4] (fun v i wr => ∃ k : Nat, k ≤ len ∧ i = .int .i64 k ∧ OwnsLL w1.heap.size wr v (srcs ps k) ∧ Below w1.heap.size w1 wr) (fun _ i _ => len - (intOf i).toNat)
  case atStart => exact ⟨0, Nat.zero_le _, rfl, OwnsLL.nil _ _, Below.refl _ _⟩
  case round =>
    obtain ⟨k, hk, rfl, hown, hbr⟩ := hrel
    have hBr := hB.below hbr
    have hpr := hp1.below hbr
    by_cases hlt : k < len
    · have H7 : Hid (srcOf ps k = (takesP (ps.getD k Ps.zero)).map (wrt ps k)) := rfl
      have H8 : Hid (srcs ps (k + 1) = srcs ps k ++ [srcOf ps k]) := srcs_succ ps k
      have H13 : Hid ((srcs ps k).length = k) := srcs_length _ _
      have hwr := fun (s : Int) wx (hx : Passes wx a len ps) => writer_any W H S O a len cap ps k s wx hx (by omega)
      generalize wrt ps k = q at hwr H7
      generalize srcs ps k = ss at hown H8 H13
      generalize srcOf ps k = sr at H7 H8
      obtain ⟨b, off, la, ll, lc, rfl, p0, p1, p2, p3, p4, p5, hLi⟩ := hpr.nth hlt
      generalize ps.getD k Ps.zero = p at p0 p1 p2 p3 p4 p5 hLi H7
      obtain ⟨Op, To, A, B, K, ls⟩ := p
      dsimp only at p0 p1 p2 p3 p4 p5 hLi
      have hh := fun wx => has_any Op wx
      have hab : hasB Op = true → hasA Op = true := by simp [hasA, hasB, withinB]; omega
      have hBp := hBr.alloc (.cells #[.int .i64 Op, .int .i64 To, .int .i64 A, .int .i64 B, .int .i64 K, .slice la ll lc] 72)
      have hPp := PBox.new wr Op To A B K la ll lc
      have hpp := hpr.below ((Below.refl _ _).alloc (Nat.le_refl _) (.cells #[.int .i64 Op, .int .i64 To, .int .i64 A, .int .i64 B, .int .i64 K, .slice la ll lc] 72))
      have hbp := hbr.alloc hbr.size (.cells #[.int .i64 Op, .int .i64 To, .int .i64 A, .int .i64 B, .int .i64 K, .slice la ll lc] 72)
      have howp := hown.below ((Below.refl _ _).alloc (Nat.le_refl _) (.cells #[.int .i64 Op, .int .i64 To, .int .i64 A, .int .i64 B, .int .i64 K, .slice la ll lc] 72))
      obtain ⟨_, g0, g1, g2, g3, g4⟩ := id hBr
      unfold takesP at H7
      dsimp only at H7
      generalize hasA Op = xa at hh H7 hab
      generalize hasB Op = xb at hh H7 hab
      generalize hasK Op = xk at hh
      generalize hasL Op = xl at hh
      go_upto_region 8 with (go_at_call 130; refine (hh _).mono ?_; rintro e w' ⟨rfl, rfl⟩)
      clear g0 g1 g2 g3 g4 p0 p1 p2 p3 p4 p5 hh hBr hpr hown hbr hLi
      generalize wr.alloc (.cells #[.int .i64 Op, .int .i64 To, .int .i64 A, .int .i64 B, .int .i64 K, .slice la ll lc] 72) = wA at hBp hPp hpp hbp howp ⊢
      cases xa
      · have hxb : xb = false := by cases xb; · rfl
                                    · exact absurd (hab rfl) (by decide)
        subst hxb
        have H7' : Hid (sr = []) := H7
        go_upto_region 12 with fail
        have hsr := H7'.out
        subst hsr
        have hfX := (howp).below ((Below.refl _ wA).alloc (Nat.le_refl _) (.cells #[.slice none 0 0] 22))
        have huX := World.ownsRow.alloc (World.ownsRow_nil wA w1.heap.size 3 1) (.cells #[.slice none 0 0] 22)
        have hbX : Below w1.heap.size w1 wA := hbp
        have hsX := hbX.size
        obtain ⟨us, hus, hul, hue⟩ := hfX
        go_wp2_with (at_builtin; refine wpList_append_own _ rfl _ _ 64 rfl w1.heap.size 22 l0 _ 1 24 Tryz.underlying64 li lz0 lz1 lz2 rfl (by decide) _ _ _ rfl hus ⟨wA.heap.size, 0, none⟩ 1 1 [.slice none 0 0] rfl rfl (cell_one_new _ _ _) (by intro u hu; simp at hu; subst hu; rfl) (by rw [H13.out]; unfold maxLen; omega) (by rw [H13.out]; omega) (by simp; omega) ?_; intro vY wY hownY hgrowY _)
        have RR := ll_push (is := []) (show Owns w1.heap.size _ _ [] from huX) hgrowY hus hul hue hownY
        have hbY := (hbX.alloc hsX (.cells #[.slice none 0 0] 22)).grown hgrowY (by simp; omega) (fun j hj => (World.ownsRow.lt hus j hj).1)
        go_roundw
        case rel => exact ⟨k + 1, by omega, by go_num, by rw [H8.out]; exact RR, hbY⟩
        case measure => simp [intOf]; omega
      · obtain ⟨_, g0, g1, g2, g3, g4⟩ := id hBp
        obtain ⟨_, p0, p1, p2, p3, p4, p5⟩ := id hPp
        go_upto_region 10 with (first
          | (go_at_call 93; refine (hwr _ _ hpp).mono ?_; rintro e wB ⟨rfl, bB⟩)
          | (at_builtin; refine wpList_append_own _ rfl _ _ 22 rfl wB.heap.size 3 i0 (.int .i64 0) 1 8 Tryz.underlying22 hi hz0 hz1 hz2 rfl (by decide) _ _ _ rfl (World.ownsRow_nil _ _ _ _) ⟨wB.heap.size, 0, none⟩ 1 1 [.int .i64 (q A)] rfl rfl (cell_one_new _ _ _) (by intro u hu; simp at hu; subst hu; rfl) (by unfold maxLen; omega) (by omega) (by simp; try omega) ?_; intro vC wC hownC hgrowC _; obtain ⟨aC, capC, hvC⟩ := owns_slice hownC; subst hvC))
        have bC : Below wB.heap.size wB wC := ((Below.refl _ wB).alloc (Nat.le_refl _) _).grown hgrowC (by simp) (fun j hj => by cases hj)
        clear g0 g1 g2 g3 g4 p0 p1 p2 p3 p4 p5 hgrowC
        have bAC := below_step bB bC
        have hsz : w1.heap.size ≤ wB.heap.size := Nat.le_trans hbp.size bB.size
        have howC := (howp.below bB).below bC
        cases xb
        · have H7' : Hid (sr = [q A]) := H7
          go_upto_region 12 with fail
          have hsr := H7'.out
          subst hsr
          have hfX := (howC).below ((Below.refl _ wC).alloc (Nat.le_refl _) (.cells #[.slice aC (0 + 1) capC] 22))
          have huX := World.ownsRow.alloc (row_mono hownC hsz) (.cells #[.slice aC (0 + 1) capC] 22)
          have hbX : Below w1.heap.size w1 wC := hbp.trans (bAC.mono hbp.size)
          have hsX := hbX.size
          obtain ⟨us, hus, hul, hue⟩ := hfX
          go_wp2_with (at_builtin; refine wpList_append_own _ rfl _ _ 64 rfl w1.heap.size 22 l0 _ 1 24 Tryz.underlying64 li lz0 lz1 lz2 rfl (by decide) _ _ _ rfl hus ⟨wC.heap.size, 0, none⟩ 1 1 [.slice aC (0 + 1) capC] rfl rfl (cell_one_new _ _ _) (by intro u hu; simp at hu; subst hu; rfl) (by rw [H13.out]; unfold maxLen; omega) (by rw [H13.out]; omega) (by simp; omega) ?_; intro vY wY hownY hgrowY _)
          have RR := ll_push (is := [q A]) (show Owns w1.heap.size _ _ [q A] from huX) hgrowY hus hul hue hownY
          have hbY := (hbX.alloc hsX (.cells #[.slice aC (0 + 1) capC] 22)).grown hgrowY (by simp; omega) (fun j hj => (World.ownsRow.lt hus j hj).1)
          go_roundw
          case rel => exact ⟨k + 1, by omega, by go_num, by rw [H8.out]; exact RR, hbY⟩
          case measure => simp [intOf]; omega
        · have H7' : Hid (sr = [q A, q B]) := H7
          obtain ⟨_, g0, g1, g2, g3, g4⟩ := hBp.below bAC
          obtain ⟨_, p0, p1, p2, p3, p4, p5⟩ := hPp.below bAC
          have hpC := hpp.below bAC
          go_upto_region 12 with (first
            | (go_at_call 93; refine (hwr _ _ hpC).mono ?_; rintro e wD ⟨rfl, bD⟩)
            | (at_builtin; refine wpList_append_own _ rfl _ _ 22 rfl wB.heap.size 3 i0 (.int .i64 0) 1 8 Tryz.underlying22 hi hz0 hz1 hz2 rfl (by decide) _ _ _ rfl (World.ownsRow.alloc (ownsRow_below hownC bD (Nat.le_refl _)) _) ⟨wD.heap.size, 0, none⟩ 1 1 [.int .i64 (q B)] rfl rfl (cell_one_new _ _ _) (by intro u hu; simp at hu; subst hu; rfl) (by unfold maxLen; omega) (by omega) (by have h1 := bC.size; have h2 := bD.size; simp; omega) ?_; intro vE wE hownE hgrowE _; obtain ⟨aE, capE, hvE⟩ := owns_slice hownE; subst hvE))
          have bE : Below wB.heap.size wB wE := ((bC.trans (bD.mono bC.size)).alloc (Nat.le_trans bC.size bD.size) _).grown hgrowE (by have h1 := bC.size; have h2 := bD.size; simp; omega) (fun j hj => (World.ownsRow.lt (w := wC) hownC j hj).1)
          clear g0 g1 g2 g3 g4 p0 p1 p2 p3 p4 p5 hgrowE
          have hsr := H7'.out
          subst hsr
          have hfX := (((howp.below bB).below bE)).below ((Below.refl _ wE).alloc (Nat.le_refl _) (.cells #[.slice aE (0 + 1 + 1) capE] 22))
          have huX := World.ownsRow.alloc (row_mono hownE hsz) (.cells #[.slice aE (0 + 1 + 1) capE] 22)
          have hbX : Below w1.heap.size w1 wE := hbp.trans ((below_step bB bE).mono hbp.size)
          have hsX := hbX.size
          obtain ⟨us, hus, hul, hue⟩ := hfX
          go_wp2_with (at_builtin; refine wpList_append_own _ rfl _ _ 64 rfl w1.heap.size 22 l0 _ 1 24 Tryz.underlying64 li lz0 lz1 lz2 rfl (by decide) _ _ _ rfl hus ⟨wE.heap.size, 0, none⟩ 1 1 [.slice aE (0 + 1 + 1) capE] rfl rfl (cell_one_new _ _ _) (by intro u hu; simp at hu; subst hu; rfl) (by rw [H13.out]; unfold maxLen; omega) (by rw [H13.out]; omega) (by simp; omega) ?_; intro vY wY hownY hgrowY _)
          have RR := ll_push (is := [q A, q B]) (show Owns w1.heap.size _ _ [q A, q B] from huX) hgrowY hus hul hue hownY
          have hbY := (hbX.alloc hsX (.cells #[.slice aE (0 + 1 + 1) capE] 22)).grown hgrowY (by simp; omega) (fun j hj => (World.ownsRow.lt hus j hj).1)
          go_roundw
          case rel => exact ⟨k + 1, by omega, by go_num, by rw [H8.out]; exact RR, hbY⟩
          case measure => simp [intOf]; omega
    · have hke : k = len := by omega
      subst hke
      obtain ⟨a2, c2, rfl⟩ : ∃ a cap, _ = Value.slice a (srcs ps k).length cap := by obtain ⟨us, h1, _⟩ := id hown; exact owns_slice h1
      obtain ⟨_, g0, g1, g2, g3, g4⟩ := id hBr
      go_wp2
      go_ret
      exact ⟨⟨_, rfl, hown.mono hb0.size⟩, below_step hb0 hbr⟩
end Go.Proofs.YtaenpgdmiaekcaaGreatDoor
/-
  RENDER: frame.Render.
-/
namespace Go.Proofs.YtaenpgdmiaekcaaGreatDoor
set_option maxRecDepth 100000
open Go.RowKit Im

/-- What frame.Render tells. -/
def renderP (f : Fr) : Res := if frameE f = 0 then (pics f f.ps.length).getD (shownP f).toNat (noRes 0) else noRes (frameE f)
/-- Behind the region: the image r lies in a block of its own. -/
def Made9 (wP : World) (r : Res) (s9 s10 : Value) (wx : World) : Prop :=
  s10 = .int .i64 r.E ∧ ∃ b ra rc, s9 = .pointer (some ⟨b, 0, none⟩) ∧ wx.cell? ⟨b, 0, none⟩ = some (.int .i64 r.W) ∧ wx.cell? ⟨b, 1, none⟩ = some (.int .i64 r.H) ∧ wx.cell? ⟨b, 2, none⟩ = some (.slice ra r.ps.length rc) ∧ Ints wP.heap.size wx ra r.ps.length r.ps ∧ Below wP.heap.size wP wx
theorem szs_at (f : Fr) {n k : Nat} (h : k < n) : (szs f n).getD k Sz.zero = sizeN f k := by
  induction n with
  | zero => omega
  | succ n ih =>
    have e : szs f (n + 1) = szs f n ++ [sizeN f n] := rfl
    have l := szs_length f n
    rw [e]
    by_cases hk : k < n
    · rw [getD_left _ _ _ (by omega), ih hk]
    · have : k = n := by omega
      subst this
      rw [getD_last _ _ _ (by omega)]
theorem srcs_at (ps : List Ps) {n k : Nat} (h : k < n) : (srcs ps n).getD k [] = srcOf ps k := by
  unfold srcs
  simp [List.getD_eq_getElem?_getD, h]
end Go.Proofs.YtaenpgdmiaekcaaGreatDoor
/-
  KEPTREF: which passes are needed, as numbers alone; the reference's KeptOf.
-/
namespace Go.Proofs.YtaenpgdmiaekcaaGreatDoor
set_option maxRecDepth 100000
open Go.RowKit Im

/-- The marks g, and those of is besides. -/
def markG (g : Nat → Bool) (is : List Int) (j : Nat) : Bool := g j || is.any fun i => decide (i = (j : Int))
/-- The marks when the last k of n passes have been asked. -/
def keptG (ps : List Ps) (n : Nat) (last : Int) : Nat → Nat → Bool
  | 0, j => decide (last = (j : Int))
  | k + 1, j => if keptG ps n last k (n - 1 - k) = true then markG (keptG ps n last k) (srcOf ps (n - 1 - k)) j else keptG ps n last k j
theorem markG_nil (g : Nat → Bool) : markG g [] = g := by funext j; simp [markG]
theorem markG_take (g : Nat → Bool) (is : List Int) (k : Nat) (hk : k < is.length) (j : Nat) : markG g (is.take (k + 1)) j = if is.getD k 0 = (j : Int) then true else markG g (is.take k) j := by
  unfold markG
  rw [List.take_succ_eq_append_getElem hk, List.any_append, List.getD_eq_getElem?_getD, List.getElem?_eq_getElem hk]
  by_cases h : is[k] = (j : Int) <;> simp [h]
/-- Marks in memory, in a block of their own. -/
structure Bl (w : World) (b n : Nat) (g : Nat → Bool) : Prop where
  lt : b < w.heap.size
  cells : ∀ j, j < n → w.cell? ⟨b, j, none⟩ = some (.bool (g j))
  froz : ∀ o, w.frozen? ⟨b, o, none⟩ = false
theorem Bl.below {w w' : World} {b n B : Nat} {g : Nat → Bool} (h : Bl w b n g) (hb : Below B w w') (hB : b < B) (hs : w.heap.size ≤ w'.heap.size) : Bl w' b n g :=
  ⟨Nat.lt_of_lt_of_le h.lt hs, fun j hj => (hb.cell (p := ⟨b, j, none⟩) hB).trans (h.cells j hj), fun o => (hb.frozen (p := ⟨b, o, none⟩) hB).trans (h.froz o)⟩
theorem Bl.put {w : World} {b n : Nat} {g g' : Nat → Bool} (h : Bl w b n g) (m : Nat) (hm : m < n) (hg : ∀ j, j < n → g' j = if m = j then true else g j) : Bl (w.setCell ⟨b, m, none⟩ (.bool true)) b n g' := by
  refine ⟨by simpa using h.lt, fun j hj => ?_, fun o => by simpa using h.froz o⟩
  rw [hg j hj]
  by_cases e : m = j
  · subst e
    rw [if_pos rfl]
    exact set_same (h.cells m hm)
  · rw [if_neg e, set_other _ (fun e' => e (by injection e'))]
    exact h.cells j hj
theorem Bl.congr {w : World} {b n : Nat} {g g' : Nat → Bool} (h : Bl w b n g) (hg : ∀ j, j < n → g' j = g j) : Bl w b n g' := ⟨h.lt, fun j hj => by rw [hg j hj]; exact h.cells j hj, h.froz⟩
theorem Bl.made {w : World} {base b N cap : Nat} (h : w.ownsRow base 4 1 (.slice (some ⟨b, 0, none⟩) N cap) N (madeCells (Value.bool false).cells (N * 1)).toList) (hb : b < w.heap.size) : Bl w b N (fun _ => false) := by
  refine ⟨hb, fun j hj => ?_, fun o => World.ownsRow.frozenAt h o⟩
  rw [World.ownsRow.cellAt h j (by omega)]
  have e : (Value.bool false).cells = #[.bool false] := rfl
  rw [e]
  simp only [madeCells, Array.toList_map, Array.toList_range, List.getElem?_map, List.getElem?_range (show j < N * 1 by omega), Option.map_some]
  congr 1
  show (#[Value.bool false] : Array Value)[j % 1]! = _
  rw [Nat.mod_one]
  rfl
theorem Tryz.infoBool : (Tryz.prog.info? 4).map (fun i => (i.zero, i.size, i.bytes)) = some (some (.bool false), 1, 1) := by kernel_rfl
/-- The call's end tells the marks g. -/
def ToldK (w : World) (n : Nat) (g : Nat → Bool) (e : Ending) (w' : World) : Prop :=
  (∃ b, e = .returned (.slice (some ⟨b, 0, none⟩) n n) ∧ w.heap.size ≤ b ∧ Bl w' b n g) ∧ Below w.heap.size w w'
set_option maxHeartbeats 4000000 in
theorem keptOf_any (W H S O : Int) (a : Option Addr) (len cap : Nat) (ps : List Ps) (w : World) (hp : Passes w a len ps) (hE : frameE ⟨W, H, S, O, ps⟩ = 0) :
    Calls Tryz.prog 53 #[.agg #[.int .i64 W, .int .i64 H, .int .i64 S, .int .i64 O, .slice a len cap]] w (ToldK w len (keptG ps len (shownP ⟨W, H, S, O, ps⟩) len)) := by
  obtain rfl := hp.leng
  obtain ⟨hbnd, hfirst, hsh⟩ := frameE_zero hE
  dsimp only at hfirst
  obtain ⟨_, _, _, _, hL⟩ := boundsE_zero hbnd
  dsimp only at hL
  obtain ⟨N, hN⟩ := Int.eq_ofNat_of_zero_le hsh
  have hNl : N < ps.length := by have := (wrt_bd ps ps.length O).2; have e : shownP ⟨W, H, S, O, ps⟩ = wrt ps ps.length O := rfl; omega
  obtain ⟨i0, hi, hz0, hz1, hz2⟩ := info_parts Tryz.infoBool
  have hb0 := below_box (Below.refl w.heap.size w) (.cells #[.int .i64 W, .int .i64 H, .int .i64 S, .int .i64 O, .slice a ps.length cap] 35)
  have hB := FBox.new w W H S O a ps.length cap
  have hsr := sourcesOfRef_any W H S O a ps.length cap ps _ (hp.below hb0) hL.2
  have hla := fun wx hp => lastOf_any W H S O a ps.length cap ps wx hp
  rw [hN] at hla ⊢
  have hs2 : ∀ x ∈ srcs ps ps.length, x.length ≤ 2 := by
    intro x hx
    unfold srcs at hx
    rw [List.mem_map] at hx
    obtain ⟨n, _, rfl⟩ := hx
    unfold srcOf
    rw [List.length_map]
    exact takesP_len _
  have hin : ∀ n, n < ps.length → ∀ i ∈ srcOf ps n, 0 ≤ i ∧ i < n := fun n hn => by
    have hfk := firstE_down ⟨W, H, S, O, ps⟩ hfirst (k := n) (by omega)
    have hpE : passE ⟨W, H, S, O, ps⟩ n = 0 := (firstE_at ⟨W, H, S, O, ps⟩ hfk).symm.trans (firstE_down ⟨W, H, S, O, ps⟩ hfirst (k := n + 1) (by omega))
    exact src_bd (passE_zero hpE).2.1
  have HIN : Hid (_) := hin
  have hp0 := hp.below hb0
  clear hN hin hbnd hfirst hsh hp hE
  go_enter Tryz.func53, Tryz.ntmps53
  go_wp2_with fail
  refine hsr.mono ?_
  clear hsr
  rintro e w1 ⟨⟨v1, rfl, hLL⟩, b1⟩
  obtain ⟨sa, scap, rfl, hSs⟩ := hLL.lls hs2
  rw [srcs_length] at hSs ⊢
  have hB1 := hB.below b1
  have hb1 := below_step hb0 b1
  have hp1 := hp0.below b1
  clear hB hb0 b1 hLL hs2 hp0
  obtain ⟨_, g0, g1, g2, g3, g4⟩ := id hB1
  go_upto_region 3 with (at_make; refine wpList_make_full _ rfl _ _ 78 rfl w1.heap.size 4 i0 (.bool false) 1 Tryz.underlying78 hi hz0 hz1 .i64 .i64 _ _ ps.length rfl rfl (by simp) (by simp) (by rw [hz2]; omega) (by unfold maxLen; omega) (Nat.le_refl _) ?_; intro wM hown hgrow)
  have hbM : Below w1.heap.size w1 wM := (Below.refl _ _).grown hgrow (Nat.le_refl _) (fun k hk => by cases hk)
  have hlM := (World.ownsRow.lt (w := wM) hown w1.heap.size rfl).2
  have hKM := Bl.made hown hlM
  clear hown hgrow g0 g1 g2 g3 g4
  have hBM := hB1.below hbM
  obtain ⟨_, g0, g1, g2, g3, g4⟩ := id hBM
  go_wp2_with fail
  refine (hla _ (hp1.below hbM)).mono ?_
  rintro e w2 ⟨rfl, b2⟩
  have hK2 := hKM.below b2 hlM b2.size
  have hbW2 := below_step hbM b2
  have hB2 := hB1.below hbW2
  have k0 := hK2.cells N hNl
  have kf := hK2.froz N
  have hNi : (N : Int) < (ps.length : Int) := by omega
  have hK3 := hK2.put (g' := keptG ps ps.length N 0) N hNl (fun j hj => by
    show decide ((N : Int) = (j : Int)) = _
    by_cases h : N = j
    · subst h; simp
    · have h' : ¬ (N : Int) = (j : Int) := by omega
      simp [h, h'])
  have hbW3 : Below w1.heap.size w1 (w2.setCell ⟨w1.heap.size, N, none⟩ (.bool true)) := hbW2.setCell (p := ⟨w1.heap.size, N, none⟩) (Nat.le_refl _) _
  have hwl : IntKind.i64.wrap ((ps.length : Int) - 1) = (ps.length : Int) - 1 := by rw [IntKind.wrap_i64]; omega
  clear g0 g1 g2 g3 g4 hKM hla hbM hlM hBM b2
  go_wp2
  go_loopw [5] (fun i wr => ∃ k : Nat, k ≤ ps.length ∧ i = .int .i64 ((ps.length : Int) - 1 - k) ∧ Bl wr w1.heap.size ps.length (keptG ps ps.length N k) ∧ Below w1.heap.size w1 wr) (fun i _ => (intOf i + 1).toNat)
  case atStart => exact ⟨0, Nat.zero_le _, by simp, hK3, hbW3⟩
  case round =>
    obtain ⟨k, hk, rfl, hKr, hbr⟩ := hrel
    clear hK2 hK3 hbW2 hbW3 hB2 k0 kf
    by_cases hlt : k < ps.length
    · obtain ⟨m, hm⟩ : ∃ m : Nat, m = ps.length - 1 - k := ⟨_, rfl⟩
      have hmi : (ps.length : Int) - 1 - k = (m : Int) := by omega
      have hml : m < ps.length := by omega
      have hmI : (m : Int) < (ps.length : Int) := by omega
      have hm0 : (0 : Int) ≤ (m : Int) := by omega
      obtain ⟨sb, so, ua, uc, rfl, hsb, qq, hUI⟩ := hSs.nth hml
      rw [srcs_at _ hml] at qq hUI
      have hin := HIN.out m hml
      have HKG : Hid (∀ j, keptG ps ps.length N (k + 1) j = if keptG ps ps.length N k m = true then markG (keptG ps ps.length N k) (srcOf ps m) j else keptG ps ps.length N k j) := fun j => by rw [hm]; rfl
      have hsl : (srcOf ps m).length ≤ 2 := by unfold srcOf; rw [List.length_map]; exact takesP_len _
      have hw1 : IntKind.i64.wrap ((m : Int) - 1) = (m : Int) - 1 := by rw [IntKind.wrap_i64]; omega
      have HMN : Hid ((m : Int) - 1 = (ps.length : Int) - 1 - ((k + 1 : Nat) : Int)) := by show _ = _; omega
      rw [hmi]
      have km := hKr.cells m hml
      generalize keptG ps ps.length N k = g at hKr HKG km
      generalize srcOf ps m = sr at qq hUI hin HKG hsl
      have q0 := (hbr.cell (p := ⟨sb, so + m, none⟩) hsb).trans qq
      clear hm hmi
      have hgm : ∀ k', markG g (sr.take k') m = true ∨ True := fun _ => .inr trivial
      clear hgm
      obtain ⟨wO, e0⟩ : ∃ z, z = wr := ⟨_, rfl⟩
      subst e0
      generalize hx : g m = x at km HKG
      cases x with
      | false =>
        go_wp2
        go_loopw [6] (fun i ws => i = .int .i64 0 ∧ ws = wO) (fun _ _ => 0)
        case atStart => exact ⟨rfl, rfl⟩
        case round =>
          obtain ⟨rfl, rfl⟩ := hrel
          go_wp2
          all_goals go_roundw
          all_goals first
            | exact ⟨k + 1, by omega, by rw [HMN.out], hKr.congr (fun j _ => by rw [HKG.out j, if_neg (by decide)]), hbr⟩
            | (show ((m : Int) - 1 + 1).toNat < ((m : Int) + 1).toNat; omega)
      | true =>
        clear q0 km
        go_wp2
        go_loopw [6] (fun i ws => ∃ t : Nat, t ≤ sr.length ∧ i = .int .i64 t ∧ Bl ws w1.heap.size ps.length (markG g (sr.take t)) ∧ Below w1.heap.size w1 ws) (fun i _ => sr.length - (intOf i).toNat)
        case atStart => exact ⟨0, Nat.zero_le _, rfl, by rw [List.take_zero, markG_nil]; exact hKr, hbr⟩
        case round =>
          obtain ⟨t, ht, rfl, hKt, hbt⟩ := hrel
          have q0 := (hbt.cell (p := ⟨sb, so + m, none⟩) hsb).trans qq
          have km := hKt.cells m hml
          have hgm : markG g (sr.take t) m = true := by unfold markG; rw [hx]; rfl
          rw [hgm] at km
          by_cases htl : t < sr.length
          · obtain ⟨bu, ou, rfl, hcx⟩ := (hUI.below (Nat.le_refl _) hbt).nth htl
            have hr := hin _ (getD_mem htl 0)
            have HS : Hid (∀ j : Nat, markG g (sr.take (t + 1)) j = if sr.getD t 0 = (j : Int) then true else markG g (sr.take t) j) := fun j => markG_take g sr t htl j
            generalize sr.getD t 0 = n at hcx hr HS
            obtain ⟨q, rfl⟩ := Int.eq_ofNat_of_zero_le hr.1
            have hql : q < ps.length := by omega
            have hqI : (q : Int) < (ps.length : Int) := by omega
            have kq := hKt.cells q hql
            have kf := hKt.froz q
            have hK9 := hKt.put (g' := markG g (sr.take (t + 1))) q hql (fun j hj => by
              rw [HS.out j]
              by_cases h : q = j
              · subst h; simp
              · have h' : ¬ (q : Int) = (j : Int) := by omega
                rw [if_neg h, if_neg h'])
            have hb9 := hbt.setCell (p := ⟨w1.heap.size, q, none⟩) (Nat.le_refl _) (.bool true)
            have HK9 : Hid (_) := hK9
            clear hK9 HKG hKr hx hgm
            go_wp2
            go_roundw
            case rel => exact ⟨t + 1, by omega, by go_num, HK9.out, hb9⟩
            case measure => simp [intOf]; omega
          · have hte : t = sr.length := by omega
            subst hte
            rw [List.take_length] at hKt
            clear hx hgm hKr
            go_wp2
            go_roundw
            case rel => exact ⟨k + 1, by omega, by rw [HMN.out], hKt.congr (fun j _ => by rw [HKG.out j, if_pos (by trivial)]), hbt⟩
            case measure => show ((m : Int) - 1 + 1).toNat < ((m : Int) + 1).toNat; omega
    · have hke : k = ps.length := by omega
      subst hke
      have hz : (ps.length : Int) - 1 - (ps.length : Int) = -1 := by omega
      rw [hz]
      go_wp2
      go_ret
      exact ⟨⟨w1.heap.size, rfl, hb1.size, hKr⟩, below_step hb1 hbr⟩
end Go.Proofs.YtaenpgdmiaekcaaGreatDoor
