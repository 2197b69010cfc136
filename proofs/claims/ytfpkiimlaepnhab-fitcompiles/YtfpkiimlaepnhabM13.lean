/-
  SPANSREF: the reference's SpansOf.
-/
import Derived.Test.YtfpkiimlaepnhabM11
import Derived.Test.YtfpkiimlaepnhabM12
namespace Go.Proofs.Ytfpkiimlaepnhab
set_option maxRecDepth 100000
open Go.RowKit Im Go.Maps

def OwnsS (base : Nat) (w : World) (v : Value) (zs : List Sz) : Prop := w.ownsRow base 41 2 v zs.length (zcells zs)
theorem OwnsS.zs {base : Nat} {w : World} {v : Value} {zs : List Sz} (h : OwnsS base w v zs) (hb : zs.length ≤ 4096) : ∃ a cap, v = .slice a zs.length cap ∧ Zs w a zs.length zs := by
  obtain ⟨h1, h2⟩ := h
  rcases h2 with ⟨rfl, h0⟩ | ⟨g, cap, cur, rfl, hg, hh, hc, hm, hs, ht⟩
  · have : zs = [] := by simpa using h0
    subst this
    exact ⟨none, 0, rfl, Zs.nil w⟩
  · refine ⟨_, cap, rfl, rfl, by omega, .inr ⟨g, 0, rfl, ?_, fun j hj => ?_⟩⟩
    · rcases Nat.lt_or_ge g w.heap.size with h | h
      · exact h
      · rw [Array.getElem?_eq_none h] at hh; cases hh
    · have hl := zcells_len zs
      have hg2 := zcells_get zs j hj
      have this := fun i hi => World.ownsRow.cellAt (base := base) (e := 41) (size := 2) ⟨h1, .inr ⟨g, cap, cur, rfl, hg, hh, hc, hm, hs, ht⟩⟩ i hi
      rw [Nat.zero_add, this (j * 2) (by omega), this (j * 2 + 1) (by omega)]
      exact hg2
theorem OwnsS.push {base : Nat} {w wx w1 : World} {v v' : Value} {zs : List Sz} {z : Sz} {B0 : World} {o : Obj} (h : OwnsS base w v zs) (hb : Below base B0 w) (hB : base ≤ w.heap.size)
    (h' : w1.ownsRow base 41 2 v' (zs.length + 1) (zcells zs ++ [.int .i64 z.1, .int .i64 z.2])) (hx : wx = w.alloc o) (hg : wx.grownBy w1 v.ownBlock) : OwnsS base w1 v' (zs ++ [z]) ∧ Below base B0 w1 := by
  subst hx
  refine ⟨by unfold OwnsS; rw [zcells_snoc]; simpa using h', ?_⟩
  exact (hb.alloc hB o).grown hg (by simp; omega) (fun j hj => (World.ownsRow.lt (w := w) h j hj).1)
/-- The call's end tells the spans L. -/
def ToldSL (w : World) (L : List Sz) (e : Ending) (w' : World) : Prop :=
  ∃ a cap, e = .returned (.slice a L.length cap) ∧ Zs w' a L.length L ∧ Below w.heap.size w w'
/-- A span in a box that may be written. -/
structure SBox (w : World) (b : Nat) (x y : Int) : Prop where
  lt : b < w.heap.size
  c0 : w.cell? ⟨b, 0, none⟩ = some (.int .i64 x)
  c1 : w.cell? ⟨b, 1, none⟩ = some (.int .i64 y)
  fz : ∀ o, w.frozen? ⟨b, o, none⟩ = false
theorem SBox.new (w : World) (x y : Int) (t : TypeId) : SBox (w.alloc (.cells #[.int .i64 x, .int .i64 y] t)) w.heap.size x y := ⟨by simp, by simp [go_sem], by simp [go_sem], fun o => frozen_new w _ _ o⟩
theorem SBox.drew {w : World} {b : Nat} {x y : Int} (h : SBox w b x y) : SBox w.drew b x y := ⟨h.lt, h.c0, h.c1, h.fz⟩
theorem SBox.below {w w' : World} {b : Nat} {x y : Int} (h : SBox w b x y) (hb : Below w.heap.size w w') : SBox w' b x y :=
  ⟨Nat.lt_of_lt_of_le h.lt hb.size, (hb.cell (p := ⟨b, 0, none⟩) h.lt).trans h.c0, (hb.cell (p := ⟨b, 1, none⟩) h.lt).trans h.c1, fun o => (hb.frozen (p := ⟨b, o, none⟩) h.lt).trans (h.fz o)⟩
theorem SBox.put {w : World} {b : Nat} {x y : Int} (h : SBox w b x y) (z : Int) : SBox (w.setCell ⟨b, 1, none⟩ (.int .i64 z)) b x z :=
  ⟨by simpa using h.lt, (set_other _ (fun e => by injection e with e1 e2; omega)).trans h.c0, set_same h.c1, fun o => by simpa using h.fz o⟩
theorem spans_succ (g : Nat → Int × Int) (k : Nat) : (List.range (k + 1)).map g = (List.range k).map g ++ [g k] := by simp [List.range_succ]
set_option maxHeartbeats 8000000 in
theorem spansOfRef_any (W H S O : Int) (a : Option Addr) (len cap : Nat) (ps : List Ps) (w : World) (hp : Passes w a len ps) (oa : Option Addr) (olen ocap : Nat) (pv : Value) (os : List Int) (hO : Ints 0 w oa olen os) (hE : frameE ⟨W, H, S, O, ps⟩ = 0) (hos : ∀ o ∈ os, 0 ≤ o ∧ o < ps.length) (hol : os.length ≤ 12) :
    Calls Try.prog 18 #[.agg #[.int .i64 W, .int .i64 H, .int .i64 S, .int .i64 O, .slice a len cap], .agg #[.slice oa olen ocap, pv]] w (ToldSL w ((List.range ps.length).map (spanP (gpOf ⟨W, H, S, O, ps⟩) os))) := by
  obtain rfl := hp.leng
  obtain rfl := hO.leng
  have hR := gp_right hE
  have hN12 : ps.length ≤ 12 := hR.hN.2
  obtain ⟨i0, hi, hz0, hz1, hz2⟩ := info_parts Try.infoSpan
  have hb0 := below_box (below_box (Below.refl w.heap.size w) (.cells #[.int .i64 W, .int .i64 H, .int .i64 S, .int .i64 O, .slice a ps.length cap] 24)) (.cells #[.slice oa os.length ocap, pv] 27)
  have hF0 := (FBox.new w W H S O a ps.length cap).alloc (.cells #[.slice oa os.length ocap, pv] 27)
  have hP0 := PlBox.new (w.alloc (.cells #[.int .i64 W, .int .i64 H, .int .i64 S, .int .i64 O, .slice a ps.length cap] 24)) (.slice oa os.length ocap) pv 27
  rw [World.size_alloc] at hP0
  have hs2 : ∀ x ∈ srcs ps ps.length, x.length ≤ 2 := by
    intro x hx
    unfold srcs at hx
    rw [List.mem_map] at hx
    obtain ⟨n, _, rfl⟩ := hx
    unfold srcOf
    rw [List.length_map]
    exact takesP_len _
  have hso := sourcesOfRef_any W H S O a ps.length cap ps _ (hp.below hb0) hN12
  have hla := fun wx hp => lastOf_any W H S O a ps.length cap ps wx hp
  have HSR : Hid (∀ k, k < ps.length → (srcs ps ps.length).getD k [] = srcOf ps k) := fun k hk => srcs_at ps hk
  have HOS : Hid (_) := hos
  have HSP : Hid (∀ k, spanP (gpOf ⟨W, H, S, O, ps⟩) os k = (stepAt os k, if (k : Int) = shownP ⟨W, H, S, O, ps⟩ then (os.length : Int) - 1 else ltk (srcOf ps) os k (stepAt os k) os.length)) := fun _ => rfl
  have HLT : Hid (∀ k d n, ltk (srcOf ps) os k d (n + 1) = if k ∈ srcOf ps (os.getD n 0).toNat then (n : Int) else ltk (srcOf ps) os k d n) := fun _ _ _ => rfl
  have hwo : IntKind.i64.wrap ((os.length : Int) - 1) = (os.length : Int) - 1 := by rw [IntKind.wrap_i64]; omega
  generalize spanP (gpOf ⟨W, H, S, O, ps⟩) os = G at *
  generalize shownP ⟨W, H, S, O, ps⟩ = sh at *
  clear hos hR
  go_enter Try.func18, Try.ntmps18
  go_wp2_with fail
  refine hso.mono ?_
  clear hso
  rintro e w1 ⟨⟨v1, rfl, hLL⟩, b1⟩
  obtain ⟨sa, sc, rfl, hSs⟩ := hLL.lls hs2
  rw [srcs_length] at hSs ⊢
  have hF1 := hF0.below b1
  have hP1 := hP0.below b1
  have hb1 := below_step hb0 b1
  have hp1 := hp.below hb1
  have hO1 := hO.below (Nat.le_refl _) hb1
  clear hLL hs2 hF0 hP0 hb0 b1 hp hO
  go_wp2
  go_loopw [6, 7] (fun v i wr => ∃ k : Nat, k ≤ ps.length ∧ i = .int .i64 k ∧ OwnsS w1.heap.size wr v ((List.range k).map G) ∧ Below w1.heap.size w1 wr) (fun _ i _ => ps.length - (intOf i).toNat)
  case atStart => exact ⟨0, Nat.zero_le _, rfl, World.ownsRow_nil _ _ _ _, Below.refl _ _⟩
  case round =>
    obtain ⟨k, hk, rfl, hown, hbr⟩ := hrel
    obtain ⟨wO, e0⟩ : ∃ z, z = wr := ⟨_, rfl⟩
    subst e0
    have hFr := hF1.below hbr
    have hPr := hP1.below hbr
    obtain ⟨_, g0, g1, g2, g3, g4⟩ := id hFr
    by_cases hlt : k < ps.length
    · obtain ⟨_, h0, h1⟩ := id hPr
      have hkI : (k : Int) < (ps.length : Int) := by omega
      have hk0 : (0 : Int) ≤ (k : Int) := by omega
      have HG : Hid (_) := HSP.out k
      have HL : Hid (∀ d n, ltk (srcOf ps) os k d (n + 1) = if (k : Int) ∈ srcOf ps (os.getD n 0).toNat then (n : Int) else ltk (srcOf ps) os k d n) := fun d n => HLT.out k d n
      have hsk := fun wx (h : Below wO.heap.size wO wx) => stepOf_any ocap ((hO1.below (Nat.le_refl _) hbr).below (Nat.le_refl _) h) k
      generalize hst : stepAt os k = st at hsk HG
      clear hst
      have hok := fun o => (Below.refl wO.heap.size wO).alloc (Nat.le_refl _) o
      have hpl := hPr.lt
      have hd := (Below.refl wO.heap.size wO).drew
      go_wp2
      go_region_held3 (fun w' => w'.cell? ⟨w.heap.size + 1, 0, none⟩ = some (.slice oa os.length ocap))
        (first | exact h0 | exact ((hok _).cell (p := ⟨w.heap.size + 1, 0, none⟩) hpl).trans h0)
        ((go_at_call 47; refine (hsk _ (by first | exact hd | exact (hok _).drew)).mono ?_; rintro e w3 ⟨rfl, rfl⟩))
      all_goals
        have bX : Below wO.heap.size wO (wO.alloc (.cells #[.int .i64 st, .int .i64 st] 41)).drew := (hok _).drew
        have hX := (SBox.new wO st st 41).drew
        generalize (wO.alloc (.cells #[.int .i64 st, .int .i64 st] 41)).drew = wX at *
        clear h0 h1 g0 g1 g2 g3 g4 hok hd hsk
        have hpl2 : ((List.range k).map G).length = k := by simp
        have HPL2 : Hid (_) := hpl2
        clear hpl2
        obtain ⟨_, h0, h1⟩ := hPr.below bX
        go_wp2
        go_loopw [9] (fun i ws => ∃ n : Nat, n ≤ os.length ∧ i = .int .i64 n ∧ SBox ws wO.heap.size st (ltk (srcOf ps) os k st n) ∧ Below wO.heap.size wO ws) (fun i _ => os.length - (intOf i).toNat)
        case atStart => exact ⟨0, Nat.zero_le _, rfl, hX, bX⟩
        case round =>
          obtain ⟨n, hn, rfl, hXn, hbn⟩ := hrel
          clear hX bX h0 h1
          obtain ⟨_, h0, h1⟩ := hPr.below hbn
          obtain ⟨_, g0, g1, g2, g3, g4⟩ := hFr.below hbn
          by_cases hnl : n < os.length
          · obtain ⟨ob, oo, rfl, hox⟩ := ((hO1.below (Nat.le_refl _) hbr).below (Nat.le_refl _) hbn).nth hnl
            have hor := HOS.out _ (getD_mem hnl 0)
            have HL1 : Hid (_) := HL.out st n
            generalize os.getD n 0 = p at hox hor HL1
            obtain ⟨q, rfl⟩ := Int.eq_ofNat_of_zero_le hor.1
            rw [Int.toNat_natCast] at HL1
            have hql : q < ps.length := by omega
            have hqI : (q : Int) < (ps.length : Int) := by omega
            have hq0 : (0 : Int) ≤ (q : Int) := by omega
            obtain ⟨sb, so, ua, uc, rfl, hsb, qq, hUI⟩ := ((hSs.below hbr).below hbn).nth hql
            rw [HSR.out q hql] at qq hUI
            have hsm := stepOf_any uc hUI k
            have HM : Hid (0 ≤ stepAt (srcOf ps q) k ↔ (k : Int) ∈ srcOf ps q) := stepAt_mem
            generalize srcOf ps q = sr at qq hsm HM HL1
            generalize stepAt sr k = s at hsm HM
            obtain ⟨_, x0, x1, fz⟩ := id hXn
            have fz1 := fz 1
            clear fz
            by_cases hs : 0 ≤ s
            · have HL2 : Hid (_) := HL1.out.trans (if_pos (HM.out.1 hs))
              have hXp := hXn.put n
              have hbp := hbn.setCell (p := ⟨wO.heap.size, 1, none⟩) (Nat.le_refl _) (.int .i64 n)
              go_wp2_with (go_at_call 47; refine hsm.mono ?_; rintro e w3 ⟨rfl, rfl⟩)
              go_roundw
              case rel => exact ⟨n + 1, by omega, by go_num, by rw [HL2.out]; exact hXp, hbp⟩
              case measure => simp [intOf]; omega
            · have HL2 : Hid (_) := HL1.out.trans (if_neg (fun h => hs (HM.out.2 h)))
              go_wp2_with (go_at_call 47; refine hsm.mono ?_; rintro e w3 ⟨rfl, rfl⟩)
              go_roundw
              case rel => exact ⟨n + 1, by omega, by go_num, by rw [HL2.out]; exact hXn, hbn⟩
              case measure => simp [intOf]; omega
          · have hne : n = os.length := by omega
            subst hne
            have hlk := hla _ ((hp1.below hbr).below hbn)
            have hpl2 := HPL2.out
            by_cases hsh : (k : Int) = sh
            · go_upto_region 14 with (go_at_call 48; refine hlk.mono ?_; rintro e w4 ⟨rfl, b4⟩; have hX9 := hXn.below b4; have hb9 := below_step hbn b4; obtain ⟨_, y0, y1, fz⟩ := id hX9; have fz1 := fz 1; obtain ⟨_, h0, h1⟩ := (hPr.below hbn).below b4)
              have bT : Below wO.heap.size wO (w4.setCell ⟨wO.heap.size, 1, none⟩ (.int .i64 ((os.length : Int) - 1))) := hb9.setCell (p := ⟨wO.heap.size, 1, none⟩) (Nat.le_refl _) _
              have hT : SBox (w4.setCell ⟨wO.heap.size, 1, none⟩ (.int .i64 ((os.length : Int) - 1))) wO.heap.size st ((os.length : Int) - 1) := hX9.put _
              have HGk : Hid (G k = (st, (os.length : Int) - 1)) := by show _ = _; rw [HG.out, if_pos hsh]
              generalize w4.setCell ⟨wO.heap.size, 1, none⟩ (.int .i64 ((os.length : Int) - 1)) = wT at *
              have hownT : OwnsS w1.heap.size wT u6 ((List.range k).map G) := ownsRow_below hown bT (Nat.le_refl _)
              have hbT := hbr.trans (bT.mono hbr.size)
              have hszT := hbT.size
              obtain ⟨_, t0, t1, _⟩ := id hT
              clear bT hT hX9 hb9 hbn hXn
              generalize (os.length : Int) - 1 = y at *
              go_wp2_with (at_builtin; refine wpList_append_own _ rfl _ _ 32 rfl w1.heap.size 41 i0 _ 2 16 Try.underlying32 hi hz0 hz1 hz2 rfl (by decide) _ _ _ rfl (World.ownsRow.alloc hownT _) ⟨wT.heap.size, 0, none⟩ 1 1 [.int .i64 st, .int .i64 y] rfl rfl (cell_two_new _ _ _ _) (by intro u hu; simp at hu; rcases hu with rfl | rfl <;> rfl) (by rw [hpl2]; unfold maxLen; omega) (by rw [hpl2]; omega) (by simp; omega) ?_; intro v' w9 hown9 hgrow9 _)
              have RR := OwnsS.push (z := (st, y)) hownT hbT hszT hown9 rfl hgrow9
              go_roundw
              case rel => exact ⟨k + 1, by omega, by go_num, by rw [spans_succ, HGk.out]; exact RR.1, RR.2⟩
              case measure => simp [intOf]; omega
            · go_upto_region 14 with (go_at_call 48; refine hlk.mono ?_; rintro e w4 ⟨rfl, b4⟩; have hX9 := hXn.below b4; have hb9 := below_step hbn b4)
              have bT : Below wO.heap.size wO (w4) := hb9
              have hT : SBox (w4) wO.heap.size st (ltk (srcOf ps) os k st os.length) := hX9
              have HGk : Hid (G k = (st, ltk (srcOf ps) os k st os.length)) := by show _ = _; rw [HG.out, if_neg hsh]
              generalize w4 = wT at *
              have hownT : OwnsS w1.heap.size wT u6 ((List.range k).map G) := ownsRow_below hown bT (Nat.le_refl _)
              have hbT := hbr.trans (bT.mono hbr.size)
              have hszT := hbT.size
              obtain ⟨_, t0, t1, _⟩ := id hT
              clear bT hT hX9 hb9 hbn hXn
              generalize ltk (srcOf ps) os k st os.length = y at *
              go_wp2_with (at_builtin; refine wpList_append_own _ rfl _ _ 32 rfl w1.heap.size 41 i0 _ 2 16 Try.underlying32 hi hz0 hz1 hz2 rfl (by decide) _ _ _ rfl (World.ownsRow.alloc hownT _) ⟨wT.heap.size, 0, none⟩ 1 1 [.int .i64 st, .int .i64 y] rfl rfl (cell_two_new _ _ _ _) (by intro u hu; simp at hu; rcases hu with rfl | rfl <;> rfl) (by rw [hpl2]; unfold maxLen; omega) (by rw [hpl2]; omega) (by simp; omega) ?_; intro v' w9 hown9 hgrow9 _)
              have RR := OwnsS.push (z := (st, y)) hownT hbT hszT hown9 rfl hgrow9
              go_roundw
              case rel => exact ⟨k + 1, by omega, by go_num, by rw [spans_succ, HGk.out]; exact RR.1, RR.2⟩
              case measure => simp [intOf]; omega
    · have hke : k = ps.length := by omega
      subst hke
      obtain ⟨ra, rc, rfl, hZ⟩ := hown.zs (by simp; omega)
      go_wp2
      go_ret
      exact ⟨ra, rc, rfl, hZ, below_step hb1 hbr⟩
end Go.Proofs.Ytfpkiimlaepnhab
