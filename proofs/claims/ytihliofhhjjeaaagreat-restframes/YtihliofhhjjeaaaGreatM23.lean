/- SpansRef, PlaceRef, ExecG: joined, in this order. -/
import Derived.Test.YtihliofhhjjeaaaGreatM21
import Derived.Test.YtihliofhhjjeaaaGreatM22
import Derived.Test.YtihliofhhjjeaaaGreatM02
import Derived.Test.YtihliofhhjjeaaaGreatM20
import Derived.Deep.AppendLies
set_option maxRecDepth 100000
namespace Go.Proofs.YtihliofhhjjeaaaGreat
open Go.RowKit Im Go.Maps
def OwnsS (base : Nat) (w : World) (v : Value) (zs : List Sz) : Prop := w.ownsRow base 58 2 v zs.length (zcells zs)
theorem OwnsS.zs {base : Nat} {w : World} {v : Value} {zs : List Sz} (h : OwnsS base w v zs) (hb : zs.length ≤ 4096) : ∃ a cap, v = .slice a zs.length cap ∧ Zs w a zs.length zs := by
  obtain ⟨h1, h2⟩ := h
  rcases h2 with ⟨rfl, h0⟩ | ⟨g, cap, cur, rfl, hg, hh, hc, hm, hs, ht⟩
  · have : zs = [] := by simpa using h0
    subst this
    exact ⟨none, 0, rfl, Zs.nil w⟩
  · refine ⟨_, cap, rfl, rfl, by omega, .inr ⟨g, 0, rfl, ?_, fun j hj => ?_⟩⟩
    · rcases Nat.lt_or_ge g w.heap.size with h | h
      · exact h
      · rw [Array.getElem?_eq_none h] at hh; cases hh
    · have hl := zcells_len zs
      have hg2 := zcells_get zs j hj
      have this := fun i hi => World.ownsRow.cellAt (base := base) (e := 58) (size := 2) ⟨h1, .inr ⟨g, cap, cur, rfl, hg, hh, hc, hm, hs, ht⟩⟩ i hi
      rw [Nat.zero_add, this (j * 2) (by omega), this (j * 2 + 1) (by omega)]
      exact hg2
theorem OwnsS.push {base : Nat} {w wx w1 : World} {v v' : Value} {zs : List Sz} {z : Sz} {B0 : World} {o : Obj} (h : OwnsS base w v zs) (hb : Below base B0 w) (hB : base ≤ w.heap.size)
    (h' : w1.ownsRow base 58 2 v' (zs.length + 1) (zcells zs ++ [.int .i64 z.1, .int .i64 z.2])) (hx : wx = w.alloc o) (hg : wx.grownBy w1 v.ownBlock) : OwnsS base w1 v' (zs ++ [z]) ∧ Below base B0 w1 := by
  subst hx
  refine ⟨by unfold OwnsS; rw [zcells_snoc]; simpa using h', ?_⟩
  exact (hb.alloc hB o).grown hg (by simp; omega) (fun j hj => (World.ownsRow.lt (w := w) h j hj).1)
def ToldSL (w : World) (L : List Sz) (e : Ending) (w' : World) : Prop :=
  ∃ a cap, e = .returned (.slice a L.length cap) ∧ Zs w' a L.length L ∧ Below w.heap.size w w'
structure SBox (w : World) (b : Nat) (x y : Int) : Prop where
  lt : b < w.heap.size
  c0 : w.cell? ⟨b, 0, none⟩ = some (.int .i64 x)
  c1 : w.cell? ⟨b, 1, none⟩ = some (.int .i64 y)
  fz : ∀ o, w.frozen? ⟨b, o, none⟩ = false
theorem SBox.new (w : World) (x y : Int) (t : TypeId) : SBox (w.alloc (.cells #[.int .i64 x, .int .i64 y] t)) w.heap.size x y := ⟨by simp, by simp [go_sem], by simp [go_sem], fun o => frozen_new w _ _ o⟩
theorem SBox.drew {w : World} {b : Nat} {x y : Int} (h : SBox w b x y) : SBox w.drew b x y := ⟨h.lt, h.c0, h.c1, h.fz⟩
theorem SBox.below {w w' : World} {b : Nat} {x y : Int} (h : SBox w b x y) (hb : Below w.heap.size w w') : SBox w' b x y :=
  ⟨Nat.lt_of_lt_of_le h.lt hb.size, (hb.cell (p := ⟨b, 0, none⟩) h.lt).trans h.c0, (hb.cell (p := ⟨b, 1, none⟩) h.lt).trans h.c1, fun o => (hb.frozen (p := ⟨b, o, none⟩) h.lt).trans (h.fz o)⟩
theorem SBox.put {w : World} {b : Nat} {x y : Int} (h : SBox w b x y) (z : Int) : SBox (w.setCell ⟨b, 1, none⟩ (.int .i64 z)) b x z :=
  ⟨by simpa using h.lt, (set_other _ (fun e => by injection e with e1 e2; omega)).trans h.c0, set_same h.c1, fun o => by simpa using h.fz o⟩
theorem spans_succ (g : Nat → Int × Int) (k : Nat) : (List.range (k + 1)).map g = (List.range k).map g ++ [g k] := by simp [List.range_succ]
set_option maxHeartbeats 8000000 in
theorem spansOfRef_any (W H S O : Int) (a : Option Addr) (len cap : Nat) (ps : List Ps) (w : World) (hp : Passes w a len ps) (oa : Option Addr) (olen ocap : Nat) (pv : Value) (os : List Int) (hO : Ints 0 w oa olen os) (hE : frameE ⟨W, H, S, O, ps⟩ = 0) (hos : ∀ o ∈ os, 0 ≤ o ∧ o < ps.length) (hol : os.length ≤ 12) :
    Calls Tryz.prog 46 #[.agg #[.int .i64 W, .int .i64 H, .int .i64 S, .int .i64 O, .slice a len cap], .agg #[.slice oa olen ocap, pv]] w (ToldSL w ((List.range ps.length).map (spanP (gpOf ⟨W, H, S, O, ps⟩) os))) := by
  obtain rfl := hp.leng
  obtain rfl := hO.leng
  have hR := gp_right hE
  have hN12 : ps.length ≤ 12 := hR.hN.2
  obtain ⟨i0, hi, hz0, hz1, hz2⟩ := info_parts Tryz.infoSpan
  have hb0 := below_box (below_box (Below.refl w.heap.size w) (.cells #[.int .i64 W, .int .i64 H, .int .i64 S, .int .i64 O, .slice a ps.length cap] 24)) (.cells #[.slice oa os.length ocap, pv] 27)
  have hF0 := (FBox.new w W H S O a ps.length cap).alloc (.cells #[.slice oa os.length ocap, pv] 27)
  have hP0 := PlBox.new (w.alloc (.cells #[.int .i64 W, .int .i64 H, .int .i64 S, .int .i64 O, .slice a ps.length cap] 24)) (.slice oa os.length ocap) pv 27
  rw [World.size_alloc] at hP0
  have hs2 : ∀ x ∈ srcs ps ps.length, x.length ≤ 2 := by
    intro x hx
    unfold srcs at hx
    rw [List.mem_map] at hx
    obtain ⟨n, _, rfl⟩ := hx
    unfold srcOf
    rw [List.length_map]
    exact takesP_len _
  have hso := sourcesOfRef_any W H S O a ps.length cap ps _ (hp.below hb0) hN12
  have hla := fun wx hp => lastOf_any W H S O a ps.length cap ps wx hp
  have HSR : Hid (∀ k, k < ps.length → (srcs ps ps.length).getD k [] = srcOf ps k) := fun k hk => srcs_at ps hk
  have HOS : Hid (_) := hos
  have HSP : Hid (∀ k, spanP (gpOf ⟨W, H, S, O, ps⟩) os k = (stepAt os k, if (k : Int) = shownP ⟨W, H, S, O, ps⟩ then (os.length : Int) - 1 else ltk (srcOf ps) os k (stepAt os k) os.length)) := fun _ => rfl
  have HLT : Hid (∀ k d n, ltk (srcOf ps) os k d (n + 1) = if k ∈ srcOf ps (os.getD n 0).toNat then (n : Int) else ltk (srcOf ps) os k d n) := fun _ _ _ => rfl
  have hwo : IntKind.i64.wrap ((os.length : Int) - 1) = (os.length : Int) - 1 := by rw [IntKind.wrap_i64]; omega
  generalize spanP (gpOf ⟨W, H, S, O, ps⟩) os = G at *
  generalize shownP ⟨W, H, S, O, ps⟩ = sh at *
  clear hos hR
  go_enter Tryz.func46, Tryz.ntmps46
  go_wp2_with fail
  refine hso.mono ?_
  clear hso
  rintro e w1 ⟨⟨v1, rfl, hLL⟩, b1⟩
  obtain ⟨sa, sc, rfl, hSs⟩ := hLL.lls hs2
  rw [srcs_length] at hSs ⊢
  have hF1 := hF0.below b1
  have hP1 := hP0.below b1
  have hb1 := below_step hb0 b1
  have hp1 := hp.below hb1
  have hO1 := hO.below (Nat.le_refl _) hb1
  clear hLL hs2 hF0 hP0 hb0 b1 hp hO
  go_wp2
  go_loopw [6, 7] (fun v i wr => ∃ k : Nat, k ≤ ps.length ∧ i = .int .i64 k ∧ OwnsS w1.heap.size wr v ((List.range k).map G) ∧ Below w1.heap.size w1 wr) (fun _ i _ => ps.length - (intOf i).toNat)
  case atStart => exact ⟨0, Nat.zero_le _, rfl, World.ownsRow_nil _ _ _ _, Below.refl _ _⟩
  case round =>
    obtain ⟨k, hk, rfl, hown, hbr⟩ := hrel
    obtain ⟨wO, e0⟩ : ∃ z, z = wr := ⟨_, rfl⟩
    subst e0
    have hFr := hF1.below hbr
    have hPr := hP1.below hbr
    obtain ⟨_, g0, g1, g2, g3, g4⟩ := id hFr
    by_cases hlt : k < ps.length
    · obtain ⟨_, h0, h1⟩ := id hPr
      have hkI : (k : Int) < (ps.length : Int) := by omega
      have hk0 : (0 : Int) ≤ (k : Int) := by omega
      have HG : Hid (_) := HSP.out k
      have HL : Hid (∀ d n, ltk (srcOf ps) os k d (n + 1) = if (k : Int) ∈ srcOf ps (os.getD n 0).toNat then (n : Int) else ltk (srcOf ps) os k d n) := fun d n => HLT.out k d n
      have hsk := fun wx (h : Below wO.heap.size wO wx) => stepOf_any ocap ((hO1.below (Nat.le_refl _) hbr).below (Nat.le_refl _) h) k
      generalize hst : stepAt os k = st at hsk HG
      clear hst
      have hok := fun o => (Below.refl wO.heap.size wO).alloc (Nat.le_refl _) o
      have hpl := hPr.lt
      have hd := (Below.refl wO.heap.size wO).drew
      go_wp2
      go_region_held3 (fun w' => w'.cell? ⟨w.heap.size + 1, 0, none⟩ = some (.slice oa os.length ocap))
        (first | exact h0 | exact ((hok _).cell (p := ⟨w.heap.size + 1, 0, none⟩) hpl).trans h0)
        ((go_at_call 83; refine (hsk _ (by first | exact hd | exact (hok _).drew)).mono ?_; rintro e w3 ⟨rfl, rfl⟩))
      all_goals
        have bX : Below wO.heap.size wO (wO.alloc (.cells #[.int .i64 st, .int .i64 st] 58)).drew := (hok _).drew
        have hX := (SBox.new wO st st 58).drew
        generalize (wO.alloc (.cells #[.int .i64 st, .int .i64 st] 58)).drew = wX at *
        clear h0 h1 g0 g1 g2 g3 g4 hok hd hsk
        have hpl2 : ((List.range k).map G).length = k := by simp
        have HPL2 : Hid (_) := hpl2
        clear hpl2
        obtain ⟨_, h0, h1⟩ := hPr.below bX
        go_wp2
        go_loopw [9] (fun i ws => ∃ n : Nat, n ≤ os.length ∧ i = .int .i64 n ∧ SBox ws wO.heap.size st (ltk (srcOf ps) os k st n) ∧ Below wO.heap.size wO ws) (fun i _ => os.length - (intOf i).toNat)
        case atStart => exact ⟨0, Nat.zero_le _, rfl, hX, bX⟩
        case round =>
          obtain ⟨n, hn, rfl, hXn, hbn⟩ := hrel
          clear hX bX h0 h1
          obtain ⟨_, h0, h1⟩ := hPr.below hbn
          obtain ⟨_, g0, g1, g2, g3, g4⟩ := hFr.below hbn
          by_cases hnl : n < os.length
          · obtain ⟨ob, oo, rfl, hox⟩ := ((hO1.below (Nat.le_refl _) hbr).below (Nat.le_refl _) hbn).nth hnl
            have hor := HOS.out _ (getD_mem hnl 0)
            have HL1 : Hid (_) := HL.out st n
            generalize os.getD n 0 = p at hox hor HL1
            obtain ⟨q, rfl⟩ := Int.eq_ofNat_of_zero_le hor.1
            rw [Int.toNat_natCast] at HL1
            have hql : q < ps.length := by omega
            have hqI : (q : Int) < (ps.length : Int) := by omega
            have hq0 : (0 : Int) ≤ (q : Int) := by omega
            obtain ⟨sb, so, ua, uc, rfl, hsb, qq, hUI⟩ := ((hSs.below hbr).below hbn).nth hql
            rw [HSR.out q hql] at qq hUI
            have hsm := stepOf_any uc hUI k
            have HM : Hid (0 ≤ stepAt (srcOf ps q) k ↔ (k : Int) ∈ srcOf ps q) := stepAt_mem
            generalize srcOf ps q = sr at qq hsm HM HL1
            generalize stepAt sr k = s at hsm HM
            obtain ⟨_, x0, x1, fz⟩ := id hXn
            have fz1 := fz 1
            clear fz
            by_cases hs : 0 ≤ s
            · have HL2 : Hid (_) := HL1.out.trans (if_pos (HM.out.1 hs))
              have hXp := hXn.put n
              have hbp := hbn.setCell (p := ⟨wO.heap.size, 1, none⟩) (Nat.le_refl _) (.int .i64 n)
              go_wp2_with (go_at_call 83; refine hsm.mono ?_; rintro e w3 ⟨rfl, rfl⟩)
              go_roundw
              case rel => exact ⟨n + 1, by omega, by go_num, by rw [HL2.out]; exact hXp, hbp⟩
              case measure => simp [intOf]; omega
            · have HL2 : Hid (_) := HL1.out.trans (if_neg (fun h => hs (HM.out.2 h)))
              go_wp2_with (go_at_call 83; refine hsm.mono ?_; rintro e w3 ⟨rfl, rfl⟩)
              go_roundw
              case rel => exact ⟨n + 1, by omega, by go_num, by rw [HL2.out]; exact hXn, hbn⟩
              case measure => simp [intOf]; omega
          · have hne : n = os.length := by omega
            subst hne
            have hlk := hla _ ((hp1.below hbr).below hbn)
            have hpl2 := HPL2.out
            by_cases hsh : (k : Int) = sh
            · go_upto_region 14 with (go_at_call 41; refine hlk.mono ?_; rintro e w4 ⟨rfl, b4⟩; have hX9 := hXn.below b4; have hb9 := below_step hbn b4; obtain ⟨_, y0, y1, fz⟩ := id hX9; have fz1 := fz 1; obtain ⟨_, h0, h1⟩ := (hPr.below hbn).below b4)
              have bT : Below wO.heap.size wO (w4.setCell ⟨wO.heap.size, 1, none⟩ (.int .i64 ((os.length : Int) - 1))) := hb9.setCell (p := ⟨wO.heap.size, 1, none⟩) (Nat.le_refl _) _
              have hT : SBox (w4.setCell ⟨wO.heap.size, 1, none⟩ (.int .i64 ((os.length : Int) - 1))) wO.heap.size st ((os.length : Int) - 1) := hX9.put _
              have HGk : Hid (G k = (st, (os.length : Int) - 1)) := by show _ = _; rw [HG.out, if_pos hsh]
              generalize w4.setCell ⟨wO.heap.size, 1, none⟩ (.int .i64 ((os.length : Int) - 1)) = wT at *
              have hownT : OwnsS w1.heap.size wT u6 ((List.range k).map G) := ownsRow_below hown bT (Nat.le_refl _)
              have hbT := hbr.trans (bT.mono hbr.size)
              have hszT := hbT.size
              obtain ⟨_, t0, t1, _⟩ := id hT
              clear bT hT hX9 hb9 hbn hXn
              generalize (os.length : Int) - 1 = y at *
              go_wp2_with (at_builtin; refine wpList_append_own _ rfl _ _ 59 rfl w1.heap.size 58 i0 _ 2 16 Tryz.underlying59 hi hz0 hz1 hz2 rfl (by decide) _ _ _ rfl (World.ownsRow.alloc hownT _) ⟨wT.heap.size, 0, none⟩ 1 1 [.int .i64 st, .int .i64 y] rfl rfl (cell_two_new _ _ _ _) (by intro u hu; simp at hu; rcases hu with rfl | rfl <;> rfl) (by rw [hpl2]; unfold maxLen; omega) (by rw [hpl2]; omega) (by simp; omega) ?_; intro v' w9 hown9 hgrow9 _)
              have RR := OwnsS.push (z := (st, y)) hownT hbT hszT hown9 rfl hgrow9
              go_roundw
              case rel => exact ⟨k + 1, by omega, by go_num, by rw [spans_succ, HGk.out]; exact RR.1, RR.2⟩
              case measure => simp [intOf]; omega
            · go_upto_region 14 with (go_at_call 41; refine hlk.mono ?_; rintro e w4 ⟨rfl, b4⟩; have hX9 := hXn.below b4; have hb9 := below_step hbn b4)
              have bT : Below wO.heap.size wO (w4) := hb9
              have hT : SBox (w4) wO.heap.size st (ltk (srcOf ps) os k st os.length) := hX9
              have HGk : Hid (G k = (st, ltk (srcOf ps) os k st os.length)) := by show _ = _; rw [HG.out, if_neg hsh]
              generalize w4 = wT at *
              have hownT : OwnsS w1.heap.size wT u6 ((List.range k).map G) := ownsRow_below hown bT (Nat.le_refl _)
              have hbT := hbr.trans (bT.mono hbr.size)
              have hszT := hbT.size
              obtain ⟨_, t0, t1, _⟩ := id hT
              clear bT hT hX9 hb9 hbn hXn
              generalize ltk (srcOf ps) os k st os.length = y at *
              go_wp2_with (at_builtin; refine wpList_append_own _ rfl _ _ 59 rfl w1.heap.size 58 i0 _ 2 16 Tryz.underlying59 hi hz0 hz1 hz2 rfl (by decide) _ _ _ rfl (World.ownsRow.alloc hownT _) ⟨wT.heap.size, 0, none⟩ 1 1 [.int .i64 st, .int .i64 y] rfl rfl (cell_two_new _ _ _ _) (by intro u hu; simp at hu; rcases hu with rfl | rfl <;> rfl) (by rw [hpl2]; unfold maxLen; omega) (by rw [hpl2]; omega) (by simp; omega) ?_; intro v' w9 hown9 hgrow9 _)
              have RR := OwnsS.push (z := (st, y)) hownT hbT hszT hown9 rfl hgrow9
              go_roundw
              case rel => exact ⟨k + 1, by omega, by go_num, by rw [spans_succ, HGk.out]; exact RR.1, RR.2⟩
              case measure => simp [intOf]; omega
    · have hke : k = ps.length := by omega
      subst hke
      obtain ⟨ra, rc, rfl, hZ⟩ := hown.zs (by simp; omega)
      go_wp2
      go_ret
      exact ⟨ra, rc, rfl, hZ, below_step hb1 hbr⟩
end Go.Proofs.YtihliofhhjjeaaaGreat
namespace Go.Proofs.YtihliofhhjjeaaaGreat
open Go.RowKit Im Go.Maps
def okSpan (b : Sz) : Bool := decide (0 ≤ b.1) && decide (b.1 ≤ b.2) && decide (b.2 ≤ 4096)
def okAll (L : List Sz) : Bool := allTo (fun i => okSpan (L.getD i Sz.zero)) L.length
def placeE (L : List Sz) (size : Int) : Int := if 12 < L.length then 2 else if 1 ≤ size ∧ size ≤ 4096 then (if okAll L = true then 0 else 3) else 3
def placeP (L : List Sz) (size : Int) : Int := if placeE L size = 0 then placeR L size else 0
theorem placeE_zero {L : List Sz} {size : Int} (h : placeE L size = 0) : L.length ≤ 12 ∧ (1 ≤ size ∧ size ≤ 4096) ∧ ∀ b ∈ L, 0 ≤ b.1 ∧ b.1 ≤ b.2 ∧ b.2 ≤ 4096 := by
  unfold placeE at h
  by_cases h1 : 12 < L.length
  · rw [if_pos h1] at h; cases h
  · rw [if_neg h1] at h
    by_cases h2 : 1 ≤ size ∧ size ≤ 4096
    · rw [if_pos h2] at h
      by_cases h3 : okAll L = true
      · refine ⟨by omega, h2, fun b hb => ?_⟩
        obtain ⟨i, hi, rfl⟩ := List.mem_iff_getElem.1 hb
        have := (allTo_iff _ _).1 h3 i hi
        unfold okSpan at this
        rw [List.getD_eq_getElem?_getD, List.getElem?_eq_getElem hi] at this
        simp only [Bool.and_eq_true, decide_eq_true_eq, Option.getD_some] at this
        exact ⟨this.1.1, this.1.2, this.2⟩
      · rw [if_neg h3] at h; cases h
    · rw [if_neg h2] at h; cases h
theorem placeE_many {L : List Sz} {size : Int} (h : 12 < L.length) : placeE L size = 2 := by unfold placeE; rw [if_pos h]
theorem placeE_range {L : List Sz} {size : Int} (h : ¬ 12 < L.length) (h2 : ¬ (1 ≤ size ∧ size ≤ 4096)) : placeE L size = 3 := by unfold placeE; rw [if_neg h, if_neg h2]
theorem placeE_bad {L : List Sz} {size : Int} (h : ¬ 12 < L.length) {k : Nat} (hk : k < L.length) (hb : okSpan (L.getD k Sz.zero) = false) : placeE L size = 3 := by
  unfold placeE
  rw [if_neg h]
  split
  · rw [if_neg]; unfold okAll; rw [allTo_not hk hb]; decide
  · rfl
theorem placeE_ok {L : List Sz} {size : Int} (h : ¬ 12 < L.length) (h2 : 1 ≤ size ∧ size ≤ 4096) (h3 : okAll L = true) : placeE L size = 0 := by unfold placeE; rw [if_neg h, if_pos h2, if_pos h3]
theorem placeR_bd {L : List Sz} {size : Int} (h : placeE L size = 0) : 0 ≤ placeR L size ∧ placeR L size ≤ 4097 := by
  obtain ⟨_, _, h3⟩ := placeE_zero h
  exact ⟨(placeR_least L size).1, placeR_top (fun b hb => by have := h3 b hb; omega) (by omega)⟩
def freeT (L : List Sz) (size n : Int) (i : Nat) : Bool := !meetB (L.getD i Sz.zero) (n, n + size - 1)
theorem free_iff {L : List Sz} {size n : Int} : allTo (freeT L size n) L.length = true ↔ freeAt L size n := by
  rw [allTo_iff]
  unfold freeAt freeT meetB
  constructor
  · intro h b hb
    obtain ⟨i, hi, rfl⟩ := List.mem_iff_getElem.1 hb
    have := h i hi
    rw [List.getD_eq_getElem?_getD, List.getElem?_eq_getElem hi] at this
    simp only [Option.getD_some, Bool.not_eq_true', Bool.and_eq_false_iff, decide_eq_false_iff_not] at this
    omega
  · intro h i hi
    have := h _ (List.getElem_mem hi)
    rw [List.getD_eq_getElem?_getD, List.getElem?_eq_getElem hi]
    simp only [Option.getD_some, Bool.not_eq_true', Bool.and_eq_false_iff, decide_eq_false_iff_not]
    omega
set_option maxHeartbeats 2000000 in
theorem placeOf_any {a : Option Addr} {len : Nat} (cap : Nat) {L : List Sz} {w : World} (hZ : Zs w a len L) {size : Int} (hE : placeE L size = 0) :
    Calls Tryz.prog 48 #[.slice a len cap, .int .i64 size] w fun e w' => e = .returned (.int .i64 (placeR L size)) ∧ Below w.heap.size w w' := by
  obtain rfl := hZ.leng
  obtain ⟨hl12, hsz, _⟩ := placeE_zero hE
  have hbd := placeR_bd hE
  obtain ⟨p, hp⟩ := Int.eq_ofNat_of_zero_le hbd.1
  have hlst := placeR_least L size
  rw [hp] at hbd hlst ⊢
  have HLS : Hid (_) := hlst
  clear hE hlst hp
  go_enter Tryz.func48, Tryz.ntmps48
  go_wp2
  go_loopw [5] (fun i wr => ∃ n : Nat, n ≤ p ∧ i = .int .i64 n ∧ Below w.heap.size w wr) (fun i _ => p - (intOf i).toNat)
  case atStart => exact ⟨0, Nat.zero_le _, rfl, Below.refl _ _⟩
  case round =>
    obtain ⟨n, hn, rfl, hbr⟩ := hrel
    have hw1 : IntKind.i64.wrap ((n : Int) + size) = (n : Int) + size := by rw [IntKind.wrap_i64]; omega
    have hw2 : IntKind.i64.wrap ((n : Int) + size - 1) = (n : Int) + size - 1 := by rw [IntKind.wrap_i64]; omega
    go_wp2
    go_loopw [6, 7] (fun f i ws => ∃ k : Nat, k ≤ L.length ∧ i = .int .i64 k ∧ f = .bool (allTo (freeT L size n) k) ∧ Below w.heap.size w ws) (fun _ i _ => L.length - (intOf i).toNat)
    case atStart => exact ⟨0, Nat.zero_le _, rfl, rfl, hbr⟩
    case round =>
      obtain ⟨k, hk, rfl, rfl, hbs⟩ := hrel
      clear hbr
      by_cases hlt : k < L.length
      · obtain ⟨zb, zo, rfl, _, z0, z1⟩ := (hZ.below hbs).nth hlt
        have HA : Hid (allTo (freeT L size n) (k + 1) = (allTo (freeT L size n) k && !meetB (L.getD k Sz.zero) ((n : Int), (n : Int) + size - 1))) := rfl
        have hme := fun wx => meetRef_any (L.getD k Sz.zero).1 (L.getD k Sz.zero).2 n ((n : Int) + size - 1) wx
        rw [show meetB ((L.getD k Sz.zero).1, (L.getD k Sz.zero).2) ((n : Int), (n : Int) + size - 1) = meetB (L.getD k Sz.zero) ((n : Int), (n : Int) + size - 1) from rfl] at hme
        have hkI : (k : Int) < (L.length : Int) := by omega
        have hk0 : (0 : Int) ≤ (k : Int) := by omega
        generalize meetB (L.getD k Sz.zero) ((n : Int), (n : Int) + size - 1) = r at hme HA
        generalize (L.getD k Sz.zero).1 = x at z0 hme
        generalize (L.getD k Sz.zero).2 = y at z1 hme
        generalize allTo (freeT L size n) k = fr at HA
        cases fr with
        | false =>
          go_wp2
          go_roundw
          case rel => exact ⟨k + 1, by omega, by go_num, by rw [HA.out]; rfl, hbs⟩
          case measure => simp [intOf]; omega
        | true =>
          go_wp2_with (go_at_call 84; refine (hme _).mono ?_; rintro e w3 ⟨rfl, b3⟩)
          go_roundw
          case rel => exact ⟨k + 1, by omega, by go_num, by rw [HA.out]; simp, below_step hbs b3⟩
          case measure => simp [intOf]; omega
      · have hke : k = L.length := by omega
        subst hke
        have HFI : Hid (allTo (freeT L size n) L.length = true ↔ freeAt L size n) := free_iff
        generalize allTo (freeT L size n) L.length = fr at HFI
        cases fr with
        | true =>
          have hpn : p = n := by
            have := HLS.out.2.2 n (by omega) (HFI.out.1 rfl)
            omega
          subst hpn
          go_wp2
          go_ret
          exact ⟨rfl, hbs⟩
        | false =>
          have hne : n ≠ p := by
            intro e
            subst e
            have := HFI.out.2 HLS.out.2.1
            cases this
          go_wp2
          go_roundw
          case rel => exact ⟨n + 1, by omega, by go_num, hbs⟩
          case measure => simp [intOf]; omega
end Go.Proofs.YtihliofhhjjeaaaGreat
namespace Go.Proofs.YtihliofhhjjeaaaGreat
open Go.RowKit Im
theorem grown_alloc' {w w' : World} {row : Option Nat} (h : w.grownBy w' row) (o : Obj) : w.grownBy (w'.alloc o) row :=
  ⟨h.os, h.tape, h.output, by have := h.size; simp; omega, fun k hk hr => (Below.heap_alloc _ _ _ (Nat.lt_of_lt_of_le hk h.size)).trans (h.block k hk hr)⟩
set_option maxHeartbeats 8000000 in
theorem lies_any (aa : Option Addr) (alen ac : Nat) {A : List Int} {w : World} {b2 : Nat} (hA : Ints b2 w aa alen A) (hac : alen ≤ ac) (hal : alen ≤ 4096) {p zw zh n : Nat} (hn : zw * zh = n) (h1 : 1 ≤ n) (hfit : p + n ≤ alen) :
    Calls Tryz.prog 40 #[.slice aa alen ac, .agg #[.int .i64 zw, .int .i64 zh], .int .i64 p] w (ToldM w ⟨0, zw, zh, getA A p n⟩) := by
  obtain ⟨i0, hi, hz0, hz1, hz2⟩ := info_parts Tryz.info3
  have hbx := below_box (below_box (Below.refl w.heap.size w) (.cells #[.int .i64 zw, .int .i64 zh] 80)) (.cells #[.int .i64 0, .int .i64 0, .slice none 0 0] 31)
  have hsz2 : w.heap.size + 2 ≤ ((w.alloc (.cells #[.int .i64 zw, .int .i64 zh] 80)).alloc (.cells #[.int .i64 0, .int .i64 0, .slice none 0 0] 31)).heap.size := by simp
  have hI0 := IBox.new (w.alloc (.cells #[.int .i64 zw, .int .i64 zh] 80))
  rw [World.size_alloc] at hI0
  have hP0 := (PlBox.new w (.int .i64 zw) (.int .i64 zh) 80).below ((Below.refl _ _).alloc (Nat.le_refl _) (.cells #[.int .i64 0, .int .i64 0, .slice none 0 0] 31))
  obtain ⟨ab, ao, rfl, hA2⟩ : ∃ ab ao, aa = some ⟨ab, ao, none⟩ ∧ ab < w.heap.size := by
    obtain ⟨ab, ao, e, hc⟩ := hA.nth (k := 0) (by omega)
    exact ⟨ab, ao, e, World.block_lt_of_cell? w _ hc⟩
  have hcut := (hA.below (Nat.le_refl _) hbx).cut (p := p) (n := n) hfit
  have hmul : IntKind.i64.wrap ((zw : Int) * (zh : Int)) = (zw : Int) * (zh : Int) := by rw [← Int.natCast_mul, hn, IntKind.wrap_i64]; omega
  have har := fun wx => area_any zw zh wx hmul
  have eN : (zw : Int) * (zh : Int) = (n : Int) := by rw [← Int.natCast_mul, hn]
  rw [eN] at har
  have hadd : IntKind.i64.wrap ((p : Int) + (n : Int)) = (p : Int) + (n : Int) := by rw [IntKind.wrap_i64]; omega
  have hq0 : (0 : Int) ≤ (p : Int) := by omega
  have hq1 : (p : Int) ≤ (p : Int) + (n : Int) := by omega
  have hq2 : (p : Int) + (n : Int) ≤ (ac : Int) := by omega
  have hq3 : ¬ ac = p := by omega
  have hq4 : ((p : Int) + (n : Int)).toNat = p + n := by omega
  have hgl := hcut.leng
  clear hA hmul eN hn
  go_enter Tryz.func40, Tryz.ntmps40
  go_upto_region 1 with fail
  generalize (w.alloc (.cells #[.int .i64 zw, .int .i64 zh] 80)).alloc (.cells #[.int .i64 0, .int .i64 0, .slice none 0 0] 31) = w0 at *
  have hd := (Below.refl w0.heap.size w0).drew
  have hne0 : some w.heap.size ≠ some (w.heap.size + 1) := fun e => by injection e with e; omega
  have held : ∀ wx, w0.grownBy wx (some (w.heap.size + 1)) → wx.cell? ⟨w.heap.size, 0, none⟩ = some (.int .i64 zw) ∧ wx.cell? ⟨w.heap.size, 1, none⟩ = some (.int .i64 zh) := fun wx h =>
    ⟨(grown_cell h hP0.lt hne0 0).1.trans hP0.c0, (grown_cell h hP0.lt hne0 1).1.trans hP0.c1⟩
  have hgd := below_grown hd (some (w.heap.size + 1))
  have HG : Hid (getA A p n = getA A p n) := rfl
  generalize getA A p n = l at *
  have hl4 : l.length ≤ 4096 := by omega
  have hlit : ∀ wx : World, w0.heap.size ≤ wx.heap.size → (wx.alloc (.cells #[] 3)).ownsRow w0.heap.size 3 1 (.slice (some ⟨wx.heap.size, 0, none⟩) 0 0) 0 [] := fun wx h => World.ownsRow_lit wx #[] 0 h (by unfold maxLen; omega) rfl
  have HLIT : Hid (_) := hlit
  clear hlit HG
  have hone := ints_one l
  have HLC : Hid ((l.map (Value.int .i64)).length = n * 1) := by show _ = _; rw [List.length_map]; omega
  have HLL : Hid (l.length = n) := hgl
  rw [hgl] at hl4
  clear hgl
  go_region_held3 (fun wx => wx.cell? ⟨w.heap.size, 0, none⟩ = some (.int .i64 zw) ∧ wx.cell? ⟨w.heap.size, 1, none⟩ = some (.int .i64 zh))
    (first | exact held _ hgd | exact held _ (grown_alloc' hgd _) | exact held _ (below_grown (below_box (Below.refl _ _) _).drew _) | exact held _ g3 | exact held _ (grown_alloc' g3 _) | exact held _ g9 | exact held _ (grown_put (grown_put (grown_put g9 0 _) 1 _) 2 _))
    (first
      | (go_at_call 47; (with_reducible show Calls _ _ _ (World.drew w0) _); refine (har _).mono ?_; rintro e w3 ⟨rfl, b3'⟩; have b3 := below_step hd b3'; have g3 := below_grown b3 (some (w.heap.size + 1)); have own3 := HLIT.out w3 b3.size; have news3 := ints_news (hcut.below (Nat.le_refl _) (below_box b3 (.cells #[] 3))))
      | (go_at_call 47; (with_reducible show Calls _ _ _ (World.drew (World.alloc w0 _)) _); refine (har _).mono ?_; rintro e w3 ⟨rfl, b3'⟩; have b3 := below_step (below_box (Below.refl _ _) (.cells #[] 3)).drew b3'; have g3 := below_grown b3 (some (w.heap.size + 1)); have own3 := ownsRow_below (HLIT.out w0 (Nat.le_refl _)) (((Below.refl _ _).drew).trans b3') (Nat.le_refl _); have news3 := ints_news (hcut.below (Nat.le_refl _) b3))
      | ((refine step_append_lies _ (by rfl) _ _ _ (by rfl) w0.heap.size 3 i0 _ 1 8 Tryz.underlying25 hi hz0 hz1 hz2 rfl (by omega) _ 0 [] (by rfl) own3 ⟨ab, ao + p, none⟩ n (ac - p) (l.map (Value.int .i64)) (by rfl) HLC.out news3 hone (by omega) (by unfold maxLen; omega) (by omega) (by have := b3.size; simp <;> omega) _ rfl ?_; intro gB cap9 w9 hown9 hgrow9 _ _; have b9 : Below w0.heap.size w0 w9 := (by first | exact b3.grown hgrow9 b3.size (fun k hk => by cases hk; exact Nat.le_refl _) | exact (below_box b3 _).grown hgrow9 (Nat.le_trans b3.size (by simp)) (fun k hk => by cases hk; exact b3.size)); have g9 := below_grown b9 (some (w.heap.size + 1)); obtain ⟨_, c0, c1, c2, f0, f1, f2⟩ := hI0.below b9 hI0.lt b9.size)))
  all_goals
    rw [Nat.zero_add, List.nil_append] at hown9
    have hO9 : Owns w0.heap.size w9 (.slice (some ⟨gB, 0, none⟩) n cap9) l := by unfold Owns; rw [HLL.out]; exact hown9
    obtain ⟨va, vc, ev, hIv⟩ := hO9.ints (by rw [HLL.out]; omega)
    injection ev with ev1 ev2 ev3
    subst ev1 ev3
    have HT : Hid (ToldM w ⟨0, zw, zh, l⟩ (.returned (.agg #[.int .i64 zw, .int .i64 zh, .slice (some ⟨gB, 0, none⟩) n cap9])) (((w9.setCell ⟨w.heap.size + 1, 0, none⟩ (.int .i64 zw)).setCell ⟨w.heap.size + 1, 1, none⟩ (.int .i64 zh)).setCell ⟨w.heap.size + 1, 2, none⟩ (.slice (some ⟨gB, 0, none⟩) n cap9))) :=
      ⟨some ⟨gB, 0, none⟩, cap9, by rw [HLL.out], (((hIv.setCell (p := ⟨w.heap.size + 1, 0, none⟩) hI0.lt _).setCell (p := ⟨w.heap.size + 1, 1, none⟩) hI0.lt _).setCell (p := ⟨w.heap.size + 1, 2, none⟩) hI0.lt _).mono (Nat.le_of_succ_le (Nat.le_of_succ_le hsz2)), (((below_step hbx b9).setCell (p := ⟨w.heap.size + 1, 0, none⟩) (Nat.le_succ _) _).setCell (p := ⟨w.heap.size + 1, 1, none⟩) (Nat.le_succ _) _).setCell (p := ⟨w.heap.size + 1, 2, none⟩) (Nat.le_succ _) _⟩
    clear hIv hO9 hown9 hgrow9 own3 news3 held hcut
    go_wp2
    exact bodyPost_ret (v := .agg #[.int .i64 zw, .int .i64 zh, .slice (some ⟨gB, 0, none⟩) n cap9]) (by simp [results, Tryz.results40, go_sem, c0, c1, c2]) rfl HT.out
end Go.Proofs.YtihliofhhjjeaaaGreat
