/- SpansOwn, CompRef, FitsRef, PlanErrRef, PeakRef: joined, in this order. -/
import Derived.Test.YtaenpgdmiaekcaaGreatDoorS19
import Derived.Test.YtaenpgdmiaekcaaGreatDoorS21
import Derived.Test.YtaenpgdmiaekcaaGreatDoorS20
import Derived.Test.YtaenpgdmiaekcaaGreatDoorS12
import Derived.Test.YtaenpgdmiaekcaaGreatDoorS17
import Derived.Deep.AppendLies
/-
  SPANSOWN: the reference's SpansOf: its spans lie in a row of their own.
-/
namespace Go.Proofs.YtaenpgdmiaekcaaGreatDoor
set_option maxRecDepth 100000
open Go.RowKit Im Go.Maps

/-- The call's end tells the spans L, in a row of its own. -/
def ToldSO (w : World) (L : List Sz) (e : Ending) (w' : World) : Prop :=
  (∃ v, e = .returned v ∧ OwnsS w.heap.size w' v L) ∧ Below w.heap.size w w'
set_option maxHeartbeats 8000000 in
theorem spansOwn_any (W H S O : Int) (a : Option Addr) (len cap : Nat) (ps : List Ps) (w : World) (hp : Passes w a len ps) (oa : Option Addr) (olen ocap : Nat) (pv : Value) (os : List Int) (hO : Ints 0 w oa olen os) (hE : frameE ⟨W, H, S, O, ps⟩ = 0) (hos : ∀ o ∈ os, 0 ≤ o ∧ o < ps.length) (hol : os.length ≤ 12) :
    Calls Tryz.prog 54 #[.agg #[.int .i64 W, .int .i64 H, .int .i64 S, .int .i64 O, .slice a len cap], .agg #[.slice oa olen ocap, pv]] w (ToldSO w ((List.range ps.length).map (spanP (gpOf ⟨W, H, S, O, ps⟩) os))) := by
  obtain rfl := hp.leng
  obtain rfl := hO.leng
  have hR := gp_right hE
  have hN12 : ps.length ≤ 12 := hR.hN.2
  obtain ⟨i0, hi, hz0, hz1, hz2⟩ := info_parts Tryz.infoSpan
  have hb0 := below_box (below_box (Below.refl w.heap.size w) (.cells #[.int .i64 W, .int .i64 H, .int .i64 S, .int .i64 O, .slice a ps.length cap] 35)) (.cells #[.slice oa os.length ocap, pv] 48)
  have hF0 := (FBox.new w W H S O a ps.length cap).alloc (.cells #[.slice oa os.length ocap, pv] 48)
  have hP0 := PlBox.new (w.alloc (.cells #[.int .i64 W, .int .i64 H, .int .i64 S, .int .i64 O, .slice a ps.length cap] 35)) (.slice oa os.length ocap) pv 48
  rw [World.size_alloc] at hP0
  have hs2 : ∀ x ∈ srcs ps ps.length, x.length ≤ 2 := by
    intro x hx
    unfold srcs at hx
    rw [List.mem_map] at hx
    obtain ⟨n, _, rfl⟩ := hx
    unfold srcOf
    rw [List.length_map]
    exact takesP_len _
  have hso := sourcesOfRef_any W H S O a ps.length cap ps _ (hp.below hb0) hN12
  have hla := fun wx hp => lastOf_any W H S O a ps.length cap ps wx hp
  have HSR : Hid (∀ k, k < ps.length → (srcs ps ps.length).getD k [] = srcOf ps k) := fun k hk => srcs_at ps hk
  have HOS : Hid (_) := hos
  have HSP : Hid (∀ k, spanP (gpOf ⟨W, H, S, O, ps⟩) os k = (stepAt os k, if (k : Int) = shownP ⟨W, H, S, O, ps⟩ then (os.length : Int) - 1 else ltk (srcOf ps) os k (stepAt os k) os.length)) := fun _ => rfl
  have HLT : Hid (∀ k d n, ltk (srcOf ps) os k d (n + 1) = if k ∈ srcOf ps (os.getD n 0).toNat then (n : Int) else ltk (srcOf ps) os k d n) := fun _ _ _ => rfl
  have hwo : IntKind.i64.wrap ((os.length : Int) - 1) = (os.length : Int) - 1 := by rw [IntKind.wrap_i64]; omega
  generalize spanP (gpOf ⟨W, H, S, O, ps⟩) os = G at *
  generalize shownP ⟨W, H, S, O, ps⟩ = sh at *
  clear hos hR
  go_enter Tryz.func54, Tryz.ntmps54
  go_wp2_with fail
  refine hso.mono ?_
  clear hso
  rintro e w1 ⟨⟨v1, rfl, hLL⟩, b1⟩
  obtain ⟨sa, sc, rfl, hSs⟩ := hLL.lls hs2
  rw [srcs_length] at hSs ⊢
  have hF1 := hF0.below b1
  have hP1 := hP0.below b1
  have hb1 := below_step hb0 b1
  have hp1 := hp.below hb1
  have hO1 := hO.below (Nat.le_refl _) hb1
  clear hLL hs2 hF0 hP0 hb0 b1 hp hO
  go_wp2
  go_loopw [6, 7] (fun v i wr => ∃ k : Nat, k ≤ ps.length ∧ i = .int .i64 k ∧ OwnsS w1.heap.size wr v ((List.range k).map G) ∧ Below w1.heap.size w1 wr) (fun _ i _ => ps.length - (intOf i).toNat)
  case atStart => exact ⟨0, Nat.zero_le _, rfl, World.ownsRow_nil _ _ _ _, Below.refl _ _⟩
  case round =>
    obtain ⟨k, hk, rfl, hown, hbr⟩ := hrel
    obtain ⟨wO, e0⟩ : ∃ z, z = wr := ⟨_, rfl⟩
    subst e0
    have hFr := hF1.below hbr
    have hPr := hP1.below hbr
    obtain ⟨_, g0, g1, g2, g3, g4⟩ := id hFr
    by_cases hlt : k < ps.length
    · obtain ⟨_, h0, h1⟩ := id hPr
      have hkI : (k : Int) < (ps.length : Int) := by omega
      have hk0 : (0 : Int) ≤ (k : Int) := by omega
      have HG : Hid (_) := HSP.out k
      have HL : Hid (∀ d n, ltk (srcOf ps) os k d (n + 1) = if (k : Int) ∈ srcOf ps (os.getD n 0).toNat then (n : Int) else ltk (srcOf ps) os k d n) := fun d n => HLT.out k d n
      have hsk := fun wx (h : Below wO.heap.size wO wx) => stepOf_any ocap ((hO1.below (Nat.le_refl _) hbr).below (Nat.le_refl _) h) k
      generalize hst : stepAt os k = st at hsk HG
      clear hst
      have hok := fun o => (Below.refl wO.heap.size wO).alloc (Nat.le_refl _) o
      have hpl := hPr.lt
      have hd := (Below.refl wO.heap.size wO).drew
      go_wp2
      go_region_held3 (fun w' => w'.cell? ⟨w.heap.size + 1, 0, none⟩ = some (.slice oa os.length ocap))
        (first | exact h0 | exact ((hok _).cell (p := ⟨w.heap.size + 1, 0, none⟩) hpl).trans h0)
        ((go_at_call 90; refine (hsk _ (by first | exact hd | exact (hok _).drew)).mono ?_; rintro e w3 ⟨rfl, rfl⟩))
      all_goals
        have bX : Below wO.heap.size wO (wO.alloc (.cells #[.int .i64 st, .int .i64 st] 111)).drew := (hok _).drew
        have hX := (SBox.new wO st st 111).drew
        generalize (wO.alloc (.cells #[.int .i64 st, .int .i64 st] 111)).drew = wX at *
        clear h0 h1 g0 g1 g2 g3 g4 hok hd hsk
        have hpl2 : ((List.range k).map G).length = k := by simp
        have HPL2 : Hid (_) := hpl2
        clear hpl2
        obtain ⟨_, h0, h1⟩ := hPr.below bX
        go_wp2
        go_loopw [9] (fun i ws => ∃ n : Nat, n ≤ os.length ∧ i = .int .i64 n ∧ SBox ws wO.heap.size st (ltk (srcOf ps) os k st n) ∧ Below wO.heap.size wO ws) (fun i _ => os.length - (intOf i).toNat)
        case atStart => exact ⟨0, Nat.zero_le _, rfl, hX, bX⟩
        case round =>
          obtain ⟨n, hn, rfl, hXn, hbn⟩ := hrel
          clear hX bX h0 h1
          obtain ⟨_, h0, h1⟩ := hPr.below hbn
          obtain ⟨_, g0, g1, g2, g3, g4⟩ := hFr.below hbn
          by_cases hnl : n < os.length
          · obtain ⟨ob, oo, rfl, hox⟩ := ((hO1.below (Nat.le_refl _) hbr).below (Nat.le_refl _) hbn).nth hnl
            have hor := HOS.out _ (getD_mem hnl 0)
            have HL1 : Hid (_) := HL.out st n
            generalize os.getD n 0 = p at hox hor HL1
            obtain ⟨q, rfl⟩ := Int.eq_ofNat_of_zero_le hor.1
            rw [Int.toNat_natCast] at HL1
            have hql : q < ps.length := by omega
            have hqI : (q : Int) < (ps.length : Int) := by omega
            have hq0 : (0 : Int) ≤ (q : Int) := by omega
            obtain ⟨sb, so, ua, uc, rfl, hsb, qq, hUI⟩ := ((hSs.below hbr).below hbn).nth hql
            rw [HSR.out q hql] at qq hUI
            have hsm := stepOf_any uc hUI k
            have HM : Hid (0 ≤ stepAt (srcOf ps q) k ↔ (k : Int) ∈ srcOf ps q) := stepAt_mem
            generalize srcOf ps q = sr at qq hsm HM HL1
            generalize stepAt sr k = s at hsm HM
            obtain ⟨_, x0, x1, fz⟩ := id hXn
            have fz1 := fz 1
            clear fz
            by_cases hs : 0 ≤ s
            · have HL2 : Hid (_) := HL1.out.trans (if_pos (HM.out.1 hs))
              have hXp := hXn.put n
              have hbp := hbn.setCell (p := ⟨wO.heap.size, 1, none⟩) (Nat.le_refl _) (.int .i64 n)
              go_wp2_with (go_at_call 90; refine hsm.mono ?_; rintro e w3 ⟨rfl, rfl⟩)
              go_roundw
              case rel => exact ⟨n + 1, by omega, by go_num, by rw [HL2.out]; exact hXp, hbp⟩
              case measure => simp [intOf]; omega
            · have HL2 : Hid (_) := HL1.out.trans (if_neg (fun h => hs (HM.out.2 h)))
              go_wp2_with (go_at_call 90; refine hsm.mono ?_; rintro e w3 ⟨rfl, rfl⟩)
              go_roundw
              case rel => exact ⟨n + 1, by omega, by go_num, by rw [HL2.out]; exact hXn, hbn⟩
              case measure => simp [intOf]; omega
          · have hne : n = os.length := by omega
            subst hne
            have hlk := hla _ ((hp1.below hbr).below hbn)
            have hpl2 := HPL2.out
            by_cases hsh : (k : Int) = sh
            · go_upto_region 14 with (go_at_call 57; refine hlk.mono ?_; rintro e w4 ⟨rfl, b4⟩; have hX9 := hXn.below b4; have hb9 := below_step hbn b4; obtain ⟨_, y0, y1, fz⟩ := id hX9; have fz1 := fz 1; obtain ⟨_, h0, h1⟩ := (hPr.below hbn).below b4)
              have bT : Below wO.heap.size wO (w4.setCell ⟨wO.heap.size, 1, none⟩ (.int .i64 ((os.length : Int) - 1))) := hb9.setCell (p := ⟨wO.heap.size, 1, none⟩) (Nat.le_refl _) _
              have hT : SBox (w4.setCell ⟨wO.heap.size, 1, none⟩ (.int .i64 ((os.length : Int) - 1))) wO.heap.size st ((os.length : Int) - 1) := hX9.put _
              have HGk : Hid (G k = (st, (os.length : Int) - 1)) := by show _ = _; rw [HG.out, if_pos hsh]
              generalize w4.setCell ⟨wO.heap.size, 1, none⟩ (.int .i64 ((os.length : Int) - 1)) = wT at *
              have hownT : OwnsS w1.heap.size wT u6 ((List.range k).map G) := ownsRow_below hown bT (Nat.le_refl _)
              have hbT := hbr.trans (bT.mono hbr.size)
              have hszT := hbT.size
              obtain ⟨_, t0, t1, _⟩ := id hT
              clear bT hT hX9 hb9 hbn hXn
              generalize (os.length : Int) - 1 = y at *
              go_wp2_with (at_builtin; refine wpList_append_own _ rfl _ _ 84 rfl w1.heap.size 111 i0 _ 2 16 Tryz.underlying84 hi hz0 hz1 hz2 rfl (by decide) _ _ _ rfl (World.ownsRow.alloc hownT _) ⟨wT.heap.size, 0, none⟩ 1 1 [.int .i64 st, .int .i64 y] rfl rfl (cell_two_new _ _ _ _) (by intro u hu; simp at hu; rcases hu with rfl | rfl <;> rfl) (by rw [hpl2]; unfold maxLen; omega) (by rw [hpl2]; omega) (by simp; omega) ?_; intro v' w9 hown9 hgrow9 _)
              have RR := OwnsS.push (z := (st, y)) hownT hbT hszT hown9 rfl hgrow9
              go_roundw
              case rel => exact ⟨k + 1, by omega, by go_num, by rw [spans_succ, HGk.out]; exact RR.1, RR.2⟩
              case measure => simp [intOf]; omega
            · go_upto_region 14 with (go_at_call 57; refine hlk.mono ?_; rintro e w4 ⟨rfl, b4⟩; have hX9 := hXn.below b4; have hb9 := below_step hbn b4)
              have bT : Below wO.heap.size wO (w4) := hb9
              have hT : SBox (w4) wO.heap.size st (ltk (srcOf ps) os k st os.length) := hX9
              have HGk : Hid (G k = (st, ltk (srcOf ps) os k st os.length)) := by show _ = _; rw [HG.out, if_neg hsh]
              generalize w4 = wT at *
              have hownT : OwnsS w1.heap.size wT u6 ((List.range k).map G) := ownsRow_below hown bT (Nat.le_refl _)
              have hbT := hbr.trans (bT.mono hbr.size)
              have hszT := hbT.size
              obtain ⟨_, t0, t1, _⟩ := id hT
              clear bT hT hX9 hb9 hbn hXn
              generalize ltk (srcOf ps) os k st os.length = y at *
              go_wp2_with (at_builtin; refine wpList_append_own _ rfl _ _ 84 rfl w1.heap.size 111 i0 _ 2 16 Tryz.underlying84 hi hz0 hz1 hz2 rfl (by decide) _ _ _ rfl (World.ownsRow.alloc hownT _) ⟨wT.heap.size, 0, none⟩ 1 1 [.int .i64 st, .int .i64 y] rfl rfl (cell_two_new _ _ _ _) (by intro u hu; simp at hu; rcases hu with rfl | rfl <;> rfl) (by rw [hpl2]; unfold maxLen; omega) (by rw [hpl2]; omega) (by simp; omega) ?_; intro v' w9 hown9 hgrow9 _)
              have RR := OwnsS.push (z := (st, y)) hownT hbT hszT hown9 rfl hgrow9
              go_roundw
              case rel => exact ⟨k + 1, by omega, by go_num, by rw [spans_succ, HGk.out]; exact RR.1, RR.2⟩
              case measure => simp [intOf]; omega
    · have hke : k = ps.length := by omega
      subst hke
      have HO : Hid (OwnsS w.heap.size wO u6 ((List.range ps.length).map G)) := row_mono hown hb1.size
      obtain ⟨ra, rc, rfl⟩ := owns_slice hown
      clear hown
      go_wp2
      go_ret
      exact ⟨⟨_, rfl, HO.out⟩, below_step hb1 hbr⟩
end Go.Proofs.YtaenpgdmiaekcaaGreatDoor
/-
  COMPREF: the reference's CompileOf.
-/
namespace Go.Proofs.YtaenpgdmiaekcaaGreatDoor
set_option maxRecDepth 100000
open Go.RowKit Im Go.Maps

theorem ints_lt {base : Nat} {w : World} {b off len : Nat} {ps : List Int} (h : Ints base w (some ⟨b, off, none⟩) len ps) {k : Nat} (hk : k < ps.length) : b < w.heap.size := by
  rcases h.cells with e | ⟨b', off', ha, _, hl, _⟩
  · rw [e] at hk; cases hk
  · injection ha with ha
    injection ha with h1 _
    rw [h1]; exact hl
theorem ints_base {base : Nat} {w : World} {b off len : Nat} {ps : List Int} (h : Ints base w (some ⟨b, off, none⟩) len ps) {k : Nat} (hk : k < ps.length) : base ≤ b := by
  rcases h.cells with e | ⟨b', off', ha, hl, _, _⟩
  · rw [e] at hk; cases hk
  · injection ha with ha
    injection ha with h1 _
    rw [h1]; exact hl
/-- What CompileOf tells. -/
def ToldCR (w : World) (f : Fr) (e : Ending) (w' : World) : Prop :=
  (∃ v pb, e = .returned (.agg #[v, .slice (some ⟨pb, 0, none⟩) f.ps.length f.ps.length]) ∧ w.heap.size ≤ pb ∧ Owns (pb + 1) w' v (cOrd (gpOf f) f.ps.length) ∧ Nm w' pb f.ps.length (fun k => (cPl (gpOf f)).getD k 0)) ∧ Below w.heap.size w w'
set_option maxHeartbeats 8000000 in
theorem compileOf_any (W H S O : Int) (a : Option Addr) (len cap : Nat) (ps : List Ps) (w : World) (hp : Passes w a len ps) (hE : frameE ⟨W, H, S, O, ps⟩ = 0) :
    Calls Tryz.prog 23 #[.agg #[.int .i64 W, .int .i64 H, .int .i64 S, .int .i64 O, .slice a len cap]] w (ToldCR w ⟨W, H, S, O, ps⟩) := by
  obtain rfl := hp.leng
  obtain ⟨i0, hi, hz0, hz1, hz2⟩ := info_parts Tryz.info3
  obtain ⟨j0, hj, hy0, hy1, hy2⟩ := info_parts Tryz.infoSpan
  have hb0 := below_box (below_box (Below.refl w.heap.size w) (.cells #[.int .i64 W, .int .i64 H, .int .i64 S, .int .i64 O, .slice a ps.length cap] 35)) (.cells #[.slice none 0 0, .slice none 0 0] 48)
  have hR0 := WBox.new (w.alloc (.cells #[.int .i64 W, .int .i64 H, .int .i64 S, .int .i64 O, .slice a ps.length cap] 35)) (.slice none 0 0) (.slice none 0 0) 48
  have hF0 := (FBox.new w W H S O a ps.length cap).alloc (.cells #[.slice none 0 0, .slice none 0 0] 48)
  rw [World.size_alloc] at hR0
  have hcf := checkFrame_any W H S O a ps.length cap ps _ (hp.below hb0)
  have hG := gp_right hE
  have hN12 : ps.length ≤ 12 := hG.hN.2
  obtain ⟨P, R, hCm⟩ := comp_any hE (z := fun _ => -1) (fun _ => by omega) (fun _ _ _ => rfl)
  have HCO : Hid (∀ k, cOrd (gpOf ⟨W, H, S, O, ps⟩) (k + 1) = if keptG ps ps.length (shownP ⟨W, H, S, O, ps⟩) ps.length k = true then cOrd (gpOf ⟨W, H, S, O, ps⟩) k ++ [(k : Int)] else cOrd (gpOf ⟨W, H, S, O, ps⟩) k) := fun _ => rfl
  have HC0 : Hid (cOrd (gpOf ⟨W, H, S, O, ps⟩) 0 = []) := rfl
  have HCL : Hid (∀ k, (cOrd (gpOf ⟨W, H, S, O, ps⟩) k).length ≤ k) := fun k => cOrd_len _ k
  have hsO := fun wx hp oa oc pv hO => spansOwn_any W H S O a ps.length cap ps wx hp oa (cOrd (gpOf ⟨W, H, S, O, ps⟩) ps.length).length oc pv (cOrd (gpOf ⟨W, H, S, O, ps⟩) ps.length) hO hE hCm.inN hCm.ol
  have HT : Hid (∀ v pb w', w.heap.size ≤ pb → Owns (pb + 1) w' v (cOrd (gpOf ⟨W, H, S, O, ps⟩) ps.length) → Nm w' pb ps.length (P (cOrd (gpOf ⟨W, H, S, O, ps⟩) ps.length).length) → Below w.heap.size w w' → ToldCR w ⟨W, H, S, O, ps⟩ (.returned (.agg #[v, .slice (some ⟨pb, 0, none⟩) ps.length ps.length])) w') :=
    fun v pb w' h0 h1 h2 h3 => ⟨⟨_, pb, rfl, h0, h1, h2.congr (fun k hk => (hCm.pe k hk).symm)⟩, h3⟩
  go_enter Tryz.func23, Tryz.ntmps23
  go_wp2_with fail
  refine hcf.mono ?_
  clear hcf
  rintro e w1 ⟨⟨v1, rfl, hZ⟩, b1⟩
  rw [hE, if_pos rfl] at hZ
  obtain ⟨za, zc, rfl, hZs⟩ := hZ.zs (by rw [szs_length]; exact hN12)
  dsimp only at hZs ⊢
  rw [szs_length] at hZs ⊢
  have hb1 := below_step hb0 b1
  have hF1 := hF0.below b1
  have hR1 := hR0.below b1 hR0.lt b1.size
  have hke := keptOf_any W H S O a ps.length cap ps _ (hp.below hb1) hE
  obtain ⟨_, g0, g1, g2, g3, g4⟩ := id hF1
  rw [hE]
  go_wp2_with fail
  refine hke.mono ?_
  clear hke
  rintro e w2 ⟨⟨b, rfl, _, hBl⟩, b2⟩
  have hb2 := below_step hb1 b2
  have hF2 := hF1.below b2
  have hR2 := hR1.below b2 hR1.lt b2.size
  have hZ2 := hZs.below b2
  have hp2 := hp.below hb2
  have hs2 : w.heap.size + 2 ≤ w2.heap.size := by have h1 := b1.size; have h2 := b2.size; rw [World.size_alloc, World.size_alloc] at h1; omega
  clear g0 g1 g2 g3 g4 hF0 hF1 hR0 hR1 hb0 hb1 b1 b2 hZ hZs hp hG
  generalize szs ⟨W, H, S, O, ps⟩ ps.length = zs at hCm hZ2
  generalize keptG ps ps.length (shownP ⟨W, H, S, O, ps⟩) ps.length = kp at HCO hBl
  generalize spanP (gpOf ⟨W, H, S, O, ps⟩) (cOrd (gpOf ⟨W, H, S, O, ps⟩) ps.length) = sp at hCm hsO
  generalize cOrd (gpOf ⟨W, H, S, O, ps⟩) = co at *
  go_upto_region 4 with (at_make; refine wpList_make_full _ rfl _ _ 22 rfl w2.heap.size 3 i0 (.int .i64 0) 1 Tryz.underlying22 hi hz0 hz1 .i64 .i64 _ _ ps.length rfl rfl (by simp) (by simp) (by rw [hz2]; omega) (by unfold maxLen; omega) (Nat.le_refl _) ?_; intro wM hown hgrow)
  have hbM : Below w2.heap.size w2 wM := (Below.refl _ _).grown hgrow (Nat.le_refl _) (fun k hk => by cases hk)
  have hlM := (World.ownsRow.lt (w := wM) hown w2.heap.size rfl).2
  have hKM := Nm.made hown hlM
  clear hown hgrow
  have hX1 := WBox.new wM (.slice none 0 0) (.slice (some ⟨w2.heap.size, 0, none⟩) ps.length ps.length) 48
  have bA : Below wM.heap.size wM (wM.alloc (.cells #[.slice none 0 0, .slice (some ⟨w2.heap.size, 0, none⟩) ps.length ps.length] 48)) := (Below.refl _ _).alloc (Nat.le_refl _) _
  have hK1 := hKM.below bA hlM bA.size
  have hB1 := below_step hbM bA
  have hs1 : (wM.alloc (.cells #[.slice none 0 0, .slice (some ⟨w2.heap.size, 0, none⟩) ps.length ps.length] 48)).heap.size = wM.heap.size + 1 := by simp
  clear hKM bA hbM
  generalize wM.alloc (.cells #[.slice none 0 0, .slice (some ⟨w2.heap.size, 0, none⟩) ps.length ps.length] 48) = w3 at hX1 hK1 hB1 hs1 ⊢
  generalize wM.heap.size = q at hlM hX1 hs1 ⊢
  clear wM
  have hpb2 : w.heap.size + 2 ≤ w2.heap.size := hs2
  obtain ⟨pb, hpe⟩ : ∃ x, x = w2.heap.size := ⟨_, rfl⟩
  rw [← hpe] at hlM hX1 hK1 hpb2 ⊢
  have hpge : w2.heap.size ≤ pb := by omega
  clear hpe
  go_wp2
  go_loopw [7] (fun i wr => ∃ (k : Nat) (v : Value), k ≤ ps.length ∧ i = .int .i64 k ∧ Owns (q + 1) wr v (co k) ∧ WBox wr q v (.slice (some ⟨pb, 0, none⟩) ps.length ps.length) ∧ Nm wr pb ps.length (fun j => if j < k then -1 else 0) ∧ Below w2.heap.size w2 wr ∧ q + 1 ≤ wr.heap.size) (fun i _ => ps.length - (intOf i).toNat)
  case atStart => exact ⟨0, _, Nat.zero_le _, rfl, by rw [HC0.out]; exact World.ownsRow_nil _ _ _ _, hX1, hK1.congr (fun j _ => by simp), hB1, by omega⟩
  case round =>
    obtain ⟨k, v, hk, rfl, hown, hX, hK, hbr, hsz⟩ := hrel
    clear hX1 hK1 hB1 hs1
    obtain ⟨va, vc, rfl⟩ := owns_slice hown
    have hcl := HCL.out k
    by_cases hlt : k < ps.length
    · have hkI : (k : Int) < (ps.length : Int) := by omega
      have hk0 : (0 : Int) ≤ (k : Int) := by omega
      have hq1 : pb ≠ q := by omega
      have hbl : b ≠ pb := by have := hBl.lt; omega
      have HC : Hid (_) := HCO.out k
      have p0 := hK.cells k hlt
      have pf := hK.froz k
      obtain ⟨_, x0, x1, fx⟩ := id hX
      have fx0 := fx 0
      have hK' : Nm (wr.setCell ⟨pb, k, none⟩ (.int .i64 (-1))) pb ps.length (fun j => if j < k + 1 then -1 else 0) := hK.put k (-1) hlt (fun j hj => by
        by_cases e : k = j
        · subst e; simp
        · rw [if_neg e]
          by_cases h : j < k
          · rw [if_pos h, if_pos (by omega)]
          · rw [if_neg h, if_neg (by omega)])
      have hX' := hX.other (p := ⟨pb, k, none⟩) hq1 (.int .i64 (-1))
      have hO' : Owns (q + 1) _ _ (co k) := ownsRow_setCell_below hown (a := ⟨pb, k, none⟩) (by show pb < q + 1; omega) (.int .i64 (-1))
      have hB' := hbr.setCell (p := ⟨pb, k, none⟩) (by show w2.heap.size ≤ pb; omega) (.int .i64 (-1))
      have g0 := (hBl.below hB' hBl.lt hB'.size).cells k hlt
      have hs' : q + 1 ≤ (wr.setCell ⟨pb, k, none⟩ (.int .i64 (-1))).heap.size := by rw [World.size_setCell]; exact hsz
      clear hK hX hown hbr fx fx0 hsz
      go_upto_region 8 with fail
      generalize wr.setCell ⟨pb, k, none⟩ (.int .i64 (-1)) = ws at *
      clear x0 x1 p0 pf
      obtain ⟨_, x0, x1, fx⟩ := id hX'
      have fx0 := fx 0
      generalize kp k = y at g0 HC
      cases y with
      | true =>
        have HC2 : Hid (co (k + 1) = co k ++ [(k : Int)]) := HC.out.trans (if_pos rfl)
        clear HC
        generalize co k = os at *
        go_wp2_with (at_builtin; refine wpList_append_own _ rfl _ _ 22 rfl (q + 1) 3 i0 (.int .i64 0) 1 8 Tryz.underlying22 hi hz0 hz1 hz2 rfl (by decide) _ _ _ rfl (World.ownsRow.alloc hO' _) ⟨ws.heap.size, 0, none⟩ 1 1 [.int .i64 k] rfl rfl (cell_one_new _ _ _) (by intro u hu; simp at hu; subst hu; rfl) (by unfold maxLen; omega) (by omega) (by simp; omega) ?_; intro v' w9 hown9 hgrow9 _; obtain ⟨a9, c9, hv9⟩ := owns_slice hown9; subst hv9; have RR := Owns.push (x := (k : Int)) hO' (Below.refl (q + 1) ws) hs' hown9 rfl hgrow9; have hX9 := hX'.below RR.2 (Nat.lt_succ_self _) RR.2.size; obtain ⟨_, y0, y1, fy⟩ := id hX9; have fy0 := fy 0)
        have hs9 := RR.2.size
        have hBq := hB'.size
        go_roundw
        case rel => exact ⟨k + 1, _, by omega, by go_num, by rw [HC2.out]; exact ownsRow_setCell_below RR.1 (a := ⟨q, 0, none⟩) (Nat.lt_succ_self _) _, hX9.put0 _, (hK'.below RR.2 (by omega) RR.2.size).other (p := ⟨q, 0, none⟩) (Ne.symm hq1) _, (hB'.trans (RR.2.mono (by omega))).setCell (p := ⟨q, 0, none⟩) (by show w2.heap.size ≤ q; omega) _, by rw [World.size_setCell]; omega⟩
        case measure => simp [intOf]; omega
      | false =>
        have HC2 : Hid (co (k + 1) = co k) := HC.out.trans (if_neg (by decide))
        clear HC
        go_wp2
        go_roundw
        case rel => exact ⟨k + 1, _, by omega, by go_num, by rw [HC2.out]; exact hO', hX', hK', hB', hs'⟩
        case measure => simp [intOf]; omega
    · have hke : k = ps.length := by omega
      subst hke
      have hN0 : Nm wr pb ps.length (P 0) := hK.congr (fun j hj => by rw [if_pos hj]; exact hCm.p0 j)
      have hoc := owns_cap hown
      clear HCO HC0 HCL hK hcl
      generalize co ps.length = os at *
      have hol := hCm.ol
      obtain ⟨oa', oc', hoe, hI⟩ := hown.ints (by omega)
      injection hoe with e1 _ e2
      subst e1 e2
      have hFr := hF2.below hbr
      have hsr := hsO wr (hp2.below hbr) va vc (.slice (some ⟨pb, 0, none⟩) ps.length ps.length) (hI.mono (Nat.zero_le _))
      clear hsO
      obtain ⟨_, g0, g1, g2, g3, g4⟩ := id hFr
      obtain ⟨_, x0, x1, _⟩ := id hX
      go_wp2_with fail
      refine hsr.mono ?_
      clear hsr g0 g1 g2 g3 g4 x0 x1
      rintro e w5 ⟨⟨vs, rfl, hSp⟩, b5⟩
      obtain ⟨sa, sc, rfl⟩ := owns_slice hSp
      have hX5 := hX.below b5 hX.lt b5.size
      have hO5 := hown.below b5 (Nat.le_refl _)
      have hN5 := hN0.below b5 hN0.lt b5.size
      have hB5 := below_step hbr b5
      have hq5 : q + 1 ≤ w5.heap.size := Nat.le_trans hsz b5.size
      have hSL : ((List.range ps.length).map sp).length = ps.length := by simp
      have HSG : Hid (∀ k, k < ps.length → (((List.range ps.length).map sp).getD k Sz.zero).2 = (sp k).2) := fun k hk => by simp [List.getD, hk]
      generalize (List.range ps.length).map sp = SL at *
      rw [hSL]
      unfold OwnsS at hSp
      rw [hSL] at hSp
      clear hX hown hN0 hbr hFr hF2 hp2 b5 hI
      generalize wr.heap.size = s5 at *
      have HCM : Hid (_) := hCm
      clear hCm
      dsimp only
      go_wp2
      go_loopw [9] (fun i wr => ∃ t : Nat, t ≤ os.length ∧ i = .int .i64 t ∧ Owns (q + 1) wr (.slice va os.length vc) os ∧ WBox wr q (.slice va os.length vc) (.slice (some ⟨pb, 0, none⟩) ps.length ps.length) ∧ Nm wr pb ps.length (P t) ∧ wr.ownsRow s5 111 2 (.slice sa ps.length sc) ps.length (zcells SL) ∧ Below w2.heap.size w2 wr ∧ q + 1 ≤ wr.heap.size) (fun i _ => os.length - (intOf i).toNat)
      case atStart => exact ⟨0, Nat.zero_le _, rfl, hO5, hX5, hN5, hSp, hB5, hq5⟩
      case round =>
        obtain ⟨t, ht, rfl, hO, hX, hN, hS, hB, hq⟩ := hrel
        clear hX5 hO5 hN5 hSp hB5 hq5
        obtain ⟨wO, e0⟩ : ∃ z, z = wr := ⟨_, rfl⟩
        subst e0
        obtain ⟨_, x0, x1, _⟩ := id hX
        by_cases hlt : t < os.length
        · obtain ⟨oa', oc', hoe, hI⟩ := hO.ints (by omega)
          injection hoe with e1 _ e2
          subst e1 e2
          have hSz : Zs wO sa ps.length SL := by
            have h1 : OwnsS s5 wO (.slice sa ps.length sc) SL := by unfold OwnsS; rw [hSL]; exact hS
            obtain ⟨a', c', e', h'⟩ := h1.zs (by omega)
            injection e' with e1 _ _
            subst e1
            rw [hSL] at h'
            exact h'
          have hZr := hZ2.below hB
          obtain ⟨ob, oo, rfl, hox⟩ := hI.nth hlt
          have HST : Hid (_) := HCM.out.step t hlt
          have HBE : Hid (_) := HCM.out.busyE t hlt
          have HBP : Hid (_) := HCM.out.busyP t hlt
          have HBL : Hid (∀ m, (busyF sp (fun k => areaZ (zs.getD k Sz.zero)) (P t) os t m).length ≤ m) := fun m => busyF_len _ _ _ _ _ m
          have HB0 : Hid (OwnsS wO.heap.size wO (.slice none 0 0) (busyF sp (fun k => areaZ (zs.getD k Sz.zero)) (P t) os t 0)) := World.ownsRow_nil _ _ _ _
          have HBS : Hid (∀ m, busyF sp (fun k => areaZ (zs.getD k Sz.zero)) (P t) os t (m + 1) = if (t : Int) ≤ (sp (os.getD m 0).toNat).2 then busyF sp (fun k => areaZ (zs.getD k Sz.zero)) (P t) os t m ++ [(P t (os.getD m 0).toNat, P t (os.getD m 0).toNat + (zs.getD (os.getD m 0).toNat Sz.zero).1 * (zs.getD (os.getD m 0).toNat Sz.zero).2 - 1)] else busyF sp (fun k => areaZ (zs.getD k Sz.zero)) (P t) os t m) := fun _ => rfl
          generalize busyF sp (fun k => areaZ (zs.getD k Sz.zero)) (P t) os t = bf at *
          have HPB : Hid (_) := HCM.out.pb t ht
          go_wp2
          clear x0 x1
          go_loopw [10, 11] (fun v j wr => ∃ m : Nat, m ≤ t ∧ j = .int .i64 m ∧ OwnsS wO.heap.size wr v (bf m) ∧ Below wO.heap.size wO wr) (fun _ j _ => t - (intOf j).toNat)
          case atStart => exact ⟨0, Nat.zero_le _, rfl, HB0.out, Below.refl _ _⟩
          case round =>
            obtain ⟨m, hm, rfl, hown, hBi⟩ := hrel
            have hbl := HBL.out m
            obtain ⟨va', vc', rfl⟩ := owns_slice hown
            have hsi := hBi.size
            have hXi := hX.below hBi hX.lt hBi.size
            obtain ⟨_, x0, x1, _⟩ := id hXi
            by_cases hmt : m < t
            · obtain ⟨ob', oo', hoe, hom⟩ := (hI.below (Nat.le_refl _) hBi).nth (show m < os.length by omega)
              injection hoe with hoe
              injection hoe with h1 h2
              subst h1 h2
              have hor : 0 ≤ os.getD m 0 ∧ os.getD m 0 < (ps.length : Int) := HCM.out.inN _ (getD_mem (show m < os.length by omega) 0)
              have HB1 : Hid (_) := HBS.out m
              generalize os.getD m 0 = p at *
              obtain ⟨k, rfl⟩ := Int.eq_ofNat_of_zero_le hor.1
              rw [Int.toNat_natCast] at HB1
              have hkl : k < ps.length := by omega
              have hkI : (k : Int) < (ps.length : Int) := by omega
              have hk0 : (0 : Int) ≤ (k : Int) := by omega
              have hmI : (m : Int) < (t : Int) := by omega
              have hmL : (m : Int) < (os.length : Int) := by omega
              have hm0 : (0 : Int) ≤ (m : Int) := by omega
              obtain ⟨sb, so, rfl, hsl, s0, s1⟩ := (hSz.below hBi).nth hkl
              rw [HSG.out k hkl] at s1
              generalize (sp k).2 = sl at s1 HB1
              clear s0
              by_cases hs : (t : Int) ≤ sl
              · obtain ⟨zb, zo, rfl, hzl, z0, z1⟩ := hZr.nth hkl
                have hzb := HCM.out.sz k hkl
                have hpk := HPB.out k
                have HB2 : Hid (_) := HB1.out.trans (if_pos hs)
                have p0 := hN.cells k hkl
                generalize (zs.getD k Sz.zero).1 = zx at *
                generalize (zs.getD k Sz.zero).2 = zy at *
                generalize P t k = pk at *
                have hxy : 0 ≤ zx * zy ∧ zx * zy ≤ 256 := ⟨Int.mul_nonneg hzb.1.1 hzb.2.1, Int.mul_le_mul hzb.1.2 hzb.2.2 hzb.2.1 (by omega)⟩
                have har := fun wx => area_any zx zy wx (by rw [IntKind.wrap_i64]; omega)
                generalize zx * zy = ar at *
                have hw1 : IntKind.i64.wrap (pk + ar) = pk + ar := by rw [IntKind.wrap_i64]; omega
                have hw2 : IntKind.i64.wrap (pk + ar - 1) = pk + ar - 1 := by rw [IntKind.wrap_i64]; omega
                have hNl := hN.lt
                have hXl := hX.lt
                have held : ∀ wx, Below wO.heap.size wO wx → wx.cell? ⟨q, 1, none⟩ = some (.slice (some ⟨pb, 0, none⟩) ps.length ps.length) ∧ wx.cell? ⟨pb, k, none⟩ = some (.int .i64 pk) ∧ wx.cell? ⟨zb, zo + k * 2, none⟩ = some (.int .i64 zx) ∧ wx.cell? ⟨zb, zo + k * 2 + 1, none⟩ = some (.int .i64 zy) := fun wx h =>
                  ⟨(h.cell (p := ⟨q, 1, none⟩) hXl).trans hX.c1, (h.cell (p := ⟨pb, k, none⟩) hNl).trans p0, (h.cell (p := ⟨zb, zo + k * 2, none⟩) hzl).trans z0, (h.cell (p := ⟨zb, zo + k * 2 + 1, none⟩) hzl).trans z1⟩
                have hd0 := hBi.drew
                have hd := (Below.refl wr.heap.size wr).drew
                generalize bf m = L at *
                go_upto_region 20 with fail
                go_region_held3 (fun wx => wx.cell? ⟨q, 1, none⟩ = some (.slice (some ⟨pb, 0, none⟩) ps.length ps.length) ∧ wx.cell? ⟨pb, k, none⟩ = some (.int .i64 pk) ∧ wx.cell? ⟨zb, zo + k * 2, none⟩ = some (.int .i64 zx) ∧ wx.cell? ⟨zb, zo + k * 2 + 1, none⟩ = some (.int .i64 zy))
                  (first | exact held _ hd0 | exact held _ bAO | exact held _ (bAO.alloc bAO.size _) | exact held _ RR.2 | exact held _ hBi)
                  (first
                    | (go_at_call 52; refine (har _).mono ?_; rintro e wA ⟨rfl, bA⟩; have bAA : Below wr.heap.size wr wA := below_step hd bA; have bAO : Below wO.heap.size wO wA := below_step hd0 bA)
                    | ((refine step_append_lies _ (by rfl) _ _ _ (by rfl) wO.heap.size 111 j0 _ 2 16 Tryz.underlying84 hj hy0 hy1 hy2 rfl (by omega) (.slice va' L.length vc') L.length (zcells L) (by rfl) (World.ownsRow.alloc (ownsRow_below hown bAA (Nat.le_refl _)) _) ⟨wA.heap.size, 0, none⟩ 1 1 [.int .i64 pk, .int .i64 (pk + ar - 1)] (by rfl) rfl (cell_two_new _ _ _ _) (by intro u hu; simp at hu; rcases hu with rfl | rfl <;> rfl) (by omega) (by unfold maxLen; omega) (by omega) (by have := bAA.size; simp; omega) (wA.heap.size + 1) (by simp) ?_; intro g cap9 w9 hown9 hgrow9 hat hlt9; have RR := OwnsS.push (z := (pk, pk + ar - 1)) (ownsRow_below hown bAA (Nat.le_refl _)) (hBi.trans (bAA.mono hsi)) (Nat.le_trans hsi bAA.size) hown9 rfl hgrow9)))
                all_goals
                  go_wp2
                  go_roundw
                  case rel => exact ⟨m + 1, by omega, by go_num, by rw [HB2.out]; exact RR.1, RR.2⟩
                  case measure => simp [intOf]; omega
              · have HB2 : Hid (_) := HB1.out.trans (if_neg hs)
                go_wp2
                go_roundw
                case rel => exact ⟨m + 1, by omega, by go_num, by rw [HB2.out]; exact hown, hBi⟩
                case measure => simp [intOf]; omega
            · have hmte : m = t := by omega
              subst hmte
              have hor : 0 ≤ os.getD m 0 ∧ os.getD m 0 < (ps.length : Int) := HCM.out.inN _ (getD_mem hlt 0)
              generalize os.getD m 0 = p at *
              obtain ⟨k, rfl⟩ := Int.eq_ofNat_of_zero_le hor.1
              rw [Int.toNat_natCast] at HST HBE HBP
              have hkl : k < ps.length := by omega
              have hkI : (k : Int) < (ps.length : Int) := by omega
              have hk0 : (0 : Int) ≤ (k : Int) := by omega
              have hmL : (m : Int) < (os.length : Int) := by omega
              have hm0 : (0 : Int) ≤ (m : Int) := by omega
              obtain ⟨zb, zo, rfl, hzl2, y0, y1⟩ := hZ2.nth hkl
              have hzl : zb < wO.heap.size := Nat.lt_of_lt_of_le hzl2 hB.size
              have z0 := (hB.cell (p := ⟨zb, zo + k * 2, none⟩) hzl2).trans y0
              have z1 := (hB.cell (p := ⟨zb, zo + k * 2 + 1, none⟩) hzl2).trans y1
              clear y0 y1
              have hzb := HCM.out.sz k hkl
              have p0 := hN.cells k hkl
              have pf := hN.froz k
              have hNl := hN.lt
              have hXl := hX.lt
              have hPR : placeR (bf m) (areaZ (zs.getD k Sz.zero)) = R m := by
                have h1 := HBP.out
                unfold placeP at h1
                rw [if_pos HBE.out] at h1
                exact h1
              have hpo := fun wx (ra : Option Addr) (rc : Nat) (h : Zs wx ra (bf m).length (bf m)) => placeOf_any rc h HBE.out
              rw [hPR] at hpo
              have hbl4 : (bf m).length ≤ 4096 := by omega
              obtain ⟨ra, rc, hre, hZb⟩ := OwnsS.zs hown hbl4
              injection hre with e1 _ e2
              subst e1 e2
              clear HBP HBE hPR
              have hxy : 0 ≤ (zs.getD k Sz.zero).1 * (zs.getD k Sz.zero).2 ∧ (zs.getD k Sz.zero).1 * (zs.getD k Sz.zero).2 ≤ 256 := ⟨Int.mul_nonneg hzb.1.1 hzb.2.1, Int.mul_le_mul hzb.1.2 hzb.2.2 hzb.2.1 (by omega)⟩
              have har := fun wx => area_any (zs.getD k Sz.zero).1 (zs.getD k Sz.zero).2 wx (by rw [IntKind.wrap_i64]; omega)
              have hare : (zs.getD k Sz.zero).1 * (zs.getD k Sz.zero).2 = areaZ (zs.getD k Sz.zero) := rfl
              rw [hare] at har
              generalize areaZ (zs.getD k Sz.zero) = ar at *
              clear hare hxy
              generalize (zs.getD k Sz.zero).1 = zx at *
              generalize (zs.getD k Sz.zero).2 = zy at *
              generalize bf m = L at *
              have hol' : ob < wO.heap.size := ints_lt hI hlt
              have held : ∀ wx, Below wO.heap.size wO wx → wx.cell? ⟨q, 0, none⟩ = some (.slice (some ⟨ob, oo, none⟩) os.length vc) ∧ wx.cell? ⟨q, 1, none⟩ = some (.slice (some ⟨pb, 0, none⟩) ps.length ps.length) ∧ wx.cell? ⟨ob, oo + m, none⟩ = some (.int .i64 k) ∧ wx.cell? ⟨zb, zo + k * 2, none⟩ = some (.int .i64 zx) ∧ wx.cell? ⟨zb, zo + k * 2 + 1, none⟩ = some (.int .i64 zy) := fun wx h =>
                ⟨(h.cell (p := ⟨q, 0, none⟩) hXl).trans hX.c0, (h.cell (p := ⟨q, 1, none⟩) hXl).trans hX.c1, (h.cell (p := ⟨ob, oo + m, none⟩) hol').trans hox, (h.cell (p := ⟨zb, zo + k * 2, none⟩) hzl).trans z0, (h.cell (p := ⟨zb, zo + k * 2 + 1, none⟩) hzl).trans z1⟩
              have hob : pb ≠ ob := by
                have := ints_base hI hlt
                omega
              have hqb : pb ≠ q := by omega
              have hzb' : pb ≠ zb := by omega
              have heldS : ∀ wx (u : Value), Below wO.heap.size wO wx → (wx.setCell ⟨pb, k, none⟩ u).cell? ⟨q, 0, none⟩ = some (.slice (some ⟨ob, oo, none⟩) os.length vc) ∧ (wx.setCell ⟨pb, k, none⟩ u).cell? ⟨q, 1, none⟩ = some (.slice (some ⟨pb, 0, none⟩) ps.length ps.length) ∧ (wx.setCell ⟨pb, k, none⟩ u).cell? ⟨ob, oo + m, none⟩ = some (.int .i64 k) ∧ (wx.setCell ⟨pb, k, none⟩ u).cell? ⟨zb, zo + k * 2, none⟩ = some (.int .i64 zx) ∧ (wx.setCell ⟨pb, k, none⟩ u).cell? ⟨zb, zo + k * 2 + 1, none⟩ = some (.int .i64 zy) := fun wx u h => by
                obtain ⟨c0, c1, c2, c3, c4⟩ := held wx h
                exact ⟨(set_other _ (fun e => hqb (by injection e))).trans c0, (set_other _ (fun e => hqb (by injection e))).trans c1, (set_other _ (fun e => hob (by injection e))).trans c2, (set_other _ (fun e => hzb' (by injection e))).trans c3, (set_other _ (fun e => hzb' (by injection e))).trans c4⟩
              have hd := (Below.refl wr.heap.size wr).drew
              have hd0 := hBi.drew
              go_upto_region 21 with fail
              go_region_held3 (fun wx => wx.cell? ⟨q, 0, none⟩ = some (.slice (some ⟨ob, oo, none⟩) os.length vc) ∧ wx.cell? ⟨q, 1, none⟩ = some (.slice (some ⟨pb, 0, none⟩) ps.length ps.length) ∧ wx.cell? ⟨ob, oo + m, none⟩ = some (.int .i64 k) ∧ wx.cell? ⟨zb, zo + k * 2, none⟩ = some (.int .i64 zx) ∧ wx.cell? ⟨zb, zo + k * 2 + 1, none⟩ = some (.int .i64 zy))
                (first | exact held _ hd0 | exact held _ bAO | exact held _ bPO | exact heldS _ _ bPO | exact held _ hBi)
                (first
                  | (go_at_call 52; refine (har _).mono ?_; rintro e wA ⟨rfl, bA⟩; have bAA : Below wr.heap.size wr wA := below_step hd bA; have bAO : Below wO.heap.size wO wA := below_step hd0 bA)
                  | (go_at_call 55; refine (hpo _ _ _ (by first | exact hZb.below bAA)).mono ?_; rintro e wP ⟨rfl, bP⟩; have bPO : Below wO.heap.size wO wP := below_step bAO bP; have hc9 := (bPO.cell (p := ⟨pb, k, none⟩) hNl).trans p0; have hf9 := (bPO.frozen (p := ⟨pb, k, none⟩) hNl).trans pf))
              all_goals
                have hXP := (hX.below bPO hX.lt bPO.size).other (p := ⟨pb, k, none⟩) hqb (.int .i64 (R m))
                have hNP : Nm (wP.setCell ⟨pb, k, none⟩ (.int .i64 (R m))) pb ps.length (P (m + 1)) := (hN.below bPO hN.lt bPO.size).put k (R m) hkl (fun j _ => HST.out j)
                have hSP := ownsRow_setCell_below (ownsRow_below hS bPO (Nat.le_refl _)) (a := ⟨pb, k, none⟩) (show pb < s5 by omega) (.int .i64 (R m))
                have hOP : Owns (q + 1) _ _ os := ownsRow_setCell_below (ownsRow_below hO bPO (Nat.le_refl _)) (a := ⟨pb, k, none⟩) (show pb < q + 1 by omega) (.int .i64 (R m))
                have hBP := (below_step hB bPO).setCell (p := ⟨pb, k, none⟩) hpge (.int .i64 (R m))
                have hsP : q + 1 ≤ (wP.setCell ⟨pb, k, none⟩ (.int .i64 (R m))).heap.size := by rw [World.size_setCell]; exact Nat.le_trans hq bPO.size
                have HNP : Hid (_) := hNP
                clear hNP HST
                go_wp2
                go_roundw
                case rel => exact ⟨m + 1, by omega, by go_num, hOP, hXP, HNP.out, hSP, hBP, hsP⟩
                case measure => simp [intOf]; omega
        · have hte : t = os.length := by omega
          subst hte
          have hRr := hR2.below hB hR2.lt hB.size
          obtain ⟨_, r0, r1, fr⟩ := id hRr
          have fr0 := fr 0
          have fr1 := fr 1
          obtain ⟨_, d0, d1, _⟩ := (hRr.put0 (.slice va os.length vc)).put1 (.slice (some ⟨pb, 0, none⟩) ps.length ps.length)
          have hpn : w.heap.size + 1 ≠ pb := by omega
          have T1 : Owns (pb + 1) _ _ os := Owns.mono (ownsRow_setCell_below (ownsRow_setCell_below hO (a := ⟨w.heap.size + 1, 0, none⟩) (by show w.heap.size + 1 < q + 1; omega) (.slice va os.length vc)) (a := ⟨w.heap.size + 1, 1, none⟩) (by show w.heap.size + 1 < q + 1; omega) (.slice (some ⟨pb, 0, none⟩) ps.length ps.length)) (show pb + 1 ≤ q + 1 by omega)
          have T2 := (hN.other (p := ⟨w.heap.size + 1, 0, none⟩) hpn (.slice va os.length vc)).other (p := ⟨w.heap.size + 1, 1, none⟩) hpn (.slice (some ⟨pb, 0, none⟩) ps.length ps.length)
          have T3 := ((below_step hb2 hB).setCell (p := ⟨w.heap.size + 1, 0, none⟩) (Nat.le_succ _) (.slice va os.length vc)).setCell (p := ⟨w.heap.size + 1, 1, none⟩) (Nat.le_succ _) (.slice (some ⟨pb, 0, none⟩) ps.length ps.length)
          have HT1 : Hid (_) := T1
          have HT2 : Hid (_) := T2
          have HT3 : Hid (_) := T3
          clear T1 T2 T3 hX hO hN hS hB hRr
          go_wp2
          exact bodyPost_ret (v := .agg #[.slice va os.length vc, .slice (some ⟨pb, 0, none⟩) ps.length ps.length]) (by simp [results, Tryz.results23, go_sem, d0, d1]) rfl (HT.out _ _ _ (by omega) HT1.out HT2.out HT3.out)
end Go.Proofs.YtaenpgdmiaekcaaGreatDoor
/-
  FITSREF: the reference's Fits.
-/
namespace Go.Proofs.YtaenpgdmiaekcaaGreatDoor
set_option maxRecDepth 100000
open Go.RowKit Im Go.Maps

end Go.Proofs.YtaenpgdmiaekcaaGreatDoor
/-
  PLANERRREF: the reference's PlanError and CheckPlan.
-/
namespace Go.Proofs.YtaenpgdmiaekcaaGreatDoor
set_option maxRecDepth 100000
open Go.RowKit Im Go.Maps

/-- The frame and the plan in their boxes. -/
theorem two_boxes (w : World) (W H S O : Int) (a : Option Addr) (len cap : Nat) (v0 v1 : Value) : Below w.heap.size w ((w.alloc (.cells #[.int .i64 W, .int .i64 H, .int .i64 S, .int .i64 O, .slice a len cap] 35)).alloc (.cells #[v0, v1] 48)) ∧ FBox ((w.alloc (.cells #[.int .i64 W, .int .i64 H, .int .i64 S, .int .i64 O, .slice a len cap] 35)).alloc (.cells #[v0, v1] 48)) w.heap.size W H S O a len cap ∧ PlBox ((w.alloc (.cells #[.int .i64 W, .int .i64 H, .int .i64 S, .int .i64 O, .slice a len cap] 35)).alloc (.cells #[v0, v1] 48)) (w.heap.size + 1) v0 v1 := by
  refine ⟨below_box (below_box (Below.refl _ _) _) _, (FBox.new w W H S O a len cap).alloc _, ?_⟩
  have hP0 := PlBox.new (w.alloc (.cells #[.int .i64 W, .int .i64 H, .int .i64 S, .int .i64 O, .slice a len cap] 35)) v0 v1 48
  rwa [World.size_alloc] at hP0
end Go.Proofs.YtaenpgdmiaekcaaGreatDoor
/-
  PEAKREF: the reference's PeakOf and FloorOf.
-/
namespace Go.Proofs.YtaenpgdmiaekcaaGreatDoor
set_option maxRecDepth 100000
open Go.RowKit Im Go.Maps

theorem peakR_bd {ar : Nat → Int} {pl : List Int} {N : Nat} (h : ∀ k, k < N → pl.getD k 0 ≤ 4096 ∧ ar k ≤ 256) : ∀ {n : Nat}, n ≤ N → 0 ≤ peakR ar pl n ∧ peakR ar pl n ≤ 4352
  | 0, _ => by simp [peakR]
  | n + 1, hn => by
    have ih := peakR_bd h (n := n) (by omega)
    have := h n (by omega)
    unfold peakR
    split <;> omega
set_option maxHeartbeats 4000000 in
theorem peakOf_any (W H S O : Int) (a : Option Addr) (len cap : Nat) (ps : List Ps) (w : World) (hp : Passes w a len ps) (ov : Value) (pa : Option Addr) (plen pcap : Nat) (os pl : List Int) (hL : Ints 0 w pa plen pl) (hE : frameE ⟨W, H, S, O, ps⟩ = 0) (hOrd : Ord (gpOf ⟨W, H, S, O, ps⟩) os pl) :
    Calls Tryz.prog 22 #[.agg #[.int .i64 W, .int .i64 H, .int .i64 S, .int .i64 O, .slice a len cap], .agg #[ov, .slice pa plen pcap]] w fun e w' => e = .returned (.int .i64 (peakR (gpOf ⟨W, H, S, O, ps⟩).ar pl ps.length)) ∧ Below w.heap.size w w' := by
  obtain rfl := hp.leng
  have hpl : plen = ps.length := by rw [← hL.leng]; exact hOrd.len
  subst hpl
  have hR := gp_right hE
  have hN12 : ps.length ≤ 12 := hR.hN.2
  obtain ⟨hb0, hF0, hP0⟩ := two_boxes w W H S O a ps.length cap ov (.slice pa ps.length pcap)
  have hcf := checkFrame_any W H S O a ps.length cap ps _ (hp.below hb0)
  have hpb : ∀ k, k < ps.length → pl.getD k 0 = -1 ∨ (0 ≤ pl.getD k 0 ∧ pl.getD k 0 ≤ 4096) := fun k hk => by
    by_cases hm : (k : Int) ∈ os
    · exact .inr (hOrd.at_ k hk hm)
    · exact .inl (hOrd.no k hk hm)
  have HPB : Hid (_) := hpb
  have HPK : Hid (∀ n, n ≤ ps.length → 0 ≤ peakR (gpOf ⟨W, H, S, O, ps⟩).ar pl n ∧ peakR (gpOf ⟨W, H, S, O, ps⟩).ar pl n ≤ 4352) := fun n hn => peakR_bd (N := ps.length) (fun k hk => ⟨by rcases hpb k hk with h | h <;> omega, (hR.ar k hk).2⟩) hn
  have HAR : Hid (∀ k, (gpOf ⟨W, H, S, O, ps⟩).ar k = areaZ ((szs ⟨W, H, S, O, ps⟩ ps.length).getD k Sz.zero)) := fun _ => rfl
  obtain ⟨hbnd, hfirst, _⟩ := frameE_zero hE
  have HZB : Hid (∀ z ∈ szs ⟨W, H, S, O, ps⟩ ps.length, ZB z) := szs_bd hbnd hfirst
  generalize hN : ps.length = N at *
  have hzl : (szs ⟨W, H, S, O, ps⟩ N).length = N := szs_length _ _
  generalize (gpOf ⟨W, H, S, O, ps⟩).ar = ar at *
  have HPS : Hid (∀ k, peakR ar pl (k + 1) = if pl.getD k 0 = -1 then peakR ar pl k else if peakR ar pl k < pl.getD k 0 + ar k then pl.getD k 0 + ar k else peakR ar pl k) := fun k => by
    show (if pl.getD k 0 = -1 then peakR ar pl k else max (peakR ar pl k) (pl.getD k 0 + ar k)) = _
    rw [max_if]
  unfold ToldFZ at hcf
  rw [hE, if_pos rfl] at hcf
  dsimp only at hcf
  rw [hN] at hcf
  generalize szs ⟨W, H, S, O, ps⟩ N = zs at *
  clear hOrd hR hbnd hfirst hE hpb
  go_enter Tryz.func22, Tryz.ntmps22
  go_wp2_with fail
  refine hcf.mono ?_
  clear hcf
  rintro e w1 ⟨⟨vz, rfl, hZ⟩, b1⟩
  obtain ⟨za, zc, rfl, hZs⟩ := hZ.zs (by omega)
  rw [hzl] at hZs ⊢
  have hP1 := hP0.below b1
  have hb1 := below_step hb0 b1
  have hL1 := hL.below (Nat.le_refl _) hb1
  clear hZ b1 hF0 hP0 hb0 hp hL
  go_wp2
  go_loopw [7, 8] (fun m i wr => ∃ k : Nat, k ≤ N ∧ i = .int .i64 k ∧ m = .int .i64 (peakR ar pl k) ∧ Below w1.heap.size w1 wr) (fun _ i _ => N - (intOf i).toNat)
  case atStart => exact ⟨0, Nat.zero_le _, rfl, rfl, Below.refl _ _⟩
  case round =>
    obtain ⟨k, hk, rfl, rfl, hbr⟩ := hrel
    have hPr := hP1.below hbr
    obtain ⟨_, h0, h1⟩ := id hPr
    by_cases hlt : k < N
    · obtain ⟨pb, po, rfl, lpb, hpk⟩ := (hL1.below (Nat.le_refl _) hbr).nth' hlt
      obtain ⟨zb, zo, rfl, lzb, zk0, zk1⟩ := (hZs.below hbr).nth hlt
      have hyb := HPB.out k hlt
      have hkb := HPK.out k (by omega)
      have HS1 := HPS.out k
      have hzb := HZB.out _ (getD_mem (l := zs) (k := k) (by omega) Sz.zero)
      have hab := area_bd hzb
      have hark := HAR.out k
      unfold areaZ at hab hark
      have hkI : (k : Int) < (N : Int) := by omega
      have hk0 : (0 : Int) ≤ (k : Int) := by omega
      generalize zs.getD k Sz.zero = z at zk0 zk1 hzb hab hark
      obtain ⟨kw, kh⟩ := z
      dsimp only at zk0 zk1 hab hark
      rw [hark] at HS1
      generalize pl.getD k 0 = yk at hpk hyb HS1
      generalize peakR ar pl k = pk at hkb HS1
      have hwk : IntKind.i64.wrap (kw * kh) = kw * kh := by rw [IntKind.wrap_i64]; omega
      have hak := fun wx => area_any kw kh wx hwk
      generalize kw * kh = ak at hab hak HS1 hark hwk
      replace HS1 : Hid (_) := HS1
      clear hwk hark hzb
      by_cases hyk : yk = -1
      · subst hyk
        go_wp2
        go_roundw
        case rel => exact ⟨k + 1, by omega, by go_num, by rw [HS1.out, if_pos (by trivial)], hbr⟩
        case measure => simp [intOf]; omega
      · have hyb2 := hyb.resolve_left hyk
        have hw1 : IntKind.i64.wrap (yk + ak) = yk + ak := by rw [IntKind.wrap_i64]; omega
        have hd := (Below.refl wr.heap.size wr).drew
        have kq : ∀ w', Below wr.heap.size wr w' → w'.cell? ⟨w.heap.size + 1, 1, none⟩ = some (.slice (some ⟨pb, po, none⟩) N pcap) ∧ w'.cell? ⟨pb, po + k, none⟩ = some (.int .i64 yk) ∧ w'.cell? ⟨zb, zo + k * 2, none⟩ = some (.int .i64 kw) ∧ w'.cell? ⟨zb, zo + k * 2 + 1, none⟩ = some (.int .i64 kh) := fun w' h => ⟨(h.cell (p := ⟨w.heap.size + 1, 1, none⟩) hPr.lt).trans h1, (h.cell (p := ⟨pb, po + k, none⟩) lpb).trans hpk, (h.cell (p := ⟨zb, zo + k * 2, none⟩) lzb).trans zk0, (h.cell (p := ⟨zb, zo + k * 2 + 1, none⟩) lzb).trans zk1⟩
        by_cases hm : pk < yk + ak
        · go_wp2
          go_region_held3 (fun w' => w'.cell? ⟨w.heap.size + 1, 1, none⟩ = some (.slice (some ⟨pb, po, none⟩) N pcap) ∧ w'.cell? ⟨pb, po + k, none⟩ = some (.int .i64 yk) ∧ w'.cell? ⟨zb, zo + k * 2, none⟩ = some (.int .i64 kw) ∧ w'.cell? ⟨zb, zo + k * 2 + 1, none⟩ = some (.int .i64 kh))
            (first | exact kq _ hd | exact kq _ B3)
            ((go_at_call 52; refine (hak _).mono ?_; rintro e w3 ⟨rfl, b3⟩; have B3 := hd.trans b3))
          go_wp2
          go_roundw
          case rel => exact ⟨k + 1, by omega, by go_num, by rw [HS1.out, if_neg hyk, if_pos hm], below_step hbr B3⟩
          case measure => simp [intOf]; omega
        · go_wp2
          go_region_held3 (fun w' => w'.cell? ⟨w.heap.size + 1, 1, none⟩ = some (.slice (some ⟨pb, po, none⟩) N pcap) ∧ w'.cell? ⟨pb, po + k, none⟩ = some (.int .i64 yk) ∧ w'.cell? ⟨zb, zo + k * 2, none⟩ = some (.int .i64 kw) ∧ w'.cell? ⟨zb, zo + k * 2 + 1, none⟩ = some (.int .i64 kh))
            (first | exact kq _ hd | exact kq _ B3)
            ((go_at_call 52; refine (hak _).mono ?_; rintro e w3 ⟨rfl, b3⟩; have B3 := hd.trans b3))
          go_wp2
          go_roundw
          case rel => exact ⟨k + 1, by omega, by go_num, by rw [HS1.out, if_neg hyk, if_neg (by omega)], below_step hbr B3⟩
          case measure => simp [intOf]; omega
    · have hke : k = N := by omega
      subst hke
      go_wp2
      go_ret
      exact ⟨rfl, below_step hb1 hbr⟩
end Go.Proofs.YtaenpgdmiaekcaaGreatDoor
