/- SpansOwn, FitsRef, PlanErrRef, PeakRef, ImagesRef2, RenderRef, Glow, PlanBegun, ExecM: joined, in this order. -/
import Derived.Test.YtaenpgdmiaekcaaGreatDoorS19
import Derived.Test.YtaenpgdmiaekcaaGreatDoorS16
import Derived.Test.YtaenpgdmiaekcaaGreatDoorS11
import Derived.Test.YtaenpgdmiaekcaaGreatDoorS18
import Derived.Test.YtaenpgdmiaekcaaGreatDoorS12
import Derived.Test.YtaenpgdmiaekcaaGreatDoorS17
/-
  SPANSOWN: the reference's SpansOf: its spans lie in a row of their own.
-/
namespace Go.Proofs.YtaenpgdmiaekcaaGreatDoor
set_option maxRecDepth 100000
open Go.RowKit Im Go.Maps

/-- The call's end tells the spans L, in a row of its own. -/
def ToldSO (w : World) (L : List Sz) (e : Ending) (w' : World) : Prop :=
  (∃ v, e = .returned v ∧ OwnsS w.heap.size w' v L) ∧ Below w.heap.size w w'
set_option maxHeartbeats 8000000 in
theorem spansOwn_any (W H S O : Int) (a : Option Addr) (len cap : Nat) (ps : List Ps) (w : World) (hp : Passes w a len ps) (oa : Option Addr) (olen ocap : Nat) (pv : Value) (os : List Int) (hO : Ints 0 w oa olen os) (hE : frameE ⟨W, H, S, O, ps⟩ = 0) (hos : ∀ o ∈ os, 0 ≤ o ∧ o < ps.length) (hol : os.length ≤ 12) :
    Calls Tryz.prog 54 #[.agg #[.int .i64 W, .int .i64 H, .int .i64 S, .int .i64 O, .slice a len cap], .agg #[.slice oa olen ocap, pv]] w (ToldSO w ((List.range ps.length).map (spanP (gpOf ⟨W, H, S, O, ps⟩) os))) := by
  obtain rfl := hp.leng
  obtain rfl := hO.leng
  have hR := gp_right hE
  have hN12 : ps.length ≤ 12 := hR.hN.2
  obtain ⟨i0, hi, hz0, hz1, hz2⟩ := info_parts Tryz.infoSpan
  have hb0 := below_box (below_box (Below.refl w.heap.size w) (.cells #[.int .i64 W, .int .i64 H, .int .i64 S, .int .i64 O, .slice a ps.length cap] 35)) (.cells #[.slice oa os.length ocap, pv] 48)
  have hF0 := (FBox.new w W H S O a ps.length cap).alloc (.cells #[.slice oa os.length ocap, pv] 48)
  have hP0 := PlBox.new (w.alloc (.cells #[.int .i64 W, .int .i64 H, .int .i64 S, .int .i64 O, .slice a ps.length cap] 35)) (.slice oa os.length ocap) pv 48
  rw [World.size_alloc] at hP0
  have hs2 : ∀ x ∈ srcs ps ps.length, x.length ≤ 2 := by
    intro x hx
    unfold srcs at hx
    rw [List.mem_map] at hx
    obtain ⟨n, _, rfl⟩ := hx
    unfold srcOf
    rw [List.length_map]
    exact takesP_len _
  have hso := sourcesOfRef_any W H S O a ps.length cap ps _ (hp.below hb0) hN12
  have hla := fun wx hp => lastOf_any W H S O a ps.length cap ps wx hp
  have HSR : Hid (∀ k, k < ps.length → (srcs ps ps.length).getD k [] = srcOf ps k) := fun k hk => srcs_at ps hk
  have HOS : Hid (_) := hos
  have HSP : Hid (∀ k, spanP (gpOf ⟨W, H, S, O, ps⟩) os k = (stepAt os k, if (k : Int) = shownP ⟨W, H, S, O, ps⟩ then (os.length : Int) - 1 else ltk (srcOf ps) os k (stepAt os k) os.length)) := fun _ => rfl
  have HLT : Hid (∀ k d n, ltk (srcOf ps) os k d (n + 1) = if k ∈ srcOf ps (os.getD n 0).toNat then (n : Int) else ltk (srcOf ps) os k d n) := fun _ _ _ => rfl
  have hwo : IntKind.i64.wrap ((os.length : Int) - 1) = (os.length : Int) - 1 := by rw [IntKind.wrap_i64]; omega
  generalize spanP (gpOf ⟨W, H, S, O, ps⟩) os = G at *
  generalize shownP ⟨W, H, S, O, ps⟩ = sh at *
  clear hos hR
  go_enter Tryz.func54, Tryz.ntmps54
  go_wp2_with fail
  refine hso.mono ?_
  clear hso
  rintro e w1 ⟨⟨v1, rfl, hLL⟩, b1⟩
  obtain ⟨sa, sc, rfl, hSs⟩ := hLL.lls hs2
  rw [srcs_length] at hSs ⊢
  have hF1 := hF0.below b1
  have hP1 := hP0.below b1
  have hb1 := below_step hb0 b1
  have hp1 := hp.below hb1
  have hO1 := hO.below (Nat.le_refl _) hb1
  clear hLL hs2 hF0 hP0 hb0 b1 hp hO
  go_wp2
  go_loopw [6, 7] (fun v i wr => ∃ k : Nat, k ≤ ps.length ∧ i = .int .i64 k ∧ OwnsS w1.heap.size wr v ((List.range k).map G) ∧ Below w1.heap.size w1 wr) (fun _ i _ => ps.length - (intOf i).toNat)
  case atStart => exact ⟨0, Nat.zero_le _, rfl, World.ownsRow_nil _ _ _ _, Below.refl _ _⟩
  case round =>
    obtain ⟨k, hk, rfl, hown, hbr⟩ := hrel
    obtain ⟨wO, e0⟩ : ∃ z, z = wr := ⟨_, rfl⟩
    subst e0
    have hFr := hF1.below hbr
    have hPr := hP1.below hbr
    obtain ⟨_, g0, g1, g2, g3, g4⟩ := id hFr
    by_cases hlt : k < ps.length
    · obtain ⟨_, h0, h1⟩ := id hPr
      have hkI : (k : Int) < (ps.length : Int) := by omega
      have hk0 : (0 : Int) ≤ (k : Int) := by omega
      have HG : Hid (_) := HSP.out k
      have HL : Hid (∀ d n, ltk (srcOf ps) os k d (n + 1) = if (k : Int) ∈ srcOf ps (os.getD n 0).toNat then (n : Int) else ltk (srcOf ps) os k d n) := fun d n => HLT.out k d n
      have hsk := fun wx (h : Below wO.heap.size wO wx) => stepOf_any ocap ((hO1.below (Nat.le_refl _) hbr).below (Nat.le_refl _) h) k
      generalize hst : stepAt os k = st at hsk HG
      clear hst
      have hok := fun o => (Below.refl wO.heap.size wO).alloc (Nat.le_refl _) o
      have hpl := hPr.lt
      have hd := (Below.refl wO.heap.size wO).drew
      go_wp2
      go_region_held3 (fun w' => w'.cell? ⟨w.heap.size + 1, 0, none⟩ = some (.slice oa os.length ocap))
        (first | exact h0 | exact ((hok _).cell (p := ⟨w.heap.size + 1, 0, none⟩) hpl).trans h0)
        ((go_at_call 90; refine (hsk _ (by first | exact hd | exact (hok _).drew)).mono ?_; rintro e w3 ⟨rfl, rfl⟩))
      all_goals
        have bX : Below wO.heap.size wO (wO.alloc (.cells #[.int .i64 st, .int .i64 st] 111)).drew := (hok _).drew
        have hX := (SBox.new wO st st 111).drew
        generalize (wO.alloc (.cells #[.int .i64 st, .int .i64 st] 111)).drew = wX at *
        clear h0 h1 g0 g1 g2 g3 g4 hok hd hsk
        have hpl2 : ((List.range k).map G).length = k := by simp
        have HPL2 : Hid (_) := hpl2
        clear hpl2
        obtain ⟨_, h0, h1⟩ := hPr.below bX
        go_wp2
        go_loopw [9] (fun i ws => ∃ n : Nat, n ≤ os.length ∧ i = .int .i64 n ∧ SBox ws wO.heap.size st (ltk (srcOf ps) os k st n) ∧ Below wO.heap.size wO ws) (fun i _ => os.length - (intOf i).toNat)
        case atStart => exact ⟨0, Nat.zero_le _, rfl, hX, bX⟩
        case round =>
          obtain ⟨n, hn, rfl, hXn, hbn⟩ := hrel
          clear hX bX h0 h1
          obtain ⟨_, h0, h1⟩ := hPr.below hbn
          obtain ⟨_, g0, g1, g2, g3, g4⟩ := hFr.below hbn
          by_cases hnl : n < os.length
          · obtain ⟨ob, oo, rfl, hox⟩ := ((hO1.below (Nat.le_refl _) hbr).below (Nat.le_refl _) hbn).nth hnl
            have hor := HOS.out _ (getD_mem hnl 0)
            have HL1 : Hid (_) := HL.out st n
            generalize os.getD n 0 = p at hox hor HL1
            obtain ⟨q, rfl⟩ := Int.eq_ofNat_of_zero_le hor.1
            rw [Int.toNat_natCast] at HL1
            have hql : q < ps.length := by omega
            have hqI : (q : Int) < (ps.length : Int) := by omega
            have hq0 : (0 : Int) ≤ (q : Int) := by omega
            obtain ⟨sb, so, ua, uc, rfl, hsb, qq, hUI⟩ := ((hSs.below hbr).below hbn).nth hql
            rw [HSR.out q hql] at qq hUI
            have hsm := stepOf_any uc hUI k
            have HM : Hid (0 ≤ stepAt (srcOf ps q) k ↔ (k : Int) ∈ srcOf ps q) := stepAt_mem
            generalize srcOf ps q = sr at qq hsm HM HL1
            generalize stepAt sr k = s at hsm HM
            obtain ⟨_, x0, x1, fz⟩ := id hXn
            have fz1 := fz 1
            clear fz
            by_cases hs : 0 ≤ s
            · have HL2 : Hid (_) := HL1.out.trans (if_pos (HM.out.1 hs))
              have hXp := hXn.put n
              have hbp := hbn.setCell (p := ⟨wO.heap.size, 1, none⟩) (Nat.le_refl _) (.int .i64 n)
              go_wp2_with (go_at_call 90; refine hsm.mono ?_; rintro e w3 ⟨rfl, rfl⟩)
              go_roundw
              case rel => exact ⟨n + 1, by omega, by go_num, by rw [HL2.out]; exact hXp, hbp⟩
              case measure => simp [intOf]; omega
            · have HL2 : Hid (_) := HL1.out.trans (if_neg (fun h => hs (HM.out.2 h)))
              go_wp2_with (go_at_call 90; refine hsm.mono ?_; rintro e w3 ⟨rfl, rfl⟩)
              go_roundw
              case rel => exact ⟨n + 1, by omega, by go_num, by rw [HL2.out]; exact hXn, hbn⟩
              case measure => simp [intOf]; omega
          · have hne : n = os.length := by omega
            subst hne
            have hlk := hla _ ((hp1.below hbr).below hbn)
            have hpl2 := HPL2.out
            by_cases hsh : (k : Int) = sh
            · go_upto_region 14 with (go_at_call 57; refine hlk.mono ?_; rintro e w4 ⟨rfl, b4⟩; have hX9 := hXn.below b4; have hb9 := below_step hbn b4; obtain ⟨_, y0, y1, fz⟩ := id hX9; have fz1 := fz 1; obtain ⟨_, h0, h1⟩ := (hPr.below hbn).below b4)
              have bT : Below wO.heap.size wO (w4.setCell ⟨wO.heap.size, 1, none⟩ (.int .i64 ((os.length : Int) - 1))) := hb9.setCell (p := ⟨wO.heap.size, 1, none⟩) (Nat.le_refl _) _
              have hT : SBox (w4.setCell ⟨wO.heap.size, 1, none⟩ (.int .i64 ((os.length : Int) - 1))) wO.heap.size st ((os.length : Int) - 1) := hX9.put _
              have HGk : Hid (G k = (st, (os.length : Int) - 1)) := by show _ = _; rw [HG.out, if_pos hsh]
              generalize w4.setCell ⟨wO.heap.size, 1, none⟩ (.int .i64 ((os.length : Int) - 1)) = wT at *
              have hownT : OwnsS w1.heap.size wT u6 ((List.range k).map G) := ownsRow_below hown bT (Nat.le_refl _)
              have hbT := hbr.trans (bT.mono hbr.size)
              have hszT := hbT.size
              obtain ⟨_, t0, t1, _⟩ := id hT
              clear bT hT hX9 hb9 hbn hXn
              generalize (os.length : Int) - 1 = y at *
              go_wp2_with (at_builtin; refine wpList_append_own _ rfl _ _ 84 rfl w1.heap.size 111 i0 _ 2 16 Tryz.underlying84 hi hz0 hz1 hz2 rfl (by decide) _ _ _ rfl (World.ownsRow.alloc hownT _) ⟨wT.heap.size, 0, none⟩ 1 1 [.int .i64 st, .int .i64 y] rfl rfl (cell_two_new _ _ _ _) (by intro u hu; simp at hu; rcases hu with rfl | rfl <;> rfl) (by rw [hpl2]; unfold maxLen; omega) (by rw [hpl2]; omega) (by simp; omega) ?_; intro v' w9 hown9 hgrow9 _)
              have RR := OwnsS.push (z := (st, y)) hownT hbT hszT hown9 rfl hgrow9
              go_roundw
              case rel => exact ⟨k + 1, by omega, by go_num, by rw [spans_succ, HGk.out]; exact RR.1, RR.2⟩
              case measure => simp [intOf]; omega
            · go_upto_region 14 with (go_at_call 57; refine hlk.mono ?_; rintro e w4 ⟨rfl, b4⟩; have hX9 := hXn.below b4; have hb9 := below_step hbn b4)
              have bT : Below wO.heap.size wO (w4) := hb9
              have hT : SBox (w4) wO.heap.size st (ltk (srcOf ps) os k st os.length) := hX9
              have HGk : Hid (G k = (st, ltk (srcOf ps) os k st os.length)) := by show _ = _; rw [HG.out, if_neg hsh]
              generalize w4 = wT at *
              have hownT : OwnsS w1.heap.size wT u6 ((List.range k).map G) := ownsRow_below hown bT (Nat.le_refl _)
              have hbT := hbr.trans (bT.mono hbr.size)
              have hszT := hbT.size
              obtain ⟨_, t0, t1, _⟩ := id hT
              clear bT hT hX9 hb9 hbn hXn
              generalize ltk (srcOf ps) os k st os.length = y at *
              go_wp2_with (at_builtin; refine wpList_append_own _ rfl _ _ 84 rfl w1.heap.size 111 i0 _ 2 16 Tryz.underlying84 hi hz0 hz1 hz2 rfl (by decide) _ _ _ rfl (World.ownsRow.alloc hownT _) ⟨wT.heap.size, 0, none⟩ 1 1 [.int .i64 st, .int .i64 y] rfl rfl (cell_two_new _ _ _ _) (by intro u hu; simp at hu; rcases hu with rfl | rfl <;> rfl) (by rw [hpl2]; unfold maxLen; omega) (by rw [hpl2]; omega) (by simp; omega) ?_; intro v' w9 hown9 hgrow9 _)
              have RR := OwnsS.push (z := (st, y)) hownT hbT hszT hown9 rfl hgrow9
              go_roundw
              case rel => exact ⟨k + 1, by omega, by go_num, by rw [spans_succ, HGk.out]; exact RR.1, RR.2⟩
              case measure => simp [intOf]; omega
    · have hke : k = ps.length := by omega
      subst hke
      have HO : Hid (OwnsS w.heap.size wO u6 ((List.range ps.length).map G)) := row_mono hown hb1.size
      obtain ⟨ra, rc, rfl⟩ := owns_slice hown
      clear hown
      go_wp2
      go_ret
      exact ⟨⟨_, rfl, HO.out⟩, below_step hb1 hbr⟩
end Go.Proofs.YtaenpgdmiaekcaaGreatDoor
/-
  FITSREF: the reference's Fits.
-/
namespace Go.Proofs.YtaenpgdmiaekcaaGreatDoor
set_option maxRecDepth 100000
open Go.RowKit Im Go.Maps

end Go.Proofs.YtaenpgdmiaekcaaGreatDoor
/-
  PLANERRREF: the reference's PlanError and CheckPlan.
-/
namespace Go.Proofs.YtaenpgdmiaekcaaGreatDoor
set_option maxRecDepth 100000
open Go.RowKit Im Go.Maps

/-- The frame and the plan in their boxes. -/
theorem two_boxes (w : World) (W H S O : Int) (a : Option Addr) (len cap : Nat) (v0 v1 : Value) : Below w.heap.size w ((w.alloc (.cells #[.int .i64 W, .int .i64 H, .int .i64 S, .int .i64 O, .slice a len cap] 35)).alloc (.cells #[v0, v1] 48)) ∧ FBox ((w.alloc (.cells #[.int .i64 W, .int .i64 H, .int .i64 S, .int .i64 O, .slice a len cap] 35)).alloc (.cells #[v0, v1] 48)) w.heap.size W H S O a len cap ∧ PlBox ((w.alloc (.cells #[.int .i64 W, .int .i64 H, .int .i64 S, .int .i64 O, .slice a len cap] 35)).alloc (.cells #[v0, v1] 48)) (w.heap.size + 1) v0 v1 := by
  refine ⟨below_box (below_box (Below.refl _ _) _) _, (FBox.new w W H S O a len cap).alloc _, ?_⟩
  have hP0 := PlBox.new (w.alloc (.cells #[.int .i64 W, .int .i64 H, .int .i64 S, .int .i64 O, .slice a len cap] 35)) v0 v1 48
  rwa [World.size_alloc] at hP0
end Go.Proofs.YtaenpgdmiaekcaaGreatDoor
/-
  PEAKREF: the reference's PeakOf and FloorOf.
-/
namespace Go.Proofs.YtaenpgdmiaekcaaGreatDoor
set_option maxRecDepth 100000
open Go.RowKit Im Go.Maps

theorem peakR_bd {ar : Nat → Int} {pl : List Int} {N : Nat} (h : ∀ k, k < N → pl.getD k 0 ≤ 4096 ∧ ar k ≤ 256) : ∀ {n : Nat}, n ≤ N → 0 ≤ peakR ar pl n ∧ peakR ar pl n ≤ 4352
  | 0, _ => by simp [peakR]
  | n + 1, hn => by
    have ih := peakR_bd h (n := n) (by omega)
    have := h n (by omega)
    unfold peakR
    split <;> omega
set_option maxHeartbeats 4000000 in
theorem peakOf_any (W H S O : Int) (a : Option Addr) (len cap : Nat) (ps : List Ps) (w : World) (hp : Passes w a len ps) (ov : Value) (pa : Option Addr) (plen pcap : Nat) (os pl : List Int) (hL : Ints 0 w pa plen pl) (hE : frameE ⟨W, H, S, O, ps⟩ = 0) (hOrd : Ord (gpOf ⟨W, H, S, O, ps⟩) os pl) :
    Calls Tryz.prog 22 #[.agg #[.int .i64 W, .int .i64 H, .int .i64 S, .int .i64 O, .slice a len cap], .agg #[ov, .slice pa plen pcap]] w fun e w' => e = .returned (.int .i64 (peakR (gpOf ⟨W, H, S, O, ps⟩).ar pl ps.length)) ∧ Below w.heap.size w w' := by
  obtain rfl := hp.leng
  have hpl : plen = ps.length := by rw [← hL.leng]; exact hOrd.len
  subst hpl
  have hR := gp_right hE
  have hN12 : ps.length ≤ 12 := hR.hN.2
  obtain ⟨hb0, hF0, hP0⟩ := two_boxes w W H S O a ps.length cap ov (.slice pa ps.length pcap)
  have hcf := checkFrame_any W H S O a ps.length cap ps _ (hp.below hb0)
  have hpb : ∀ k, k < ps.length → pl.getD k 0 = -1 ∨ (0 ≤ pl.getD k 0 ∧ pl.getD k 0 ≤ 4096) := fun k hk => by
    by_cases hm : (k : Int) ∈ os
    · exact .inr (hOrd.at_ k hk hm)
    · exact .inl (hOrd.no k hk hm)
  have HPB : Hid (_) := hpb
  have HPK : Hid (∀ n, n ≤ ps.length → 0 ≤ peakR (gpOf ⟨W, H, S, O, ps⟩).ar pl n ∧ peakR (gpOf ⟨W, H, S, O, ps⟩).ar pl n ≤ 4352) := fun n hn => peakR_bd (N := ps.length) (fun k hk => ⟨by rcases hpb k hk with h | h <;> omega, (hR.ar k hk).2⟩) hn
  have HAR : Hid (∀ k, (gpOf ⟨W, H, S, O, ps⟩).ar k = areaZ ((szs ⟨W, H, S, O, ps⟩ ps.length).getD k Sz.zero)) := fun _ => rfl
  obtain ⟨hbnd, hfirst, _⟩ := frameE_zero hE
  have HZB : Hid (∀ z ∈ szs ⟨W, H, S, O, ps⟩ ps.length, ZB z) := szs_bd hbnd hfirst
  generalize hN : ps.length = N at *
  have hzl : (szs ⟨W, H, S, O, ps⟩ N).length = N := szs_length _ _
  generalize (gpOf ⟨W, H, S, O, ps⟩).ar = ar at *
  have HPS : Hid (∀ k, peakR ar pl (k + 1) = if pl.getD k 0 = -1 then peakR ar pl k else if peakR ar pl k < pl.getD k 0 + ar k then pl.getD k 0 + ar k else peakR ar pl k) := fun k => by
    show (if pl.getD k 0 = -1 then peakR ar pl k else max (peakR ar pl k) (pl.getD k 0 + ar k)) = _
    rw [max_if]
  unfold ToldFZ at hcf
  rw [hE, if_pos rfl] at hcf
  dsimp only at hcf
  rw [hN] at hcf
  generalize szs ⟨W, H, S, O, ps⟩ N = zs at *
  clear hOrd hR hbnd hfirst hE hpb
  go_enter Tryz.func22, Tryz.ntmps22
  go_wp2_with fail
  refine hcf.mono ?_
  clear hcf
  rintro e w1 ⟨⟨vz, rfl, hZ⟩, b1⟩
  obtain ⟨za, zc, rfl, hZs⟩ := hZ.zs (by omega)
  rw [hzl] at hZs ⊢
  have hP1 := hP0.below b1
  have hb1 := below_step hb0 b1
  have hL1 := hL.below (Nat.le_refl _) hb1
  clear hZ b1 hF0 hP0 hb0 hp hL
  go_wp2
  go_loopw [7, 8] (fun m i wr => ∃ k : Nat, k ≤ N ∧ i = .int .i64 k ∧ m = .int .i64 (peakR ar pl k) ∧ Below w1.heap.size w1 wr) (fun _ i _ => N - (intOf i).toNat)
  case atStart => exact ⟨0, Nat.zero_le _, rfl, rfl, Below.refl _ _⟩
  case round =>
    obtain ⟨k, hk, rfl, rfl, hbr⟩ := hrel
    have hPr := hP1.below hbr
    obtain ⟨_, h0, h1⟩ := id hPr
    by_cases hlt : k < N
    · obtain ⟨pb, po, rfl, lpb, hpk⟩ := (hL1.below (Nat.le_refl _) hbr).nth' hlt
      obtain ⟨zb, zo, rfl, lzb, zk0, zk1⟩ := (hZs.below hbr).nth hlt
      have hyb := HPB.out k hlt
      have hkb := HPK.out k (by omega)
      have HS1 := HPS.out k
      have hzb := HZB.out _ (getD_mem (l := zs) (k := k) (by omega) Sz.zero)
      have hab := area_bd hzb
      have hark := HAR.out k
      unfold areaZ at hab hark
      have hkI : (k : Int) < (N : Int) := by omega
      have hk0 : (0 : Int) ≤ (k : Int) := by omega
      generalize zs.getD k Sz.zero = z at zk0 zk1 hzb hab hark
      obtain ⟨kw, kh⟩ := z
      dsimp only at zk0 zk1 hab hark
      rw [hark] at HS1
      generalize pl.getD k 0 = yk at hpk hyb HS1
      generalize peakR ar pl k = pk at hkb HS1
      have hwk : IntKind.i64.wrap (kw * kh) = kw * kh := by rw [IntKind.wrap_i64]; omega
      have hak := fun wx => area_any kw kh wx hwk
      generalize kw * kh = ak at hab hak HS1 hark hwk
      replace HS1 : Hid (_) := HS1
      clear hwk hark hzb
      by_cases hyk : yk = -1
      · subst hyk
        go_wp2
        go_roundw
        case rel => exact ⟨k + 1, by omega, by go_num, by rw [HS1.out, if_pos (by trivial)], hbr⟩
        case measure => simp [intOf]; omega
      · have hyb2 := hyb.resolve_left hyk
        have hw1 : IntKind.i64.wrap (yk + ak) = yk + ak := by rw [IntKind.wrap_i64]; omega
        have hd := (Below.refl wr.heap.size wr).drew
        have kq : ∀ w', Below wr.heap.size wr w' → w'.cell? ⟨w.heap.size + 1, 1, none⟩ = some (.slice (some ⟨pb, po, none⟩) N pcap) ∧ w'.cell? ⟨pb, po + k, none⟩ = some (.int .i64 yk) ∧ w'.cell? ⟨zb, zo + k * 2, none⟩ = some (.int .i64 kw) ∧ w'.cell? ⟨zb, zo + k * 2 + 1, none⟩ = some (.int .i64 kh) := fun w' h => ⟨(h.cell (p := ⟨w.heap.size + 1, 1, none⟩) hPr.lt).trans h1, (h.cell (p := ⟨pb, po + k, none⟩) lpb).trans hpk, (h.cell (p := ⟨zb, zo + k * 2, none⟩) lzb).trans zk0, (h.cell (p := ⟨zb, zo + k * 2 + 1, none⟩) lzb).trans zk1⟩
        by_cases hm : pk < yk + ak
        · go_wp2
          go_region_held3 (fun w' => w'.cell? ⟨w.heap.size + 1, 1, none⟩ = some (.slice (some ⟨pb, po, none⟩) N pcap) ∧ w'.cell? ⟨pb, po + k, none⟩ = some (.int .i64 yk) ∧ w'.cell? ⟨zb, zo + k * 2, none⟩ = some (.int .i64 kw) ∧ w'.cell? ⟨zb, zo + k * 2 + 1, none⟩ = some (.int .i64 kh))
            (first | exact kq _ hd | exact kq _ B3)
            ((go_at_call 52; refine (hak _).mono ?_; rintro e w3 ⟨rfl, b3⟩; have B3 := hd.trans b3))
          go_wp2
          go_roundw
          case rel => exact ⟨k + 1, by omega, by go_num, by rw [HS1.out, if_neg hyk, if_pos hm], below_step hbr B3⟩
          case measure => simp [intOf]; omega
        · go_wp2
          go_region_held3 (fun w' => w'.cell? ⟨w.heap.size + 1, 1, none⟩ = some (.slice (some ⟨pb, po, none⟩) N pcap) ∧ w'.cell? ⟨pb, po + k, none⟩ = some (.int .i64 yk) ∧ w'.cell? ⟨zb, zo + k * 2, none⟩ = some (.int .i64 kw) ∧ w'.cell? ⟨zb, zo + k * 2 + 1, none⟩ = some (.int .i64 kh))
            (first | exact kq _ hd | exact kq _ B3)
            ((go_at_call 52; refine (hak _).mono ?_; rintro e w3 ⟨rfl, b3⟩; have B3 := hd.trans b3))
          go_wp2
          go_roundw
          case rel => exact ⟨k + 1, by omega, by go_num, by rw [HS1.out, if_neg hyk, if_neg (by omega)], below_step hbr B3⟩
          case measure => simp [intOf]; omega
    · have hke : k = N := by omega
      subst hke
      go_wp2
      go_ret
      exact ⟨rfl, below_step hb1 hbr⟩
end Go.Proofs.YtaenpgdmiaekcaaGreatDoor
/-
  IMAGESREF2: the reference's Images, walked.
-/
namespace Go.Proofs.YtaenpgdmiaekcaaGreatDoor
set_option maxRecDepth 100000
open Go.RowKit Im

/-- The call's end tells the images rs, in a row of its own. -/
def ToldIm (w : World) (rs : List Res) (e : Ending) (w' : World) : Prop :=
  (∃ v L, e = .returned v ∧ RowI w.heap.size w' v L ∧ L.map Prod.fst = rs) ∧ Below w.heap.size w w'
theorem row_imgs {base : Nat} {w : World} {v : Value} {L : Lr} {rs : List Res} (h : RowI base w v L) (he : L.map Prod.fst = rs) (hb : L.length ≤ 12) : ∃ a cap, v = .slice a rs.length cap ∧ Imgs base w a rs.length rs := h.1.imgs he (fun x hx => (h.2 x hx).ints) hb
theorem Passes.blk {w : World} {b off len : Nat} {ps : List Ps} (h : Passes w (some ⟨b, off, none⟩) len ps) {k : Nat} (hk : k < len) : b < w.heap.size := by
  rcases h.cells with e | ⟨b', off', ha, hl, _⟩
  · have := h.leng; subst e; simp at this; omega
  · injection ha with ha
    injection ha with e1 e2
    subst e1
    exact hl
set_option maxHeartbeats 4000000 in
theorem images_any (W H S O : Int) (a : Option Addr) (len cap : Nat) (ps : List Ps) (w : World) (hp : Passes w a len ps) (hE : frameE ⟨W, H, S, O, ps⟩ = 0) :
    Calls Tryz.prog 56 #[.agg #[.int .i64 W, .int .i64 H, .int .i64 S, .int .i64 O, .slice a len cap]] w (ToldIm w (pics ⟨W, H, S, O, ps⟩ len)) := by
  obtain rfl := hp.leng
  obtain ⟨hbnd, hfirst, hsh⟩ := frameE_zero hE
  dsimp only at hfirst
  obtain ⟨_, _, _, _, hL⟩ := boundsE_zero hbnd
  dsimp only at hL
  obtain ⟨i0, hi, hz0, hz1, hz2⟩ := info_parts Tryz.infoImage
  have hb0 := below_box (Below.refl w.heap.size w) (.cells #[.int .i64 W, .int .i64 H, .int .i64 S, .int .i64 O, .slice a ps.length cap] 35)
  have hB := FBox.new w W H S O a ps.length cap
  have hsr := sourcesOfRef_any W H S O a ps.length cap ps _ (hp.below hb0) hL.2
  have hs2 : ∀ x ∈ srcs ps ps.length, x.length ≤ 2 := by
    intro x hx
    unfold srcs at hx
    rw [List.mem_map] at hx
    obtain ⟨n, _, rfl⟩ := hx
    unfold srcOf
    rw [List.length_map]
    exact takesP_len _
  go_enter Tryz.func56, Tryz.ntmps56
  go_wp2_with fail
  refine hsr.mono ?_
  clear hsr
  rintro e w1 ⟨⟨v1, rfl, hLL⟩, b1⟩
  obtain ⟨sa, scap, rfl, hSs⟩ := hLL.lls hs2
  rw [srcs_length] at hSs ⊢
  have hB1 := hB.below b1
  have hb1 := below_step hb0 b1
  have hp1 := hp.below hb1
  clear hB hb0 b1 hLL hs2 hp
  go_wp2
  go_loopw [4, 5] (fun v i wr => ∃ (k : Nat) (L : Lr), k ≤ ps.length ∧ i = .int .i64 k ∧ RowI w1.heap.size wr v L ∧ L.map Prod.fst = pics ⟨W, H, S, O, ps⟩ k ∧ Below w1.heap.size w1 wr) (fun _ i _ => ps.length - (intOf i).toNat)
  case atStart => exact ⟨0, [], Nat.zero_le _, rfl, RowI.nil _ _, rfl, Below.refl _ _⟩
  case round =>
    obtain ⟨k, L, hk, rfl, hrow, hmap, hbr⟩ := hrel
    have hBr := hB1.below hbr
    have hpr := hp1.below hbr
    have hSr := hSs.below hbr
    obtain ⟨_, g0, g1, g2, g3, g4⟩ := id hBr
    have hLl : L.length = k := by have := congrArg List.length hmap; simpa [pics_length] using this
    by_cases hlt : k < ps.length
    · have hfk := firstE_down ⟨W, H, S, O, ps⟩ hfirst (k := k) (by omega)
      have hpE : passE ⟨W, H, S, O, ps⟩ k = 0 := (firstE_at ⟨W, H, S, O, ps⟩ hfk).symm.trans (firstE_down ⟨W, H, S, O, ps⟩ hfirst (k := k + 1) (by omega))
      have hRR := paint_right hbnd hpE (pics_right hbnd hfk)
      obtain ⟨o1, o2, _⟩ := passE_zero hpE
      obtain ⟨hkn, _⟩ := ownE_zero o1
      have hin := src_bd o2
      have hsl : (srcOf ps k).length ≤ 2 := by unfold srcOf; rw [List.length_map]; exact takesP_len _
      have hAl : hasA (ps.getD k Ps.zero).Op = true → 1 ≤ (srcOf ps k).length := fun hA => by
        obtain ⟨r, hr⟩ := takes_pos hA
        unfold srcOf; rw [List.length_map, hr]; simp
      have hBl : hasB (ps.getD k Ps.zero).Op = true → 2 ≤ (srcOf ps k).length := fun hB => by
        unfold srcOf; rw [List.length_map, takes_two' hB]; simp
      have HG : Hid (pics ⟨W, H, S, O, ps⟩ (k + 1) = pics ⟨W, H, S, O, ps⟩ k ++ [paintRes (ps.getD k Ps.zero) (sizeN ⟨W, H, S, O, ps⟩ k) (pickR (pics ⟨W, H, S, O, ps⟩ k) (srcOf ps k))]) := rfl
      have hzz : (ps.getD k Ps.zero).Op = 1 ∨ (ps.getD k Ps.zero).Op = 2 → sizeN ⟨W, H, S, O, ps⟩ k = (W, H) := fun h => by unfold sizeN sizeP; rw [if_pos h]
      obtain ⟨va, vc, rfl, hImg⟩ := row_imgs hrow hmap (by omega)
      obtain ⟨b, off, la, ll, lc, rfl, p0, p1, p2, p3, p4, p5, hLi⟩ := hpr.nth hlt
      obtain ⟨sb, so, ua, uc, rfl, hsb, q0, hUI⟩ := hSr.nth hlt
      rw [srcs_at _ hlt] at q0 hUI
      have hblk := hpr.blk hlt
      have hpicl : (pics ⟨W, H, S, O, ps⟩ k).length = k := pics_length _ _
      dsimp only at hRR hkn
      generalize pics ⟨W, H, S, O, ps⟩ k = rs at hrow hmap HG hRR hImg hpicl ⊢
      generalize sizeN ⟨W, H, S, O, ps⟩ k = z at HG hRR hzz
      generalize srcOf ps k = sr at HG hRR hAl hBl q0 hUI hsl hin
      generalize ps.getD k Ps.zero = p at p0 p1 p2 p3 p4 p5 hLi hRR hkn hAl hBl HG hzz
      obtain ⟨Op, To, A, B, K, ls⟩ := p
      dsimp only at p0 p1 p2 p3 p4 p5 hLi hkn hAl hBl hzz
      have hpl : (pickR rs sr).length = sr.length := by simp [pickR]
      have hso := fun w' (pa : Option Addr) (pcap : Nat) (hz : Imgs 0 w' pa (pickR rs sr).length (pickR rs sr)) (hb : Below wr.heap.size wr w') => made_any W H S O (some ⟨b, off, none⟩) ps.length cap (Op := Op) To A B (K := K) lc pcap hkn (hLi.below hb) hz (by rw [hpl]; exact hAl) (by rw [hpl]; exact hBl) hzz hRR.1
      have HRR : Hid (_) := hRR
      have HMAP : Hid (_) := hmap
      have HLL : Hid (_) := hLl
      clear hRR hkn hAl hBl hzz hmap hLl hfk hpE o1 o2
      obtain rfl : k = rs.length := hpicl.symm
      obtain ⟨wO, e0⟩ : ∃ z, z = wr := ⟨_, rfl⟩
      subst e0
      go_wp2_with fail
      go_loopw [6, 7] (fun v i ws => ∃ (j : Nat) (M : Lr), j ≤ sr.length ∧ i = .int .i64 j ∧ OwnsR wO.heap.size ws v M ∧ M.map Prod.fst = pickR rs (sr.take j) ∧ (∀ x ∈ M, Ints 0 wO x.2.1 x.1.ps.length x.1.ps) ∧ Below wO.heap.size wO ws) (fun _ i _ => sr.length - (intOf i).toNat)
      case atStart => exact ⟨0, [], Nat.zero_le _, rfl, World.ownsRow_nil _ _ _ _, rfl, (fun x hx => by cases hx), Below.refl _ _⟩
      case round =>
        obtain ⟨j, M, hj, rfl, hown, hmapM, hintsM, hbs⟩ := hrel
        have hMl : M.length = j := by
          have := congrArg List.length hmapM
          simp [pickR] at this
          omega
        clear g0 g1 g2 g3 g4
        have q1 := (hbs.cell (p := ⟨sb, so + rs.length, none⟩) hsb).trans q0
        have hsz := hbs.size
        have hU1 := hUI.below (Nat.le_refl _) hbs
        have HM : Hid (_) := hmapM
        have HML : Hid (_) := hMl
        have HI : Hid (_) := hintsM
        clear hmapM hMl hintsM
        by_cases hjl : j < sr.length
        · obtain ⟨bu, ou, rfl, hcx⟩ := hU1.nth hjl
          have hr := hin _ (getD_mem hjl 0)
          have HS := pickR_succ rs sr j hjl
          generalize sr.getD j 0 = n at hcx hr HS
          obtain ⟨m, rfl⟩ := Int.eq_ofNat_of_zero_le hr.1
          obtain ⟨b', off', pa, pcap, rfl, hb', d0, d1, d2, hpi⟩ := hImg.nth (k := m) (by omega)
          replace d0 := (hbs.cell (p := ⟨b', off' + m * 3, none⟩) hb').trans d0
          replace d1 := (hbs.cell (p := ⟨b', off' + m * 3 + 1, none⟩) hb').trans d1
          replace d2 := (hbs.cell (p := ⟨b', off' + m * 3 + 2, none⟩) hb').trans d2
          rw [Int.toNat_natCast] at HS
          have HS' : Hid (pickR rs (sr.take (j + 1)) = pickR rs (sr.take j) ++ [rs.getD m (noRes 0)]) := HS
          have HP : Hid (_) := hpi.mono (Nat.zero_le _)
          have hmr : (m : Int) < (rs.length : Int) := hr.2
          clear HS hpi hso hImg hU1 hUI hLi hpr hp1 hSr hSs hBr hB1 hr p0 p1 p2 p3 p4 p5
          generalize rs.getD m (noRes 0) = r at d0 d1 d2 HS' HP
          go_wp2_with (at_builtin; refine wpList_append_own _ rfl _ _ 69 rfl wO.heap.size 24 i0 _ 3 40 Tryz.underlying69 hi hz0 hz1 hz2 rfl (by decide) _ _ _ rfl (World.ownsRow.alloc hown _) ⟨wr.heap.size, 0, none⟩ 1 1 [.int .i64 r.W, .int .i64 r.H, .slice pa r.ps.length pcap] rfl rfl (cell_three_new _ _ _ _ _) (by intro u hu; simp at hu; rcases hu with rfl | rfl | rfl <;> rfl) (by rw [HML.out]; unfold maxLen; omega) (by rw [HML.out]; omega) (by simp; omega) ?_; intro v' w9 hown9 hgrow9 _)
          have RR := OwnsR.push (x := (r, pa, pcap)) hown hbs hsz hown9 rfl hgrow9
          go_roundw
          case rel => exact ⟨j + 1, M ++ [(r, pa, pcap)], by omega, by go_num, RR.1, by rw [HS'.out, List.map_append, HM.out]; rfl, (fun x hx => by rcases List.mem_append.1 hx with h | h; exact HI.out x h; rw [List.mem_singleton] at h; subst h; exact HP.out), RR.2⟩
          case measure => simp [intOf]; omega
        · have hje : j = sr.length := by omega
          have hmM := HM.out
          rw [hje, List.take_length] at hmM
          have hML2 : M.length ≤ 12 := by rw [HML.out]; omega
          obtain ⟨na, ncap, rfl, hN⟩ := hown.imgs hmM (fun x hx => (HI.out x hx).below (Nat.le_refl _) hbs) hML2
          rw [hpl] at hN ⊢
          rw [hpl] at hso
          have hbD : Below wO.heap.size wO wr.drew := hbs.drew
          have hcall := hso _ na ncap (hN.below (Below.refl _ _).drew) hbD
          obtain ⟨_, g0, g1, g2, g3, g4⟩ := hBr.below hbs
          replace p0 := (hbs.cell (p := ⟨b, off + rs.length * 6, none⟩) hblk).trans p0
          replace p1 := (hbs.cell (p := ⟨b, off + rs.length * 6 + 1, none⟩) hblk).trans p1
          replace p2 := (hbs.cell (p := ⟨b, off + rs.length * 6 + 2, none⟩) hblk).trans p2
          replace p3 := (hbs.cell (p := ⟨b, off + rs.length * 6 + 3, none⟩) hblk).trans p3
          replace p4 := (hbs.cell (p := ⟨b, off + rs.length * 6 + 4, none⟩) hblk).trans p4
          replace p5 := (hbs.cell (p := ⟨b, off + rs.length * 6 + 5, none⟩) hblk).trans p5
          generalize paintRes ⟨Op, To, A, B, K, ls⟩ z (pickR rs sr) = r at hcall HG HRR
          have HROW : Hid (RowI w1.heap.size wO (.slice va rs.length vc) L) := hrow
          have hrl := hrow.lt
          have HRL : Hid (_) := hrl
          clear hso hImg hU1 hUI hLi hpr hp1 hSr hSs hBr hB1 hN hmM hML2 hin hown q0 HRR hrow hrl
          go_wp2_with fail
          go_region_law (first
            | (go_simp; go_at_call 92; refine hcall.mono ?_; rintro e w3 ⟨ra, rc, rfl, hri, hb3⟩; have hbO3 := below_step hbD hb3; have hrow3 := HROW.out.below hbO3; have hpx3 := Px.of (v := .slice va rs.length vc) (c := rc) hri (show w1.heap.size ≤ _ from Nat.le_trans hbr.size hbD.size) (fun j hj => Nat.lt_of_lt_of_le (HRL.out j hj).2 hbD.size); go_wp2_with fail)
            | (refine step_append_at rfl _ _ 69 rfl w1.heap.size 24 i0 (.agg #[.int .i64 0, .int .i64 0, .slice none 0 0]) 3 40 Tryz.underlying69 hi hz0 hz1 hz2 rfl (by decide) (.slice va rs.length vc) L.length (rcells L) rfl (hrow3.below ((Below.refl _ _).alloc (Nat.le_refl _) _)).1 ⟨w3.heap.size, 0, none⟩ 1 1 [.int .i64 r.W, .int .i64 r.H, .slice ra r.ps.length rc] rfl rfl (cell_three_new _ _ _ _ _) (by intro u hu; simp at hu; rcases hu with rfl | rfl | rfl <;> rfl) (by rw [HLL.out]; unfold maxLen; omega) (by rw [HLL.out]; omega) (by have h1 := hbr.size; have h2 := hbO3.size; simp; omega) ?_; intro v' w9 hown9 hgrow9 hloc9))
          all_goals
            have bA := (Below.refl w3.heap.size w3).alloc (Nat.le_refl _) (.cells #[.int .i64 r.W, .int .i64 r.H, .slice ra r.ps.length rc] 24)
            have RR := (hrow3.below bA).push (x := (r, ra, rc)) (hpx3.below bA) hown9 hgrow9 hloc9
            have h1 := hbr.size
            have h2 := hbO3.size
            have hb9 : Below w1.heap.size w1 w9 := ((hbr.trans (hbO3.mono hbr.size)).alloc (by omega) (.cells #[.int .i64 r.W, .int .i64 r.H, .slice ra r.ps.length rc] 24)).grown hgrow9 (by simp; omega) (fun j hj => (HRL.out j hj).1)
            go_wp2
            exact ⟨⟨rs.length + 1, L ++ [(r, ra, rc)], by omega, by go_num, RR, by rw [HG.out, List.map_append, HMAP.out]; rfl, hb9⟩, by simp [intOf]; omega⟩
    · have hke : k = ps.length := by omega
      subst hke
      have HROW : Hid (_) := hrow
      have HMAP : Hid (_) := hmap
      clear hrow hmap hLl hpr hSr hBr
      go_wp2
      go_ret
      exact ⟨⟨_, L, rfl, ⟨row_mono HROW.out.1 hb1.size, fun x hx => (HROW.out.2 x hx).mono hb1.size⟩, HMAP.out⟩, below_step hb1 hbr⟩
end Go.Proofs.YtaenpgdmiaekcaaGreatDoor
/-
  RENDERREF: the reference's RenderOf.
-/
namespace Go.Proofs.YtaenpgdmiaekcaaGreatDoor
set_option maxRecDepth 100000
open Go.RowKit Im

theorem FBox.five {w : World} {b : Nat} {W H S O : Int} {a : Option Addr} {len cap : Nat} (h : FBox w b W H S O a len cap) : w.cell? ⟨b, 0, none⟩ = some (.int .i64 W) ∧ w.cell? ⟨b, 1, none⟩ = some (.int .i64 H) ∧ w.cell? ⟨b, 2, none⟩ = some (.int .i64 S) ∧ w.cell? ⟨b, 3, none⟩ = some (.int .i64 O) ∧ w.cell? ⟨b, 4, none⟩ = some (.slice a len cap) := ⟨h.c0, h.c1, h.c2, h.c3, h.c4⟩
set_option maxHeartbeats 4000000 in
theorem renderOf_any (W H S O : Int) (a : Option Addr) (len cap : Nat) (ps : List Ps) (w : World) (hp : Passes w a len ps) (hE : frameE ⟨W, H, S, O, ps⟩ = 0) :
    Calls Tryz.prog 24 #[.agg #[.int .i64 W, .int .i64 H, .int .i64 S, .int .i64 O, .slice a len cap]] w (ToldM w (renderP ⟨W, H, S, O, ps⟩)) := by
  obtain rfl := hp.leng
  obtain ⟨hbnd, hfirst, hsh⟩ := frameE_zero hE
  obtain ⟨_, _, _, _, hL⟩ := boundsE_zero hbnd
  dsimp only at hL
  have hr : renderP ⟨W, H, S, O, ps⟩ = (pics ⟨W, H, S, O, ps⟩ ps.length).getD (shownP ⟨W, H, S, O, ps⟩).toNat (noRes 0) := by unfold renderP; rw [if_pos hE]
  rw [hr]
  clear hr
  obtain ⟨N, hN⟩ := Int.eq_ofNat_of_zero_le hsh
  have hNl : N < ps.length := by have := (wrt_bd ps ps.length O).2; have e : shownP ⟨W, H, S, O, ps⟩ = wrt ps ps.length O := rfl; omega
  rw [hN, Int.toNat_natCast]
  have hb0 := below_box (below_box (Below.refl w.heap.size w) (.cells #[.int .i64 W, .int .i64 H, .int .i64 S, .int .i64 O, .slice a ps.length cap] 35)) (.cells #[.int .i64 0, .int .i64 0, .slice none 0 0] 24)
  have hbox := IBox.new (w.alloc (.cells #[.int .i64 W, .int .i64 H, .int .i64 S, .int .i64 O, .slice a ps.length cap] 35))
  have hB := (FBox.new w W H S O a ps.length cap).alloc (.cells #[.int .i64 0, .int .i64 0, .slice none 0 0] 24)
  rw [World.size_alloc] at hbox
  have him := fun wx hp => images_any W H S O a ps.length cap ps wx hp hE
  have hla := fun wx hp => lastOf_any W H S O a ps.length cap ps wx hp
  have hp2 := hp.below hb0
  have hsz2 : w.heap.size + 2 ≤ ((w.alloc (.cells #[.int .i64 W, .int .i64 H, .int .i64 S, .int .i64 O, .slice a ps.length cap] 35)).alloc (.cells #[.int .i64 0, .int .i64 0, .slice none 0 0] 24)).heap.size := by simp
  generalize hpp : pics ⟨W, H, S, O, ps⟩ ps.length = rs at *
  have hrl : rs.length = ps.length := by rw [← hpp]; exact pics_length _ _
  rw [hN] at hla
  clear hpp hp hbnd hfirst hsh hN hE
  go_enter Tryz.func24, Tryz.ntmps24
  go_wp2_with fail
  generalize (w.alloc (.cells #[.int .i64 W, .int .i64 H, .int .i64 S, .int .i64 O, .slice a ps.length cap] 35)).alloc (.cells #[.int .i64 0, .int .i64 0, .slice none 0 0] 24) = w2 at *
  obtain ⟨r, hr⟩ : ∃ r, rs.getD N (noRes 0) = r := ⟨_, rfl⟩
  have HR : Hid (rs.getD N (noRes 0) = r) := hr
  clear hr
  obtain ⟨_, g0, g1, g2, g3, g4⟩ := id hB
  go_region_law (first
    | (go_simp; go_at_call 56; refine (him _ (hp2.below (Below.refl _ _).drew)).mono ?_; rintro e w3 ⟨⟨v, L, rfl, hrow, hmap⟩, b3⟩; obtain ⟨va, vc, rfl, hImg⟩ := row_imgs hrow hmap (by have h1 := congrArg List.length hmap; simp at h1; omega); have b3' := below_step (Below.refl w2.heap.size w2).drew b3; have hB3 := hB.below b3'; have hp3 := hp2.below b3'; obtain ⟨_, j0, j1, j2, j3, j4⟩ := id hB3; clear hrow hmap b3; go_wp2_with fail)
    | (go_simp; go_at_call 57; refine (hla _ hp3).mono ?_; rintro e w4 ⟨rfl, b4⟩; have b4' := below_step b3' b4; obtain ⟨ib, io, pa, pc, rfl, hib, d0, d1, d2, hxi⟩ := (hImg.below b4).nth (k := N) (by omega); rw [HR.out] at d0 d1 d2 hxi; obtain ⟨_, c0, c1, c2, f0, f1, f2⟩ := hbox.below b4' hbox.lt b4'.size; have hNr : (N : Int) < (rs.length : Int) := (by omega); go_wp2_with fail))
  all_goals
    have hxw : Ints (w.heap.size + 2) w4 pa r.ps.length r.ps := hxi.mono hsz2
    clear hImg hxi
    go_wp2
    refine bodyPost_ret (v := .agg #[.int .i64 r.W, .int .i64 r.H, .slice pa r.ps.length pc]) (by simp [results, Tryz.results24, go_sem, c0, c1, c2]) rfl ?_
    rw [HR.out]
    exact ⟨pa, pc, rfl, (((hxw.setCell (p := ⟨w.heap.size + 1, 0, none⟩) (by simp) _).setCell (p := ⟨w.heap.size + 1, 1, none⟩) (by simp) _).setCell (p := ⟨w.heap.size + 1, 2, none⟩) (by simp) _).mono (by omega), (((below_step hb0 b4').setCell (p := ⟨w.heap.size + 1, 0, none⟩) (by simp) _).setCell (p := ⟨w.heap.size + 1, 1, none⟩) (by simp) _).setCell (p := ⟨w.heap.size + 1, 2, none⟩) (by simp) _⟩
end Go.Proofs.YtaenpgdmiaekcaaGreatDoor
/-
  GLOW: the frame of five passes that the laws begin with.
-/
namespace Go.Proofs.YtaenpgdmiaekcaaGreatDoor
set_option maxRecDepth 100000
open Go.RowKit Im

def glowP : List Ps := [⟨2, 0, 0, 0, 100, []⟩, ⟨1, 2, 0, 0, 7, []⟩, ⟨10, 1, 0, 0, 0, []⟩, ⟨1, 2, 0, 0, 9, []⟩, ⟨4, 1, 0, 2, 0, []⟩]
def glowF : Fr := ⟨4, 2, 3, 1, glowP⟩
theorem glow_ok : frameE glowF = 0 := by decide
theorem glow_shown : shownP glowF = 4 := by decide
theorem glow_pic : (pics glowF 5).getD 4 (noRes 0) = ⟨0, 4, 2, [9, 109, 209, 309, 10, 110, 210, 310]⟩ := by rfl
def glowC : Array Value := #[.int .i64 2, .int .i64 0, .int .i64 0, .int .i64 0, .int .i64 100, .slice none 0 0, .int .i64 1, .int .i64 2, .int .i64 0, .int .i64 0, .int .i64 7, .slice none 0 0, .int .i64 10, .int .i64 1, .int .i64 0, .int .i64 0, .int .i64 0, .slice none 0 0, .int .i64 1, .int .i64 2, .int .i64 0, .int .i64 0, .int .i64 9, .slice none 0 0, .int .i64 4, .int .i64 1, .int .i64 0, .int .i64 2, .int .i64 0, .slice none 0 0]
/-- The call's end tells the frame of five passes. -/
def ToldG (w : World) (e : Ending) (w' : World) : Prop :=
  ∃ b, e = .returned (.agg #[.int .i64 4, .int .i64 2, .int .i64 3, .int .i64 1, .slice (some ⟨b, 0, none⟩) 5 5]) ∧ Passes w' (some ⟨b, 0, none⟩) 5 glowP ∧ Below w.heap.size w w'
theorem Lights.nil (w : World) : Lights w none 0 [] := ⟨rfl, by omega, .inl rfl⟩
theorem glow_passes (w : World) : Passes (w.alloc (.cells glowC 72)) (some ⟨w.heap.size, 0, none⟩) 5 glowP := by
  have hc : ∀ o, (w.alloc (.cells glowC 72)).cell? ⟨w.heap.size, o, none⟩ = glowC[o]? := fun o => World.cell?_alloc_new w glowC 72 o
  refine ⟨rfl, by decide, .inr ⟨w.heap.size, 0, rfl, by simp, fun j hj => ⟨none, 0, 0, ?_⟩⟩⟩
  simp only [hc]
  match j, hj with
  | 0, _ => exact ⟨rfl, rfl, rfl, rfl, rfl, rfl, Lights.nil _⟩
  | 1, _ => exact ⟨rfl, rfl, rfl, rfl, rfl, rfl, Lights.nil _⟩
  | 2, _ => exact ⟨rfl, rfl, rfl, rfl, rfl, rfl, Lights.nil _⟩
  | 3, _ => exact ⟨rfl, rfl, rfl, rfl, rfl, rfl, Lights.nil _⟩
  | 4, _ => exact ⟨rfl, rfl, rfl, rfl, rfl, rfl, Lights.nil _⟩
theorem glow_any (w : World) : Calls Tryz.prog 26 #[] w (ToldG w) := by
  go_enter Tryz.func26, Tryz.ntmps26
  go_wp2
  refine bodyPost_ret (v := .agg #[.int .i64 4, .int .i64 2, .int .i64 3, .int .i64 1, .slice (some ⟨w.heap.size + 1, 0, none⟩) 5 5]) (by simp [results, Tryz.results26, go_sem]) rfl ?_
  have hg := glow_passes (w.alloc (.cells #[.int .i64 4, .int .i64 2, .int .i64 3, .int .i64 1, .slice (some ⟨w.heap.size + 1, 0, none⟩) 5 5] 35))
  rw [World.size_alloc] at hg
  exact ⟨_, rfl, hg, below_box (below_box (Below.refl _ _) _) _⟩
end Go.Proofs.YtaenpgdmiaekcaaGreatDoor
/-
  PLANBEGUN: what the laws of plans begin with comes out true.
-/
namespace Go.Proofs.YtaenpgdmiaekcaaGreatDoor
set_option maxRecDepth 100000
open Go.RowKit Im Go.Maps

end Go.Proofs.YtaenpgdmiaekcaaGreatDoor
/-
  EXECM: numbers alone: an arena that is written step by step; what a step takes nobody wrote over since.
-/
namespace Go.Proofs.YtaenpgdmiaekcaaGreatDoor
set_option maxRecDepth 100000

/-- The arena with l laid into it from p on; n numbers of it from p on. -/
def putA (A : List Int) (p : Nat) (l : List Int) : List Int := A.take p ++ (l ++ A.drop (p + l.length))
def getA (A : List Int) (p n : Nat) : List Int := (A.drop p).take n
theorem putA_len {A : List Int} {p : Nat} {l : List Int} (h : p + l.length ≤ A.length) : (putA A p l).length = A.length := by
  unfold putA; simp; omega
theorem getA_len {A : List Int} {p n : Nat} (h : p + n ≤ A.length) : (getA A p n).length = n := by
  unfold getA; simp; omega
theorem putA_get {A : List Int} {p : Nat} {l : List Int} (h : p + l.length ≤ A.length) (i : Nat) : (putA A p l)[i]? = if p ≤ i ∧ i < p + l.length then l[i - p]? else A[i]? := by
  unfold putA
  have hp : (A.take p).length = p := by simp; omega
  by_cases h1 : i < p
  · rw [List.getElem?_append_left (by omega), if_neg (by omega), List.getElem?_take_of_lt h1]
  · rw [List.getElem?_append_right (by omega), hp]
    by_cases h2 : i < p + l.length
    · rw [List.getElem?_append_left (by omega), if_pos (by omega)]
    · rw [List.getElem?_append_right (by omega), if_neg (by omega), List.getElem?_drop]
      congr 1; omega
theorem getA_get {A : List Int} {p n i : Nat} (hi : i < n) : (getA A p n)[i]? = A[p + i]? := by
  unfold getA
  rw [List.getElem?_take_of_lt hi, List.getElem?_drop]
theorem getA_ext {A B : List Int} {p q n : Nat} (hA : p + n ≤ A.length) (hB : q + n ≤ B.length) (h : ∀ i, i < n → A[p + i]? = B[q + i]?) : getA A p n = getA B q n := by
  refine List.ext_getElem? fun i => ?_
  by_cases hi : i < n
  · rw [getA_get hi, getA_get hi, h i hi]
  · rw [List.getElem?_eq_none (by rw [getA_len hA]; omega), List.getElem?_eq_none (by rw [getA_len hB]; omega)]
theorem get_put_same {A : List Int} {p : Nat} {l : List Int} (h : p + l.length ≤ A.length) : getA (putA A p l) p l.length = l := by
  refine List.ext_getElem? fun i => ?_
  by_cases hi : i < l.length
  · rw [getA_get hi, putA_get h, if_pos (by omega)]
    congr 1; omega
  · rw [List.getElem?_eq_none (by rw [getA_len (by rw [putA_len h]; exact h)]; omega), List.getElem?_eq_none (by omega)]
theorem get_put_apart {A : List Int} {p q n : Nat} {l : List Int} (h : p + l.length ≤ A.length) (hq : q + n ≤ A.length) (ha : q + n ≤ p ∨ p + l.length ≤ q) : getA (putA A p l) q n = getA A q n := by
  refine getA_ext (by rw [putA_len h]; exact hq) hq fun i hi => ?_
  rw [putA_get h, if_neg (by omega)]
theorem put_mem {A : List Int} {p : Nat} {l : List Int} {P : Int → Prop} (hA : ∀ x ∈ A, P x) (hl : ∀ x ∈ l, P x) : ∀ x ∈ putA A p l, P x := by
  intro x hx
  unfold putA at hx
  rcases List.mem_append.1 hx with h | h
  · exact hA x (List.mem_of_mem_take h)
  · rcases List.mem_append.1 h with h | h
    · exact hl x h
    · exact hA x (List.mem_of_mem_drop h)
theorem get_mem {A : List Int} {p n : Nat} {P : Int → Prop} (hA : ∀ x ∈ A, P x) : ∀ x ∈ getA A p n, P x := fun x hx => hA x (List.mem_of_mem_drop (List.mem_of_mem_take hx))

/-- The arena when n steps are done: mk k c is what pass k makes out of what lies in c. -/
def runN (G : Gp) (mk : Nat → (Nat → List Int) → List Int) (os pl A : List Int) : Nat → List Int
  | 0 => A
  | n + 1 => putA (runN G mk os pl A n) (pl.getD (os.getD n 0).toNat 0).toNat (mk (os.getD n 0).toNat (fun s => getA (runN G mk os pl A n) (pl.getD s 0).toNat (G.ar s).toNat))
/-- What a step takes nobody wrote over since. -/
theorem run_inv {G : Gp} (hG : G.Right) {mk : Nat → (Nat → List Int) → List Int} {pic : Nat → List Int} {os pl A : List Int} (h : Ord G os pl) (hc : Clear os (spanP G os) (lieP G os pl)) (hp : peakT os (lieP G os pl) os.length ≤ A.length)
    (hlen : ∀ k, k < G.N → ((pic k).length : Int) = G.ar k) (hmk : ∀ k c, k < G.N → (∀ s ∈ G.src k, c s.toNat = pic s.toNat) → mk k c = pic k) :
    ∀ {n : Nat}, n ≤ os.length → (runN G mk os pl A n).length = A.length ∧ ∀ j, j < n → (n : Int) - 1 ≤ (spanP G os (os.getD j 0).toNat).2 → getA (runN G mk os pl A n) (pl.getD (os.getD j 0).toNat 0).toNat (G.ar (os.getD j 0).toNat).toNat = pic (os.getD j 0).toNat
  | 0, _ => ⟨rfl, fun j hj => by omega⟩
  | n + 1, hn => by
    obtain ⟨hl, hI⟩ := run_inv hG h hc hp hlen hmk (n := n) (by omega)
    obtain ⟨k, hk, ek, hm⟩ := os_nat h (show n < os.length by omega)
    have hp2 := (all_os h (fun k => (lieP G os pl k).2 + 1 ≤ A.length)).1 (((peakT_le (Nat.le_refl _)).1 hp).2)
    have hfit : ∀ q, q < G.N → (q : Int) ∈ os → 0 ≤ pl.getD q 0 ∧ 1 ≤ G.ar q ∧ (pl.getD q 0).toNat + (G.ar q).toNat ≤ A.length := by
      intro q hq hqm
      have h1 := hp2 q hq hqm
      rw [Ord.lie hqm] at h1
      have h2 := h.at_ q hq hqm
      have h3 := hG.ar q hq
      simp only at h1
      exact ⟨h2.1, h3.1, by omega⟩
    have hsn := stepAt_self h.nodup (show n < os.length by omega)
    rw [ek] at hsn
    have hmade : mk k (fun s => getA (runN G mk os pl A n) (pl.getD s 0).toNat (G.ar s).toNat) = pic k := by
      refine hmk k _ hk fun s hs => ?_
      obtain ⟨hsm, hst⟩ := h.beh k hk hm s hs
      have hb := hG.src k hk s hs
      have es : ((s.toNat : Nat) : Int) = s := by omega
      have hpos := stepAt_mem.2 hsm
      obtain ⟨j, hj⟩ := Int.eq_ofNat_of_zero_le hpos
      have hbd := stepAt_bd os s
      have hg := stepAt_get hpos
      rw [hj, Int.toNat_natCast] at hg
      have hjn : j < n := by
        have hne : j ≠ n := by
          intro e
          rw [e, ek] at hg
          omega
        omega
      have := hI j hjn (by
        rw [hg]
        unfold spanP
        simp only
        split
        · omega
        · rw [es, show os.length = (n + (os.length - (n + 1))) + 1 by omega]
          have : ∀ d, (n : Int) - 1 ≤ ltk G.src os s (stepAt os s) (n + d + 1) := by
            intro d
            induction d with
            | zero =>
              show (n : Int) - 1 ≤ if s ∈ G.src (os.getD n 0).toNat then (n : Int) else ltk G.src os s (stepAt os s) n
              rw [ek, Int.toNat_natCast, if_pos hs]; omega
            | succ d ih =>
              show (n : Int) - 1 ≤ if s ∈ G.src (os.getD (n + (d + 1)) 0).toNat then ((n + (d + 1) : Nat) : Int) else ltk G.src os s (stepAt os s) (n + (d + 1))
              split
              · omega
              · exact ih
          exact this _)
      rw [hg] at this
      exact this
    have er : runN G mk os pl A (n + 1) = putA (runN G mk os pl A n) (pl.getD k 0).toNat (pic k) := by
      show putA (runN G mk os pl A n) (pl.getD (os.getD n 0).toNat 0).toNat (mk (os.getD n 0).toNat (fun s => getA (runN G mk os pl A n) (pl.getD s 0).toNat (G.ar s).toNat)) = _
      rw [ek, Int.toNat_natCast, hmade]
    obtain ⟨hk0, hk1, hkf⟩ := hfit k hk hm
    have hkl := hlen k hk
    have hfits : (pl.getD k 0).toNat + (pic k).length ≤ (runN G mk os pl A n).length := by rw [hl]; omega
    rw [er]
    refine ⟨by rw [putA_len hfits, hl], fun j hj hspan => ?_⟩
    by_cases ejn : j = n
    · subst ejn
      rw [ek, Int.toNat_natCast]
      have := get_put_same hfits
      rw [show (G.ar k).toNat = (pic k).length by omega]
      exact this
    · have hjn : j < n := by omega
      obtain ⟨q, hq, eq, hqm⟩ := os_nat h (show j < os.length by omega)
      have hI' := hI j hjn (by omega)
      rw [eq, Int.toNat_natCast] at hI' hspan ⊢
      obtain ⟨hq0, hq1, hqf⟩ := hfit q hq hqm
      have hsj := stepAt_self h.nodup (show j < os.length by omega)
      rw [eq] at hsj
      have hne : q ≠ k := by
        intro e
        rw [e, hsn] at hsj
        omega
      have hmeet : meetB (spanP G os q) (spanP G os k) = true := by
        have h1 := span_ge h hm
        rw [span_first h.nodup (show n < os.length by omega) ek] at h1
        unfold meetB
        rw [span_first h.nodup (show n < os.length by omega) ek, span_first h.nodup (show j < os.length by omega) eq]
        simp only [Bool.and_eq_true, decide_eq_true_eq]
        push_cast at hspan
        omega
      have hap : ¬ meetB (lieP G os pl q) (lieP G os pl k) = true := fun hl => hc q k hqm hm hne hmeet hl
      rw [Ord.lie hqm, Ord.lie hm] at hap
      unfold meetB at hap
      simp only [Bool.and_eq_true, decide_eq_true_eq] at hap
      rw [get_put_apart hfits (by rw [hl]; exact hqf) (by omega)]
      exact hI'
theorem run_shows {G : Gp} (hG : G.Right) {mk : Nat → (Nat → List Int) → List Int} {pic : Nat → List Int} {os pl A : List Int} (h : Ord G os pl) (hc : Clear os (spanP G os) (lieP G os pl)) (hp : peakT os (lieP G os pl) os.length ≤ A.length)
    (hlen : ∀ k, k < G.N → ((pic k).length : Int) = G.ar k) (hmk : ∀ k c, k < G.N → (∀ s ∈ G.src k, c s.toNat = pic s.toNat) → mk k c = pic k) :
    getA (runN G mk os pl A os.length) (pl.getD G.last.toNat 0).toNat (G.ar G.last.toNat).toNat = pic G.last.toNat := by
  have hm := h.pos hG
  have hl := hG.last
  obtain ⟨j, hj, e⟩ := mem_getD hm
  have := (run_inv hG h hc hp hlen hmk (Nat.le_refl _)).2 j hj (by
    rw [e]
    unfold spanP
    simp only
    rw [if_pos (by omega)]
    omega)
  rwa [e] at this
end Go.Proofs.YtaenpgdmiaekcaaGreatDoor
