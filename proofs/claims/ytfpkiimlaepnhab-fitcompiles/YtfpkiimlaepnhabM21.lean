/- FitFacts, LawFit3: joined, in this order. -/
import Derived.Test.YtfpkiimlaepnhabM20
import Derived.Test.YtfpkiimlaepnhabM17
import Derived.BigRegion
import Derived.BigQuiet
/-
  FITFACTS: numbers of FitTrue.
-/
namespace Go.Proofs.Ytfpkiimlaepnhab
set_option maxRecDepth 100000
open Go.RowKit Im Go.Maps

/-- All that are kept have the size of the first. -/
def oneSz (pl : List Int) (ar : Nat → Int) (s : Int) (k : Nat) : Bool := bif decide (0 ≤ pl.getD k 0) then decide (ar k = s) else true
def kSum (pl : List Int) (ar : Nat → Int) (k : Nat) : Int := if 0 ≤ pl.getD k 0 then ar k else 0
structure Fit (f : Fr) (os pl : List Int) : Prop where
  plan : planE f os pl = 0
  check : checkP f os pl (peakP f os pl) = 0
  sum : peakP f os pl ≤ sumK (kSum pl (gpOf f).ar) f.ps.length
  floor : floorP f os pl ≤ peakP f os pl
  same : allTo (oneSz pl (gpOf f).ar ((gpOf f).ar (os.getD 0 0).toNat)) f.ps.length = true → peakP f os pl = floorP f os pl
  pos : 0 < os.length
  inN : ∀ o ∈ os, 0 ≤ o ∧ o < f.ps.length
  len : pl.length = f.ps.length
theorem fit_any {f : Fr} (hE : frameE f = 0) : Fit f (cOrd (gpOf f) f.ps.length) (cPl (gpOf f)) := by
  have hG := gp_right hE
  have hC : Closed (gpOf f) := gp_closed hE
  have hO : Ord (gpOf f) (cOrd (gpOf f) f.ps.length) (cPl (gpOf f)) := cPl_ord hG hC
  have hp : planE f (cOrd (gpOf f) f.ps.length) (cPl (gpOf f)) = 0 := by unfold planE; rw [if_pos hE, if_pos (ord_iff.2 hO)]
  have hcl := comp_clear hG hC
  have hc : clearP f (cOrd (gpOf f) f.ps.length) (cPl (gpOf f)) = true := (clearT_iff hO _ _).2 hcl
  have e1 : peakP f (cOrd (gpOf f) f.ps.length) (cPl (gpOf f)) = peakT (cOrd (gpOf f) f.ps.length) (lieP (gpOf f) (cOrd (gpOf f) f.ps.length) (cPl (gpOf f))) (cOrd (gpOf f) f.ps.length).length := by unfold peakP; rw [if_pos hp]
  have e2 : floorP f (cOrd (gpOf f) f.ps.length) (cPl (gpOf f)) = floorT (cOrd (gpOf f) f.ps.length) (spanP (gpOf f) (cOrd (gpOf f) f.ps.length)) (lieP (gpOf f) (cOrd (gpOf f) f.ps.length) (cPl (gpOf f))) (cOrd (gpOf f) f.ps.length).length := by unfold floorP; rw [if_pos hp]
  have hsum : peakP f (cOrd (gpOf f) f.ps.length) (cPl (gpOf f)) ≤ sumK (kSum (cPl (gpOf f)) (gpOf f).ar) f.ps.length := by rw [e1]; exact comp_sum hG hC
  have hb := peak_bd hG hO
  have hst : ∀ n, n ≤ f.ps.length → sumK (kSum (cPl (gpOf f)) (gpOf f).ar) n ≤ 256 * n := by
    intro n
    induction n with
    | zero => intro _; exact Int.le_refl _
    | succ n ih =>
      intro hn
      have h1 := ih (by omega)
      have h2 := (hG.ar n (show n < f.ps.length by omega)).2
      have h3 : kSum (cPl (gpOf f)) (gpOf f).ar n ≤ 256 := by unfold kSum; split <;> omega
      have h4 : sumK (kSum (cPl (gpOf f)) (gpOf f).ar) (n + 1) = sumK (kSum (cPl (gpOf f)) (gpOf f).ar) n + kSum (cPl (gpOf f)) (gpOf f).ar n := rfl
      omega
  have h12 : f.ps.length ≤ 12 := hG.hN.2
  have hs := hst f.ps.length (Nat.le_refl _)
  have hin := cOrd_in (gpOf f)
  refine ⟨hp, ?_, hsum, ?_, fun h => ?_, ?_, hin, hO.len⟩
  · rw [check_fits ⟨by omega, by omega⟩ hp, if_pos ⟨Int.le_of_eq e1.symm, hc⟩]
  · rw [e1, e2]; exact floor_peak hG hO hcl
  · rw [e1, e2]
    refine comp_floor hG hC (s := (gpOf f).ar ((cOrd (gpOf f) f.ps.length).getD 0 0).toNat) (fun k hk hm => ?_)
    have h1 := (allTo_iff _ _).1 h k hk
    unfold oneSz at h1
    rw [decide_eq_true (hO.at_ k hk hm).1, cond_true] at h1
    exact of_decide_eq_true h1
  · rcases Nat.eq_zero_or_pos (cOrd (gpOf f) f.ps.length).length with h0 | h0
    · have hm := hO.has (shownP f).toNat (by show (shownP f).toNat < f.ps.length; have h1 : 0 ≤ shownP f ∧ shownP f < f.ps.length := hG.last; omega) hG.kept
      rw [List.length_eq_zero_iff.1 h0] at hm
      cases hm
    · exact h0
end Go.Proofs.Ytfpkiimlaepnhab
/-
  LAWFIT3: the walk of FitTrue.
-/
namespace Go.Proofs.Ytfpkiimlaepnhab
set_option maxRecDepth 100000
open Go.RowKit Im Go.Maps

set_option maxHeartbeats 2000000 in
theorem fitTrue_err (W H S O : Int) (a : Option Addr) (len cap : Nat) (ps : List Ps) (w : World) (hp : Passes w a len ps) (hE : frameE ⟨W, H, S, O, ps⟩ ≠ 0) :
    Calls Try.prog 8 #[.agg #[.int .i64 W, .int .i64 H, .int .i64 S, .int .i64 O, .slice a len cap]] w fun e w' => e = .returned (.bool true) ∧ Below w.heap.size w w' := by
  have hb0 := below_box (Below.refl w.heap.size w) (.cells #[.int .i64 W, .int .i64 H, .int .i64 S, .int .i64 O, .slice a len cap] 24)
  have hco := compile_any W H S O a len cap ps _ (hp.below hb0)
  go_enter Try.func8, Try.ntmps8
  go_wp2_with fail
  refine hco.mono ?_
  clear hco
  rintro e w1 ⟨⟨h0, _⟩ | ⟨_, rfl⟩, b1⟩
  · exact absurd h0 hE
  have hb1 := below_box (below_step hb0 b1) (.cells #[.slice none 0 0, .slice none 0 0] 27)
  generalize frameE ⟨W, H, S, O, ps⟩ = E at *
  go_wp2_with fail
  refine (fitBegun_any _).mono ?_
  rintro e w2 ⟨rfl, b2⟩
  go_wp2
  go_ret
  exact ⟨rfl, below_step hb1 b2⟩
set_option maxHeartbeats 8000000 in
theorem fitTrue_ok (W H S O : Int) (a : Option Addr) (len cap : Nat) (ps : List Ps) (w : World) (hp : Passes w a len ps) (hE : frameE ⟨W, H, S, O, ps⟩ = 0) :
    Calls Try.prog 8 #[.agg #[.int .i64 W, .int .i64 H, .int .i64 S, .int .i64 O, .slice a len cap]] w fun e w' => e = .returned (.bool true) ∧ Below w.heap.size w w' := by
  have hb0 := below_box (Below.refl w.heap.size w) (.cells #[.int .i64 W, .int .i64 H, .int .i64 S, .int .i64 O, .slice a len cap] 24)
  have hF0 := FBox.new w W H S O a len cap
  have hco := compile_any W H S O a len cap ps _ (hp.below hb0)
  have hN12 : ps.length ≤ 12 := (gp_right hE).hN.2
  have hFi := fit_any hE
  have HSB : Hid (∀ k, k < ps.length → ZB ((szs ⟨W, H, S, O, ps⟩ ps.length).getD k Sz.zero)) := fun k hk => by
    obtain ⟨hb, hf, _⟩ := frameE_zero hE
    exact szs_bd hb hf _ (getD_mem (by rw [szs_length]; exact hk) _)
  go_enter Try.func8, Try.ntmps8
  go_wp2_with fail
  refine hco.mono ?_
  clear hco
  rintro e w1 ⟨⟨_, v, pb, rfl, hpb, hO, hN⟩ | ⟨h0, _⟩, b1⟩
  rotate_left
  · exact absurd hE h0
  obtain ⟨oa, oc, hv, hI⟩ := hO.ints (by have := cOrd_len (gpOf ⟨W, H, S, O, ps⟩) ps.length; show (cOrd (gpOf ⟨W, H, S, O, ps⟩) ps.length).length ≤ _; omega)
  subst hv
  have hoc := owns_cap hO
  have hL := Nm.list hN hFi.len (show ps.length ≤ 4096 by omega)
  replace hI := hI.mono (Nat.zero_le _)
  have har : ∀ k, (gpOf ⟨W, H, S, O, ps⟩).ar k = areaZ ((szs ⟨W, H, S, O, ps⟩ ps.length).getD k Sz.zero) := fun _ => rfl
  have h12 := cOrd_len (gpOf ⟨W, H, S, O, ps⟩) ps.length
  dsimp only at hO hI hN hL hoc hFi ⊢
  generalize cOrd (gpOf ⟨W, H, S, O, ps⟩) ps.length = os at hO hI hoc hFi h12 ⊢
  generalize cPl (gpOf ⟨W, H, S, O, ps⟩) = pl at hN hL hFi ⊢
  have bP : Below w1.heap.size w1 (w1.alloc (.cells #[.slice oa os.length oc, .slice (some ⟨pb, 0, none⟩) ps.length ps.length] 27)) := (Below.refl _ _).alloc (Nat.le_refl _) _
  have hP1 := PlBox.new w1 (.slice oa os.length oc) (.slice (some ⟨pb, 0, none⟩) ps.length ps.length) 27
  have hFw := hF0.below b1
  have hF1 := hFw.below bP
  have hb1 := below_step hb0 b1
  have hB1 := below_step hb1 bP
  have hpk := fun wx (h : Below w1.heap.size w1 wx) => planPeak_any W H S O a len cap ps wx (hp.below (below_step hb1 h)) oa os.length oc (some ⟨pb, 0, none⟩) ps.length ps.length os pl (hI.below (Nat.le_refl _) h) (hL.below (Nat.le_refl _) h)
  have hfl := fun wx (h : Below w1.heap.size w1 wx) => planFloor_any W H S O a len cap ps wx (hp.below (below_step hb1 h)) oa os.length oc (some ⟨pb, 0, none⟩) ps.length ps.length os pl (hI.below (Nat.le_refl _) h) (hL.below (Nat.le_refl _) h)
  have hck := fun wx (h : Below w1.heap.size w1 wx) => planCheck_any W H S O a len cap ps wx (hp.below (below_step hb1 h)) oa os.length oc (some ⟨pb, 0, none⟩) ps.length ps.length os pl (hI.below (Nat.le_refl _) h) (hL.below (Nat.le_refl _) h) hoc (peakP ⟨W, H, S, O, ps⟩ os pl)
  have hsz := fun wx (h : Below w1.heap.size w1 wx) => sizes_any W H S O a len cap ps wx (hp.below (below_step hb1 h))
  rw [hFi.check] at hck
  simp only [hFi.plan] at hpk hfl
  have HSU : Hid (_) := hFi.sum
  have HFL : Hid (_) := hFi.floor
  have HSA : Hid (_) := hFi.same
  have hpos := hFi.pos
  have HIN : Hid (_) := hFi.inN
  clear hFi hO hF0 hp
  generalize peakP ⟨W, H, S, O, ps⟩ os pl = n at *
  generalize floorP ⟨W, H, S, O, ps⟩ os pl = m at *
  obtain ⟨_, g0, g1, g2, g3, g4⟩ := id hFw
  go_wp2_with fail
  refine (hpk _ bP).mono ?_
  clear hpk g0 g1 g2 g3 g4
  rintro e w2 ⟨rfl, b2⟩
  have hB2 := below_step bP b2
  have hF2 := hF1.below b2
  have hP2 := hP1.below b2
  obtain ⟨_, g0, g1, g2, g3, g4⟩ := id hF2
  obtain ⟨_, h0, h1⟩ := id hP2
  go_wp2_with fail
  refine (hfl _ hB2).mono ?_
  clear hfl g0 g1 g2 g3 g4 h0 h1
  rintro e w3 ⟨rfl, b3⟩
  have hB3 := below_step hB2 b3
  have hF3 := hF2.below b3
  have hP3 := hP2.below b3
  obtain ⟨_, g0, g1, g2, g3, g4⟩ := id hF3
  go_wp2_with fail
  refine (hsz _ hB3).mono ?_
  clear hsz g0 g1 g2 g3 g4
  rintro e w4 ⟨⟨v4, rfl, hZ⟩, b4⟩
  rw [hE, if_pos rfl] at hZ
  obtain ⟨za, zc, rfl, hZs⟩ := hZ.zs (by rw [szs_length]; exact hN12)
  dsimp only at hZs ⊢
  rw [szs_length] at hZs ⊢
  have hB4 := below_step hB3 b4
  have hF4 := hF3.below b4
  have hP4 := hP3.below b4
  obtain ⟨_, g0, g1, g2, g3, g4⟩ := id hF4
  obtain ⟨_, h0, h1⟩ := id hP4
  rw [hE]
  clear hF1 hF2 hF3 hP1 hP2 hP3 hB2 hB3 b2 b3 b4 hZ hFw b1 hb0
  have hne : ¬ os = [] := fun h => by rw [h] at hpos; cases hpos
  have hne2 : ¬ os.length = 0 := by omega
  go_wp2_with fail
  refine (hck _ hB4).mono ?_
  clear hck g0 g1 g2 g3 g4 h0 h1
  rintro e w5 ⟨rfl, b5⟩
  have hB5 := below_step hB4 b5
  have hP5 := hP4.below b5
  have hZ5 := hZs.below b5
  have hI5 := hI.below (Nat.le_refl _) hB5
  have hL5 := hL.below (Nat.le_refl _) hB5
  clear hF4 hP4 hB4 b5 hZs hI hL hE
  generalize szs ⟨W, H, S, O, ps⟩ ps.length = zs at *
  have HSt : Hid (∀ k, sumK (kSum pl (gpOf ⟨W, H, S, O, ps⟩).ar) (k + 1) = sumK (kSum pl (gpOf ⟨W, H, S, O, ps⟩).ar) k + kSum pl (gpOf ⟨W, H, S, O, ps⟩).ar k) := fun _ => rfl
  have HAt : Hid (∀ k, allTo (oneSz pl (gpOf ⟨W, H, S, O, ps⟩).ar ((gpOf ⟨W, H, S, O, ps⟩).ar (os.getD 0 0).toNat)) (k + 1) = (allTo (oneSz pl (gpOf ⟨W, H, S, O, ps⟩).ar ((gpOf ⟨W, H, S, O, ps⟩).ar (os.getD 0 0).toNat)) k && oneSz pl (gpOf ⟨W, H, S, O, ps⟩).ar ((gpOf ⟨W, H, S, O, ps⟩).ar (os.getD 0 0).toNat) k)) := fun _ => rfl
  have HS0 : Hid (sumK (kSum pl (gpOf ⟨W, H, S, O, ps⟩).ar) 0 = 0) := rfl
  have HA0 : Hid (allTo (oneSz pl (gpOf ⟨W, H, S, O, ps⟩).ar ((gpOf ⟨W, H, S, O, ps⟩).ar (os.getD 0 0).toNat)) 0 = true) := rfl
  have HKS : Hid (∀ k, kSum pl (gpOf ⟨W, H, S, O, ps⟩).ar k = if 0 ≤ pl.getD k 0 then (zs.getD k Sz.zero).1 * (zs.getD k Sz.zero).2 else 0) := fun k => by show (if _ then _ else _) = _; rw [har]; rfl
  have HOZ : Hid (∀ k, oneSz pl (gpOf ⟨W, H, S, O, ps⟩).ar ((gpOf ⟨W, H, S, O, ps⟩).ar (os.getD 0 0).toNat) k = bif decide (0 ≤ pl.getD k 0) then decide ((zs.getD k Sz.zero).1 * (zs.getD k Sz.zero).2 = (zs.getD (os.getD 0 0).toNat Sz.zero).1 * (zs.getD (os.getD 0 0).toNat Sz.zero).2) else true) := fun k => by show (bif _ then decide (_ = _) else _) = _; rw [har, har]; rfl
  generalize sumK (kSum pl (gpOf ⟨W, H, S, O, ps⟩).ar) = sm at *
  generalize allTo (oneSz pl (gpOf ⟨W, H, S, O, ps⟩).ar ((gpOf ⟨W, H, S, O, ps⟩).ar (os.getD 0 0).toNat)) = al at *
  generalize oneSz pl (gpOf ⟨W, H, S, O, ps⟩).ar ((gpOf ⟨W, H, S, O, ps⟩).ar (os.getD 0 0).toNat) = oz at *
  generalize kSum pl (gpOf ⟨W, H, S, O, ps⟩).ar = ks at *
  clear har
  have ho0 : 0 ≤ os.getD 0 0 ∧ os.getD 0 0 < (ps.length : Int) := HIN.out _ (getD_mem hpos 0)
  obtain ⟨ob, oo, rfl, hoc0⟩ := hI5.nth hpos
  generalize hoq : os.getD 0 0 = o0 at *
  obtain ⟨q, rfl⟩ := Int.eq_ofNat_of_zero_le ho0.1
  rw [Int.toNat_natCast] at HOZ
  have hql : q < ps.length := by omega
  obtain ⟨zb, zo, rfl, hzl, y0, y1⟩ := hZ5.nth hql
  have hyb := HSB.out q hql
  obtain ⟨⟨hy1, hy2⟩, hy3, hy4⟩ := hyb
  have hyy : IntKind.i64.wrap ((zs.getD q Sz.zero).1 * (zs.getD q Sz.zero).2) = (zs.getD q Sz.zero).1 * (zs.getD q Sz.zero).2 := by
    have h1 : 0 ≤ (zs.getD q Sz.zero).1 * (zs.getD q Sz.zero).2 := Int.mul_nonneg (by omega) (by omega)
    have h2 : (zs.getD q Sz.zero).1 * (zs.getD q Sz.zero).2 ≤ 16 * 16 := Int.mul_le_mul hy2 hy4 (by omega) (by omega)
    rw [IntKind.wrap_i64]; omega
  have hwN : IntKind.i64.wrap ((ps.length : Int) - 1) = (ps.length : Int) - 1 := by rw [IntKind.wrap_i64]; omega
  dsimp only
  go_wp2
  go_loopw [11, 12, 13] (fun s b i wr => ∃ k : Nat, k ≤ ps.length ∧ s = .int .i64 (sm k) ∧ b = .bool (al k) ∧ i = .int .i64 k ∧ (0 ≤ sm k ∧ sm k ≤ 256 * k) ∧ Below w5.heap.size w5 wr) (fun _ _ i _ => ps.length - (intOf i).toNat)
  case atStart => exact ⟨0, Nat.zero_le _, by rw [HS0.out], by rw [HA0.out], rfl, by rw [HS0.out]; exact ⟨Int.le_refl _, Int.le_refl _⟩, Below.refl _ _⟩
  case round =>
    obtain ⟨k, hk, rfl, rfl, rfl, hsb, hB⟩ := hrel
    obtain ⟨_, p0, p1⟩ := hP5.below hB
    by_cases hlt : k < ps.length
    · obtain ⟨pb', po', hpe, hpc⟩ := (hL5.below (Nat.le_refl _) hB).nth hlt
      injection hpe with hpe
      injection hpe with h1 h2
      subst h1 h2
      rw [Nat.zero_add] at hpc
      obtain ⟨zb', zo', hze, _, x0, x1⟩ := (hZ5.below hB).nth hlt
      injection hze with hze
      injection hze with h1 h2
      subst h1 h2
      have Y0 := (hB.cell (p := ⟨zb, zo + q * 2, none⟩) hzl).trans y0
      have Y1 := (hB.cell (p := ⟨zb, zo + q * 2 + 1, none⟩) hzl).trans y1
      obtain ⟨ob', oo', hoe, hob⟩ := (hI5.below (Nat.le_refl _) hB).nth hpos
      have hkI : (k : Int) < (ps.length : Int) := by omega
      have hk0 : (0 : Int) ≤ (k : Int) := by omega
      have HS1 : Hid (_) := HSt.out k
      have HA1 : Hid (_) := HAt.out k
      have HK1 : Hid (_) := HKS.out k
      have HO1 : Hid (_) := HOZ.out k
      obtain ⟨⟨hx1, hx2⟩, hx3, hx4⟩ := HSB.out k hlt
      injection hoe with hoe
      injection hoe with h1 h2
      subst h1 h2
      rw [hoq, Nat.add_zero] at hob
      have hxx : 0 ≤ (zs.getD k Sz.zero).1 * (zs.getD k Sz.zero).2 ∧ (zs.getD k Sz.zero).1 * (zs.getD k Sz.zero).2 ≤ 256 := ⟨Int.mul_nonneg (by omega) (by omega), Int.mul_le_mul hx2 hx4 (by omega) (by omega)⟩
      have hxw : IntKind.i64.wrap ((zs.getD k Sz.zero).1 * (zs.getD k Sz.zero).2) = (zs.getD k Sz.zero).1 * (zs.getD k Sz.zero).2 := by rw [IntKind.wrap_i64]; omega
      generalize pl.getD k 0 = pk at *
      generalize (zs.getD k Sz.zero).1 = xa at *
      generalize (zs.getD k Sz.zero).2 = xb at *
      have HSN := HSU
      by_cases hpk : 0 ≤ pk
      · have HS2 : Hid (sm (k + 1) = sm k + xa * xb) := by show _ = _; rw [HS1.out, HK1.out, if_pos hpk]
        have HA2 : Hid (al (k + 1) = (al k && decide (xa * xb = (zs.getD q Sz.zero).1 * (zs.getD q Sz.zero).2))) := by show _ = _; rw [HA1.out, HO1.out, decide_eq_true hpk]; rfl
        generalize (zs.getD q Sz.zero).1 = ya at *
        generalize (zs.getD q Sz.zero).2 = yb at *
        have hsw : IntKind.i64.wrap (sm k + xa * xb) = sm k + xa * xb := by rw [IntKind.wrap_i64]; omega
        have hsn : 0 ≤ sm (k + 1) ∧ sm (k + 1) ≤ 256 * ((k + 1 : Nat) : Int) := by rw [HS2.out]; push_cast; omega
        have HSN2 : Hid (_) := hsn
        clear HS1 HA1 HK1 HO1 hsn
        obtain ⟨sk1, hsk1⟩ : ∃ x, x = sm (k + 1) := ⟨_, rfl⟩
        obtain ⟨bk1, hbk1⟩ : ∃ x, x = al (k + 1) := ⟨_, rfl⟩
        have HQ1 : Hid (sm (k + 1) = sk1) := hsk1.symm
        have HQ2 : Hid (al (k + 1) = bk1) := hbk1.symm
        rw [← hsk1] at HS2 HSN2
        rw [← hbk1] at HA2
        clear hsk1 hbk1
        generalize sm k = sk at *
        generalize al k = bk at *
        go_upto_region 15 with fail
        go_quiet (fail)
        have hmn : min ((ps.length : Int) - 1) (q : Int) = (q : Int) := by omega
        have hmx : max 0 (q : Int) = (q : Int) := by omega
        have hqI : (q : Int) < (ps.length : Int) := by omega
        have hq0 : (0 : Int) ≤ (q : Int) := by omega
        have hz0' : (0 : Int) < (os.length : Int) := by omega
        cases bk with
        | true =>
          go_upto_region 16 with fail
          go_quiet (fail)
          go_wp2
          go_roundw
          case rel => exact ⟨k + 1, by omega, by rw [HQ1.out, HS2.out], by rw [HQ2.out, HA2.out]; rfl, by go_num, by rw [HQ1.out]; exact HSN2.out, below_drewN hB _⟩
          case measure => simp [intOf]; omega
        | false =>
          go_upto_region 16 with fail
          go_quiet (fail)
          go_wp2
          go_roundw
          case rel => exact ⟨k + 1, by omega, by rw [HQ1.out, HS2.out], by rw [HQ2.out, HA2.out]; rfl, by go_num, by rw [HQ1.out]; exact HSN2.out, below_drewN hB _⟩
          case measure => simp [intOf]; omega
      · have HS2 : Hid (sm (k + 1) = sm k) := by show _ = _; rw [HS1.out, HK1.out, if_neg hpk, Int.add_zero]
        have HA2 : Hid (al (k + 1) = al k) := by show _ = _; rw [HA1.out, HO1.out, decide_eq_false hpk]; simp
        clear HS1 HA1 HK1 HO1
        go_wp2
        go_roundw
        case rel => exact ⟨k + 1, by omega, by rw [HS2.out], by rw [HA2.out], by go_num, by rw [HS2.out]; push_cast; omega, hB⟩
        case measure => simp [intOf]; omega
    · have hke : k = ps.length := by omega
      subst hke
      have hnm := HFL.out
      have hns := HSU.out
      have hsa := HSA.out
      have hBw := below_step hb1 (below_step hB5 hB)
      generalize sm ps.length = sN at *
      generalize al ps.length = bN at *
      clear HFL HSU HSA
      cases bN with
      | true =>
        obtain rfl := hsa rfl
        go_wp2_with fail
        refine (fitBegun_any _).mono ?_
        rintro e w7 ⟨rfl, b7⟩
        go_wp2
        go_ret
        exact ⟨rfl, below_step hBw b7⟩
      | false =>
        go_wp2_with fail
        refine (fitBegun_any _).mono ?_
        rintro e w7 ⟨rfl, b7⟩
        go_wp2
        go_ret
        exact ⟨rfl, below_step hBw b7⟩
theorem fitTrue_any (W H S O : Int) (a : Option Addr) (len cap : Nat) (ps : List Ps) (w : World) (hp : Passes w a len ps) :
    Calls Try.prog 8 #[.agg #[.int .i64 W, .int .i64 H, .int .i64 S, .int .i64 O, .slice a len cap]] w fun e w' => e = .returned (.bool true) ∧ Below w.heap.size w w' := by
  by_cases hE : frameE ⟨W, H, S, O, ps⟩ = 0
  · exact fitTrue_ok W H S O a len cap ps w hp hE
  · exact fitTrue_err W H S O a len cap ps w hp hE
end Go.Proofs.Ytfpkiimlaepnhab
