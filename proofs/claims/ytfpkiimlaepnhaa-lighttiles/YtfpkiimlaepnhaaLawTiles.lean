/-
  LAWTILES: the walk of the law LightTiles.
-/
import Derived.Test.YtfpkiimlaepnhaaTilesMath
import Derived.Deep.Cut
namespace Go.Proofs.Ytfpkiimlaepnhaa
set_option maxRecDepth 100000
open Go.RowKit Im

theorem at_place {ls : List Lt} {u v : Int} (hE : lightsErr ls = 0) (hu : 0 ≤ u ∧ u < 16) (hv : 0 ≤ v ∧ v < 16) : atV ls u v = sumG u v ls ∧ atE ls u v = 0 := by
  have e : atE ls u v = 0 := by simp only [atE, if_pos hE, (place_iff u).2 hu, (place_iff v).2 hv]; rfl
  exact ⟨by simp only [atV, if_pos e], e⟩
theorem tdiv16 (c : Int) (t0 : -9223372036854775808 ≤ c) (t1 : c ≤ 9223372036854775807) : -9223372036854775808 ≤ c.tdiv 16 ∧ c.tdiv 16 ≤ 9223372036854775807 := by
  rcases Int.le_total 0 c with h | h
  · rw [Int.tdiv_eq_ediv_of_nonneg h]; omega
  · have e : c.tdiv 16 = -((-c).tdiv 16) := by rw [Int.neg_tdiv, Int.neg_neg]
    rw [e, Int.tdiv_eq_ediv_of_nonneg (by omega)]; omega

set_option maxRecDepth 100000 in
set_option maxHeartbeats 4000000 in
theorem lightTiles_any (W H : Int) (a : Option Addr) (len cap : Nat) (ps : List Int) (la : Option Addr) (llen lcap : Nat) (ls : List Lt) (one two x y pw ph at' : Int) (w : World) (h : Ints 0 w a len ps) (hl : Lights w la llen ls) (t0 : -9223372036854775808 ≤ at') (t1 : at' ≤ 9223372036854775807) :
    Calls Try.prog 9 #[.agg #[.int .i64 W, .int .i64 H, .slice a len cap], .slice la llen lcap, .int .i64 one, .int .i64 two, .int .i64 x, .int .i64 y, .int .i64 pw, .int .i64 ph, .int .i64 at'] w fun e w' => e = .returned (.bool true) ∧ Below w.heap.size w w' := by
  have F : Hid ((litRes W H ps ls one).E = 0 → (litRes W H ps ls two).E = 0 → litRes W H ps ls one = litRes W H ps ls two ∧ ¬ ps = [] ∧ (litRes W H ps ls one).ps.length = ps.length ∧ ∀ i, i < ps.length → ps.getD i 0 ≤ (litRes W H ps ls one).ps.getD i 0) := litRes_same
  have c1 : Hid (∀ wx, Ints 0 wx a len ps → Lights wx la llen ls → Calls Try.prog 37 #[.agg #[.int .i64 W, .int .i64 H, .slice a len cap], .slice la llen lcap, .int .i64 one] wx (Told wx (litRes W H ps ls one))) := fun wx hx hy => lit_told cap lcap hx hy rfl
  have c2 : Hid (∀ wx, Ints 0 wx a len ps → Lights wx la llen ls → Calls Try.prog 37 #[.agg #[.int .i64 W, .int .i64 H, .slice a len cap], .slice la llen lcap, .int .i64 two] wx (Told wx (litRes W H ps ls two))) := fun wx hx hy => lit_told cap lcap hx hy rfl
  generalize litRes W H ps ls one = r1 at F c1
  generalize litRes W H ps ls two = r2 at F c2
  obtain ⟨E1, W1, H1, p1⟩ := r1
  obtain ⟨E2, W2, H2, p2⟩ := r2
  have hlen := h.leng
  have hbig := h.big
  have hP := Pic.new (W := W) (H := H) cap h
  have hb := below_box (Below.refl w.heap.size w) (.cells #[.int .i64 W, .int .i64 H, .slice a len cap] 24)
  have hl1 := hl.below hb
  go_enter Try.func9, Try.ntmps9
  go_wp2_with fail
  refine (c1.out _ hP.ints hl1).mono ?_
  rintro e wA ⟨a1, cap1, rfl, i1, b1⟩
  dsimp only at i1
  replace hP := (hP.below b1).alloc (.cells #[.int .i64 W1, .int .i64 H1, .slice a1 p1.length cap1] 24)
  replace hl1 := (hl1.below b1).alloc (.cells #[.int .i64 W1, .int .i64 H1, .slice a1 p1.length cap1] 24)
  replace hb := below_box (below_step hb b1) (.cells #[.int .i64 W1, .int .i64 H1, .slice a1 p1.length cap1] 24)
  have q1 := Pic.new (W := W1) (H := H1) cap1 (i1.mono (Nat.zero_le _))
  obtain ⟨_, k0, k1, k2, _⟩ := id hP
  clear i1 c1
  go_wp2_with fail
  refine (c2.out _ hP.ints hl1).mono ?_
  rintro e wB ⟨a2, cap2, rfl, i2, b2⟩
  dsimp only at i2
  clear k0 k1 k2
  replace hP := (hP.below b2).alloc (.cells #[.int .i64 W2, .int .i64 H2, .slice a2 p2.length cap2] 24)
  replace q1 := (q1.below b2).alloc (.cells #[.int .i64 W2, .int .i64 H2, .slice a2 p2.length cap2] 24)
  replace hl1 := (hl1.below b2).alloc (.cells #[.int .i64 W2, .int .i64 H2, .slice a2 p2.length cap2] 24)
  replace hb := below_box (below_step hb b2) (.cells #[.int .i64 W2, .int .i64 H2, .slice a2 p2.length cap2] 24)
  have q2 := Pic.new (W := W2) (H := H2) cap2 (i2.mono (Nat.zero_le _))
  clear i2 c2 b1 b2
  go_upto_region 3 with fail
  generalize wB.alloc (.cells #[.int .i64 W2, .int .i64 H2, .slice a2 p2.length cap2] 24) = wX at hP q1 q2 hl1 hb ⊢
  obtain ⟨B, hB⟩ : ∃ B, B = ((E1 == 0) && (E2 == 0)) := ⟨_, rfl⟩
  have HB : Hid (B = ((E1 == 0) && (E2 == 0))) := hB
  clear hB
  go_cut [53] from 34 (fun s wc => s = .bool B ∧ wc = wX)
  case first =>
    by_cases h1 : E1 = 0
    · have g1 : (E1 == 0) = true := by simpa using h1
      by_cases h2 : E2 = 0
      · have g2 : (E2 == 0) = true := by simpa using h2
        clear h1 h2
        go_wp2
        go_meet
        case rel => exact ⟨by rw [HB.out, g1, g2]; rfl, rfl⟩
      · have g2 : (E2 == 0) = false := by simpa using h2
        clear h1 h2
        go_wp2
        go_meet
        case rel => exact ⟨by rw [HB.out, g1, g2]; rfl, rfl⟩
    · have g1 : (E1 == 0) = false := by simpa using h1
      clear h1
      go_wp2
      go_meet
      case rel => exact ⟨by rw [HB.out, g1]; rfl, rfl⟩
  obtain ⟨rfl, hwc⟩ := hcut
  have hwc' := hwc.symm
  subst hwc'
  clear hwc
  go_upto_if 53 with fail
  go_cut [23] from 34 (fun _ wc' => Below wX.heap.size wX wc')
  case first =>
    cases B with
    | false =>
      go_wp2
      go_meet
      case rel => exact Below.refl _ _
    | true =>
      have hh := HB.out
      have hE1 : E1 = 0 := by cases h1 : (E1 == 0) with | true => simpa using h1 | false => rw [h1] at hh; cases hh
      have hE2 : E2 = 0 := by cases h1 : (E2 == 0) with | true => simpa using h1 | false => rw [h1] at hh; simp at hh
      have f := F.out hE1 hE2
      clear HB F hh
      simp only [Res.mk.injEq] at f
      obtain ⟨⟨hE12, rfl, rfl, rfl⟩, hne, hpl, hle⟩ := f
      clear hE12
      clear hE1 hE2
      have HL : Hid (¬ ps = [] ∧ p1.length = ps.length ∧ ∀ i, i < ps.length → ps.getD i 0 ≤ p1.getD i 0) := ⟨hne, hpl, hle⟩
      clear hne hpl hle
      obtain ⟨_, k0, k1, k2, _⟩ := id q1
      obtain ⟨_, m0, m1, m2, _⟩ := id q2
      go_wp2_with fail
      refine (sameImages_any W1 H1 W1 H1 cap1 cap2 q1.ints q2.ints).mono ?_
      rintro e wD ⟨rfl, bD⟩
      clear k0 k1 k2 m0 m1 m2
      have hPd := hP.below bD
      have qd := q1.below bD
      obtain ⟨_, k0, k1, k2, ki⟩ := id hPd
      obtain ⟨_, m0, m1, m2, mi⟩ := id qd
      have hN1 : Hid (ps.length = len) := hlen
      rcases ki.cells with e | ⟨kb, koff, rfl, _, kl, kc⟩
      · exact absurd e HL.out.1
      rcases mi.cells with e | ⟨mb, moff, rfl, _, ml, mc⟩
      · exact absurd (List.length_eq_zero_iff.1 (by rw [← HL.out.2.1, e]; rfl)) HL.out.1
      have hpl2 : ps.length ≤ 9223372036854775807 := by omega
      have HC : Hid (∀ n, n < ps.length → wD.cell? ⟨kb, koff + n, none⟩ = some (.int .i64 (ps.getD n 0)) ∧ wD.cell? ⟨mb, moff + n, none⟩ = some (.int .i64 (p1.getD n 0))) := fun n hn => ⟨kc n (by omega), mc n (by rw [HL.out.2.1]; exact hn)⟩
      rw [HL.out.2.1] at m2
      rw [← hlen] at k2
      clear kc mc ki mi hlen hbig
      generalize hNN : ps.length = N at k2 m2 hpl2
      have HN : Hid (ps.length = N) := hNN
      clear hNN
      go_wp2
      go_loopw [23] (fun i wr => ∃ n : Nat, n ≤ N ∧ i = .int .i64 n ∧ Below wD.heap.size wD wr) (fun i _ => N - (intOf i).toNat)
      case atStart => exact ⟨0, Nat.zero_le _, rfl, Below.refl _ _⟩
      case round =>
        obtain ⟨n, hn, rfl, hbr⟩ := hrel
        clear k0 k1 k2 m0 m1 m2
        obtain ⟨_, k0, k1, k2, _⟩ := id (hPd.below hbr)
        obtain ⟨_, m0, m1, m2, _⟩ := id (qd.below hbr)
        rw [HL.out.2.1, HN.out] at m2
        rw [← hN1.out, HN.out] at k2
        by_cases hlt : n < N
        · have hc := HC.out n (by rw [HN.out]; exact hlt)
          have kn := (hbr.cell (p := ⟨kb, koff + n, none⟩) kl).trans hc.1
          have mn := (hbr.cell (p := ⟨mb, moff + n, none⟩) ml).trans hc.2
          have hle' := HL.out.2.2 n (by rw [HN.out]; exact hlt)
          generalize ps.getD n 0 = pn at kn hle'
          generalize p1.getD n 0 = qn at mn hle'
          have hd : decide (qn < pn) = false := decide_eq_false (by omega)
          have hd2 : ¬ qn < pn := by omega
          clear hc
          go_wp2
          go_quiet (fail)
          go_wp2
          go_roundw
          case rel => exact ⟨n + 1, by omega, by go_num, below_drewN hbr _⟩
          case measure => simp [intOf]; omega
        · go_wp2
          go_meet
          case rel => exact below_stepL bD hbr
  have hl2 := hl1.below hcut
  have hb2 := below_step hb hcut
  clear hP q1 q2 F HB hl1 hb hcut
  by_cases hN : lightsErr ls = 0 ∧ stretchB x pw = true ∧ stretchB y ph = true
  · obtain ⟨hE, hx, hy⟩ := hN
    have bx := (stretch_iff x pw).1 hx
    have by' := (stretch_iff y ph).1 hy
    obtain ⟨pn, rfl⟩ := Int.eq_ofNat_of_zero_le (show 0 ≤ pw by omega)
    obtain ⟨qn, rfl⟩ := Int.eq_ofNat_of_zero_le (show 0 ≤ ph by omega)
    obtain ⟨h8, hr⟩ := lightsErr_zero hE
    have hT := tdiv16 at' t0 t1
    have hll := hl.leng
    subst hll
    obtain ⟨i0, hi, hz0, hz1, hz2⟩ := info_parts Try.infoLight
    have hnear := near_ok lcap x y pn qn hl2 h8 hr hx hy
    have hsel : Hid _ := sel_near x y pn qn hE
    have hpl := pickL_len (nearB x y pn qn) ls ls.length
    have hmem : Hid _ := pickL_get (nearB x y pn qn) ls ls.length
    generalize pickL (nearB x y pn qn) ls ls.length = qs at hnear hsel hpl hmem
    go_wp2_with fail
    refine hnear.mono ?_
    rintro e wN ⟨an, capn, rfl, inn, bN⟩
    have hl3 := hl2.below bN
    have hb3 := below_step hb2 bN
    clear hnear hl2 hb2 bN
    go_wp2
    go_loopw [26, 27] (fun s i wr => ∃ k : Nat, k ≤ qs.length ∧ i = .int .i64 k ∧ OwnsL wN.heap.size wr s (selL ls qs k) ∧ Below wN.heap.size wN wr) (fun _ i _ => qs.length - (intOf i).toNat)
    case atStart => exact ⟨0, Nat.zero_le _, rfl, World.ownsRow_nil _ _ _ _, Below.refl _ _⟩
    case round =>
      obtain ⟨k, hk, rfl, hown, hbr⟩ := hrel
      obtain ⟨w1, e1⟩ : ∃ z, z = wr := ⟨_, rfl⟩
      subst e1
      have hsz := hbr.size
      have hsl := selL_len ls qs k hk
      by_cases hlt : k < qs.length
      · rcases inn.cells with e | ⟨nb, noff, rfl, _, hnb, hnc⟩
        · rw [e] at hlt; simp at hlt
        obtain ⟨m, hml, hm⟩ := hmem.out k hlt
        rcases hl3.cells with e | ⟨lb, loff, rfl, hlb, hlc⟩
        · rw [e] at hml; simp at hml
        have hn := (hbr.cell (p := ⟨nb, noff + k, none⟩) hnb).trans (hnc k hlt)
        rw [hm] at hn
        obtain ⟨d0, d1, d2, d3⟩ := hlc m hml
        replace d0 := (hbr.cell (p := ⟨lb, loff + m * 4, none⟩) hlb).trans d0
        replace d1 := (hbr.cell (p := ⟨lb, loff + m * 4 + 1, none⟩) hlb).trans d1
        replace d2 := (hbr.cell (p := ⟨lb, loff + m * 4 + 2, none⟩) hlb).trans d2
        replace d3 := (hbr.cell (p := ⟨lb, loff + m * 4 + 3, none⟩) hlb).trans d3
        have HS : Hid (selL ls qs (k + 1) = selL ls qs k ++ [ls.getD m Lt.zero]) := by show _ = _; rw [selL_succ ls qs k hlt, hm]; rfl
        generalize ls.getD m Lt.zero = l at d0 d1 d2 d3 HS
        obtain ⟨X, Y, R, P⟩ := l
        dsimp only at d0 d1 d2 d3
        clear hnc hlc hm hr
        go_wp2_with (at_builtin; refine wpList_append_own _ rfl _ _ 45 rfl wN.heap.size 59 i0 _ 4 32 Try.underlying45 hi hz0 hz1 hz2 rfl (by decide) _ _ _ rfl (World.ownsRow.alloc hown _) ⟨w1.heap.size, 0, none⟩ 1 1 [.int .i64 X, .int .i64 Y, .int .i64 R, .int .i64 P] rfl rfl (cell_four_new _ _ _ _ _ _) (by intro u hu; simp at hu; rcases hu with rfl | rfl | rfl | rfl <;> rfl) (by unfold maxLen; omega) (by omega) (by simp; omega) ?_; intro v' w9 hown9 hgrow9 _)
        have RR := OwnsL.push (l := ⟨X, Y, R, P⟩) hown hbr hsz hown9 rfl hgrow9
        go_roundw
        case rel => exact ⟨k + 1, by omega, by go_num, by rw [HS.out]; exact RR.1, RR.2⟩
        case measure => simp [intOf]; omega
      · have hke : k = qs.length := by omega
        subst hke
        obtain ⟨sa, scap, rfl, hls⟩ := hown.lights (by omega)
        rw [hsl] at hls
        rw [hsl]
        generalize selL ls qs qs.length = sel at hsel hls
        have hlr := hl3.below hbr
        have hbR := below_step hb3 hbr
        clear hmem hown inn hl3 hbr hb3
        have hpw : (if (1 : Int) < pn then (pn : Int) else 1) = pn := by split <;> omega
        have hpq : (if (1 : Int) < qn then (qn : Int) else 1) = qn := by split <;> omega
        go_wp2_with fail
        have hc1 := choose_all at' pn w1 t0 t1 bx.2.1
        have hr1 := chooseV_bd at' pn bx.2.1
        generalize chooseV at' pn = r at hc1 hr1
        obtain ⟨rn, rfl⟩ := Int.eq_ofNat_of_zero_le hr1.1
        refine hc1.mono ?_
        rintro e w2 ⟨rfl, rfl⟩
        clear hc1
        have hrn : rn < pn := by omega
        have hxr : 0 ≤ x + (rn : Int) ∧ x + (rn : Int) < 16 := by omega
        have hwx : IntKind.i64.wrap (x + (rn : Int)) = x + (rn : Int) := by rw [IntKind.wrap_i64]; omega
        go_wp2_with fail
        have hc2 := choose_all (at'.tdiv 16) qn w1 hT.1 hT.2 by'.2.1
        have hr2 := chooseV_bd (at'.tdiv 16) qn by'.2.1
        generalize chooseV (at'.tdiv 16) qn = s at hc2 hr2
        obtain ⟨sn, rfl⟩ := Int.eq_ofNat_of_zero_le hr2.1
        refine hc2.mono ?_
        rintro e w3 ⟨rfl, rfl⟩
        clear hc2
        have hsn : sn < qn := by omega
        have hys : 0 ≤ y + (sn : Int) ∧ y + (sn : Int) < 16 := by omega
        have hwy : IntKind.i64.wrap (y + (sn : Int)) = y + (sn : Int) := by rw [IntKind.wrap_i64]; omega
        obtain ⟨hse, hss⟩ := hsel.out
        have hs1 := hss rn sn hrn hsn
        have e1 := at_place hE hxr hys
        have e2 := at_place hse hxr hys
        have hat1 := fun wx (hx : Lights wx la ls.length ls) => atL_any lcap (x + rn) (y + sn) hx
        have hat2 := fun wx (hx : Lights wx sa qs.length sel) => atL_any scap (x + rn) (y + sn) hx
        rw [e1.1, e1.2] at hat1
        rw [e2.1, e2.2, hs1] at hat2
        generalize sumG (x + rn) (y + sn) ls = V at hat1 hat2
        clear e1 e2 hs1 hss hsel hse
        go_wp2_with fail
        refine (hat1 _ hlr).mono ?_
        rintro e w4 ⟨rfl, b4⟩
        replace hls := hls.below b4
        replace hbR := below_step hbR b4
        clear hat1 hlr b4
        go_wp2_with fail
        refine (hat2 _ hls).mono ?_
        rintro e w5 ⟨rfl, b5⟩
        replace hbR := below_step hbR b5
        clear hat2 hls b5
        go_wp2_with fail
        refine (lightBegun_any _).mono ?_
        rintro e wY ⟨rfl, bY⟩
        have hVV : (V == V) = true := by simp
        go_wp2
        go_ret
        exact ⟨rfl, below_step hbR bY⟩
  · obtain ⟨EN, hEN, hnear⟩ := near_bad lcap x y pw ph hl2 hN
    go_wp2_with fail
    refine hnear.mono ?_
    rintro e wN ⟨rfl, bN⟩
    go_wp2_with fail
    refine (lightBegun_any _).mono ?_
    rintro e wY ⟨rfl, bY⟩
    go_wp2
    go_ret
    exact ⟨rfl, below_step (below_step hb2 bN) bY⟩
end Go.Proofs.Ytfpkiimlaepnhaa
