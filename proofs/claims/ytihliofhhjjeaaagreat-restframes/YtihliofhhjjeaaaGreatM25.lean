/- PlanErrRef, ExecH, ExecI, ExecJ, LawExec, LawExec2, SpansOwn: joined, in this order. -/
import Derived.Test.YtihliofhhjjeaaaGreatM24
import Derived.Test.YtihliofhhjjeaaaGreatM23
import Derived.Test.YtihliofhhjjeaaaGreatM12
import Derived.Test.YtihliofhhjjeaaaGreatM21
import Derived.Test.YtihliofhhjjeaaaGreatM02
set_option maxRecDepth 100000
namespace Go.Proofs.YtihliofhhjjeaaaGreat
open Go.RowKit Im Go.Maps
theorem ref_ord {f : Fr} (hE : frameE f = 0) (os pl : List Int) : refB (gpOf f) os pl = ordB (gpOf f) os pl := (ord_ref (gp_right hE) os pl).symm
theorem planE_if {f : Fr} (hE : frameE f = 0) (os pl : List Int) : planE f os pl = if ordB (gpOf f) os pl = true then 0 else 1 := by unfold planE; rw [if_pos hE]
theorem two_boxes (w : World) (W H S O : Int) (a : Option Addr) (len cap : Nat) (v0 v1 : Value) : Below w.heap.size w ((w.alloc (.cells #[.int .i64 W, .int .i64 H, .int .i64 S, .int .i64 O, .slice a len cap] 24)).alloc (.cells #[v0, v1] 27)) ∧ FBox ((w.alloc (.cells #[.int .i64 W, .int .i64 H, .int .i64 S, .int .i64 O, .slice a len cap] 24)).alloc (.cells #[v0, v1] 27)) w.heap.size W H S O a len cap ∧ PlBox ((w.alloc (.cells #[.int .i64 W, .int .i64 H, .int .i64 S, .int .i64 O, .slice a len cap] 24)).alloc (.cells #[v0, v1] 27)) (w.heap.size + 1) v0 v1 := by
  refine ⟨below_box (below_box (Below.refl _ _) _) _, (FBox.new w W H S O a len cap).alloc _, ?_⟩
  have hP0 := PlBox.new (w.alloc (.cells #[.int .i64 W, .int .i64 H, .int .i64 S, .int .i64 O, .slice a len cap] 24)) v0 v1 27
  rwa [World.size_alloc] at hP0
set_option maxHeartbeats 4000000 in
theorem checkPlan_any (W H S O : Int) (a : Option Addr) (len cap : Nat) (ps : List Ps) (w : World) (hp : Passes w a len ps) (oa : Option Addr) (olen ocap : Nat) (pa : Option Addr) (plen pcap : Nat) (os pl : List Int) (hO : Ints 0 w oa olen os) (hL : Ints 0 w pa plen pl) (room : Int) :
    Calls Tryz.prog 37 #[.agg #[.int .i64 W, .int .i64 H, .int .i64 S, .int .i64 O, .slice a len cap], .agg #[.slice oa olen ocap, .slice pa plen pcap], .int .i64 room] w fun e w' => e = .returned (.int .i64 (checkP ⟨W, H, S, O, ps⟩ os pl room)) ∧ Below w.heap.size w w' := by
  obtain ⟨hb0, hF0, hP0⟩ := two_boxes w W H S O a len cap (.slice oa olen ocap) (.slice pa plen pcap)
  have hcf := checkFrame_any W H S O a len cap ps _ (hp.below hb0)
  have hwi := fun wx => within_any room 0 4096 wx
  by_cases hE : frameE ⟨W, H, S, O, ps⟩ = 0
  · have hio := fun wx (h : Below w.heap.size w wx) => inOrder_any W H S O a len cap ps wx (hp.below h) oa olen ocap pa plen pcap os pl (hO.below (Nat.le_refl _) h) (hL.below (Nat.le_refl _) h) hE
    rw [ref_ord hE] at hio
    go_enter Tryz.func37, Tryz.ntmps37
    go_wp2_with fail
    refine hcf.mono ?_
    clear hcf
    rintro e w1 ⟨⟨vz, rfl, hZ⟩, b1⟩
    rw [hE]
    rw [hE, if_pos rfl] at hZ
    obtain ⟨za, zc, rfl⟩ := owns_slice hZ
    have hF1 := hF0.below b1
    have hP1 := hP0.below b1
    have hb1 := below_step hb0 b1
    obtain ⟨_, g0, g1, g2, g3, g4⟩ := id hF1
    obtain ⟨_, h0, h1⟩ := id hP1
    have hio1 := hio _ hb1
    clear hZ hio
    by_cases hr : 0 ≤ room ∧ room ≤ 4096
    · have e1 : withinB room 0 4096 = true := by unfold withinB; rw [decide_eq_true hr.1, decide_eq_true hr.2]; rfl
      rw [e1] at hwi
      by_cases ho : ordB (gpOf ⟨W, H, S, O, ps⟩) os pl = true
      · have hpe : planE ⟨W, H, S, O, ps⟩ os pl = 0 := by rw [planE_if hE, if_pos ho]
        have hOrd := ord_iff.1 ho
        have hfi := fun wx (h : Below w.heap.size w wx) => fitsRef_any W H S O a len cap ps wx (hp.below h) oa olen ocap pa plen pcap os pl (hO.below (Nat.le_refl _) h) (hL.below (Nat.le_refl _) h) hE hOrd room hr
        have hfr := fits_ref hOrd (spanP (gpOf ⟨W, H, S, O, ps⟩) os) hr.1
        have HC : Hid (_) := check_fits (os := os) (pl := pl) hr hpe
        rw [ho] at hio1
        have HFR : Hid (fitsR (gpOf ⟨W, H, S, O, ps⟩).ar pl (spanP (gpOf ⟨W, H, S, O, ps⟩) os) room ps.length = true ↔ peakT os (lieP (gpOf ⟨W, H, S, O, ps⟩) os pl) os.length ≤ room ∧ clearP ⟨W, H, S, O, ps⟩ os pl = true) := hfr
        generalize fitsR (gpOf ⟨W, H, S, O, ps⟩).ar pl (spanP (gpOf ⟨W, H, S, O, ps⟩) os) room ps.length = fb at hfi HFR
        clear hfr hOrd ho hpe hE e1
        cases fb with
        | true =>
          go_wp2_with (first
            | (go_at_call 42; refine (hwi _).mono ?_; rintro e w2 ⟨rfl, rfl⟩)
            | (go_at_call 73; refine hio1.mono ?_; rintro e w2 ⟨rfl, b2⟩; obtain ⟨_, p0, p1, p2, p3, p4⟩ := hF1.below b2; obtain ⟨_, q0, q1⟩ := hP1.below b2; have hb2 := below_step hb1 b2)
            | (go_at_call 74; refine (hfi _ hb2).mono ?_; rintro e w3 ⟨rfl, b3⟩))
          go_ret
          exact ⟨by rw [HC.out, if_pos (HFR.out.1 (by trivial))]; rfl, below_step hb2 b3⟩
        | false =>
          go_wp2_with (first
            | (go_at_call 42; refine (hwi _).mono ?_; rintro e w2 ⟨rfl, rfl⟩)
            | (go_at_call 73; refine hio1.mono ?_; rintro e w2 ⟨rfl, b2⟩; obtain ⟨_, p0, p1, p2, p3, p4⟩ := hF1.below b2; obtain ⟨_, q0, q1⟩ := hP1.below b2; have hb2 := below_step hb1 b2)
            | (go_at_call 74; refine (hfi _ hb2).mono ?_; rintro e w3 ⟨rfl, b3⟩))
          go_ret
          exact ⟨by rw [HC.out, if_neg (fun h => by have := HFR.out.2 h; revert this; decide)]; rfl, below_step hb2 b3⟩
      · have hpe : planE ⟨W, H, S, O, ps⟩ os pl = 1 := by rw [planE_if hE, if_neg ho]
        have HC : Hid (checkP ⟨W, H, S, O, ps⟩ os pl room = 1) := by show _ = _; rw [check_form hE hr (by rw [hpe]; decide), hpe]
        rw [eq_false_of_ne_true ho] at hio1
        clear ho hpe hE e1
        go_wp2_with (first
          | (go_at_call 42; refine (hwi _).mono ?_; rintro e w2 ⟨rfl, rfl⟩)
          | (go_at_call 73; refine hio1.mono ?_; rintro e w2 ⟨rfl, b2⟩))
        go_ret
        exact ⟨by rw [HC.out]; rfl, below_step hb1 b2⟩
    · have e1 : withinB room 0 4096 = false := by
        unfold withinB
        by_cases h : 0 ≤ room
        · rw [decide_eq_true h, decide_eq_false (fun h' => hr ⟨h, h'⟩)]; rfl
        · rw [decide_eq_false h]; rfl
      rw [e1] at hwi
      have HC : Hid (_) := check_room (os := os) (pl := pl) hE hr
      clear hE e1 hr
      go_wp2_with (go_at_call 42; refine (hwi _).mono ?_; rintro e w2 ⟨rfl, rfl⟩)
      go_ret
      exact ⟨by rw [HC.out]; rfl, hb1⟩
  · have HC : Hid (_) := check_none (os := os) (pl := pl) (room := room) hE
    go_enter Tryz.func37, Tryz.ntmps37
    go_wp2_with fail
    refine hcf.mono ?_
    clear hcf
    rintro e w1 ⟨⟨vz, rfl, hZ⟩, b1⟩
    rw [if_neg hE] at hZ
    obtain ⟨za, zc, rfl⟩ := owns_slice hZ
    clear hZ
    generalize frameE ⟨W, H, S, O, ps⟩ = E at *
    go_wp2
    go_ret
    exact ⟨by rw [HC.out]; rfl, below_step hb0 b1⟩
end Go.Proofs.YtihliofhhjjeaaaGreat
namespace Go.Proofs.YtihliofhhjjeaaaGreat
open Go.RowKit Im
set_option maxHeartbeats 4000000 in
theorem arenaFine_any (aa : Option Addr) (alen ac : Nat) {A : List Int} {w : World} {b2 : Nat} (hA : Ints b2 w aa alen A) :
    Calls Tryz.prog 38 #[.slice aa alen ac] w fun e w' => e = .returned (.bool (fineA A)) ∧ w = w' := by
  obtain rfl := hA.leng
  have hbig := hA.big
  go_enter Tryz.func38, Tryz.ntmps38
  go_wp2
  go_loopw [2, 3] (fun s2 i wr => ∃ j : Nat, j ≤ A.length ∧ s2 = .bool false ∧ i = .int .i64 j ∧ (A.take j).all numB = true ∧ wr = w) (fun _ i _ => A.length - (intOf i).toNat)
  case atStart => exact ⟨0, Nat.zero_le _, rfl, rfl, by simp, rfl⟩
  case round =>
    obtain ⟨j, hj, rfl, rfl, hall, rfl⟩ := hrel
    have HALL : Hid (_) := hall
    clear hall
    by_cases hjl : j < A.length
    · have hjI : (j : Int) < (A.length : Int) := by omega
      have hjI0 : (0 : Int) ≤ (j : Int) := by omega
      obtain ⟨ab, ao, rfl, hc⟩ := hA.nth hjl
      have HN : Hid (numB (A[j]?.getD 0) = true → (A.take (j + 1)).all numB = true) := fun h => all_succ A j hjl HALL.out h
      have HNN : Hid (numB (A[j]?.getD 0) = false → fineA A = false) := fun h => all_not A j hjl h
      have eg : A.getD j 0 = A[j]?.getD 0 := List.getD_eq_getElem?_getD
      rw [eg] at hc
      generalize A[j]?.getD 0 = n at *
      have hwi := within_any n 0 65535 wr
      rw [within_num] at hwi
      cases hnb : numB n with
      | true =>
        rw [hnb] at hwi
        have HA2 : Hid (_) := HN.out hnb
        clear hnb
        go_wp2_with fail
        refine hwi.mono ?_
        rintro e w2 ⟨rfl, rfl⟩
        go_wp2
        go_roundw
        case rel => exact ⟨j + 1, by omega, rfl, by go_num, HA2.out, trivial⟩
        case measure => simp [intOf]; omega
      | false =>
        rw [hnb] at hwi
        have HF : Hid (_) := HNN.out hnb
        clear hnb
        go_wp2_with fail
        refine hwi.mono ?_
        rintro e w2 ⟨rfl, rfl⟩
        go_wp2
        go_ret
        exact ⟨by rw [HF.out]; rfl, rfl⟩
    · have hje : j = A.length := by omega
      subst hje
      have HF : Hid (fineA A = true) := by
        have := HALL.out
        rw [List.take_length] at this
        exact this
      have hkI : ¬ (A.length : Int) < (A.length : Int) := by omega
      go_wp2
      go_ret
      exact ⟨by rw [HF.out]; rfl, rfl⟩
set_option maxHeartbeats 4000000 in
theorem execError_any (W H S O : Int) (a : Option Addr) (len cap : Nat) (ps : List Ps) (w : World) (hp : Passes w a len ps) (oa : Option Addr) (olen ocap : Nat) (pa : Option Addr) (plen pcap : Nat) (os pl : List Int) (hO : Ints 0 w oa olen os) (hL : Ints 0 w pa plen pl) (aa : Option Addr) (alen ac : Nat) (A : List Int) (hA : Ints 0 w aa alen A) :
    Calls Tryz.prog 12 #[.agg #[.int .i64 W, .int .i64 H, .int .i64 S, .int .i64 O, .slice a len cap], .agg #[.slice oa olen ocap, .slice pa plen pcap], .slice aa alen ac] w fun e w' => e = .returned (.int .i64 (execE ⟨W, H, S, O, ps⟩ os pl A)) ∧ Below w.heap.size w w' := by
  obtain rfl := hA.leng
  obtain ⟨hb0, hF0, hP0⟩ := two_boxes w W H S O a len cap (.slice oa olen ocap) (.slice pa plen pcap)
  have hck := checkPlan_any W H S O a len cap ps _ (hp.below hb0) oa olen ocap pa plen pcap os pl (hO.below (Nat.le_refl _) hb0) (hL.below (Nat.le_refl _) hb0) A.length
  go_enter Tryz.func12, Tryz.ntmps12
  obtain ⟨_, g0, g1, g2, g3, g4⟩ := id hF0
  obtain ⟨_, e0, e1⟩ := id hP0
  go_wp2_with fail
  generalize (w.alloc (.cells #[.int .i64 W, .int .i64 H, .int .i64 S, .int .i64 O, .slice a len cap] 24)).alloc (.cells #[.slice oa olen ocap, .slice pa plen pcap] 27) = w1 at *
  refine hck.mono ?_
  clear hck g0 g1 g2 g3 g4 e0 e1
  rintro e w2 ⟨rfl, b2⟩
  have hb2 := below_step hb0 b2
  by_cases hC : checkP ⟨W, H, S, O, ps⟩ os pl A.length = 0
  · have haf := arenaFine_any aa A.length ac (hA.below (Nat.le_refl _) hb2)
    have HX0 : Hid (fineA A = true → execE ⟨W, H, S, O, ps⟩ os pl A = 0) := fun h => execE_ok hC h
    have HX3 : Hid (fineA A = false → execE ⟨W, H, S, O, ps⟩ os pl A = 3) := fun h => execE_bad hC (by rw [h]; decide)
    rw [hC]
    clear hC
    go_wp2_with fail
    refine haf.mono ?_
    clear haf
    rintro e w3 ⟨rfl, rfl⟩
    cases hf : fineA A with
    | true =>
      have HE : Hid (_) := HX0.out hf
      clear hf HX0 HX3
      go_wp2
      go_ret
      exact ⟨by rw [HE.out]; rfl, hb2⟩
    | false =>
      have HE : Hid (_) := HX3.out hf
      clear hf HX0 HX3
      go_wp2
      go_ret
      exact ⟨by rw [HE.out]; rfl, hb2⟩
  · have HE : Hid (_) := execE_no hC
    generalize checkP ⟨W, H, S, O, ps⟩ os pl A.length = E at *
    go_wp2
    go_ret
    exact ⟨by rw [HE.out]; rfl, hb2⟩
end Go.Proofs.YtihliofhhjjeaaaGreat
namespace Go.Proofs.YtihliofhhjjeaaaGreat
open Go.RowKit Im
theorem lies_lies {f : Fr} {os pl A : List Int} (hF : FitA f os pl A) (aa : Option Addr) (ac : Nat) {w : World} {b2 : Nat} (hA : Ints b2 w aa A.length A) (hac : A.length ≤ ac) {q : Nat} (hq : q < f.ps.length) (hm : (q : Int) ∈ os) :
    Calls Tryz.prog 40 #[.slice aa A.length ac, .agg #[.int .i64 (zOf f q).1, .int .i64 (zOf f q).2], .int .i64 (pl.getD q 0)] w (ToldM w (liesR f pl A q)) := by
  obtain ⟨h1, h2, h3, h4⟩ := hF.place hq hm
  obtain ⟨p, hp⟩ := Int.eq_ofNat_of_zero_le h1.1
  obtain ⟨zw, hzw⟩ := Int.eq_ofNat_of_zero_le (show 0 ≤ (zOf f q).1 by omega)
  obtain ⟨zh, hzh⟩ := Int.eq_ofNat_of_zero_le (show 0 ≤ (zOf f q).2 by omega)
  have har : areaZ (zOf f q) = ((zw * zh : Nat) : Int) := by unfold areaZ; rw [hzw, hzh, Int.natCast_mul]
  have e : liesR f pl A q = ⟨0, (zw : Int), (zh : Int), getA A p (zw * zh)⟩ := by
    unfold liesR
    simp only [Int.toNat_natCast]
    rw [har, hp, hzw, hzh, Int.toNat_natCast, Int.toNat_natCast]
  rw [e, hp, hzw, hzh]
  exact lies_any aa A.length ac hA hac hF.len rfl (by omega) (by omega)
theorem size_make {f : Fr} {k : Nat} (hk : k < f.ps.length) (h : (f.ps.getD k Ps.zero).Op = 1 ∨ (f.ps.getD k Ps.zero).Op = 2) : zOf f k = (f.W, f.H) := by
  rw [szs_at' f hk]
  unfold sizeN sizeP
  rw [if_pos h]
theorem field_image (x y : Int) (sa : Option Addr) (sn sc : Nat) (wx : World) : (Instr.field 31 (.agg #[.int .i64 x, .int .i64 y, .slice sa sn sc]) 2).run Tryz.prog wx = .ok (.slice sa sn sc) wx := by kernel_rfl
set_option maxHeartbeats 16000000 in
theorem stepOfRef_any (W H S O : Int) (a : Option Addr) (len cap : Nat) (ps : List Ps) (w : World) (hp : Passes w a len ps) (oa : Option Addr) (olen ocap : Nat) (pa : Option Addr) (plen pcap : Nat) (os pl : List Int) (hO : Ints 0 w oa olen os) (hL : Ints 0 w pa plen pl) (aa : Option Addr) (ac : Nat) (A : List Int) (hA : Ints 0 w aa A.length A) (hac : A.length ≤ ac) (hF : FitA ⟨W, H, S, O, ps⟩ os pl A) {n : Nat} (hn : n < os.length) :
    Calls Tryz.prog 39 #[.agg #[.int .i64 W, .int .i64 H, .int .i64 S, .int .i64 O, .slice a len cap], .agg #[.slice oa olen ocap, .slice pa plen pcap], .slice aa A.length ac, .int .i64 n] w (ToldOw w (stepA ⟨W, H, S, O, ps⟩ pl A (os.getD n 0).toNat)) := by
  obtain rfl := hO.leng
  obtain rfl := hp.leng
  have hpl : plen = ps.length := by rw [← hL.leng]; exact hF.ord.len
  subst hpl
  obtain ⟨i0, hi, hz0, hz1, hz2⟩ := info_parts Tryz.infoImage
  obtain ⟨j0, hj, hy0, hy1, hy2⟩ := info_parts Tryz.info3
  obtain ⟨k, ek, hk, hm⟩ := os_at hF hn
  rw [ek, Int.toNat_natCast]
  have hk' : k < ps.length := hk
  have hE := hF.E
  have h12 : ps.length ≤ 12 := by
    obtain ⟨hb, _, _⟩ := frameE_zero hE
    exact (boundsE_zero hb).2.2.2.2.2
  obtain ⟨hb0, hF0, hP0⟩ := two_boxes w W H S O a ps.length cap (.slice oa os.length ocap) (.slice pa ps.length pcap)
  have hck := checkFrame_any W H S O a ps.length cap ps _ (hp.below hb0)
  have hs2 := src_two ps k
  have hsrc : ∀ s ∈ srcOf ps k, ∃ n : Nat, s = n ∧ n < k ∧ (n : Int) ∈ os := hF.src hk hm
  have hs0 : w.heap.size + 2 ≤ ((w.alloc (.cells #[.int .i64 W, .int .i64 H, .int .i64 S, .int .i64 O, .slice a ps.length cap] 24)).alloc (.cells #[.slice oa os.length ocap, .slice pa ps.length pcap] 27)).heap.size := by simp
  go_enter Tryz.func39, Tryz.ntmps39
  obtain ⟨_, g0, g1, g2, g3, g4⟩ := id hF0
  go_wp2_with fail
  generalize (w.alloc (.cells #[.int .i64 W, .int .i64 H, .int .i64 S, .int .i64 O, .slice a ps.length cap] 24)).alloc (.cells #[.slice oa os.length ocap, .slice pa ps.length pcap] 27) = w1 at *
  refine hck.mono ?_
  clear hck g0 g1 g2 g3 g4
  rintro e w2 ⟨⟨vz, rfl, hZ2⟩, b2⟩
  rw [if_pos hE] at hZ2
  have hb2 := below_step hb0 b2
  obtain ⟨za, zc, rfl, hZs⟩ := hZ2.zs (by rw [szs_length]; exact h12)
  rw [szs_length] at hZs ⊢
  have hsr := sourcesOfRef_any W H S O a ps.length cap ps w2 (hp.below hb2) h12
  obtain ⟨ob, oo, rfl, hoc⟩ := (hO.below (Nat.le_refl _) hb2).nth hn
  rw [ek] at hoc
  have hnI : (n : Int) < (os.length : Int) := by omega
  have hn0 : (0 : Int) ≤ (n : Int) := by omega
  have hkI : (k : Int) < (ps.length : Int) := by omega
  have hk0 : (0 : Int) ≤ (k : Int) := by omega
  have e0 := (hP0.below b2).c0
  obtain ⟨_, g0, g1, g2, g3, g4⟩ := hF0.below b2
  clear hZ2
  go_wp2_with fail
  refine hsr.mono ?_
  clear hsr g0 g1 g2 g3 g4 e0 hoc
  rintro e w3 ⟨⟨vs, rfl, hS3⟩, b3⟩
  obtain ⟨sa, sc, rfl, hLs⟩ := hS3.lls (fun x hx => by
    unfold srcs at hx
    rw [List.mem_map] at hx
    obtain ⟨q, _, rfl⟩ := hx
    exact src_two ps q)
  rw [srcs_length] at hLs ⊢
  obtain ⟨sb, so, ua, uc, rfl, hsb, u0, hU⟩ := hLs.nth hk'
  rw [srcs_at ps hk'] at u0 hU
  have hb3 := below_step hb2 b3
  have hZ3 := hZs.below b3
  have hF3 := (hF0.below b2).below b3
  have hP3 := (hP0.below b2).below b3
  have HLS : Hid (stepR ⟨W, H, S, O, ps⟩ pl A k = paintRes (ps.getD k Ps.zero) (zOf ⟨W, H, S, O, ps⟩ k) ((srcOf ps k).map (liesR ⟨W, H, S, O, ps⟩ pl A))) := rfl
  have HTK : Hid ((srcOf ps k).length = (takesP (ps.getD k Ps.zero)).length) := by show _ = _; simp [srcOf]
  generalize srcOf ps k = sr at *
  have HLI : Hid (∀ wx, Below w3.heap.size w3 wx → ∀ q : Nat, q < ps.length → (q : Int) ∈ os → Calls Tryz.prog 40 #[.slice aa A.length ac, .agg #[.int .i64 (zOf ⟨W, H, S, O, ps⟩ q).1, .int .i64 (zOf ⟨W, H, S, O, ps⟩ q).2], .int .i64 (pl.getD q 0)] wx (ToldM wx (liesR ⟨W, H, S, O, ps⟩ pl A q))) := fun wx hb q hq hqm => lies_lies hF aa ac (hA.below (Nat.le_refl _) (below_step hb3 hb)) hac hq hqm
  have hL3 := hL.below (Nat.le_refl _) hb3
  go_wp2_with fail
  clear hLs u0 hZs
  go_loopw [13, 14] (fun v i wr => ∃ (j : Nat) (M : Lr), j ≤ sr.length ∧ i = .int .i64 j ∧ RowI w3.heap.size wr v M ∧ M.map Prod.fst = (sr.take j).map (liesR ⟨W, H, S, O, ps⟩ pl A) ∧ Below w3.heap.size w3 wr) (fun _ i _ => sr.length - (intOf i).toNat)
  case atStart => exact ⟨0, [], Nat.zero_le _, rfl, RowI.nil _ _, rfl, Below.refl _ _⟩
  case round =>
    obtain ⟨j, M, hj', rfl, hR, hmap, hbr⟩ := hrel
    have hMl : M.length = j := by
      have := congrArg List.length hmap
      simp at this
      omega
    have HML : Hid (_) := hMl
    have HM : Hid (_) := hmap
    clear hmap hMl
    obtain ⟨va, vc, rfl⟩ := owns_slice hR.1
    by_cases hjl : j < sr.length
    · have hjI : (j : Int) < (sr.length : Int) := by omega
      have hjI0 : (0 : Int) ≤ (j : Int) := by omega
      obtain ⟨ub, uo, rfl, hcx⟩ := hU.nth hjl
      obtain ⟨q, e1, e2, e3⟩ := hsrc _ (getD_mem hjl 0)
      have HS : Hid ((sr.take (j + 1)).map (liesR ⟨W, H, S, O, ps⟩ pl A) = (sr.take j).map (liesR ⟨W, H, S, O, ps⟩ pl A) ++ [liesR ⟨W, H, S, O, ps⟩ pl A q]) := by
        show _ = _
        rw [List.take_succ_eq_append_getElem hjl, List.map_append]
        have : sr[j] = (q : Int) := by rw [← e1, List.getD_eq_getElem?_getD, List.getElem?_eq_getElem hjl]; rfl
        rw [this]; rfl
      rw [e1] at hcx
      have hqN : q < ps.length := by omega
      have hqI : (q : Int) < (ps.length : Int) := by omega
      have hqI0 : (0 : Int) ≤ (q : Int) := by omega
      obtain ⟨zb, zo, rfl, hzb, z0, z1⟩ := hZ3.nth hqN
      obtain ⟨rb, ro, rfl, hr0⟩ := hL3.nth hqN
      have ezz : (szs ⟨W, H, S, O, ps⟩ ps.length).getD q Sz.zero = zOf ⟨W, H, S, O, ps⟩ q := rfl
      rw [ezz] at z0 z1
      have hli := fun wx (h : Below wr.heap.size wr wx) => HLI.out wx (below_step hbr h) q hqN e3
      generalize (zOf ⟨W, H, S, O, ps⟩ q).1 = zw at *
      generalize (zOf ⟨W, H, S, O, ps⟩ q).2 = zh at *
      generalize pl.getD q 0 = pq at *
      generalize liesR ⟨W, H, S, O, ps⟩ pl A q = r at hli HS
      have e1' := hP3.c1
      have hPl := hP3.lt
      have hub : ub < w3.heap.size := World.block_lt_of_cell? _ _ hcx
      have hrb : rb < w3.heap.size := World.block_lt_of_cell? _ _ hr0
      have hd := (Below.refl wr.heap.size wr).drew
      have held : ∀ wx, Below w3.heap.size w3 wx → wx.cell? ⟨w.heap.size + 1, 1, none⟩ = some (.slice (some ⟨rb, ro, none⟩) ps.length pcap) ∧ wx.cell? ⟨ub, uo + j, none⟩ = some (.int .i64 q) ∧ wx.cell? ⟨zb, zo + q * 2, none⟩ = some (.int .i64 zw) ∧ wx.cell? ⟨zb, zo + q * 2 + 1, none⟩ = some (.int .i64 zh) ∧ wx.cell? ⟨rb, ro + q, none⟩ = some (.int .i64 pq) := fun wx h =>
        ⟨(h.cell (p := ⟨w.heap.size + 1, 1, none⟩) hPl).trans e1', (h.cell (p := ⟨ub, uo + j, none⟩) hub).trans hcx, (h.cell (p := ⟨zb, zo + q * 2, none⟩) hzb).trans z0, (h.cell (p := ⟨zb, zo + q * 2 + 1, none⟩) hzb).trans z1, (h.cell (p := ⟨rb, ro + q, none⟩) hrb).trans hr0⟩
      have hd3 : Below w3.heap.size w3 wr.drew := hbr.drew
      have HROW : Hid (RowI w3.heap.size wr (.slice va M.length vc) M) := hR
      have hsr3 := hbr.size
      clear hR e1 hsrc HTK HLI e1' hcx z0 z1 hr0 hU hZ3 hL3 hF hE
      go_upto_region 8 with fail
      go_region_held3 (fun wx => wx.cell? ⟨w.heap.size + 1, 1, none⟩ = some (.slice (some ⟨rb, ro, none⟩) ps.length pcap) ∧ wx.cell? ⟨ub, uo + j, none⟩ = some (.int .i64 q) ∧ wx.cell? ⟨zb, zo + q * 2, none⟩ = some (.int .i64 zw) ∧ wx.cell? ⟨zb, zo + q * 2 + 1, none⟩ = some (.int .i64 zh) ∧ wx.cell? ⟨rb, ro + q, none⟩ = some (.int .i64 pq))
        (first | exact held _ hd3 | exact held _ b53 | exact held _ (b53.alloc b53.size _) | exact held _ bX | exact held _ hbr)
        (first
          | (go_at_call 40; refine (hli _ hd).mono ?_; rintro e w5 ⟨ia, ic, rfl, hii, b5'⟩; have b5 := below_step hd b5'; have b53 : Below w3.heap.size w3 w5 := hbr.trans (b5.mono hsr3); have hrow5 := HROW.out.below b5; have hrl5 := hrow5.lt)
          | ((refine step_append_lies _ (by rfl) _ _ _ (by rfl) w3.heap.size 31 i0 _ 3 40 Tryz.underlying85 hi hz0 hz1 hz2 rfl (by omega) (.slice va M.length vc) M.length (rcells M) (by rfl) (World.ownsRow.alloc hrow5.1 _) ⟨w5.heap.size, 0, none⟩ 1 1 [.int .i64 r.W, .int .i64 r.H, .slice ia r.ps.length ic] (by rfl) rfl (cell_three_new _ _ _ _ _) (by intro u hu; simp at hu; rcases hu with rfl | rfl | rfl <;> rfl) (by omega) (by rw [HML.out]; unfold maxLen; omega) (by rw [HML.out]; omega) (by have := b5.size; simp; omega) (w5.heap.size + 1) (by simp) ?_; intro gN cap9 w9 hown9 hgrow9 hat9 hlt9; have bX : Below w3.heap.size w3 w9 := (b53.alloc b53.size _).grown hgrow9 (by have := b53.size; simp; omega) (fun j hj => (hrl5 j hj).1))))
      all_goals
        have hpx5 := Px.of (base := w3.heap.size) (v := .slice va M.length vc) (c := ic) hii hsr3 (fun j hj => (HROW.out.lt j hj).2)
        have bA := (Below.refl w5.heap.size w5).alloc (Nat.le_refl _) (.cells #[.int .i64 r.W, .int .i64 r.H, .slice ia r.ps.length ic] 31)
        have RR := (hrow5.below bA).push (x := (r, ia, ic)) (hpx5.below bA) hown9 hgrow9 (by
          rcases hat9 with h | h
          · exact .inl h.symm
          · right; rw [h]; simp [Value.ownBlock])
        have HRR : Hid (RowI w3.heap.size w9 (.slice (some ⟨gN, 0, none⟩) (M.length + 1) cap9) (M ++ [(r, ia, ic)])) := RR
        clear RR hown9 hgrow9 hat9 hrow5 hpx5 hii bA b5 b53 b5' HROW held
        go_wp2
        go_roundw
        case rel => exact ⟨j + 1, M ++ [(r, ia, ic)], by omega, by go_num, HRR.out, by rw [HS.out, List.map_append, HM.out]; rfl, bX⟩
        case measure => simp [intOf]; omega
    · have hje : j = sr.length := by omega
      have hmM := HM.out
      rw [hje, List.take_length] at hmM
      obtain ⟨na, nc, ev, hN⟩ := hR.1.imgs hmM (fun x hx => (hR.2 x hx).ints) (by rw [HML.out]; omega)
      injection ev with ev1 ev2 ev3
      subst ev1 ev3
      rw [← ev2] at hN
      have hMs : M.length = sr.length := by rw [HML.out, hje]
      clear ev2
      rw [hMs] at hN ⊢
      clear hMs
      subst hje
      have hpE := passE_of (f := ⟨W, H, S, O, ps⟩) hE hk
      obtain ⟨o1, _, _⟩ := passE_zero hpE
      have hkn := (ownE_zero o1).1
      have hzm := size_make (f := ⟨W, H, S, O, ps⟩) hk
      have hRB := hF.step hk hm
      have hnx := hF.next hk hm
      obtain ⟨f1, f2, f3, f4⟩ := hF.place hk hm
      rw [HLS.out] at hRB
      have HNX : Hid ((pl.getD k 0).toNat + (paintRes (ps.getD k Ps.zero) (zOf ⟨W, H, S, O, ps⟩ k) (sr.map (liesR ⟨W, H, S, O, ps⟩ pl A))).ps.length ≤ A.length) := by show _ ≤ _; rw [← HLS.out]; exact hnx.1
      have HST : Hid (stepA ⟨W, H, S, O, ps⟩ pl A k = putA A (pl.getD k 0).toNat (paintRes (ps.getD k Ps.zero) (zOf ⟨W, H, S, O, ps⟩ k) (sr.map (liesR ⟨W, H, S, O, ps⟩ pl A))).ps) := by show _ = _; rw [← HLS.out]; rfl
      have hbw := below_step hb3 hbr
      obtain ⟨qb, qo, la, ll, lc, rfl, p0, p1, p2, p3, p4, p5, hLi⟩ := (hp.below hbw).nth hk'
      have hr1 := (fine_iff _ _ _).1 hRB.2.1
      have hqb : qb < wr.heap.size := World.block_lt_of_cell? _ _ p0
      dsimp only at hkn hzm hRB
      generalize ps.getD k Ps.zero = P at *
      obtain ⟨Op, To, PA, PB, K, ls⟩ := P
      dsimp only at p0 p1 p2 p3 p4 p5 hLi hkn HTK hzm
      generalize zOf ⟨W, H, S, O, ps⟩ k = z at *
      obtain rfl := hLi.leng
      have hAl : hasA Op = true → 1 ≤ sr.length := fun h => by
        obtain ⟨r, hr⟩ := takes_pos (p := ⟨Op, To, PA, PB, K, ls⟩) h
        rw [HTK.out, hr]; simp
      have hBl : hasB Op = true → 2 ≤ sr.length := fun h => by
        rw [HTK.out, takes_two' (p := ⟨Op, To, PA, PB, K, ls⟩) h]; simp
      have hma := fun wx (hb : Below wr.heap.size wr wx) => made_any W H S O (some ⟨qb, qo, none⟩) ps.length cap To PA PB (K := K) lc vc hkn (hLi.below hb) (hN.below hb) hAl hBl hzm hRB.1
      generalize paintRes ⟨Op, To, PA, PB, K, ls⟩ z (sr.map (liesR ⟨W, H, S, O, ps⟩ pl A)) = r at *
      have hrl : 1 ≤ r.ps.length := by
        have h1 := hr1.2.2.1
        have h2 := side_mul ((side_iff _).2 hr1.1) ((side_iff _).2 hr1.2.1)
        omega
      have HRL : Hid (1 ≤ r.ps.length) := hrl
      obtain ⟨pq, hpq⟩ := Int.eq_ofNat_of_zero_le f1.1
      obtain ⟨rb, ro, rfl, hr0⟩ := (hL.below (Nat.le_refl _) hbw).nth hk'
      rw [hpq] at hr0 HST HNX
      rw [Int.toNat_natCast] at HST HNX
      have hrb : rb < wr.heap.size := World.block_lt_of_cell? _ _ hr0
      have hne : A ≠ [] := fun e => by have := congrArg List.length e; rw [List.length_nil] at this; omega
      have hA4 := hF.len
      obtain ⟨ab, ao, rfl, hacel⟩ := hA.nth (k := 0) (List.length_pos_iff.2 hne)
      have hFr := hF3.below hbr
      have hPr := hP3.below hbr
      have hlit : (wr.alloc (.cells #[] 3)).ownsRow wr.heap.size 3 1 (.slice (some ⟨wr.heap.size, 0, none⟩) 0 0) 0 [] := World.ownsRow_lit wr #[] 0 (Nat.le_refl _) (by unfold maxLen; omega) rfl
      have hzA := ints_news (hA.below (Nat.le_refl _) (below_box hbw (.cells #[] 3)))
      have HLC : Hid ((A.map (Value.int .i64)).length = A.length * 1) := by show _ = _; simp
      have hjI : ¬ (sr.length : Int) < (sr.length : Int) := by omega
      have hpos : 0 < A.length := List.length_pos_iff.2 hne
      have hK0 := hFr.c0
      have hK1 := hFr.c1
      have hK2 := hFr.c2
      have hK3 := hFr.c3
      have hK4 := hFr.c4
      have hK5 := hPr.c1
      have hFl := hFr.lt
      have hPl := hPr.lt
      have held : ∀ wx : World, (∀ x, x < wr.heap.size → wx.heap[x]? = wr.heap[x]?) → (wx.cell? ⟨w.heap.size, 0, none⟩ = some (.int .i64 W) ∧ wx.cell? ⟨w.heap.size, 1, none⟩ = some (.int .i64 H) ∧ wx.cell? ⟨w.heap.size, 2, none⟩ = some (.int .i64 S) ∧ wx.cell? ⟨w.heap.size, 3, none⟩ = some (.int .i64 O) ∧ wx.cell? ⟨w.heap.size, 4, none⟩ = some (.slice (some ⟨qb, qo, none⟩) ps.length cap)) ∧ (wx.cell? ⟨qb, qo + k * 6, none⟩ = some (.int .i64 Op) ∧ wx.cell? ⟨qb, qo + k * 6 + 1, none⟩ = some (.int .i64 To) ∧ wx.cell? ⟨qb, qo + k * 6 + 2, none⟩ = some (.int .i64 PA) ∧ wx.cell? ⟨qb, qo + k * 6 + 3, none⟩ = some (.int .i64 PB) ∧ wx.cell? ⟨qb, qo + k * 6 + 4, none⟩ = some (.int .i64 K) ∧ wx.cell? ⟨qb, qo + k * 6 + 5, none⟩ = some (.slice la ls.length lc)) ∧ wx.cell? ⟨w.heap.size + 1, 1, none⟩ = some (.slice (some ⟨rb, ro, none⟩) ps.length pcap) ∧ wx.cell? ⟨rb, ro + k, none⟩ = some (.int .i64 pq) := fun wx h => by
        have X := fun (b o : Nat) (hb : b < wr.heap.size) => World.cell?_of_block (a := (⟨b, o, none⟩ : Addr)) (h b hb)
        exact ⟨⟨(X _ 0 hFl).trans hK0, (X _ 1 hFl).trans hK1, (X _ 2 hFl).trans hK2, (X _ 3 hFl).trans hK3, (X _ 4 hFl).trans hK4⟩, ⟨(X _ _ hqb).trans p0, (X _ _ hqb).trans p1, (X _ _ hqb).trans p2, (X _ _ hqb).trans p3, (X _ _ hqb).trans p4, (X _ _ hqb).trans p5⟩, (X _ 1 hPl).trans hK5, (X _ _ hrb).trans hr0⟩
      have HELD : Hid (_) := held
      clear held hp hL hO hA hN hmM hR hLi hAl hBl hRB hnx hU hsrc hpE o1 hr1 hkn hzm hF HLI HM HML f1 f2 f3 f4 hZ3 hL3 hS3 hF3 hP3 hFr hPr hK0 hK1 hK2 hK3 hK4 hK5 p0 p1 p2 p3 p4 p5 hr0 hacel hF0 hP0
      go_upto_region 10 with (at_builtin; refine wpList_append_own _ rfl _ _ 25 rfl wr.heap.size 3 j0 _ 1 8 Tryz.underlying25 hj hy0 hy1 hy2 rfl (by decide) (.slice (some ⟨wr.heap.size, 0, none⟩) 0 0) 0 [] rfl hlit ⟨ab, ao, none⟩ A.length ac (A.map (Value.int .i64)) rfl (by rw [HLC.out]) hzA (ints_one A) (by unfold maxLen; omega) (by omega) (by simp) ?_; intro v' w9 hown9 hgrow9 _; rw [Nat.zero_add, List.nil_append] at hown9; have hO9 : Owns wr.heap.size w9 v' A := hown9; have b9 : Below wr.heap.size wr w9 := (below_box (Below.refl wr.heap.size wr) (.cells #[] 3)).grown hgrow9 (by simp) (fun k hk => by cases hk; exact Nat.le_refl _); obtain ⟨g, gc, hv', hg1, hg2, hgc⟩ := hO9.block hne; subst hv')
      have hn1 := HNX.out
      have hn2 := HRL.out
      have hq0 : (0 : Int) ≤ (pq : Int) := by omega
      have hq1 : (pq : Int) ≤ (A.length : Int) := by omega
      have hq3 : ¬ gc = pq := by omega
      have hsz : (Tryz.prog.info? 3).map (·.size) = some 1 := by rw [hj]; simp [hy1]
      have h9 : ∀ x, x < wr.heap.size → w9.drew.heap[x]? = wr.heap[x]? := fun x hx => b9.block x hx
      have H9 : Hid (_) := h9
      have hfd := fun sa sn sc wx => field_image r.W r.H sa sn sc wx
      have hd9 : Below w9.heap.size w9 w9.drew := (Below.refl _ _).drew
      have hmd := hma w9.drew b9.drew
      have HNE : Hid (r.ps ≠ []) := fun e => by rw [e] at hn2; simp at hn2
      clear h9 hown9 hgrow9 hlit hzA hma
      go_region_held3 (fun wx => (wx.cell? ⟨w.heap.size, 0, none⟩ = some (.int .i64 W) ∧ wx.cell? ⟨w.heap.size, 1, none⟩ = some (.int .i64 H) ∧ wx.cell? ⟨w.heap.size, 2, none⟩ = some (.int .i64 S) ∧ wx.cell? ⟨w.heap.size, 3, none⟩ = some (.int .i64 O) ∧ wx.cell? ⟨w.heap.size, 4, none⟩ = some (.slice (some ⟨qb, qo, none⟩) ps.length cap)) ∧ (wx.cell? ⟨qb, qo + k * 6, none⟩ = some (.int .i64 Op) ∧ wx.cell? ⟨qb, qo + k * 6 + 1, none⟩ = some (.int .i64 To) ∧ wx.cell? ⟨qb, qo + k * 6 + 2, none⟩ = some (.int .i64 PA) ∧ wx.cell? ⟨qb, qo + k * 6 + 3, none⟩ = some (.int .i64 PB) ∧ wx.cell? ⟨qb, qo + k * 6 + 4, none⟩ = some (.int .i64 K) ∧ wx.cell? ⟨qb, qo + k * 6 + 5, none⟩ = some (.slice la ls.length lc)) ∧ wx.cell? ⟨w.heap.size + 1, 1, none⟩ = some (.slice (some ⟨rb, ro, none⟩) ps.length pcap) ∧ wx.cell? ⟨rb, ro + k, none⟩ = some (.int .i64 pq))
        (first | exact HELD.out _ H9.out | exact HELD.out _ H5.out | exact HELD.out _ H6.out)
        (first
          | (go_at_call 76; refine hmd.mono ?_; rintro e w5 ⟨ia, ic, rfl, hii, b5⟩; have H5 : Hid (∀ x, x < wr.heap.size → w5.heap[x]? = wr.heap[x]?) := fun x hx => (b5.block x (Nat.lt_of_lt_of_le hx b9.size)).trans (H9.out x hx); have hO5 : Owns wr.heap.size w5 (.slice (some ⟨g, 0, none⟩) A.length gc) A := ownsRow_below hO9 (hd9.trans b5) (Nat.le_refl _); obtain ⟨ib, io, hia, hiz⟩ := hii.nth (k := 0) (by omega); subst hia; have news5 := ints_news hii; have hi5 := b5.size)
          | ((refine step_copy_ints (by rfl) _ _ 25 25 (by rfl) Tryz.underlying25 hsz g pq (A.length - pq) (gc - pq) ⟨ib, io, none⟩ ic r.ps (by rfl) (by rfl) wr.heap.size A.length gc A hO5 news5 hn1 (by omega) ?_; intro w6 hO6 hg6; have H6 : Hid (∀ x, x < wr.heap.size → w6.heap[x]? = wr.heap[x]?) := fun x hx => (hg6.block x (Nat.lt_of_lt_of_le hx (Nat.le_trans b9.size hi5)) (fun e => by injection e with e; omega)).trans (H5.out x hx))))
      all_goals
        have HO6 : Hid (Owns w.heap.size w6 (.slice (some ⟨g, 0, none⟩) A.length gc) (stepA ⟨W, H, S, O, ps⟩ pl A k)) := by
          show Owns _ _ _ _
          rw [HST.out]
          exact World.ownsRow.mono hO6 hbw.size
        have hbF : Below w.heap.size w w6 := grown_from (below_step (below_step hbw b9) (hd9.trans b5)) (Nat.le_trans hbw.size (Nat.le_trans b9.size hi5)) hg6 (Nat.le_trans hbw.size hg1)
        clear hO6 hg6 hO5 news5 hii hO9
        go_wp2
        go_ret
        exact ⟨⟨_, rfl, HO6.out⟩, hbF⟩
end Go.Proofs.YtihliofhhjjeaaaGreat
namespace Go.Proofs.YtihliofhhjjeaaaGreat
open Go.RowKit Im
set_option maxHeartbeats 16000000 in
theorem runOf_any (W H S O : Int) (a : Option Addr) (len cap : Nat) (ps : List Ps) (w : World) (hp : Passes w a len ps) (oa : Option Addr) (olen ocap : Nat) (pa : Option Addr) (plen pcap : Nat) (os pl : List Int) (hO : Ints 0 w oa olen os) (hL : Ints 0 w pa plen pl) (aa : Option Addr) (ac : Nat) (A : List Int) (hA : Ints 0 w aa A.length A) (hac : A.length ≤ ac) (hF : FitA ⟨W, H, S, O, ps⟩ os pl A) :
    Calls Tryz.prog 14 #[.agg #[.int .i64 W, .int .i64 H, .int .i64 S, .int .i64 O, .slice a len cap], .agg #[.slice oa olen ocap, .slice pa plen pcap], .slice aa A.length ac] w (ToldM w (runR ⟨W, H, S, O, ps⟩ os pl A)) := by
  obtain rfl := hO.leng
  obtain rfl := hp.leng
  have hpl : plen = ps.length := by rw [← hL.leng]; exact hF.ord.len
  subst hpl
  have hE := hF.E
  have h12 : ps.length ≤ 12 := by
    obtain ⟨hb, _, _⟩ := frameE_zero hE
    exact (boundsE_zero hb).2.2.2.2.2
  have hbig := hO.big
  obtain ⟨hb0', hF0', hP0'⟩ := two_boxes w W H S O a ps.length cap (.slice oa os.length ocap) (.slice pa ps.length pcap)
  have bI := (Below.refl ((w.alloc (.cells #[.int .i64 W, .int .i64 H, .int .i64 S, .int .i64 O, .slice a ps.length cap] 24)).alloc (.cells #[.slice oa os.length ocap, .slice pa ps.length pcap] 27)).heap.size _).alloc (Nat.le_refl _) (.cells #[.int .i64 0, .int .i64 0, .slice none 0 0] 31)
  have hI0 := IBox.new ((w.alloc (.cells #[.int .i64 W, .int .i64 H, .int .i64 S, .int .i64 O, .slice a ps.length cap] 24)).alloc (.cells #[.slice oa os.length ocap, .slice pa ps.length pcap] 27))
  rw [World.size_alloc, World.size_alloc] at hI0
  have hb0 := below_step hb0' bI
  have hF0 := hF0'.below bI
  have hP0 := hP0'.below bI
  clear hb0' hF0' hP0' bI
  have hw2 : w.heap.size ≤ w.heap.size + 1 + 1 := by omega
  go_enter Tryz.func14, Tryz.ntmps14
  go_wp2_with fail
  generalize ((w.alloc (.cells #[.int .i64 W, .int .i64 H, .int .i64 S, .int .i64 O, .slice a ps.length cap] 24)).alloc (.cells #[.slice oa os.length ocap, .slice pa ps.length pcap] 27)).alloc (.cells #[.int .i64 0, .int .i64 0, .slice none 0 0] 31) = w1 at *
  go_loopw [2, 7] (fun v i wr => ∃ (j : Nat) (va : Option Addr) (vc : Nat), j ≤ os.length ∧ v = .slice va A.length vc ∧ A.length ≤ vc ∧ i = .int .i64 j ∧ Ints 0 wr va A.length (runA ⟨W, H, S, O, ps⟩ os pl A j) ∧ Below w1.heap.size w1 wr) (fun _ i _ => os.length - (intOf i).toNat)
  case atStart => exact ⟨0, aa, ac, Nat.zero_le _, rfl, hac, rfl, hA.below (Nat.le_refl _) hb0, Below.refl _ _⟩
  case round =>
    obtain ⟨j, va, vc, hj, rfl, hvc, rfl, hI, hbr⟩ := hrel
    obtain ⟨hl, hFj⟩ := hF.run hj
    have hbw := below_step hb0 hbr
    have hFr := hF0.below hbr
    have hPr := hP0.below hbr
    obtain ⟨_, g0, g1, g2, g3, g4⟩ := id hFr
    obtain ⟨_, e0, e1⟩ := id hPr
    by_cases hjl : j < os.length
    · have hjI : (j : Int) < (os.length : Int) := by omega
      have hst := stepOfRef_any W H S O a ps.length cap ps wr (hp.below hbw) oa os.length ocap pa ps.length pcap os pl (hO.below (Nat.le_refl _) hbw) (hL.below (Nat.le_refl _) hbw) va vc (runA ⟨W, H, S, O, ps⟩ os pl A j) (by rw [hl]; exact hI) (by rw [hl]; exact hvc) hFj hjl
      rw [hl] at hst
      have hln : (runA ⟨W, H, S, O, ps⟩ os pl A (j + 1)).length = A.length := (hF.run (n := j + 1) (by omega)).1
      have hne : runA ⟨W, H, S, O, ps⟩ os pl A (j + 1) ≠ [] := fun e => by
        obtain ⟨q, _, hq, hm⟩ := hF.last
        obtain ⟨h1, _, h3, h4⟩ := hF.place hq hm
        have := congrArg List.length e
        rw [List.length_nil] at this
        omega
      have hA4 := hF.len
      have HX : Hid (stepA ⟨W, H, S, O, ps⟩ pl (runA ⟨W, H, S, O, ps⟩ os pl A j) (os.getD j 0).toNat = runA ⟨W, H, S, O, ps⟩ os pl A (j + 1)) := rfl
      rw [HX.out] at hst
      have HLN : Hid (_) := hln
      have HNE : Hid (_) := hne
      generalize hB : runA ⟨W, H, S, O, ps⟩ os pl A (j + 1) = B at *
      have HB : Hid (_) := hB
      clear hB
      clear hI hFj hl hln hne hp hO hL hA hF hFr hPr HX
      go_wp2_with fail
      refine hst.mono ?_
      clear hst g0 g1 g2 g3 g4 e0 e1
      rintro e w5 ⟨⟨v, rfl, hO5⟩, b5⟩
      obtain ⟨g, gc, rfl, _, _, hgc⟩ := hO5.block HNE.out
      obtain ⟨ga, gc', ev, hI5⟩ := hO5.ints (by rw [HLN.out]; omega)
      injection ev with ev1 _ ev2
      subst ev1 ev2
      rw [HLN.out] at hI5 hgc ⊢
      have HI5 : Hid (Ints 0 w5 (some ⟨g, 0, none⟩) A.length B) := hI5.mono (Nat.zero_le _)
      have hb5 : Below w1.heap.size w1 w5 := hbr.trans (b5.mono hbr.size)
      clear hO5 hI5 b5
      go_wp2
      go_roundw
      case rel => exact ⟨j + 1, some ⟨g, 0, none⟩, gc, by omega, rfl, hgc, by go_num, by rw [HB.out]; exact HI5.out, hb5⟩
      case measure => simp [intOf]; omega
    · have hje : j = os.length := by omega
      subst hje
      have hkI : ¬ (os.length : Int) < (os.length : Int) := by omega
      have hck := checkFrame_any W H S O a ps.length cap ps wr (hp.below hbw)
      go_wp2_with fail
      refine hck.mono ?_
      clear hck g0 g1 g2 g3 g4 e0 e1
      rintro e w2 ⟨⟨vz, rfl, hZ2⟩, b2⟩
      rw [if_pos hE] at hZ2
      have hb2 := below_step hbw b2
      obtain ⟨za, zc, rfl, hZs⟩ := hZ2.zs (by rw [szs_length]; exact h12)
      rw [szs_length] at hZs ⊢
      obtain ⟨q, eq, hq, hqm⟩ := hF.last
      have hqI : (q : Int) < (ps.length : Int) := by have : q < ps.length := hq; omega
      have hqI0 : (0 : Int) ≤ (q : Int) := by omega
      have HRR : Hid (runR ⟨W, H, S, O, ps⟩ os pl A = liesR ⟨W, H, S, O, ps⟩ pl (runA ⟨W, H, S, O, ps⟩ os pl A os.length) q) := by show _ = _; unfold runR; rw [eq]
      have hlo := fun wx (h : Below w2.heap.size w2 wx) => lastOf_any W H S O a ps.length cap ps wx (hp.below (below_step hb2 h))
      rw [eq] at hlo
      have hli := fun wx (h : Below w2.heap.size w2 wx) => lies_lies hFj va vc (by rw [hl]; exact (hI.below (Nat.le_refl _) (below_step b2 h))) (by rw [hl]; exact hvc) hq hqm
      rw [hl] at hli
      obtain ⟨zb, zo, rfl, hzb, z0, z1⟩ := hZs.nth hq
      obtain ⟨rb, ro, rfl, hr0⟩ := (hL.below (Nat.le_refl _) hb2).nth hq
      have ezz : (szs ⟨W, H, S, O, ps⟩ ps.length).getD q Sz.zero = zOf ⟨W, H, S, O, ps⟩ q := rfl
      rw [ezz] at z0 z1
      generalize (zOf ⟨W, H, S, O, ps⟩ q).1 = zw at *
      generalize (zOf ⟨W, H, S, O, ps⟩ q).2 = zh at *
      generalize pl.getD q 0 = pq at *
      generalize liesR ⟨W, H, S, O, ps⟩ pl (runA ⟨W, H, S, O, ps⟩ os pl A os.length) q = r at hli HRR
      have hrb : rb < w2.heap.size := World.block_lt_of_cell? _ _ hr0
      have hF2 := hFr.below b2
      have hP2 := hPr.below b2
      have hI2 := (hI0.below hbr hI0.lt hbr.size).below b2 (Nat.lt_of_lt_of_le hI0.lt hbr.size) b2.size
      have hZbase := World.ownsRow.lt (w := w2) hZ2 zb
      obtain ⟨_, g0, g1, g2, g3, g4⟩ := id hF2
      have e1 := hP2.c1
      have hne0 : some w.heap.size ≠ some (w.heap.size + 1 + 1) := fun e => by injection e with e; omega
      have hne1 : some (w.heap.size + 1) ≠ some (w.heap.size + 1 + 1) := fun e => by injection e with e; omega
      have hrw : rb < w.heap.size := by
        obtain ⟨rb', ro', ev, hcc⟩ := hL.nth hq
        injection ev with ev
        injection ev with ev
        subst ev
        exact World.block_lt_of_cell? _ _ hcc
      have hne2 : some rb ≠ some (w.heap.size + 1 + 1) := fun e => by injection e with e; omega
      have hzw : w1.heap.size ≤ zb := by
        obtain ⟨g1', g2'⟩ := id hZ2
        rcases g2' with ⟨ev, _⟩ | ⟨gg, cc, cu, ev, hg, _⟩
        · cases ev
        · injection ev with ev
          injection ev with ev
          injection ev with ev
          subst ev
          exact Nat.le_trans hbr.size hg
      have hIl := hI0.lt
      have hne3 : some zb ≠ some (w.heap.size + 1 + 1) := fun e => by injection e with e; omega
      have held : ∀ wx, w2.grownBy wx (some (w.heap.size + 1 + 1)) → (wx.cell? ⟨w.heap.size, 0, none⟩ = some (.int .i64 W) ∧ wx.cell? ⟨w.heap.size, 1, none⟩ = some (.int .i64 H) ∧ wx.cell? ⟨w.heap.size, 2, none⟩ = some (.int .i64 S) ∧ wx.cell? ⟨w.heap.size, 3, none⟩ = some (.int .i64 O) ∧ wx.cell? ⟨w.heap.size, 4, none⟩ = some (.slice a ps.length cap)) ∧ wx.cell? ⟨w.heap.size + 1, 1, none⟩ = some (.slice (some ⟨rb, ro, none⟩) ps.length pcap) ∧ wx.cell? ⟨zb, zo + q * 2, none⟩ = some (.int .i64 zw) ∧ wx.cell? ⟨zb, zo + q * 2 + 1, none⟩ = some (.int .i64 zh) ∧ wx.cell? ⟨rb, ro + q, none⟩ = some (.int .i64 pq) := fun wx h =>
        ⟨⟨(grown_cell h hF2.lt hne0 0).1.trans g0, (grown_cell h hF2.lt hne0 1).1.trans g1, (grown_cell h hF2.lt hne0 2).1.trans g2, (grown_cell h hF2.lt hne0 3).1.trans g3, (grown_cell h hF2.lt hne0 4).1.trans g4⟩, (grown_cell h hP2.lt hne1 1).1.trans e1, (grown_cell h hzb hne3 (zo + q * 2)).1.trans z0, (grown_cell h hzb hne3 (zo + q * 2 + 1)).1.trans z1, (grown_cell h hrb hne2 (ro + q)).1.trans hr0⟩
      have hd := (Below.refl w2.heap.size w2).drew
      have G := fun wx (h : Below w2.heap.size w2 wx) => below_grown h (some (w.heap.size + 1 + 1))
      clear hp hO hL hA hF hI hFj hZ2 hZs hF0 hP0 hFr hPr hF2 hP2 z0 z1 hr0 g0 g1 g2 g3 g4 e1 hl hZbase
      go_upto_region 6 with fail
      go_region_held3 (fun wx => (wx.cell? ⟨w.heap.size, 0, none⟩ = some (.int .i64 W) ∧ wx.cell? ⟨w.heap.size, 1, none⟩ = some (.int .i64 H) ∧ wx.cell? ⟨w.heap.size, 2, none⟩ = some (.int .i64 S) ∧ wx.cell? ⟨w.heap.size, 3, none⟩ = some (.int .i64 O) ∧ wx.cell? ⟨w.heap.size, 4, none⟩ = some (.slice a ps.length cap)) ∧ wx.cell? ⟨w.heap.size + 1, 1, none⟩ = some (.slice (some ⟨rb, ro, none⟩) ps.length pcap) ∧ wx.cell? ⟨zb, zo + q * 2, none⟩ = some (.int .i64 zw) ∧ wx.cell? ⟨zb, zo + q * 2 + 1, none⟩ = some (.int .i64 zh) ∧ wx.cell? ⟨rb, ro + q, none⟩ = some (.int .i64 pq))
        (first | exact held _ (G _ hd) | exact held _ (G _ b5) | exact held _ (G _ b6) | exact held _ (G _ b7) | exact held _ (grown_put (grown_put (grown_put (G _ b7) 0 _) 1 _) 2 _))
        (first
          | (go_at_call 41; (have xx := b5; clear xx); refine (hlo _ b5).mono ?_; rintro e w6 ⟨rfl, b6'⟩; have b6 := below_step b5 b6')
          | (go_at_call 41; refine (hlo _ hd).mono ?_; rintro e w5 ⟨rfl, b5'⟩; have b5 := below_step hd b5')
          | (go_at_call 40; refine (hli _ b6).mono ?_; rintro e w7 ⟨ia, ic, rfl, hii, b7'⟩; have b7 := below_step b6 b7'; obtain ⟨_, c0, c1, c2, f0, f1, f2⟩ := hI2.below b7 hI2.lt b7.size))
      all_goals
        have hsz6 : w.heap.size ≤ w6.heap.size := Nat.le_trans hb2.size b6.size
        have hl6 : w.heap.size + 1 + 1 < w6.heap.size := Nat.lt_of_lt_of_le hI2.lt b6.size
        have HT : Hid (ToldM w r (.returned (.agg #[.int .i64 r.W, .int .i64 r.H, .slice ia r.ps.length ic])) (((w7.setCell ⟨w.heap.size + 1 + 1, 0, none⟩ (.int .i64 r.W)).setCell ⟨w.heap.size + 1 + 1, 1, none⟩ (.int .i64 r.H)).setCell ⟨w.heap.size + 1 + 1, 2, none⟩ (.slice ia r.ps.length ic))) :=
          ⟨ia, ic, rfl, (((hii.setCell (p := ⟨w.heap.size + 1 + 1, 0, none⟩) hl6 _).setCell (p := ⟨w.heap.size + 1 + 1, 1, none⟩) hl6 _).setCell (p := ⟨w.heap.size + 1 + 1, 2, none⟩) hl6 _).mono hsz6, (((below_step hb2 b7).setCell (p := ⟨w.heap.size + 1 + 1, 0, none⟩) hw2 _).setCell (p := ⟨w.heap.size + 1 + 1, 1, none⟩) hw2 _).setCell (p := ⟨w.heap.size + 1 + 1, 2, none⟩) hw2 _⟩
        clear hii b7' b6' b5' held hlo hli
        go_wp2
        exact bodyPost_ret (v := .agg #[.int .i64 r.W, .int .i64 r.H, .slice ia r.ps.length ic]) (by simp [results, Tryz.results14, go_sem, c0, c1, c2]) rfl (by rw [HRR.out]; exact HT.out)
end Go.Proofs.YtihliofhhjjeaaaGreat
namespace Go.Proofs.YtihliofhhjjeaaaGreat
open Go.RowKit Im
end Go.Proofs.YtihliofhhjjeaaaGreat
namespace Go.Proofs.YtihliofhhjjeaaaGreat
open Go.RowKit Im
theorem runP_E (f : Fr) (os pl A : List Int) : (runP f os pl A).E = execE f os pl A := by
  unfold runP
  by_cases h : execE f os pl A = 0
  · rw [if_pos h, h]; rfl
  · rw [if_neg h]; rfl
end Go.Proofs.YtihliofhhjjeaaaGreat
namespace Go.Proofs.YtihliofhhjjeaaaGreat
open Go.RowKit Im Go.Maps
def ToldSO (w : World) (L : List Sz) (e : Ending) (w' : World) : Prop :=
  (∃ v, e = .returned v ∧ OwnsS w.heap.size w' v L) ∧ Below w.heap.size w w'
set_option maxHeartbeats 8000000 in
theorem spansOwn_any (W H S O : Int) (a : Option Addr) (len cap : Nat) (ps : List Ps) (w : World) (hp : Passes w a len ps) (oa : Option Addr) (olen ocap : Nat) (pv : Value) (os : List Int) (hO : Ints 0 w oa olen os) (hE : frameE ⟨W, H, S, O, ps⟩ = 0) (hos : ∀ o ∈ os, 0 ≤ o ∧ o < ps.length) (hol : os.length ≤ 12) :
    Calls Tryz.prog 46 #[.agg #[.int .i64 W, .int .i64 H, .int .i64 S, .int .i64 O, .slice a len cap], .agg #[.slice oa olen ocap, pv]] w (ToldSO w ((List.range ps.length).map (spanP (gpOf ⟨W, H, S, O, ps⟩) os))) := by
  obtain rfl := hp.leng
  obtain rfl := hO.leng
  have hR := gp_right hE
  have hN12 : ps.length ≤ 12 := hR.hN.2
  obtain ⟨i0, hi, hz0, hz1, hz2⟩ := info_parts Tryz.infoSpan
  have hb0 := below_box (below_box (Below.refl w.heap.size w) (.cells #[.int .i64 W, .int .i64 H, .int .i64 S, .int .i64 O, .slice a ps.length cap] 24)) (.cells #[.slice oa os.length ocap, pv] 27)
  have hF0 := (FBox.new w W H S O a ps.length cap).alloc (.cells #[.slice oa os.length ocap, pv] 27)
  have hP0 := PlBox.new (w.alloc (.cells #[.int .i64 W, .int .i64 H, .int .i64 S, .int .i64 O, .slice a ps.length cap] 24)) (.slice oa os.length ocap) pv 27
  rw [World.size_alloc] at hP0
  have hs2 : ∀ x ∈ srcs ps ps.length, x.length ≤ 2 := by
    intro x hx
    unfold srcs at hx
    rw [List.mem_map] at hx
    obtain ⟨n, _, rfl⟩ := hx
    unfold srcOf
    rw [List.length_map]
    exact takesP_len _
  have hso := sourcesOfRef_any W H S O a ps.length cap ps _ (hp.below hb0) hN12
  have hla := fun wx hp => lastOf_any W H S O a ps.length cap ps wx hp
  have HSR : Hid (∀ k, k < ps.length → (srcs ps ps.length).getD k [] = srcOf ps k) := fun k hk => srcs_at ps hk
  have HOS : Hid (_) := hos
  have HSP : Hid (∀ k, spanP (gpOf ⟨W, H, S, O, ps⟩) os k = (stepAt os k, if (k : Int) = shownP ⟨W, H, S, O, ps⟩ then (os.length : Int) - 1 else ltk (srcOf ps) os k (stepAt os k) os.length)) := fun _ => rfl
  have HLT : Hid (∀ k d n, ltk (srcOf ps) os k d (n + 1) = if k ∈ srcOf ps (os.getD n 0).toNat then (n : Int) else ltk (srcOf ps) os k d n) := fun _ _ _ => rfl
  have hwo : IntKind.i64.wrap ((os.length : Int) - 1) = (os.length : Int) - 1 := by rw [IntKind.wrap_i64]; omega
  generalize spanP (gpOf ⟨W, H, S, O, ps⟩) os = G at *
  generalize shownP ⟨W, H, S, O, ps⟩ = sh at *
  clear hos hR
  go_enter Tryz.func46, Tryz.ntmps46
  go_wp2_with fail
  refine hso.mono ?_
  clear hso
  rintro e w1 ⟨⟨v1, rfl, hLL⟩, b1⟩
  obtain ⟨sa, sc, rfl, hSs⟩ := hLL.lls hs2
  rw [srcs_length] at hSs ⊢
  have hF1 := hF0.below b1
  have hP1 := hP0.below b1
  have hb1 := below_step hb0 b1
  have hp1 := hp.below hb1
  have hO1 := hO.below (Nat.le_refl _) hb1
  clear hLL hs2 hF0 hP0 hb0 b1 hp hO
  go_wp2
  go_loopw [6, 7] (fun v i wr => ∃ k : Nat, k ≤ ps.length ∧ i = .int .i64 k ∧ OwnsS w1.heap.size wr v ((List.range k).map G) ∧ Below w1.heap.size w1 wr) (fun _ i _ => ps.length - (intOf i).toNat)
  case atStart => exact ⟨0, Nat.zero_le _, rfl, World.ownsRow_nil _ _ _ _, Below.refl _ _⟩
  case round =>
    obtain ⟨k, hk, rfl, hown, hbr⟩ := hrel
    obtain ⟨wO, e0⟩ : ∃ z, z = wr := ⟨_, rfl⟩
    subst e0
    have hFr := hF1.below hbr
    have hPr := hP1.below hbr
    obtain ⟨_, g0, g1, g2, g3, g4⟩ := id hFr
    by_cases hlt : k < ps.length
    · obtain ⟨_, h0, h1⟩ := id hPr
      have hkI : (k : Int) < (ps.length : Int) := by omega
      have hk0 : (0 : Int) ≤ (k : Int) := by omega
      have HG : Hid (_) := HSP.out k
      have HL : Hid (∀ d n, ltk (srcOf ps) os k d (n + 1) = if (k : Int) ∈ srcOf ps (os.getD n 0).toNat then (n : Int) else ltk (srcOf ps) os k d n) := fun d n => HLT.out k d n
      have hsk := fun wx (h : Below wO.heap.size wO wx) => stepOf_any ocap ((hO1.below (Nat.le_refl _) hbr).below (Nat.le_refl _) h) k
      generalize hst : stepAt os k = st at hsk HG
      clear hst
      have hok := fun o => (Below.refl wO.heap.size wO).alloc (Nat.le_refl _) o
      have hpl := hPr.lt
      have hd := (Below.refl wO.heap.size wO).drew
      go_wp2
      go_region_held3 (fun w' => w'.cell? ⟨w.heap.size + 1, 0, none⟩ = some (.slice oa os.length ocap))
        (first | exact h0 | exact ((hok _).cell (p := ⟨w.heap.size + 1, 0, none⟩) hpl).trans h0)
        ((go_at_call 83; refine (hsk _ (by first | exact hd | exact (hok _).drew)).mono ?_; rintro e w3 ⟨rfl, rfl⟩))
      all_goals
        have bX : Below wO.heap.size wO (wO.alloc (.cells #[.int .i64 st, .int .i64 st] 58)).drew := (hok _).drew
        have hX := (SBox.new wO st st 58).drew
        generalize (wO.alloc (.cells #[.int .i64 st, .int .i64 st] 58)).drew = wX at *
        clear h0 h1 g0 g1 g2 g3 g4 hok hd hsk
        have hpl2 : ((List.range k).map G).length = k := by simp
        have HPL2 : Hid (_) := hpl2
        clear hpl2
        obtain ⟨_, h0, h1⟩ := hPr.below bX
        go_wp2
        go_loopw [9] (fun i ws => ∃ n : Nat, n ≤ os.length ∧ i = .int .i64 n ∧ SBox ws wO.heap.size st (ltk (srcOf ps) os k st n) ∧ Below wO.heap.size wO ws) (fun i _ => os.length - (intOf i).toNat)
        case atStart => exact ⟨0, Nat.zero_le _, rfl, hX, bX⟩
        case round =>
          obtain ⟨n, hn, rfl, hXn, hbn⟩ := hrel
          clear hX bX h0 h1
          obtain ⟨_, h0, h1⟩ := hPr.below hbn
          obtain ⟨_, g0, g1, g2, g3, g4⟩ := hFr.below hbn
          by_cases hnl : n < os.length
          · obtain ⟨ob, oo, rfl, hox⟩ := ((hO1.below (Nat.le_refl _) hbr).below (Nat.le_refl _) hbn).nth hnl
            have hor := HOS.out _ (getD_mem hnl 0)
            have HL1 : Hid (_) := HL.out st n
            generalize os.getD n 0 = p at hox hor HL1
            obtain ⟨q, rfl⟩ := Int.eq_ofNat_of_zero_le hor.1
            rw [Int.toNat_natCast] at HL1
            have hql : q < ps.length := by omega
            have hqI : (q : Int) < (ps.length : Int) := by omega
            have hq0 : (0 : Int) ≤ (q : Int) := by omega
            obtain ⟨sb, so, ua, uc, rfl, hsb, qq, hUI⟩ := ((hSs.below hbr).below hbn).nth hql
            rw [HSR.out q hql] at qq hUI
            have hsm := stepOf_any uc hUI k
            have HM : Hid (0 ≤ stepAt (srcOf ps q) k ↔ (k : Int) ∈ srcOf ps q) := stepAt_mem
            generalize srcOf ps q = sr at qq hsm HM HL1
            generalize stepAt sr k = s at hsm HM
            obtain ⟨_, x0, x1, fz⟩ := id hXn
            have fz1 := fz 1
            clear fz
            by_cases hs : 0 ≤ s
            · have HL2 : Hid (_) := HL1.out.trans (if_pos (HM.out.1 hs))
              have hXp := hXn.put n
              have hbp := hbn.setCell (p := ⟨wO.heap.size, 1, none⟩) (Nat.le_refl _) (.int .i64 n)
              go_wp2_with (go_at_call 83; refine hsm.mono ?_; rintro e w3 ⟨rfl, rfl⟩)
              go_roundw
              case rel => exact ⟨n + 1, by omega, by go_num, by rw [HL2.out]; exact hXp, hbp⟩
              case measure => simp [intOf]; omega
            · have HL2 : Hid (_) := HL1.out.trans (if_neg (fun h => hs (HM.out.2 h)))
              go_wp2_with (go_at_call 83; refine hsm.mono ?_; rintro e w3 ⟨rfl, rfl⟩)
              go_roundw
              case rel => exact ⟨n + 1, by omega, by go_num, by rw [HL2.out]; exact hXn, hbn⟩
              case measure => simp [intOf]; omega
          · have hne : n = os.length := by omega
            subst hne
            have hlk := hla _ ((hp1.below hbr).below hbn)
            have hpl2 := HPL2.out
            by_cases hsh : (k : Int) = sh
            · go_upto_region 14 with (go_at_call 41; refine hlk.mono ?_; rintro e w4 ⟨rfl, b4⟩; have hX9 := hXn.below b4; have hb9 := below_step hbn b4; obtain ⟨_, y0, y1, fz⟩ := id hX9; have fz1 := fz 1; obtain ⟨_, h0, h1⟩ := (hPr.below hbn).below b4)
              have bT : Below wO.heap.size wO (w4.setCell ⟨wO.heap.size, 1, none⟩ (.int .i64 ((os.length : Int) - 1))) := hb9.setCell (p := ⟨wO.heap.size, 1, none⟩) (Nat.le_refl _) _
              have hT : SBox (w4.setCell ⟨wO.heap.size, 1, none⟩ (.int .i64 ((os.length : Int) - 1))) wO.heap.size st ((os.length : Int) - 1) := hX9.put _
              have HGk : Hid (G k = (st, (os.length : Int) - 1)) := by show _ = _; rw [HG.out, if_pos hsh]
              generalize w4.setCell ⟨wO.heap.size, 1, none⟩ (.int .i64 ((os.length : Int) - 1)) = wT at *
              have hownT : OwnsS w1.heap.size wT u6 ((List.range k).map G) := ownsRow_below hown bT (Nat.le_refl _)
              have hbT := hbr.trans (bT.mono hbr.size)
              have hszT := hbT.size
              obtain ⟨_, t0, t1, _⟩ := id hT
              clear bT hT hX9 hb9 hbn hXn
              generalize (os.length : Int) - 1 = y at *
              go_wp2_with (at_builtin; refine wpList_append_own _ rfl _ _ 59 rfl w1.heap.size 58 i0 _ 2 16 Tryz.underlying59 hi hz0 hz1 hz2 rfl (by decide) _ _ _ rfl (World.ownsRow.alloc hownT _) ⟨wT.heap.size, 0, none⟩ 1 1 [.int .i64 st, .int .i64 y] rfl rfl (cell_two_new _ _ _ _) (by intro u hu; simp at hu; rcases hu with rfl | rfl <;> rfl) (by rw [hpl2]; unfold maxLen; omega) (by rw [hpl2]; omega) (by simp; omega) ?_; intro v' w9 hown9 hgrow9 _)
              have RR := OwnsS.push (z := (st, y)) hownT hbT hszT hown9 rfl hgrow9
              go_roundw
              case rel => exact ⟨k + 1, by omega, by go_num, by rw [spans_succ, HGk.out]; exact RR.1, RR.2⟩
              case measure => simp [intOf]; omega
            · go_upto_region 14 with (go_at_call 41; refine hlk.mono ?_; rintro e w4 ⟨rfl, b4⟩; have hX9 := hXn.below b4; have hb9 := below_step hbn b4)
              have bT : Below wO.heap.size wO (w4) := hb9
              have hT : SBox (w4) wO.heap.size st (ltk (srcOf ps) os k st os.length) := hX9
              have HGk : Hid (G k = (st, ltk (srcOf ps) os k st os.length)) := by show _ = _; rw [HG.out, if_neg hsh]
              generalize w4 = wT at *
              have hownT : OwnsS w1.heap.size wT u6 ((List.range k).map G) := ownsRow_below hown bT (Nat.le_refl _)
              have hbT := hbr.trans (bT.mono hbr.size)
              have hszT := hbT.size
              obtain ⟨_, t0, t1, _⟩ := id hT
              clear bT hT hX9 hb9 hbn hXn
              generalize ltk (srcOf ps) os k st os.length = y at *
              go_wp2_with (at_builtin; refine wpList_append_own _ rfl _ _ 59 rfl w1.heap.size 58 i0 _ 2 16 Tryz.underlying59 hi hz0 hz1 hz2 rfl (by decide) _ _ _ rfl (World.ownsRow.alloc hownT _) ⟨wT.heap.size, 0, none⟩ 1 1 [.int .i64 st, .int .i64 y] rfl rfl (cell_two_new _ _ _ _) (by intro u hu; simp at hu; rcases hu with rfl | rfl <;> rfl) (by rw [hpl2]; unfold maxLen; omega) (by rw [hpl2]; omega) (by simp; omega) ?_; intro v' w9 hown9 hgrow9 _)
              have RR := OwnsS.push (z := (st, y)) hownT hbT hszT hown9 rfl hgrow9
              go_roundw
              case rel => exact ⟨k + 1, by omega, by go_num, by rw [spans_succ, HGk.out]; exact RR.1, RR.2⟩
              case measure => simp [intOf]; omega
    · have hke : k = ps.length := by omega
      subst hke
      have HO : Hid (OwnsS w.heap.size wO u6 ((List.range ps.length).map G)) := row_mono hown hb1.size
      obtain ⟨ra, rc, rfl⟩ := owns_slice hown
      clear hown
      go_wp2
      go_ret
      exact ⟨⟨_, rfl, HO.out⟩, below_step hb1 hbr⟩
end Go.Proofs.YtihliofhhjjeaaaGreat
