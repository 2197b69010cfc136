/- PeakRef, LawPlan2: joined, in this order. -/
import Derived.Test.YtfpkiimlaepnhabM15
/-
  PEAKREF: the reference's PeakOf and FloorOf.
-/
namespace Go.Proofs.Ytfpkiimlaepnhab
set_option maxRecDepth 100000
open Go.RowKit Im Go.Maps

theorem peakR_bd {ar : Nat → Int} {pl : List Int} {N : Nat} (h : ∀ k, k < N → pl.getD k 0 ≤ 4096 ∧ ar k ≤ 256) : ∀ {n : Nat}, n ≤ N → 0 ≤ peakR ar pl n ∧ peakR ar pl n ≤ 4352
  | 0, _ => by simp [peakR]
  | n + 1, hn => by
    have ih := peakR_bd h (n := n) (by omega)
    have := h n (by omega)
    unfold peakR
    split <;> omega
theorem sumR_bd {ar : Nat → Int} {pl : List Int} {span : Nat → Int × Int} {i : Int} {N : Nat} (h : ∀ k, k < N → 1 ≤ ar k ∧ ar k ≤ 256) : ∀ {n : Nat}, n ≤ N → 0 ≤ sumR ar pl span i n ∧ sumR ar pl span i n ≤ 256 * n
  | 0, _ => by simp [sumR]
  | n + 1, hn => by
    have ih := sumR_bd (pl := pl) (span := span) (i := i) h (n := n) (by omega)
    have := h n (by omega)
    unfold sumR
    split <;> omega
theorem floorR_bd {ar : Nat → Int} {pl : List Int} {span : Nat → Int × Int} {N : Nat} (hN : N ≤ 12) (h : ∀ k, k < N → 1 ≤ ar k ∧ ar k ≤ 256) : ∀ n, 0 ≤ floorR ar pl span N n ∧ floorR ar pl span N n ≤ 3072
  | 0 => by simp [floorR]
  | n + 1 => by
    have ih := floorR_bd (pl := pl) (span := span) hN h n
    have := sumR_bd (pl := pl) (span := span) (i := n) h (Nat.le_refl N)
    unfold floorR
    omega
set_option maxHeartbeats 4000000 in
theorem peakOf_any (W H S O : Int) (a : Option Addr) (len cap : Nat) (ps : List Ps) (w : World) (hp : Passes w a len ps) (ov : Value) (pa : Option Addr) (plen pcap : Nat) (os pl : List Int) (hL : Ints 0 w pa plen pl) (hE : frameE ⟨W, H, S, O, ps⟩ = 0) (hOrd : Ord (gpOf ⟨W, H, S, O, ps⟩) os pl) :
    Calls Try.prog 19 #[.agg #[.int .i64 W, .int .i64 H, .int .i64 S, .int .i64 O, .slice a len cap], .agg #[ov, .slice pa plen pcap]] w fun e w' => e = .returned (.int .i64 (peakR (gpOf ⟨W, H, S, O, ps⟩).ar pl ps.length)) ∧ Below w.heap.size w w' := by
  obtain rfl := hp.leng
  have hpl : plen = ps.length := by rw [← hL.leng]; exact hOrd.len
  subst hpl
  have hR := gp_right hE
  have hN12 : ps.length ≤ 12 := hR.hN.2
  obtain ⟨hb0, hF0, hP0⟩ := two_boxes w W H S O a ps.length cap ov (.slice pa ps.length pcap)
  have hcf := checkFrame_any W H S O a ps.length cap ps _ (hp.below hb0)
  have hpb : ∀ k, k < ps.length → pl.getD k 0 = -1 ∨ (0 ≤ pl.getD k 0 ∧ pl.getD k 0 ≤ 4096) := fun k hk => by
    by_cases hm : (k : Int) ∈ os
    · exact .inr (hOrd.at_ k hk hm)
    · exact .inl (hOrd.no k hk hm)
  have HPB : Hid (_) := hpb
  have HPK : Hid (∀ n, n ≤ ps.length → 0 ≤ peakR (gpOf ⟨W, H, S, O, ps⟩).ar pl n ∧ peakR (gpOf ⟨W, H, S, O, ps⟩).ar pl n ≤ 4352) := fun n hn => peakR_bd (N := ps.length) (fun k hk => ⟨by rcases hpb k hk with h | h <;> omega, (hR.ar k hk).2⟩) hn
  have HAR : Hid (∀ k, (gpOf ⟨W, H, S, O, ps⟩).ar k = areaZ ((szs ⟨W, H, S, O, ps⟩ ps.length).getD k Sz.zero)) := fun _ => rfl
  obtain ⟨hbnd, hfirst, _⟩ := frameE_zero hE
  have HZB : Hid (∀ z ∈ szs ⟨W, H, S, O, ps⟩ ps.length, ZB z) := szs_bd hbnd hfirst
  generalize hN : ps.length = N at *
  have hzl : (szs ⟨W, H, S, O, ps⟩ N).length = N := szs_length _ _
  generalize (gpOf ⟨W, H, S, O, ps⟩).ar = ar at *
  have HPS : Hid (∀ k, peakR ar pl (k + 1) = if pl.getD k 0 = -1 then peakR ar pl k else if peakR ar pl k < pl.getD k 0 + ar k then pl.getD k 0 + ar k else peakR ar pl k) := fun k => by
    show (if pl.getD k 0 = -1 then peakR ar pl k else max (peakR ar pl k) (pl.getD k 0 + ar k)) = _
    rw [max_if]
  unfold ToldFZ at hcf
  rw [hE, if_pos rfl] at hcf
  dsimp only at hcf
  rw [hN] at hcf
  generalize szs ⟨W, H, S, O, ps⟩ N = zs at *
  clear hOrd hR hbnd hfirst hE hpb
  go_enter Try.func19, Try.ntmps19
  go_wp2_with fail
  refine hcf.mono ?_
  clear hcf
  rintro e w1 ⟨⟨vz, rfl, hZ⟩, b1⟩
  obtain ⟨za, zc, rfl, hZs⟩ := hZ.zs (by omega)
  rw [hzl] at hZs ⊢
  have hP1 := hP0.below b1
  have hb1 := below_step hb0 b1
  have hL1 := hL.below (Nat.le_refl _) hb1
  clear hZ b1 hF0 hP0 hb0 hp hL
  go_wp2
  go_loopw [7, 8] (fun m i wr => ∃ k : Nat, k ≤ N ∧ i = .int .i64 k ∧ m = .int .i64 (peakR ar pl k) ∧ Below w1.heap.size w1 wr) (fun _ i _ => N - (intOf i).toNat)
  case atStart => exact ⟨0, Nat.zero_le _, rfl, rfl, Below.refl _ _⟩
  case round =>
    obtain ⟨k, hk, rfl, rfl, hbr⟩ := hrel
    have hPr := hP1.below hbr
    obtain ⟨_, h0, h1⟩ := id hPr
    by_cases hlt : k < N
    · obtain ⟨pb, po, rfl, lpb, hpk⟩ := (hL1.below (Nat.le_refl _) hbr).nth' hlt
      obtain ⟨zb, zo, rfl, lzb, zk0, zk1⟩ := (hZs.below hbr).nth hlt
      have hyb := HPB.out k hlt
      have hkb := HPK.out k (by omega)
      have HS1 := HPS.out k
      have hzb := HZB.out _ (getD_mem (l := zs) (k := k) (by omega) Sz.zero)
      have hab := area_bd hzb
      have hark := HAR.out k
      unfold areaZ at hab hark
      have hkI : (k : Int) < (N : Int) := by omega
      have hk0 : (0 : Int) ≤ (k : Int) := by omega
      generalize zs.getD k Sz.zero = z at zk0 zk1 hzb hab hark
      obtain ⟨kw, kh⟩ := z
      dsimp only at zk0 zk1 hab hark
      rw [hark] at HS1
      generalize pl.getD k 0 = yk at hpk hyb HS1
      generalize peakR ar pl k = pk at hkb HS1
      have hwk : IntKind.i64.wrap (kw * kh) = kw * kh := by rw [IntKind.wrap_i64]; omega
      have hak := fun wx => area_any kw kh wx hwk
      generalize kw * kh = ak at hab hak HS1 hark hwk
      replace HS1 : Hid (_) := HS1
      clear hwk hark hzb
      by_cases hyk : yk = -1
      · subst hyk
        go_wp2
        go_roundw
        case rel => exact ⟨k + 1, by omega, by go_num, by rw [HS1.out, if_pos (by trivial)], hbr⟩
        case measure => simp [intOf]; omega
      · have hyb2 := hyb.resolve_left hyk
        have hw1 : IntKind.i64.wrap (yk + ak) = yk + ak := by rw [IntKind.wrap_i64]; omega
        have hd := (Below.refl wr.heap.size wr).drew
        have kq : ∀ w', Below wr.heap.size wr w' → w'.cell? ⟨w.heap.size + 1, 1, none⟩ = some (.slice (some ⟨pb, po, none⟩) N pcap) ∧ w'.cell? ⟨pb, po + k, none⟩ = some (.int .i64 yk) ∧ w'.cell? ⟨zb, zo + k * 2, none⟩ = some (.int .i64 kw) ∧ w'.cell? ⟨zb, zo + k * 2 + 1, none⟩ = some (.int .i64 kh) := fun w' h => ⟨(h.cell (p := ⟨w.heap.size + 1, 1, none⟩) hPr.lt).trans h1, (h.cell (p := ⟨pb, po + k, none⟩) lpb).trans hpk, (h.cell (p := ⟨zb, zo + k * 2, none⟩) lzb).trans zk0, (h.cell (p := ⟨zb, zo + k * 2 + 1, none⟩) lzb).trans zk1⟩
        by_cases hm : pk < yk + ak
        · go_wp2
          go_region_held3 (fun w' => w'.cell? ⟨w.heap.size + 1, 1, none⟩ = some (.slice (some ⟨pb, po, none⟩) N pcap) ∧ w'.cell? ⟨pb, po + k, none⟩ = some (.int .i64 yk) ∧ w'.cell? ⟨zb, zo + k * 2, none⟩ = some (.int .i64 kw) ∧ w'.cell? ⟨zb, zo + k * 2 + 1, none⟩ = some (.int .i64 kh))
            (first | exact kq _ hd | exact kq _ B3)
            ((go_at_call 49; refine (hak _).mono ?_; rintro e w3 ⟨rfl, b3⟩; have B3 := hd.trans b3))
          go_wp2
          go_roundw
          case rel => exact ⟨k + 1, by omega, by go_num, by rw [HS1.out, if_neg hyk, if_pos hm], below_step hbr B3⟩
          case measure => simp [intOf]; omega
        · go_wp2
          go_region_held3 (fun w' => w'.cell? ⟨w.heap.size + 1, 1, none⟩ = some (.slice (some ⟨pb, po, none⟩) N pcap) ∧ w'.cell? ⟨pb, po + k, none⟩ = some (.int .i64 yk) ∧ w'.cell? ⟨zb, zo + k * 2, none⟩ = some (.int .i64 kw) ∧ w'.cell? ⟨zb, zo + k * 2 + 1, none⟩ = some (.int .i64 kh))
            (first | exact kq _ hd | exact kq _ B3)
            ((go_at_call 49; refine (hak _).mono ?_; rintro e w3 ⟨rfl, b3⟩; have B3 := hd.trans b3))
          go_wp2
          go_roundw
          case rel => exact ⟨k + 1, by omega, by go_num, by rw [HS1.out, if_neg hyk, if_neg (by omega)], below_step hbr B3⟩
          case measure => simp [intOf]; omega
    · have hke : k = N := by omega
      subst hke
      go_wp2
      go_ret
      exact ⟨rfl, below_step hb1 hbr⟩
set_option maxHeartbeats 4000000 in
theorem floorOf_any (W H S O : Int) (a : Option Addr) (len cap : Nat) (ps : List Ps) (w : World) (hp : Passes w a len ps) (oa : Option Addr) (olen ocap : Nat) (pa : Option Addr) (plen pcap : Nat) (os pl : List Int) (hO : Ints 0 w oa olen os) (hL : Ints 0 w pa plen pl) (hE : frameE ⟨W, H, S, O, ps⟩ = 0) (hOrd : Ord (gpOf ⟨W, H, S, O, ps⟩) os pl) :
    Calls Try.prog 20 #[.agg #[.int .i64 W, .int .i64 H, .int .i64 S, .int .i64 O, .slice a len cap], .agg #[.slice oa olen ocap, .slice pa plen pcap]] w fun e w' => e = .returned (.int .i64 (floorR (gpOf ⟨W, H, S, O, ps⟩).ar pl (spanP (gpOf ⟨W, H, S, O, ps⟩) os) ps.length os.length)) ∧ Below w.heap.size w w' := by
  obtain rfl := hp.leng
  obtain rfl := hO.leng
  have hpl : plen = ps.length := by rw [← hL.leng]; exact hOrd.len
  subst hpl
  have hR := gp_right hE
  have hN12 : ps.length ≤ 12 := hR.hN.2
  obtain ⟨hb0, hF0, hP0⟩ := two_boxes w W H S O a ps.length cap (.slice oa os.length ocap) (.slice pa ps.length pcap)
  have hcf := checkFrame_any W H S O a ps.length cap ps _ (hp.below hb0)
  have hsp := fun wx hp hO => spansOfRef_any W H S O a ps.length cap ps wx hp oa os.length ocap (.slice pa ps.length pcap) os hO hE hOrd.inN (Nat.le_trans hOrd.olen hN12)
  have har : ∀ k, k < ps.length → 1 ≤ (gpOf ⟨W, H, S, O, ps⟩).ar k ∧ (gpOf ⟨W, H, S, O, ps⟩).ar k ≤ 256 := fun k hk => hR.ar k hk
  have HAR : Hid (∀ k, (gpOf ⟨W, H, S, O, ps⟩).ar k = areaZ ((szs ⟨W, H, S, O, ps⟩ ps.length).getD k Sz.zero)) := fun _ => rfl
  obtain ⟨hbnd, hfirst, _⟩ := frameE_zero hE
  have HZB : Hid (∀ z ∈ szs ⟨W, H, S, O, ps⟩ ps.length, ZB z) := szs_bd hbnd hfirst
  have hol2 : os.length ≤ 12 := Nat.le_trans hOrd.olen hN12
  generalize hN : ps.length = N at *
  have hzl : (szs ⟨W, H, S, O, ps⟩ N).length = N := szs_length _ _
  generalize (gpOf ⟨W, H, S, O, ps⟩).ar = ar at *
  generalize spanP (gpOf ⟨W, H, S, O, ps⟩) os = sp at *
  have HFB : Hid (∀ n, 0 ≤ floorR ar pl sp N n ∧ floorR ar pl sp N n ≤ 3072) := fun n => floorR_bd hN12 har n
  have HSB : Hid (∀ (i : Int) n, n ≤ N → 0 ≤ sumR ar pl sp i n ∧ sumR ar pl sp i n ≤ 256 * n) := fun i n hn => sumR_bd har hn
  have HFS : Hid (∀ n : Nat, floorR ar pl sp N (n + 1) = if floorR ar pl sp N n < sumR ar pl sp n N then sumR ar pl sp n N else floorR ar pl sp N n) := fun n => max_if _ _
  have HSS : Hid (∀ (i : Int) k, sumR ar pl sp i (k + 1) = if ¬ pl.getD k 0 = -1 ∧ meetB (sp k) (i, i) = true then sumR ar pl sp i k + ar k else sumR ar pl sp i k) := fun _ _ => rfl
  unfold ToldFZ at hcf
  rw [hE, if_pos rfl] at hcf
  dsimp only at hcf
  rw [hN] at hcf
  generalize szs ⟨W, H, S, O, ps⟩ N = zs at *
  clear hOrd hR hbnd hfirst hE har
  go_enter Try.func20, Try.ntmps20
  go_wp2_with fail
  refine hcf.mono ?_
  clear hcf
  rintro e w1 ⟨⟨vz, rfl, hZ⟩, b1⟩
  obtain ⟨za, zc, rfl, hZs⟩ := hZ.zs (by omega)
  rw [hzl] at hZs ⊢
  have hF1 := hF0.below b1
  have hP1 := hP0.below b1
  have hb1a := below_step hb0 b1
  obtain ⟨_, g0, g1, g2, g3, g4⟩ := id hF1
  obtain ⟨_, h0, h1⟩ := id hP1
  go_wp2_with fail
  refine (hsp _ (hp.below hb1a) (hO.below (Nat.le_refl _) hb1a)).mono ?_
  clear hsp
  rintro e w2 ⟨qa, qc, rfl, hQ, b2⟩
  rw [spans_len] at hQ ⊢
  have hP2 := hP1.below b2
  have hb1 := below_step hb1a b2
  have hL2 := hL.below (Nat.le_refl _) hb1
  have hZ2 := hZs.below b2
  clear g0 g1 g2 g3 g4 h0 h1 hF1 hP1 hb1a hZs b2 hZ b1 hF0 hP0 hb0 hp hO hL
  go_wp2
  go_loopw [8, 9] (fun m i wr => ∃ n : Nat, n ≤ os.length ∧ i = .int .i64 n ∧ m = .int .i64 (floorR ar pl sp N n) ∧ Below w2.heap.size w2 wr) (fun _ i _ => os.length - (intOf i).toNat)
  case atStart => exact ⟨0, Nat.zero_le _, rfl, rfl, Below.refl _ _⟩
  case round =>
    obtain ⟨n, hn, rfl, rfl, hbr⟩ := hrel
    obtain ⟨_, h0, h1⟩ := hP2.below hbr
    by_cases hlt : n < os.length
    · have hfb := HFB.out n
      have HF1 : Hid (_) := HFS.out n
      have HS1 : Hid (∀ k, sumR ar pl sp n (k + 1) = if ¬ pl.getD k 0 = -1 ∧ meetB (sp k) ((n : Int), (n : Int)) = true then sumR ar pl sp n k + ar k else sumR ar pl sp n k) := fun k => HSS.out n k
      have HB1 : Hid (_) := HSB.out n
      generalize floorR ar pl sp N n = F at hfb HF1
      go_wp2
      go_loopw [10, 11] (fun s i ws => ∃ k : Nat, k ≤ N ∧ i = .int .i64 k ∧ s = .int .i64 (sumR ar pl sp n k) ∧ Below w2.heap.size w2 ws) (fun _ i _ => N - (intOf i).toNat)
      case atStart => exact ⟨0, Nat.zero_le _, rfl, rfl, hbr⟩
      case round =>
        obtain ⟨k, hk, rfl, rfl, hbs⟩ := hrel
        clear h0 h1 hbr
        by_cases hlk : k < N
        · have hPr := hP2.below hbs
          obtain ⟨_, h0, h1⟩ := id hPr
          obtain ⟨pb, po, rfl, lpb, hpk⟩ := (hL2.below (Nat.le_refl _) hbs).nth' hlk
          obtain ⟨zb, zo, rfl, lzb, zk0, zk1⟩ := (hZ2.below hbs).nth hlk
          obtain ⟨qb, qo, rfl, lqb, qk0, qk1⟩ := (hQ.below hbs).nth hlk
          rw [spans_at sp hlk] at qk0 qk1
          have hsb := HB1.out k hk
          have HM1 := HS1.out k
          have hzb := HZB.out _ (getD_mem (l := zs) (k := k) (by omega) Sz.zero)
          have hab := area_bd hzb
          have hark := HAR.out k
          unfold areaZ at hab hark
          have hkI : (k : Int) < (N : Int) := by omega
          have hk0 : (0 : Int) ≤ (k : Int) := by omega
          generalize zs.getD k Sz.zero = z at zk0 zk1 hzb hab hark
          obtain ⟨kw, kh⟩ := z
          dsimp only at zk0 zk1 hab hark
          rw [hark] at HM1
          generalize pl.getD k 0 = yk at hpk HM1
          obtain ⟨r, hr⟩ : ∃ r, r = meetB (sp k) ((n : Int), (n : Int)) := ⟨_, rfl⟩
          have hme := fun wx => meetRef_any (sp k).1 (sp k).2 n n wx
          rw [show meetB ((sp k).1, (sp k).2) ((n : Int), (n : Int)) = r from hr.symm] at hme
          rw [← hr] at HM1
          generalize (sp k).1 = s1 at qk0 hme
          generalize (sp k).2 = s2 at qk1 hme
          generalize sumR ar pl sp n k = S0 at hsb HM1
          have hwk : IntKind.i64.wrap (kw * kh) = kw * kh := by rw [IntKind.wrap_i64]; omega
          have hak := fun wx => area_any kw kh wx hwk
          generalize kw * kh = ak at hab hak HM1 hark hwk
          replace HM1 : Hid (_) := HM1
          clear hwk hark hzb hr
          by_cases hyk : yk = -1
          · subst hyk
            go_wp2
            go_roundw
            case rel => exact ⟨k + 1, by omega, by go_num, by rw [HM1.out, if_neg (fun h => h.1 (by trivial))], hbs⟩
            case measure => simp [intOf]; omega
          · cases r with
            | false =>
              go_wp2_with (go_at_call 50; refine (hme _).mono ?_; rintro e w3 ⟨rfl, b3⟩)
              go_roundw
              case rel => exact ⟨k + 1, by omega, by go_num, by rw [HM1.out, if_neg (fun h => by have := h.2; revert this; decide)], below_step hbs b3⟩
              case measure => simp [intOf]; omega
            | true =>
              have hw1 : IntKind.i64.wrap (S0 + ak) = S0 + ak := by rw [IntKind.wrap_i64]; omega
              go_wp2_with (first
                | (go_at_call 50; refine (hme _).mono ?_; rintro e w3 ⟨rfl, b3⟩; have y0 := (b3.cell (p := ⟨zb, zo + k * 2, none⟩) lzb).trans zk0; have y1 := (b3.cell (p := ⟨zb, zo + k * 2 + 1, none⟩) lzb).trans zk1)
                | (go_at_call 49; refine (hak _).mono ?_; rintro e w4 ⟨rfl, b4⟩))
              go_roundw
              case rel => exact ⟨k + 1, by omega, by go_num, by rw [HM1.out, if_pos ⟨hyk, by trivial⟩], below_step (below_step hbs b3) b4⟩
              case measure => simp [intOf]; omega
        · have hke : k = N := by omega
          subst hke
          have hsb := HB1.out k (Nat.le_refl _)
          generalize sumR ar pl sp n k = S0 at hsb HF1
          by_cases hc : F < S0
          · go_wp2
            go_roundw
            case rel => exact ⟨n + 1, by omega, by go_num, by rw [HF1.out, if_pos hc], hbs⟩
            case measure => simp [intOf]; omega
          · go_wp2
            go_roundw
            case rel => exact ⟨n + 1, by omega, by go_num, by rw [HF1.out, if_neg hc], hbs⟩
            case measure => simp [intOf]; omega
    · have hne : n = os.length := by omega
      subst hne
      go_wp2
      go_ret
      exact ⟨rfl, below_step hb1 hbr⟩
end Go.Proofs.Ytfpkiimlaepnhab
/-
  LAWPLAN2: the walk of PlanTells.
-/
namespace Go.Proofs.Ytfpkiimlaepnhab
set_option maxRecDepth 100000
open Go.RowKit Im Go.Maps

set_option maxHeartbeats 8000000 in
theorem planTells_any (W H S O : Int) (a : Option Addr) (len cap : Nat) (ps : List Ps) (oa : Option Addr) (olen ocap : Nat) (os : List Int) (pa : Option Addr) (plen pcap : Nat) (pl : List Int) (w : World) (hp : Passes w a len ps) (hO : Ints 0 w oa olen os) (_hcap : olen ≤ ocap) (hL : Ints 0 w pa plen pl) :
    Calls Try.prog 4 #[.agg #[.int .i64 W, .int .i64 H, .int .i64 S, .int .i64 O, .slice a len cap], .agg #[.slice oa olen ocap, .slice pa plen pcap]] w fun e w' => e = .returned (.bool true) ∧ Below w.heap.size w w' := by
  obtain ⟨hb0, hF0, hP0⟩ := two_boxes w W H S O a len cap (.slice oa olen ocap) (.slice pa plen pcap)
  have hsp := fun wx (h : Below w.heap.size w wx) => spans_any W H S O a len cap ps wx (hp.below h) oa olen ocap pa plen pcap os pl (hO.below (Nat.le_refl _) h) (hL.below (Nat.le_refl _) h)
  have hpk := fun wx (h : Below w.heap.size w wx) => planPeak_any W H S O a len cap ps wx (hp.below h) oa olen ocap pa plen pcap os pl (hO.below (Nat.le_refl _) h) (hL.below (Nat.le_refl _) h)
  have hfl := fun wx (h : Below w.heap.size w wx) => planFloor_any W H S O a len cap ps wx (hp.below h) oa olen ocap pa plen pcap os pl (hO.below (Nat.le_refl _) h) (hL.below (Nat.le_refl _) h)
  have her := fun wx (h : Below w.heap.size w wx) => planError_any W H S O a len cap ps wx (hp.below h) oa olen ocap pa plen pcap os pl (hO.below (Nat.le_refl _) h) (hL.below (Nat.le_refl _) h)
  by_cases hE : planE ⟨W, H, S, O, ps⟩ os pl = 0
  · obtain ⟨hfe, hOrd⟩ := planE_zero hE
    have hrs := fun wx (h : Below w.heap.size w wx) => spansOfRef_any W H S O a len cap ps wx (hp.below h) oa olen ocap (.slice pa plen pcap) os (hO.below (Nat.le_refl _) h) hfe hOrd.inN (Nat.le_trans hOrd.olen (gp_right hfe).hN.2)
    have hrp := fun wx (h : Below w.heap.size w wx) => peakOf_any W H S O a len cap ps wx (hp.below h) (.slice oa olen ocap) pa plen pcap os pl (hL.below (Nat.le_refl _) h) hfe hOrd
    have hrf := fun wx (h : Below w.heap.size w wx) => floorOf_any W H S O a len cap ps wx (hp.below h) oa olen ocap pa plen pcap os pl (hO.below (Nat.le_refl _) h) (hL.below (Nat.le_refl _) h) hfe hOrd
    have e1 : peakP ⟨W, H, S, O, ps⟩ os pl = peakR (gpOf ⟨W, H, S, O, ps⟩).ar pl ps.length := by unfold peakP; rw [if_pos hE]; exact peak_ref hOrd
    have e2 : floorP ⟨W, H, S, O, ps⟩ os pl = floorR (gpOf ⟨W, H, S, O, ps⟩).ar pl (spanP (gpOf ⟨W, H, S, O, ps⟩) os) ps.length os.length := by unfold floorP; rw [if_pos hE]; exact floor_ref hOrd _ _
    have hN12 : ps.length ≤ 12 := (gp_right hfe).hN.2
    rw [e1, hE] at hpk
    rw [e2, hE] at hfl
    rw [hE] at her
    have HE : Hid (_) := hE
    generalize peakR (gpOf ⟨W, H, S, O, ps⟩).ar pl ps.length = n at *
    generalize floorR (gpOf ⟨W, H, S, O, ps⟩).ar pl (spanP (gpOf ⟨W, H, S, O, ps⟩) os) ps.length os.length = m at *
    generalize spanP (gpOf ⟨W, H, S, O, ps⟩) os = sp at *
    clear e1 e2 hE hfe hOrd hp hO hL
    go_enter Try.func4, Try.ntmps4
    go_wp2_with fail
    refine (hsp _ hb0).mono ?_
    clear hsp
    rintro e w1 ⟨⟨_, sb, rfl, hsb, hSp⟩ | ⟨h0, _⟩, b1⟩
    case inr => exact absurd HE.out h0
    have hb1 := below_step hb0 b1
    have hF1 := hF0.below b1
    have hP1 := hP0.below b1
    obtain ⟨_, g0, g1, g2, g3, g4⟩ := id hF1
    obtain ⟨_, h0, h1⟩ := id hP1
    go_wp2_with fail
    refine (hpk _ hb1).mono ?_
    clear hpk
    rintro e w2 ⟨rfl, b2⟩
    have hb2 := below_step hb1 b2
    have hF2 := hF1.below b2
    have hP2 := hP1.below b2
    clear g0 g1 g2 g3 g4 h0 h1
    obtain ⟨_, g0, g1, g2, g3, g4⟩ := id hF2
    obtain ⟨_, h0, h1⟩ := id hP2
    go_wp2_with fail
    refine (hfl _ hb2).mono ?_
    clear hfl
    rintro e w3 ⟨rfl, b3⟩
    have hb3 := below_step hb2 b3
    have hF3 := hF2.below b3
    have hP3 := hP2.below b3
    clear g0 g1 g2 g3 g4 h0 h1
    obtain ⟨_, g0, g1, g2, g3, g4⟩ := id hF3
    obtain ⟨_, h0, h1⟩ := id hP3
    go_wp2_with fail
    refine (her _ hb3).mono ?_
    clear her
    rintro e w4 ⟨rfl, b4⟩
    have hb4 := below_step hb3 b4
    have hF4 := hF3.below b4
    have hP4 := hP3.below b4
    clear g0 g1 g2 g3 g4 h0 h1
    have hSp4 := ((hSp.below b2 hSp.lt b2.size).below b3 (Nat.lt_of_lt_of_le hSp.lt b2.size) b3.size).below b4 (Nat.lt_of_lt_of_le hSp.lt (Nat.le_trans b2.size b3.size)) b4.size
    have hd := (Below.refl w4.heap.size w4).drew
    clear hSp hF0 hF1 hF2 hF3 hP0 hP1 hP2 hP3 b1 b2 b3 b4 hb0 hb1 hb2 hb3
    go_wp2
    go_region_held3 (fun w' => w'.cell? ⟨w.heap.size, 0, none⟩ = some (.int .i64 W) ∧ w'.cell? ⟨w.heap.size, 1, none⟩ = some (.int .i64 H) ∧ w'.cell? ⟨w.heap.size, 2, none⟩ = some (.int .i64 S) ∧ w'.cell? ⟨w.heap.size, 3, none⟩ = some (.int .i64 O) ∧ w'.cell? ⟨w.heap.size, 4, none⟩ = some (.slice a len cap) ∧ w'.cell? ⟨w.heap.size + 1, 0, none⟩ = some (.slice oa olen ocap) ∧ w'.cell? ⟨w.heap.size + 1, 1, none⟩ = some (.slice pa plen pcap))
      (first | exact seven hF4 hP4 hd | exact seven hF4 hP4 B5 | exact seven hF4 hP4 B6 | exact seven hF4 hP4 B7)
      (first
        | (go_at_call 18; (with_reducible refine (hrs _ (below_step hb4 hd)).mono ?_); rintro e w5 ⟨qa, qc, rfl, hQ, b5⟩; have B5 := hd.trans b5)
        | (go_at_call 19; (with_reducible refine (hrp _ (below_step hb4 B5)).mono ?_); rintro e w6 ⟨rfl, b6⟩; have B6 := below_step B5 b6)
        | (go_at_call 20; (with_reducible refine (hrf _ (below_step hb4 B6)).mono ?_); rintro e w7 ⟨rfl, b7⟩; have B7 := below_step B6 b7))
    rw [spans_len] at hQ
    have hQ7 := (hQ.below b6).below b7
    have hS7 := hSp4.below B7 hSp4.lt B7.size
    have hb7 := below_step hb4 B7
    clear hrs hrp hrf hd hF4 hP4 hQ b5 b6 b7 B5 B6 B7 hSp4 hb4
    go_wp2
    go_loopw [15] (fun i wr => ∃ k : Nat, k ≤ ps.length ∧ i = .int .i64 k ∧ Below w7.heap.size w7 wr) (fun i _ => ps.length - (intOf i).toNat)
    case atStart => exact ⟨0, Nat.zero_le _, rfl, Below.refl _ _⟩
    case round =>
      obtain ⟨k, hk, rfl, hbr⟩ := hrel
      by_cases hlt : k < ps.length
      · have hSr := hS7.below hbr hS7.lt hbr.size
        obtain ⟨qb, qo, rfl, _, q0, q1⟩ := (hQ7.below hbr).nth hlt
        rw [spans_at sp hlt] at q0 q1
        have s0 := hSr.c0 k hlt
        have s1 := hSr.c1 k hlt
        have hkI : (k : Int) < (ps.length : Int) := by omega
        have hk0 : (0 : Int) ≤ (k : Int) := by omega
        generalize (sp k).1 = x at *
        generalize (sp k).2 = y at *
        go_wp2
        go_region_held3 (fun w' => w'.cell? ⟨sb, k * 2, none⟩ = some (.int .i64 x) ∧ w'.cell? ⟨sb, k * 2 + 1, none⟩ = some (.int .i64 y) ∧ w'.cell? ⟨qb, qo + k * 2, none⟩ = some (.int .i64 x) ∧ w'.cell? ⟨qb, qo + k * 2 + 1, none⟩ = some (.int .i64 y))
          (exact ⟨s0, s1, q0, q1⟩)
          (fail)
        go_wp2
        go_roundw
        case rel => exact ⟨k + 1, by omega, by go_num, hbr.drew⟩
        case measure => simp [intOf]; omega
      · have hke : k = ps.length := by omega
        subst hke
        go_wp2_with (go_at_call 11; refine (planBegun_any _).mono ?_; rintro e w8 ⟨rfl, b8⟩)
        go_ret
        exact ⟨rfl, below_step (below_step hb7 hbr) b8⟩
  · have e1 : peakP ⟨W, H, S, O, ps⟩ os pl = 0 := by unfold peakP; rw [if_neg hE]
    have e2 : floorP ⟨W, H, S, O, ps⟩ os pl = 0 := by unfold floorP; rw [if_neg hE]
    rw [e1] at hpk
    rw [e2] at hfl
    have HE : Hid (_) := hE
    have hne : ¬ planE ⟨W, H, S, O, ps⟩ os pl = 0 := hE
    generalize planE ⟨W, H, S, O, ps⟩ os pl = E at *
    clear e1 e2 hE hp hO hL
    go_enter Try.func4, Try.ntmps4
    go_wp2_with fail
    refine (hsp _ hb0).mono ?_
    clear hsp
    rintro e w1 ⟨⟨h0, _⟩ | ⟨_, rfl⟩, b1⟩
    case inl => exact absurd h0 HE.out
    have hb1 := below_step hb0 b1
    have hF1 := hF0.below b1
    have hP1 := hP0.below b1
    obtain ⟨_, g0, g1, g2, g3, g4⟩ := id hF1
    obtain ⟨_, h0, h1⟩ := id hP1
    go_wp2_with fail
    refine (hpk _ hb1).mono ?_
    clear hpk
    rintro e w2 ⟨rfl, b2⟩
    have hb2 := below_step hb1 b2
    have hF2 := hF1.below b2
    have hP2 := hP1.below b2
    clear g0 g1 g2 g3 g4 h0 h1
    obtain ⟨_, g0, g1, g2, g3, g4⟩ := id hF2
    obtain ⟨_, h0, h1⟩ := id hP2
    go_wp2_with fail
    refine (hfl _ hb2).mono ?_
    clear hfl
    rintro e w3 ⟨rfl, b3⟩
    have hb3 := below_step hb2 b3
    have hF3 := hF2.below b3
    have hP3 := hP2.below b3
    clear g0 g1 g2 g3 g4 h0 h1
    obtain ⟨_, g0, g1, g2, g3, g4⟩ := id hF3
    obtain ⟨_, h0, h1⟩ := id hP3
    go_wp2_with fail
    refine (her _ hb3).mono ?_
    clear her
    rintro e w4 ⟨rfl, b4⟩
    have hb4 := below_step hb3 b4
    clear g0 g1 g2 g3 g4 h0 h1
    go_wp2
    refine wp_loop_rounds 1 ?_
    rw [rounds_succ]
    go_wp2_with (go_at_call 11; refine (planBegun_any _).mono ?_; rintro e w8 ⟨rfl, b8⟩)
    go_ret
    exact ⟨rfl, below_step hb4 b8⟩
end Go.Proofs.Ytfpkiimlaepnhab
