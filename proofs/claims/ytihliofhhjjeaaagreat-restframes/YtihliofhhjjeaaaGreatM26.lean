/- ImagesRef2, RenderRef, OwnF, OpenL, OpenF, OpenP, OpenA: joined, in this order. -/
import Derived.Test.YtihliofhhjjeaaaGreatM17
import Derived.Test.YtihliofhhjjeaaaGreatM12
import Derived.Test.YtihliofhhjjeaaaGreatM22
import Derived.Test.YtihliofhhjjeaaaGreatM19
import Derived.Test.YtihliofhhjjeaaaGreatM03
import Derived.Deep.Slices
import Derived.Test.YtihliofhhjjeaaaGreatM11
set_option maxRecDepth 100000
namespace Go.Proofs.YtihliofhhjjeaaaGreat
open Go.RowKit Im
def ToldIm (w : World) (rs : List Res) (e : Ending) (w' : World) : Prop :=
  (∃ v L, e = .returned v ∧ RowI w.heap.size w' v L ∧ L.map Prod.fst = rs) ∧ Below w.heap.size w w'
theorem row_imgs {base : Nat} {w : World} {v : Value} {L : Lr} {rs : List Res} (h : RowI base w v L) (he : L.map Prod.fst = rs) (hb : L.length ≤ 12) : ∃ a cap, v = .slice a rs.length cap ∧ Imgs base w a rs.length rs := h.1.imgs he (fun x hx => (h.2 x hx).ints) hb
theorem Passes.blk {w : World} {b off len : Nat} {ps : List Ps} (h : Passes w (some ⟨b, off, none⟩) len ps) {k : Nat} (hk : k < len) : b < w.heap.size := by
  rcases h.cells with e | ⟨b', off', ha, hl, _⟩
  · have := h.leng; subst e; simp at this; omega
  · injection ha with ha
    injection ha with e1 e2
    subst e1
    exact hl
set_option maxHeartbeats 4000000 in
theorem images_any (W H S O : Int) (a : Option Addr) (len cap : Nat) (ps : List Ps) (w : World) (hp : Passes w a len ps) (hE : frameE ⟨W, H, S, O, ps⟩ = 0) :
    Calls Tryz.prog 49 #[.agg #[.int .i64 W, .int .i64 H, .int .i64 S, .int .i64 O, .slice a len cap]] w (ToldIm w (pics ⟨W, H, S, O, ps⟩ len)) := by
  obtain rfl := hp.leng
  obtain ⟨hbnd, hfirst, hsh⟩ := frameE_zero hE
  dsimp only at hfirst
  obtain ⟨_, _, _, _, hL⟩ := boundsE_zero hbnd
  dsimp only at hL
  obtain ⟨i0, hi, hz0, hz1, hz2⟩ := info_parts Tryz.infoImage
  have hb0 := below_box (Below.refl w.heap.size w) (.cells #[.int .i64 W, .int .i64 H, .int .i64 S, .int .i64 O, .slice a ps.length cap] 24)
  have hB := FBox.new w W H S O a ps.length cap
  have hsr := sourcesOfRef_any W H S O a ps.length cap ps _ (hp.below hb0) hL.2
  have hs2 : ∀ x ∈ srcs ps ps.length, x.length ≤ 2 := by
    intro x hx
    unfold srcs at hx
    rw [List.mem_map] at hx
    obtain ⟨n, _, rfl⟩ := hx
    unfold srcOf
    rw [List.length_map]
    exact takesP_len _
  go_enter Tryz.func49, Tryz.ntmps49
  go_wp2_with fail
  refine hsr.mono ?_
  clear hsr
  rintro e w1 ⟨⟨v1, rfl, hLL⟩, b1⟩
  obtain ⟨sa, scap, rfl, hSs⟩ := hLL.lls hs2
  rw [srcs_length] at hSs ⊢
  have hB1 := hB.below b1
  have hb1 := below_step hb0 b1
  have hp1 := hp.below hb1
  clear hB hb0 b1 hLL hs2 hp
  go_wp2
  go_loopw [4, 5] (fun v i wr => ∃ (k : Nat) (L : Lr), k ≤ ps.length ∧ i = .int .i64 k ∧ RowI w1.heap.size wr v L ∧ L.map Prod.fst = pics ⟨W, H, S, O, ps⟩ k ∧ Below w1.heap.size w1 wr) (fun _ i _ => ps.length - (intOf i).toNat)
  case atStart => exact ⟨0, [], Nat.zero_le _, rfl, RowI.nil _ _, rfl, Below.refl _ _⟩
  case round =>
    obtain ⟨k, L, hk, rfl, hrow, hmap, hbr⟩ := hrel
    have hBr := hB1.below hbr
    have hpr := hp1.below hbr
    have hSr := hSs.below hbr
    obtain ⟨_, g0, g1, g2, g3, g4⟩ := id hBr
    have hLl : L.length = k := by have := congrArg List.length hmap; simpa [pics_length] using this
    by_cases hlt : k < ps.length
    · have hfk := firstE_down ⟨W, H, S, O, ps⟩ hfirst (k := k) (by omega)
      have hpE : passE ⟨W, H, S, O, ps⟩ k = 0 := (firstE_at ⟨W, H, S, O, ps⟩ hfk).symm.trans (firstE_down ⟨W, H, S, O, ps⟩ hfirst (k := k + 1) (by omega))
      have hRR := paint_right hbnd hpE (pics_right hbnd hfk)
      obtain ⟨o1, o2, _⟩ := passE_zero hpE
      obtain ⟨hkn, _⟩ := ownE_zero o1
      have hin := src_bd o2
      have hsl : (srcOf ps k).length ≤ 2 := by unfold srcOf; rw [List.length_map]; exact takesP_len _
      have hAl : hasA (ps.getD k Ps.zero).Op = true → 1 ≤ (srcOf ps k).length := fun hA => by
        obtain ⟨r, hr⟩ := takes_pos hA
        unfold srcOf; rw [List.length_map, hr]; simp
      have hBl : hasB (ps.getD k Ps.zero).Op = true → 2 ≤ (srcOf ps k).length := fun hB => by
        unfold srcOf; rw [List.length_map, takes_two' hB]; simp
      have HG : Hid (pics ⟨W, H, S, O, ps⟩ (k + 1) = pics ⟨W, H, S, O, ps⟩ k ++ [paintRes (ps.getD k Ps.zero) (sizeN ⟨W, H, S, O, ps⟩ k) (pickR (pics ⟨W, H, S, O, ps⟩ k) (srcOf ps k))]) := rfl
      have hzz : (ps.getD k Ps.zero).Op = 1 ∨ (ps.getD k Ps.zero).Op = 2 → sizeN ⟨W, H, S, O, ps⟩ k = (W, H) := fun h => by unfold sizeN sizeP; rw [if_pos h]
      obtain ⟨va, vc, rfl, hImg⟩ := row_imgs hrow hmap (by omega)
      obtain ⟨b, off, la, ll, lc, rfl, p0, p1, p2, p3, p4, p5, hLi⟩ := hpr.nth hlt
      obtain ⟨sb, so, ua, uc, rfl, hsb, q0, hUI⟩ := hSr.nth hlt
      rw [srcs_at _ hlt] at q0 hUI
      have hblk := hpr.blk hlt
      have hpicl : (pics ⟨W, H, S, O, ps⟩ k).length = k := pics_length _ _
      dsimp only at hRR hkn
      generalize pics ⟨W, H, S, O, ps⟩ k = rs at hrow hmap HG hRR hImg hpicl ⊢
      generalize sizeN ⟨W, H, S, O, ps⟩ k = z at HG hRR hzz
      generalize srcOf ps k = sr at HG hRR hAl hBl q0 hUI hsl hin
      generalize ps.getD k Ps.zero = p at p0 p1 p2 p3 p4 p5 hLi hRR hkn hAl hBl HG hzz
      obtain ⟨Op, To, A, B, K, ls⟩ := p
      dsimp only at p0 p1 p2 p3 p4 p5 hLi hkn hAl hBl hzz
      have hpl : (pickR rs sr).length = sr.length := by simp [pickR]
      have hso := fun w' (pa : Option Addr) (pcap : Nat) (hz : Imgs 0 w' pa (pickR rs sr).length (pickR rs sr)) (hb : Below wr.heap.size wr w') => made_any W H S O (some ⟨b, off, none⟩) ps.length cap (Op := Op) To A B (K := K) lc pcap hkn (hLi.below hb) hz (by rw [hpl]; exact hAl) (by rw [hpl]; exact hBl) hzz hRR.1
      have HRR : Hid (_) := hRR
      have HMAP : Hid (_) := hmap
      have HLL : Hid (_) := hLl
      clear hRR hkn hAl hBl hzz hmap hLl hfk hpE o1 o2
      obtain rfl : k = rs.length := hpicl.symm
      obtain ⟨wO, e0⟩ : ∃ z, z = wr := ⟨_, rfl⟩
      subst e0
      go_wp2_with fail
      go_loopw [6, 7] (fun v i ws => ∃ (j : Nat) (M : Lr), j ≤ sr.length ∧ i = .int .i64 j ∧ OwnsR wO.heap.size ws v M ∧ M.map Prod.fst = pickR rs (sr.take j) ∧ (∀ x ∈ M, Ints 0 wO x.2.1 x.1.ps.length x.1.ps) ∧ Below wO.heap.size wO ws) (fun _ i _ => sr.length - (intOf i).toNat)
      case atStart => exact ⟨0, [], Nat.zero_le _, rfl, World.ownsRow_nil _ _ _ _, rfl, (fun x hx => by cases hx), Below.refl _ _⟩
      case round =>
        obtain ⟨j, M, hj, rfl, hown, hmapM, hintsM, hbs⟩ := hrel
        have hMl : M.length = j := by
          have := congrArg List.length hmapM
          simp [pickR] at this
          omega
        clear g0 g1 g2 g3 g4
        have q1 := (hbs.cell (p := ⟨sb, so + rs.length, none⟩) hsb).trans q0
        have hsz := hbs.size
        have hU1 := hUI.below (Nat.le_refl _) hbs
        have HM : Hid (_) := hmapM
        have HML : Hid (_) := hMl
        have HI : Hid (_) := hintsM
        clear hmapM hMl hintsM
        by_cases hjl : j < sr.length
        · obtain ⟨bu, ou, rfl, hcx⟩ := hU1.nth hjl
          have hr := hin _ (getD_mem hjl 0)
          have HS := pickR_succ rs sr j hjl
          generalize sr.getD j 0 = n at hcx hr HS
          obtain ⟨m, rfl⟩ := Int.eq_ofNat_of_zero_le hr.1
          obtain ⟨b', off', pa, pcap, rfl, hb', d0, d1, d2, hpi⟩ := hImg.nth (k := m) (by omega)
          replace d0 := (hbs.cell (p := ⟨b', off' + m * 3, none⟩) hb').trans d0
          replace d1 := (hbs.cell (p := ⟨b', off' + m * 3 + 1, none⟩) hb').trans d1
          replace d2 := (hbs.cell (p := ⟨b', off' + m * 3 + 2, none⟩) hb').trans d2
          rw [Int.toNat_natCast] at HS
          have HS' : Hid (pickR rs (sr.take (j + 1)) = pickR rs (sr.take j) ++ [rs.getD m (noRes 0)]) := HS
          have HP : Hid (_) := hpi.mono (Nat.zero_le _)
          have hmr : (m : Int) < (rs.length : Int) := hr.2
          clear HS hpi hso hImg hU1 hUI hLi hpr hp1 hSr hSs hBr hB1 hr p0 p1 p2 p3 p4 p5
          generalize rs.getD m (noRes 0) = r at d0 d1 d2 HS' HP
          go_wp2_with (at_builtin; refine wpList_append_own _ rfl _ _ 85 rfl wO.heap.size 31 i0 _ 3 40 Tryz.underlying85 hi hz0 hz1 hz2 rfl (by decide) _ _ _ rfl (World.ownsRow.alloc hown _) ⟨wr.heap.size, 0, none⟩ 1 1 [.int .i64 r.W, .int .i64 r.H, .slice pa r.ps.length pcap] rfl rfl (cell_three_new _ _ _ _ _) (by intro u hu; simp at hu; rcases hu with rfl | rfl | rfl <;> rfl) (by rw [HML.out]; unfold maxLen; omega) (by rw [HML.out]; omega) (by simp; omega) ?_; intro v' w9 hown9 hgrow9 _)
          have RR := OwnsR.push (x := (r, pa, pcap)) hown hbs hsz hown9 rfl hgrow9
          go_roundw
          case rel => exact ⟨j + 1, M ++ [(r, pa, pcap)], by omega, by go_num, RR.1, by rw [HS'.out, List.map_append, HM.out]; rfl, (fun x hx => by rcases List.mem_append.1 hx with h | h; exact HI.out x h; rw [List.mem_singleton] at h; subst h; exact HP.out), RR.2⟩
          case measure => simp [intOf]; omega
        · have hje : j = sr.length := by omega
          have hmM := HM.out
          rw [hje, List.take_length] at hmM
          have hML2 : M.length ≤ 12 := by rw [HML.out]; omega
          obtain ⟨na, ncap, rfl, hN⟩ := hown.imgs hmM (fun x hx => (HI.out x hx).below (Nat.le_refl _) hbs) hML2
          rw [hpl] at hN ⊢
          rw [hpl] at hso
          have hbD : Below wO.heap.size wO wr.drew := hbs.drew
          have hcall := hso _ na ncap (hN.below (Below.refl _ _).drew) hbD
          obtain ⟨_, g0, g1, g2, g3, g4⟩ := hBr.below hbs
          replace p0 := (hbs.cell (p := ⟨b, off + rs.length * 6, none⟩) hblk).trans p0
          replace p1 := (hbs.cell (p := ⟨b, off + rs.length * 6 + 1, none⟩) hblk).trans p1
          replace p2 := (hbs.cell (p := ⟨b, off + rs.length * 6 + 2, none⟩) hblk).trans p2
          replace p3 := (hbs.cell (p := ⟨b, off + rs.length * 6 + 3, none⟩) hblk).trans p3
          replace p4 := (hbs.cell (p := ⟨b, off + rs.length * 6 + 4, none⟩) hblk).trans p4
          replace p5 := (hbs.cell (p := ⟨b, off + rs.length * 6 + 5, none⟩) hblk).trans p5
          generalize paintRes ⟨Op, To, A, B, K, ls⟩ z (pickR rs sr) = r at hcall HG HRR
          have HROW : Hid (RowI w1.heap.size wO (.slice va rs.length vc) L) := hrow
          have hrl := hrow.lt
          have HRL : Hid (_) := hrl
          clear hso hImg hU1 hUI hLi hpr hp1 hSr hSs hBr hB1 hN hmM hML2 hin hown q0 HRR hrow hrl
          go_wp2_with fail
          go_region_law (first
            | (go_simp; go_at_call 76; refine hcall.mono ?_; rintro e w3 ⟨ra, rc, rfl, hri, hb3⟩; have hbO3 := below_step hbD hb3; have hrow3 := HROW.out.below hbO3; have hpx3 := Px.of (v := .slice va rs.length vc) (c := rc) hri (show w1.heap.size ≤ _ from Nat.le_trans hbr.size hbD.size) (fun j hj => Nat.lt_of_lt_of_le (HRL.out j hj).2 hbD.size); go_wp2_with fail)
            | (refine step_append_at rfl _ _ 85 rfl w1.heap.size 31 i0 (.agg #[.int .i64 0, .int .i64 0, .slice none 0 0]) 3 40 Tryz.underlying85 hi hz0 hz1 hz2 rfl (by decide) (.slice va rs.length vc) L.length (rcells L) rfl (hrow3.below ((Below.refl _ _).alloc (Nat.le_refl _) _)).1 ⟨w3.heap.size, 0, none⟩ 1 1 [.int .i64 r.W, .int .i64 r.H, .slice ra r.ps.length rc] rfl rfl (cell_three_new _ _ _ _ _) (by intro u hu; simp at hu; rcases hu with rfl | rfl | rfl <;> rfl) (by rw [HLL.out]; unfold maxLen; omega) (by rw [HLL.out]; omega) (by have h1 := hbr.size; have h2 := hbO3.size; simp; omega) ?_; intro v' w9 hown9 hgrow9 hloc9))
          all_goals
            have bA := (Below.refl w3.heap.size w3).alloc (Nat.le_refl _) (.cells #[.int .i64 r.W, .int .i64 r.H, .slice ra r.ps.length rc] 31)
            have RR := (hrow3.below bA).push (x := (r, ra, rc)) (hpx3.below bA) hown9 hgrow9 hloc9
            have h1 := hbr.size
            have h2 := hbO3.size
            have hb9 : Below w1.heap.size w1 w9 := ((hbr.trans (hbO3.mono hbr.size)).alloc (by omega) (.cells #[.int .i64 r.W, .int .i64 r.H, .slice ra r.ps.length rc] 31)).grown hgrow9 (by simp; omega) (fun j hj => (HRL.out j hj).1)
            go_wp2
            exact ⟨⟨rs.length + 1, L ++ [(r, ra, rc)], by omega, by go_num, RR, by rw [HG.out, List.map_append, HMAP.out]; rfl, hb9⟩, by simp [intOf]; omega⟩
    · have hke : k = ps.length := by omega
      subst hke
      have HROW : Hid (_) := hrow
      have HMAP : Hid (_) := hmap
      clear hrow hmap hLl hpr hSr hBr
      go_wp2
      go_ret
      exact ⟨⟨_, L, rfl, ⟨row_mono HROW.out.1 hb1.size, fun x hx => (HROW.out.2 x hx).mono hb1.size⟩, HMAP.out⟩, below_step hb1 hbr⟩
end Go.Proofs.YtihliofhhjjeaaaGreat
namespace Go.Proofs.YtihliofhhjjeaaaGreat
open Go.RowKit Im
set_option maxHeartbeats 4000000 in
theorem renderOf_any (W H S O : Int) (a : Option Addr) (len cap : Nat) (ps : List Ps) (w : World) (hp : Passes w a len ps) (hE : frameE ⟨W, H, S, O, ps⟩ = 0) :
    Calls Tryz.prog 18 #[.agg #[.int .i64 W, .int .i64 H, .int .i64 S, .int .i64 O, .slice a len cap]] w (ToldM w (renderP ⟨W, H, S, O, ps⟩)) := by
  obtain rfl := hp.leng
  obtain ⟨hbnd, hfirst, hsh⟩ := frameE_zero hE
  obtain ⟨_, _, _, _, hL⟩ := boundsE_zero hbnd
  dsimp only at hL
  have hr : renderP ⟨W, H, S, O, ps⟩ = (pics ⟨W, H, S, O, ps⟩ ps.length).getD (shownP ⟨W, H, S, O, ps⟩).toNat (noRes 0) := by unfold renderP; rw [if_pos hE]
  rw [hr]
  clear hr
  obtain ⟨N, hN⟩ := Int.eq_ofNat_of_zero_le hsh
  have hNl : N < ps.length := by have := (wrt_bd ps ps.length O).2; have e : shownP ⟨W, H, S, O, ps⟩ = wrt ps ps.length O := rfl; omega
  rw [hN, Int.toNat_natCast]
  have hb0 := below_box (below_box (Below.refl w.heap.size w) (.cells #[.int .i64 W, .int .i64 H, .int .i64 S, .int .i64 O, .slice a ps.length cap] 24)) (.cells #[.int .i64 0, .int .i64 0, .slice none 0 0] 31)
  have hbox := IBox.new (w.alloc (.cells #[.int .i64 W, .int .i64 H, .int .i64 S, .int .i64 O, .slice a ps.length cap] 24))
  have hB := (FBox.new w W H S O a ps.length cap).alloc (.cells #[.int .i64 0, .int .i64 0, .slice none 0 0] 31)
  rw [World.size_alloc] at hbox
  have him := fun wx hp => images_any W H S O a ps.length cap ps wx hp hE
  have hla := fun wx hp => lastOf_any W H S O a ps.length cap ps wx hp
  have hp2 := hp.below hb0
  have hsz2 : w.heap.size + 2 ≤ ((w.alloc (.cells #[.int .i64 W, .int .i64 H, .int .i64 S, .int .i64 O, .slice a ps.length cap] 24)).alloc (.cells #[.int .i64 0, .int .i64 0, .slice none 0 0] 31)).heap.size := by simp
  generalize hpp : pics ⟨W, H, S, O, ps⟩ ps.length = rs at *
  have hrl : rs.length = ps.length := by rw [← hpp]; exact pics_length _ _
  rw [hN] at hla
  clear hpp hp hbnd hfirst hsh hN hE
  go_enter Tryz.func18, Tryz.ntmps18
  go_wp2_with fail
  generalize (w.alloc (.cells #[.int .i64 W, .int .i64 H, .int .i64 S, .int .i64 O, .slice a ps.length cap] 24)).alloc (.cells #[.int .i64 0, .int .i64 0, .slice none 0 0] 31) = w2 at *
  obtain ⟨r, hr⟩ : ∃ r, rs.getD N (noRes 0) = r := ⟨_, rfl⟩
  have HR : Hid (rs.getD N (noRes 0) = r) := hr
  clear hr
  obtain ⟨_, g0, g1, g2, g3, g4⟩ := id hB
  go_region_law (first
    | (go_simp; go_at_call 49; refine (him _ (hp2.below (Below.refl _ _).drew)).mono ?_; rintro e w3 ⟨⟨v, L, rfl, hrow, hmap⟩, b3⟩; obtain ⟨va, vc, rfl, hImg⟩ := row_imgs hrow hmap (by have h1 := congrArg List.length hmap; simp at h1; omega); have b3' := below_step (Below.refl w2.heap.size w2).drew b3; have hB3 := hB.below b3'; have hp3 := hp2.below b3'; obtain ⟨_, j0, j1, j2, j3, j4⟩ := id hB3; clear hrow hmap b3; go_wp2_with fail)
    | (go_simp; go_at_call 41; refine (hla _ hp3).mono ?_; rintro e w4 ⟨rfl, b4⟩; have b4' := below_step b3' b4; obtain ⟨ib, io, pa, pc, rfl, hib, d0, d1, d2, hxi⟩ := (hImg.below b4).nth (k := N) (by omega); rw [HR.out] at d0 d1 d2 hxi; obtain ⟨_, c0, c1, c2, f0, f1, f2⟩ := hbox.below b4' hbox.lt b4'.size; have hNr : (N : Int) < (rs.length : Int) := (by omega); go_wp2_with fail))
  all_goals
    have hxw : Ints (w.heap.size + 2) w4 pa r.ps.length r.ps := hxi.mono hsz2
    clear hImg hxi
    go_wp2
    refine bodyPost_ret (v := .agg #[.int .i64 r.W, .int .i64 r.H, .slice pa r.ps.length pc]) (by simp [results, Tryz.results18, go_sem, c0, c1, c2]) rfl ?_
    rw [HR.out]
    exact ⟨pa, pc, rfl, (((hxw.setCell (p := ⟨w.heap.size + 1, 0, none⟩) (by simp) _).setCell (p := ⟨w.heap.size + 1, 1, none⟩) (by simp) _).setCell (p := ⟨w.heap.size + 1, 2, none⟩) (by simp) _).mono (by omega), (((below_step hb0 b4').setCell (p := ⟨w.heap.size + 1, 0, none⟩) (by simp) _).setCell (p := ⟨w.heap.size + 1, 1, none⟩) (by simp) _).setCell (p := ⟨w.heap.size + 1, 2, none⟩) (by simp) _⟩
end Go.Proofs.YtihliofhhjjeaaaGreat
namespace Go.Proofs.YtihliofhhjjeaaaGreat
open Go.RowKit Im
def ToldF (w : World) (W H S O : Int) (ps : List Ps) (e : Ending) (w' : World) : Prop :=
  (∃ a cap L, e = .returned (.agg #[.int .i64 W, .int .i64 H, .int .i64 S, .int .i64 O, .slice a ps.length cap]) ∧ RowP w.heap.size w' (.slice a ps.length cap) L ∧ L.map Prod.fst = ps) ∧ Below w.heap.size w w'
theorem RowP.mono {base base' : Nat} {w : World} {v : Value} {L : Lp} (h : RowP base w v L) (hb : base' ≤ base) : RowP base' w v L := ⟨row_mono h.1 hb, fun x hx => (h.2 x hx).mono hb⟩
theorem take_snoc {ps : List Ps} {k : Nat} (hk : k < ps.length) : ps.take (k + 1) = ps.take k ++ [ps.getD k Ps.zero] := by
  rw [List.take_succ_eq_append_getElem hk, List.getD_eq_getElem?_getD, List.getElem?_eq_getElem hk]; rfl
set_option maxHeartbeats 4000000 in
theorem ownFrame_big (W H S O : Int) (a : Option Addr) (len cap : Nat) (ps : List Ps) (w : World) (hp : Passes w a len ps) (hL : ps.length * 64 ≤ 140737488351232) (hfew : ∀ k, k < ps.length → (ps.getD k Ps.zero).ls.length * 32 ≤ 140737488351232) :
    Calls Tryz.prog 6 #[.agg #[.int .i64 W, .int .i64 H, .int .i64 S, .int .i64 O, .slice a len cap]] w (ToldF w W H S O ps) := by
  obtain rfl := hp.leng
  obtain ⟨i0, hi, hz0, hz1, hz2⟩ := info_parts Tryz.infoPass
  obtain ⟨l0, li, lz0, lz1, lz2⟩ := info_parts Tryz.infoLight
  have hb1 := below_box (below_box (Below.refl w.heap.size w) (.cells #[.int .i64 W, .int .i64 H, .int .i64 S, .int .i64 O, .slice a ps.length cap] 24)) (.cells #[.int .i64 0, .int .i64 0, .int .i64 0, .int .i64 0, .slice none 0 0] 24)
  have hzz1 := ZBox.new (w.alloc (.cells #[.int .i64 W, .int .i64 H, .int .i64 S, .int .i64 O, .slice a ps.length cap] 24))
  rw [World.size_alloc] at hzz1
  have hB1 := (FBox.new w W H S O a ps.length cap).alloc (.cells #[.int .i64 0, .int .i64 0, .int .i64 0, .int .i64 0, .slice none 0 0] 24)
  have HFEW : Hid (_) := hfew
  have hp1 := hp.below hb1
  have hG0 := GBox.new ((w.alloc (.cells #[.int .i64 W, .int .i64 H, .int .i64 S, .int .i64 O, .slice a ps.length cap] 24)).alloc (.cells #[.int .i64 0, .int .i64 0, .int .i64 0, .int .i64 0, .slice none 0 0] 24)) W H S O (.slice none 0 0)
  have hbA : Below ((w.alloc (.cells #[.int .i64 W, .int .i64 H, .int .i64 S, .int .i64 O, .slice a ps.length cap] 24)).alloc (.cells #[.int .i64 0, .int .i64 0, .int .i64 0, .int .i64 0, .slice none 0 0] 24)).heap.size ((w.alloc (.cells #[.int .i64 W, .int .i64 H, .int .i64 S, .int .i64 O, .slice a ps.length cap] 24)).alloc (.cells #[.int .i64 0, .int .i64 0, .int .i64 0, .int .i64 0, .slice none 0 0] 24)) (((w.alloc (.cells #[.int .i64 W, .int .i64 H, .int .i64 S, .int .i64 O, .slice a ps.length cap] 24)).alloc (.cells #[.int .i64 0, .int .i64 0, .int .i64 0, .int .i64 0, .slice none 0 0] 24)).alloc (.cells #[.int .i64 W, .int .i64 H, .int .i64 S, .int .i64 O, .slice none 0 0] 24)) := (Below.refl _ _).alloc (Nat.le_refl _) _
  have hs1 : ((w.alloc (.cells #[.int .i64 W, .int .i64 H, .int .i64 S, .int .i64 O, .slice a ps.length cap] 24)).alloc (.cells #[.int .i64 0, .int .i64 0, .int .i64 0, .int .i64 0, .slice none 0 0] 24)).heap.size = w.heap.size + 1 + 1 := by simp
  clear hfew hp
  go_enter Tryz.func6, Tryz.ntmps6
  go_wp2_with fail
  generalize ((w.alloc (.cells #[.int .i64 W, .int .i64 H, .int .i64 S, .int .i64 O, .slice a ps.length cap] 24)).alloc (.cells #[.int .i64 0, .int .i64 0, .int .i64 0, .int .i64 0, .slice none 0 0] 24)).alloc (.cells #[.int .i64 W, .int .i64 H, .int .i64 S, .int .i64 O, .slice none 0 0] 24) = w2 at *
  generalize (w.alloc (.cells #[.int .i64 W, .int .i64 H, .int .i64 S, .int .i64 O, .slice a ps.length cap] 24)).alloc (.cells #[.int .i64 0, .int .i64 0, .int .i64 0, .int .i64 0, .slice none 0 0] 24) = w1 at *
  rw [hs1] at hG0 hbA
  obtain ⟨B6, hB6⟩ : ∃ B6, B6 = w.heap.size + 1 + 1 := ⟨_, rfl⟩
  rw [← hB6] at hG0 hbA hs1 ⊢
  have HB6 : Hid (B6 = w.heap.size + 1 + 1) := hB6
  have HS1 : Hid (w1.heap.size = B6) := hs1
  clear hB6 hs1
  go_loopw [4] (fun i wr => ∃ (k : Nat) (v : Value) (L : Lp), k ≤ ps.length ∧ i = .int .i64 k ∧ RowP (B6 + 1) wr v L ∧ L.map Prod.fst = ps.take k ∧ GBox wr B6 W H S O v ∧ Below B6 w1 wr) (fun i _ => ps.length - (intOf i).toNat)
  case atStart => exact ⟨0, _, [], Nat.zero_le _, rfl, RowP.nil _ _, rfl, hG0, hbA⟩
  case round =>
    obtain ⟨k, v, L, hk, rfl, hRr, hmap, hGr, hbr⟩ := hrel
    have hbr' : Below w1.heap.size w1 wr := by rw [HS1.out]; exact hbr
    obtain ⟨_, g0, g1, g2, g3, g4⟩ := id (hB1.below hbr')
    have hlL : L.length = k := by have h1 := congrArg List.length hmap; simp at h1; omega
    by_cases hlt : k < ps.length
    · obtain ⟨b, off, la, ll, lc, rfl, p0, p1, p2, p3, p4, p5, hLi⟩ := (hp1.below hbr').nth hlt
      have hll := hLi.leng
      have hl8 := HFEW.out k hlt
      have HCU : Hid (ps.take (k + 1) = ps.take k ++ [ps.getD k Ps.zero]) := take_snoc hlt
      generalize ps.getD k Ps.zero = p at p0 p1 p2 p3 p4 p5 hLi HCU hll hl8
      obtain ⟨Op, To, A, B, K, ls⟩ := p
      dsimp only at p0 p1 p2 p3 p4 p5 hLi hll hl8
      subst hll
      have HLL : Hid ((L.length + 1) * 64 ≤ 140737488351232) := by show _ ≤ _; omega
      clear hlL
      have hbP := (Below.refl wr.heap.size wr).alloc (Nat.le_refl _) (.cells #[.int .i64 Op, .int .i64 To, .int .i64 A, .int .i64 B, .int .i64 K, .slice la ls.length lc] 62)
      obtain ⟨va, vc, rfl⟩ := owns_slice hRr.1
      have hPP := PBox.new wr Op To A B K la ls.length lc
      by_cases hls : ls = []
      · subst hls
        simp only [List.length_nil] at p5 hbP hPP
        have hPP2 := hPP.alloc (.cells #[] 89)
        obtain ⟨_, r0, r1, r2, r3, r4, r5⟩ := id hPP2
        go_upto_region 8 with (at_builtin; refine list_append_nothing rfl _ _ 60 rfl 89 l0 Tryz.underlying60 li (some ⟨wr.heap.size + 1, 0, none⟩) 0 0 (Nat.le_refl _) rfl la lc rfl ?_)
        have hPQ := (PBox.new wr Op To A B K (some ⟨wr.heap.size + 1, 0, none⟩) 0 0).alloc (.cells #[] 89)
        have hbX := below_box (below_box (Below.refl wr.heap.size wr) (.cells #[.int .i64 Op, .int .i64 To, .int .i64 A, .int .i64 B, .int .i64 K, .slice (some ⟨wr.heap.size + 1, 0, none⟩) 0 0] 62)) (.cells #[] 89)
        have hRQ := hRr.below hbX
        have hGQ := hGr.below hbX hGr.lt hbX.size
        have hbQ : Below B6 w1 _ := hbr.trans (hbX.mono (by have := hbr.size; have := HS1.out; omega))
        have hXQ : Lx (B6 + 1) ((wr.alloc (.cells #[.int .i64 Op, .int .i64 To, .int .i64 A, .int .i64 B, .int .i64 K, .slice (some ⟨wr.heap.size + 1, 0, none⟩) 0 0] 62)).alloc (.cells #[] 89)) (.slice va L.length vc) (⟨Op, To, A, B, K, []⟩, (some ⟨wr.heap.size + 1, 0, none⟩), 0) := ⟨by simp, .inl rfl⟩
        clear r0 r1 r2 r3 r4 r5 hPP hPP2 hbX hbP hRr hGr g0 g1 g2 g3 g4 p0 p1 p2 p3 p4 p5
        generalize ((wr.alloc (.cells #[.int .i64 Op, .int .i64 To, .int .i64 A, .int .i64 B, .int .i64 K, .slice (some ⟨wr.heap.size + 1, 0, none⟩) 0 0] 62)).alloc (.cells #[] 89)) = wQ at *
        obtain ⟨_, p0, p1, p2, p3, p4, p5⟩ := id hPQ
        have d4 := hGQ.c4
        have dz := hGQ.fz 4
        have hsQ : B6 + 1 ≤ wQ.heap.size := hGQ.lt
        have hRA := hRQ.below ((Below.refl wQ.heap.size wQ).alloc (Nat.le_refl _) (.cells #[.int .i64 Op, .int .i64 To, .int .i64 A, .int .i64 B, .int .i64 K, .slice (some ⟨wr.heap.size + 1, 0, none⟩) 0 0] 62))
        have hXA := hXQ.below ((Below.refl wQ.heap.size wQ).alloc (Nat.le_refl _) (.cells #[.int .i64 Op, .int .i64 To, .int .i64 A, .int .i64 B, .int .i64 K, .slice (some ⟨wr.heap.size + 1, 0, none⟩) 0 0] 62))
        have hGA := hGQ.below ((Below.refl wQ.heap.size wQ).alloc (Nat.le_refl _) (.cells #[.int .i64 Op, .int .i64 To, .int .i64 A, .int .i64 B, .int .i64 K, .slice (some ⟨wr.heap.size + 1, 0, none⟩) 0 0] 62)) hGQ.lt (by simp)
        have HRL : Hid (_) := hRQ.lt
        have HMAP : Hid (_) := hmap
        clear hmap hRQ hXQ hGQ hPQ
        go_upto_region 5 with (at_builtin; refine wpList_append_own_at _ rfl _ _ 22 rfl (B6 + 1) 62 i0 _ 6 64 Tryz.underlying22 hi hz0 hz1 hz2 rfl (by decide) (.slice va L.length vc) L.length (pcells L) rfl hRA.1 ⟨wQ.heap.size, 0, none⟩ 1 1 [.int .i64 Op, .int .i64 To, .int .i64 A, .int .i64 B, .int .i64 K, .slice (some ⟨wr.heap.size + 1, 0, none⟩) 0 0] rfl rfl (cell_six_new _ _ _ _ _ _ _ _) (by intro u hu; simp at hu; rcases hu with rfl | rfl | rfl | rfl | rfl | rfl <;> rfl) (by have := HLL.out; unfold maxLen; omega) (by have := HLL.out; omega) (by simp; omega) ?_; intro v' w9 hown9 hgrow9 _ hloc9; have hR9 := hRA.push (x := (⟨Op, To, A, B, K, []⟩, some ⟨wr.heap.size + 1, 0, none⟩, 0)) hXA hown9 hgrow9 hloc9; have hG9 := hGA.grown hgrow9 (fun e => by have := (HRL.out _ e.symm).1; omega); obtain ⟨a9, cap9, hv9⟩ := owns_slice hown9; subst hv9; have e4 := hG9.c4; have ez := hG9.fz 4)
        have hGZ := hG9.put (.slice a9 (L.length + 1) cap9)
        have hRZ := hR9.setBelow (p := ⟨B6, 4, none⟩) (show B6 < B6 + 1 by omega) (.slice a9 (L.length + 1) cap9)
        have hbZ : Below B6 w1 (w9.setCell ⟨B6, 4, none⟩ (.slice a9 (L.length + 1) cap9)) := (((hbQ.alloc (Nat.le_of_succ_le hsQ) (.cells #[.int .i64 Op, .int .i64 To, .int .i64 A, .int .i64 B, .int .i64 K, .slice (some ⟨wr.heap.size + 1, 0, none⟩) 0 0] 62)).grown hgrow9 (by simp; omega) (fun j hj => by have := (HRL.out j hj).1; omega))).setCell (p := ⟨B6, 4, none⟩) (Nat.le_refl _) _
        clear p0 p1 p2 p3 p4 p5 d4 dz e4 ez hR9 hG9 hRA hXA hGA hown9 hgrow9
        go_wp2
        go_roundw
        case rel => exact ⟨k + 1, _, _, by omega, by go_num, hRZ, by rw [HCU.out, List.map_append, HMAP.out]; rfl, hGZ, hbZ⟩
        case measure => simp [intOf]; omega
      · obtain ⟨lb, lo, rfl, hlb, hlc⟩ : ∃ lb lo, la = some ⟨lb, lo, none⟩ ∧ lb < wr.heap.size ∧ ∀ j, j < ls.length → wr.cell? ⟨lb, lo + j * 4, none⟩ = some (.int .i64 (ls.getD j Lt.zero).X) ∧ wr.cell? ⟨lb, lo + j * 4 + 1, none⟩ = some (.int .i64 (ls.getD j Lt.zero).Y) ∧ wr.cell? ⟨lb, lo + j * 4 + 2, none⟩ = some (.int .i64 (ls.getD j Lt.zero).R) ∧ wr.cell? ⟨lb, lo + j * 4 + 3, none⟩ = some (.int .i64 (ls.getD j Lt.zero).P) := by
          rcases hLi.cells with e | ⟨lb, lo, ha, hl, hc⟩
          · exact absurd e hls
          · exact ⟨lb, lo, ha, hl, hc⟩
        have hbP2 := below_box hbP (.cells #[] 89)
        have hlcP := lights_cells (w := ((wr.alloc (.cells #[.int .i64 Op, .int .i64 To, .int .i64 A, .int .i64 B, .int .i64 K, .slice (some ⟨lb, lo, none⟩) ls.length lc] 62)).alloc (.cells #[] 89))) (b := lb) (off := lo) (ls := ls) (fun j hj => by
          obtain ⟨c0, c1, c2, c3⟩ := hlc j hj
          exact ⟨(hbP2.cell (p := ⟨lb, lo + j * 4, none⟩) hlb).trans c0, (hbP2.cell (p := ⟨lb, lo + j * 4 + 1, none⟩) hlb).trans c1, (hbP2.cell (p := ⟨lb, lo + j * 4 + 2, none⟩) hlb).trans c2, (hbP2.cell (p := ⟨lb, lo + j * 4 + 3, none⟩) hlb).trans c3⟩)
        have HLS : Hid (ls.length * 32 ≤ 140737488351232) := hl8
        have HLC : Hid ((lcells ls).length = ls.length * 4) := lcells_len ls
        have HNE : Hid (_) := hls
        have hsP : (wr.alloc (.cells #[.int .i64 Op, .int .i64 To, .int .i64 A, .int .i64 B, .int .i64 K, .slice (some ⟨lb, lo, none⟩) ls.length lc] 62)).heap.size = wr.heap.size + 1 := by simp
        have hlit := World.ownsRow_lit (base := wr.heap.size + 1) (e := 89) (size := 4) (wr.alloc (.cells #[.int .i64 Op, .int .i64 To, .int .i64 A, .int .i64 B, .int .i64 K, .slice (some ⟨lb, lo, none⟩) ls.length lc] 62)) #[] 0 (by rw [hsP]; exact Nat.le_refl _) (by unfold maxLen; omega) rfl
        rw [hsP] at hlit
        have hPP2 := hPP.alloc (.cells #[] 89)
        have fP := (((Below.refl (wr.alloc (.cells #[.int .i64 Op, .int .i64 To, .int .i64 A, .int .i64 B, .int .i64 K, .slice (some ⟨lb, lo, none⟩) ls.length lc] 62)).heap.size (wr.alloc (.cells #[.int .i64 Op, .int .i64 To, .int .i64 A, .int .i64 B, .int .i64 K, .slice (some ⟨lb, lo, none⟩) ls.length lc] 62))).alloc (Nat.le_refl _) (.cells #[] 89)).frozen (p := ⟨wr.heap.size, 5, none⟩) (show wr.heap.size < (wr.alloc (.cells #[.int .i64 Op, .int .i64 To, .int .i64 A, .int .i64 B, .int .i64 K, .slice (some ⟨lb, lo, none⟩) ls.length lc] 62)).heap.size by rw [hsP]; exact Nat.lt_succ_self _)).trans (frozen_new wr #[.int .i64 Op, .int .i64 To, .int .i64 A, .int .i64 B, .int .i64 K, .slice (some ⟨lb, lo, none⟩) ls.length lc] 62 5)
        have hs2 : ((wr.alloc (.cells #[.int .i64 Op, .int .i64 To, .int .i64 A, .int .i64 B, .int .i64 K, .slice (some ⟨lb, lo, none⟩) ls.length lc] 62)).alloc (.cells #[] 89)).heap.size = wr.heap.size + 1 + 1 := by simp
        obtain ⟨_, r0, r1, r2, r3, r4, r5⟩ := id hPP2
        clear hls hlc hLi hl8
        go_upto_region 8 with (at_builtin; refine wpList_append_own _ rfl _ _ 60 rfl (wr.heap.size + 1) 89 l0 _ 4 32 Tryz.underlying60 li lz0 lz1 lz2 rfl (by decide) (.slice (some ⟨wr.heap.size + 1, 0, none⟩) 0 0) 0 [] rfl hlit ⟨lb, lo, none⟩ ls.length lc (lcells ls) rfl (by rw [HLC.out]) hlcP (lcells_one ls) (by have := HLS.out; unfold maxLen; omega) (by have := HLS.out; omega) (by simp) ?_; intro vL wL hownL hgrowL _; obtain ⟨aL, cL, hvL⟩ := owns_slice hownL; subst hvL; have bL := (Below.refl (wr.heap.size + 1) ((wr.alloc (.cells #[.int .i64 Op, .int .i64 To, .int .i64 A, .int .i64 B, .int .i64 K, .slice (some ⟨lb, lo, none⟩) ls.length lc] 62)).alloc (.cells #[] 89))).grown hgrowL (by simp) (fun k hk => by cases hk; exact Nat.le_refl _); have fL := (bL.frozen (p := ⟨wr.heap.size, 5, none⟩) (Nat.lt_succ_self _)).trans fP; have s5 := (bL.cell (p := ⟨wr.heap.size, 5, none⟩) (Nat.lt_succ_self _)).trans r5)
        have bQ : Below wr.heap.size wr (wL.setCell ⟨wr.heap.size, 5, none⟩ (.slice aL ls.length cL)) := (hbP2.trans (bL.mono (by omega))).setCell (p := ⟨wr.heap.size, 5, none⟩) (Nat.le_refl _) _
        have hRQ := hRr.below bQ
        have hGQ := hGr.below bQ hGr.lt bQ.size
        have hbQ : Below B6 w1 _ := hbr.trans (bQ.mono (by have := hbr.size; have := HS1.out; omega))
        have hcl := fun o => bL.cell (p := ⟨wr.heap.size, o, none⟩) (Nat.lt_succ_self _)
        have hPQ : PBox (wL.setCell ⟨wr.heap.size, 5, none⟩ (.slice aL ls.length cL)) wr.heap.size Op To A B K aL ls.length cL := ⟨by have := bL.size; rw [hs2] at this; simp; omega, (set_other _ (by simp)).trans ((hcl 0).trans r0), (set_other _ (by simp)).trans ((hcl 1).trans r1), (set_other _ (by simp)).trans ((hcl 2).trans r2), (set_other _ (by simp)).trans ((hcl 3).trans r3), (set_other _ (by simp)).trans ((hcl 4).trans r4), set_same s5⟩
        rw [Nat.zero_add, List.nil_append] at hownL
        have hOL : OwnsL (wr.heap.size + 1) (wL.setCell ⟨wr.heap.size, 5, none⟩ (.slice aL ls.length cL)) (.slice aL ls.length cL) ls := ownsRow_setCell_below hownL (a := ⟨wr.heap.size, 5, none⟩) (Nat.lt_succ_self _) _
        have hXQ := Lx.of (base := B6 + 1) (p := ⟨Op, To, A, B, K, ls⟩) (v := .slice va L.length vc) (la := aL) (lc := cL) hOL rfl (by have := HLS.out; show ls.length ≤ _; omega) (by have := hGr.lt; omega) (fun j hj => by have := (hRr.lt j hj).2; omega)
        clear r0 r1 r2 r3 r4 r5 fP hPP hPP2 hbP hbP2 hRr hGr hownL hgrowL bL fL s5 hlcP hOL bQ hlit hcl g0 g1 g2 g3 g4 p0 p1 p2 p3 p4 p5
        generalize wL.setCell ⟨wr.heap.size, 5, none⟩ (.slice aL ls.length cL) = wQ at *
        obtain ⟨_, p0, p1, p2, p3, p4, p5⟩ := id hPQ
        have d4 := hGQ.c4
        have dz := hGQ.fz 4
        have hsQ : B6 + 1 ≤ wQ.heap.size := hGQ.lt
        have hRA := hRQ.below ((Below.refl wQ.heap.size wQ).alloc (Nat.le_refl _) (.cells #[.int .i64 Op, .int .i64 To, .int .i64 A, .int .i64 B, .int .i64 K, .slice aL ls.length cL] 62))
        have hXA := hXQ.below ((Below.refl wQ.heap.size wQ).alloc (Nat.le_refl _) (.cells #[.int .i64 Op, .int .i64 To, .int .i64 A, .int .i64 B, .int .i64 K, .slice aL ls.length cL] 62))
        have hGA := hGQ.below ((Below.refl wQ.heap.size wQ).alloc (Nat.le_refl _) (.cells #[.int .i64 Op, .int .i64 To, .int .i64 A, .int .i64 B, .int .i64 K, .slice aL ls.length cL] 62)) hGQ.lt (by simp)
        have HRL : Hid (_) := hRQ.lt
        have HMAP : Hid (_) := hmap
        clear hmap hRQ hXQ hGQ hPQ
        go_upto_region 5 with (at_builtin; refine wpList_append_own_at _ rfl _ _ 22 rfl (B6 + 1) 62 i0 _ 6 64 Tryz.underlying22 hi hz0 hz1 hz2 rfl (by decide) (.slice va L.length vc) L.length (pcells L) rfl hRA.1 ⟨wQ.heap.size, 0, none⟩ 1 1 [.int .i64 Op, .int .i64 To, .int .i64 A, .int .i64 B, .int .i64 K, .slice aL ls.length cL] rfl rfl (cell_six_new _ _ _ _ _ _ _ _) (by intro u hu; simp at hu; rcases hu with rfl | rfl | rfl | rfl | rfl | rfl <;> rfl) (by have := HLL.out; unfold maxLen; omega) (by have := HLL.out; omega) (by simp; omega) ?_; intro v' w9 hown9 hgrow9 _ hloc9; have hR9 := hRA.push (x := (⟨Op, To, A, B, K, ls⟩, aL, cL)) hXA hown9 hgrow9 hloc9; have hG9 := hGA.grown hgrow9 (fun e => by have := (HRL.out _ e.symm).1; omega); obtain ⟨a9, cap9, hv9⟩ := owns_slice hown9; subst hv9; have e4 := hG9.c4; have ez := hG9.fz 4)
        have hGZ := hG9.put (.slice a9 (L.length + 1) cap9)
        have hRZ := hR9.setBelow (p := ⟨B6, 4, none⟩) (show B6 < B6 + 1 by omega) (.slice a9 (L.length + 1) cap9)
        have hbZ : Below B6 w1 (w9.setCell ⟨B6, 4, none⟩ (.slice a9 (L.length + 1) cap9)) := (((hbQ.alloc (Nat.le_of_succ_le hsQ) (.cells #[.int .i64 Op, .int .i64 To, .int .i64 A, .int .i64 B, .int .i64 K, .slice aL ls.length cL] 62)).grown hgrow9 (by simp; omega) (fun j hj => by have := (HRL.out j hj).1; omega))).setCell (p := ⟨B6, 4, none⟩) (Nat.le_refl _) _
        clear p0 p1 p2 p3 p4 p5 d4 dz e4 ez hR9 hG9 hRA hXA hGA hown9 hgrow9
        go_wp2
        go_roundw
        case rel => exact ⟨k + 1, _, _, by omega, by go_num, hRZ, by rw [HCU.out, List.map_append, HMAP.out]; rfl, hGZ, hbZ⟩
        case measure => simp [intOf]; omega
    · have hke : k = ps.length := by omega
      subst hke
      rw [List.take_length] at hmap
      obtain ⟨pa, pc, rfl, hPas⟩ := hRr.passes hmap (by omega)
      have hz9 := hzz1.below hbr' hzz1.lt hbr.size
      obtain ⟨_, c0, c1, c2, c3, c4, fz⟩ := id hz9
      have f0 := fz 0
      have f1 := fz 1
      have f2 := fz 2
      have f3 := fz 3
      have f4 := fz 4
      obtain ⟨_, d0, d1, d2, d3, d4, dz⟩ := id hGr
      have hb9 := below_step hb1 hbr'
      have hlq : w.heap.size + 1 < B6 + 1 := by have := HB6.out; omega
      have hR5 := (((((hRr.setBelow (p := ⟨w.heap.size + 1, 0, none⟩) hlq (.int .i64 W)).setBelow (p := ⟨w.heap.size + 1, 1, none⟩) hlq (.int .i64 H)).setBelow (p := ⟨w.heap.size + 1, 2, none⟩) hlq (.int .i64 S)).setBelow (p := ⟨w.heap.size + 1, 3, none⟩) hlq (.int .i64 O)).setBelow (p := ⟨w.heap.size + 1, 4, none⟩) hlq (.slice pa ps.length pc))
      have hb5 := (((((hb9.setCell (p := ⟨w.heap.size + 1, 0, none⟩) (show w.heap.size ≤ w.heap.size + 1 by omega) (.int .i64 W)).setCell (p := ⟨w.heap.size + 1, 1, none⟩) (show w.heap.size ≤ w.heap.size + 1 by omega) (.int .i64 H)).setCell (p := ⟨w.heap.size + 1, 2, none⟩) (show w.heap.size ≤ w.heap.size + 1 by omega) (.int .i64 S)).setCell (p := ⟨w.heap.size + 1, 3, none⟩) (show w.heap.size ≤ w.heap.size + 1 by omega) (.int .i64 O)).setCell (p := ⟨w.heap.size + 1, 4, none⟩) (show w.heap.size ≤ w.heap.size + 1 by omega) (.slice pa ps.length pc))
      have HP5 : Hid (_) := hR5.mono (show w.heap.size ≤ B6 + 1 by omega)
      have HB5 : Hid (_) := hb5
      have HMM : Hid (_) := hmap
      clear fz dz hPas hmap hp1 hB1 hR5 hb5 hRr
      go_wp2
      refine bodyPost_ret (v := .agg #[.int .i64 W, .int .i64 H, .int .i64 S, .int .i64 O, .slice pa ps.length pc]) (by simp [results, Tryz.results6, go_sem, c0, c1, c2, c3, c4]) rfl ?_
      exact ⟨⟨pa, pc, L, rfl, HP5.out, HMM.out⟩, HB5.out⟩
end Go.Proofs.YtihliofhhjjeaaaGreat
namespace Go.Proofs.YtihliofhhjjeaaaGreat
open Go.ChangeShapes Go.WideShapes Go.ChangeAt Go.RowKit Go.Joins Go.Deep
instance : Inhabited Lt := ⟨Lt.zero⟩
theorem cellsLight : Tryz.prog.cellsOf 89 = 4 := by kernel_rfl
theorem list4 {cs : List Value} (h : cs.length = 4) : ∃ c0 c1 c2 c3, cs = [c0, c1, c2, c3] := by
  match cs, h with
  | [c0, c1, c2, c3], _ => exact ⟨c0, c1, c2, c3, rfl⟩
theorem light_cells {H : Type} {enc : TypeId × Value → H} {W : World} {n : Nat} {cs : List Value} {y : DataW H × List MemPlace} (h : DataW.trod enc Tryz.prog W 0 (fun _ => true) true n 89 cs = some y) :
    ∃ l : Lt, cs = [.int .i64 l.X, .int .i64 l.Y, .int .i64 l.R, .int .i64 l.P] := by
  obtain ⟨y0, y1, y2, y3, n, _, hl, h0, h1, h2, h3⟩ := trod_struct4 Tryz.underlying89 h
  rw [cellsLight] at hl
  obtain ⟨c0, c1, c2, c3, rfl⟩ := list4 hl
  simp only [cellsInt] at h0 h1 h2 h3
  obtain ⟨x0, e0, _, _⟩ := DataW.trod_int Tryz.underlying3 h0
  obtain ⟨x1, e1, _, _⟩ := DataW.trod_int Tryz.underlying3 h1
  obtain ⟨x2, e2, _, _⟩ := DataW.trod_int Tryz.underlying3 h2
  obtain ⟨x3, e3, _, _⟩ := DataW.trod_int Tryz.underlying3 h3
  simp at e0 e1 e2 e3
  subst e0 e1 e2 e3
  exact ⟨⟨x0, x1, x2, x3⟩, rfl⟩
end Go.Proofs.YtihliofhhjjeaaaGreat
namespace Go.Proofs.YtihliofhhjjeaaaGreat
open Go.ChangeShapes Go.WideShapes Go.ChangeAt Go.RowKit Go.Joins Go.Deep
instance : Inhabited Ps := ⟨Ps.zero⟩
theorem cellsPass : Tryz.prog.cellsOf 62 = 6 := by kernel_rfl
theorem cellsFrame : Tryz.prog.cellsOf 24 = 5 := by kernel_rfl
theorem cellsLights : Tryz.prog.cellsOf 60 = 1 := by kernel_rfl
theorem cellsPasses : Tryz.prog.cellsOf 22 = 1 := by kernel_rfl
theorem list5 {α : Type} {cs : List α} (h : cs.length = 5) : ∃ c0 c1 c2 c3 c4, cs = [c0, c1, c2, c3, c4] := by
  match cs, h with
  | [c0, c1, c2, c3, c4], _ => exact ⟨c0, c1, c2, c3, c4, rfl⟩
theorem list6 {α : Type} {cs : List α} (h : cs.length = 6) : ∃ c0 c1 c2 c3 c4 c5, cs = [c0, c1, c2, c3, c4, c5] := by
  match cs, h with
  | [c0, c1, c2, c3, c4, c5], _ => exact ⟨c0, c1, c2, c3, c4, c5, rfl⟩
theorem lights_of {H : Type} {enc : TypeId × Value → H} {W : World} {n : Nat} {v : Value} {y : DataW H × List MemPlace} (h : DataW.trod enc Tryz.prog W 0 (fun _ => true) true n 60 [v] = some y) :
    ∃ a len cap ls, v = .slice a len cap ∧ Lights W a len ls := by
  rcases open_slice Tryz.underlying60 h with ⟨e, _⟩ | ⟨x, l, c, m, n', D, Pl, e, _, hl, hm, hmm, _, hx⟩
  · simp at e
    subst e
    exact ⟨none, 0, 0, [], rfl, rfl, by omega, .inl rfl⟩
  · simp at e
    subst e
    simp at hmm
    subst hmm
    rw [cellsLight] at hx
    have each : ∀ i, i < m → ∃ lt : Lt, ∀ j, j < 4 → W.cell? (x.add (i * 4) |>.add j) = [Value.int .i64 lt.X, .int .i64 lt.Y, .int .i64 lt.R, .int .i64 lt.P][j]? := fun i hi => by
      obtain ⟨cs', h1, h2⟩ := hx i hi
      obtain ⟨lt, rfl⟩ := light_cells h2
      exact ⟨lt, (World.cells?_some h1).2.2⟩
    obtain ⟨L, hL⟩ := choose_lt each
    unfold maxLen at hm
    refine ⟨some x, l, m, (List.range l).map L, rfl, by simp, by omega, ?_⟩
    by_cases h0 : l = 0
    · subst h0; exact .inl rfl
    · right
      have h00 := hL 0 (by omega) 0 (by omega)
      obtain ⟨b, off, spot⟩ := x
      have hspot : spot = none := by simpa [Addr.add] using World.cell?_spot (h00.trans rfl)
      subst hspot
      refine ⟨b, off, rfl, ?_, fun j hj => ?_⟩
      · have := World.block_lt_of_cell? W _ (h00.trans rfl)
        simpa [Addr.add] using this
      · have g : ((List.range l).map L).getD j Lt.zero = L j := by simp [List.getD_eq_getElem?_getD, hj]
        rw [g]
        have q := hL j (by omega)
        simp only [addr_add] at q
        exact ⟨q 0 (by omega), q 1 (by omega), q 2 (by omega), q 3 (by omega)⟩
theorem pass_cells {H : Type} {enc : TypeId × Value → H} {W : World} {n : Nat} {cs : List Value} {y : DataW H × List MemPlace} (h : DataW.trod enc Tryz.prog W 0 (fun _ => true) true n 62 cs = some y) :
    ∃ p : Ps, ∃ la ll lc, cs = [.int .i64 p.Op, .int .i64 p.To, .int .i64 p.A, .int .i64 p.B, .int .i64 p.K, .slice la ll lc] ∧ Lights W la ll p.ls := by
  obtain ⟨xs, n, _, _, hl, hlen, hf⟩ := DataW.trod_struct Tryz.underlying62 h
  rw [cellsPass] at hl
  obtain ⟨c0, c1, c2, c3, c4, c5, rfl⟩ := list6 hl
  obtain ⟨y0, y1, y2, y3, y4, y5, rfl⟩ := list6 (by simpa using hlen)
  have h0 : DataW.trod enc Tryz.prog W 0 (fun _ => true) true n 3 [c0] = some y0 := by have := hf 0 _ rfl; simpa [cellsInt] using this
  have h1 : DataW.trod enc Tryz.prog W 0 (fun _ => true) true n 3 [c1] = some y1 := by have := hf 1 _ rfl; simpa [cellsInt] using this
  have h2 : DataW.trod enc Tryz.prog W 0 (fun _ => true) true n 3 [c2] = some y2 := by have := hf 2 _ rfl; simpa [cellsInt] using this
  have h3 : DataW.trod enc Tryz.prog W 0 (fun _ => true) true n 3 [c3] = some y3 := by have := hf 3 _ rfl; simpa [cellsInt] using this
  have h4 : DataW.trod enc Tryz.prog W 0 (fun _ => true) true n 3 [c4] = some y4 := by have := hf 4 _ rfl; simpa [cellsInt] using this
  have h5 : DataW.trod enc Tryz.prog W 0 (fun _ => true) true n 60 [c5] = some y5 := by have := hf 5 _ rfl; simpa [cellsLights] using this
  obtain ⟨x0, e0, _, _⟩ := DataW.trod_int Tryz.underlying3 h0
  obtain ⟨x1, e1, _, _⟩ := DataW.trod_int Tryz.underlying3 h1
  obtain ⟨x2, e2, _, _⟩ := DataW.trod_int Tryz.underlying3 h2
  obtain ⟨x3, e3, _, _⟩ := DataW.trod_int Tryz.underlying3 h3
  obtain ⟨x4, e4, _, _⟩ := DataW.trod_int Tryz.underlying3 h4
  obtain ⟨la, ll, lc, ls, e5, hL⟩ := lights_of h5
  simp at e0 e1 e2 e3 e4
  subst e0 e1 e2 e3 e4 e5
  exact ⟨⟨x0, x1, x2, x3, x4, ls⟩, la, ll, lc, rfl, hL⟩
end Go.Proofs.YtihliofhhjjeaaaGreat
namespace Go.Proofs.YtihliofhhjjeaaaGreat
open Go.ChangeShapes Go.WideShapes Go.ChangeAt Go.RowKit Go.Joins
theorem cellsPlan : Tryz.prog.cellsOf 27 = 2 := by kernel_rfl
theorem ints_cap {H : Type} {enc : TypeId × Value → H} {W : World} {n : Nat} {v : Value} {y : DataW H × List MemPlace} (h : DataW.trod enc Tryz.prog W 0 (fun _ => true) true n 25 [v] = some y) :
    ∃ a len cap ps, v = .slice a len cap ∧ len ≤ cap ∧ Ints 0 W a len ps := by
  obtain ⟨a, len, cap, ps, e, hi⟩ := ints_in h
  refine ⟨a, len, cap, ps, e, ?_, hi⟩
  rcases open_ints Tryz.underlying25 Tryz.underlying3 cellsInt h with ⟨hcs, _⟩ | ⟨x, l, c, zs, hcs, _, hl, _⟩
  · simp at hcs
    rw [hcs] at e
    injection e with e1 e2 e3
    omega
  · simp at hcs
    rw [hcs] at e
    injection e with e1 e2 e3
    omega
theorem plan_in {H : Type} {enc : TypeId × Value → H} {W : World} {b0 : Nat} {v : Value} {d : DataW H} {p : List MemPlace} (hv : Value.okWide Tryz.prog W .any b0 27 v) (h : DataW.Trod enc Tryz.prog W 0 (fun _ => true) true 27 v d p) :
    ∃ oa olen ocap os pa plen pcap pl, v = .agg #[.slice oa olen ocap, .slice pa plen pcap] ∧ Ints 0 W oa olen os ∧ olen ≤ ocap ∧ Ints 0 W pa plen pl := by
  obtain ⟨v0, v1, y0, y1, n, rfl, _, _, h0, h1⟩ := open_agg2 Tryz.underlying27 (by kernel_rfl) cellsPlan hv h
  obtain ⟨oa, olen, ocap, os, e0, hc, hO⟩ := ints_cap h0
  obtain ⟨pa, plen, pcap, pl, e1, _, hL⟩ := ints_cap h1
  subst e0 e1
  exact ⟨oa, olen, ocap, os, pa, plen, pcap, pl, rfl, hO, hc, hL⟩
end Go.Proofs.YtihliofhhjjeaaaGreat
namespace Go.Proofs.YtihliofhhjjeaaaGreat
open Go.ChangeShapes Go.WideShapes Go.ChangeAt Go.RowKit Go.Joins
end Go.Proofs.YtihliofhhjjeaaaGreat
