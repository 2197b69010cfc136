/- ImagesRef2, RenderRef, DeskDrawn, LawDesk: joined, in this order. -/
import Derived.Test.YtaenpgdmiaekcaaGreatDoorS16
import Derived.Test.YtaenpgdmiaekcaaGreatDoorS11
import Derived.Test.YtaenpgdmiaekcaaGreatDoorS18
import Derived.Test.YtaenpgdmiaekcaaGreatDoorS29
import Derived.Test.YtaenpgdmiaekcaaGreatDoorS30
import Derived.Deep.RegionLaw
import Derived.Test.YtaenpgdmiaekcaaGreatDoorS21
import Derived.Test.YtaenpgdmiaekcaaGreatDoorS03
import Derived.Test.YtaenpgdmiaekcaaGreatDoorS25
import Derived.Test.YtaenpgdmiaekcaaGreatDoorS27
/-
  IMAGESREF2: the reference's Images, walked.
-/
namespace Go.Proofs.YtaenpgdmiaekcaaGreatDoor
set_option maxRecDepth 100000
open Go.RowKit Im

/-- The call's end tells the images rs, in a row of its own. -/
def ToldIm (w : World) (rs : List Res) (e : Ending) (w' : World) : Prop :=
  (∃ v L, e = .returned v ∧ RowI w.heap.size w' v L ∧ L.map Prod.fst = rs) ∧ Below w.heap.size w w'
theorem row_imgs {base : Nat} {w : World} {v : Value} {L : Lr} {rs : List Res} (h : RowI base w v L) (he : L.map Prod.fst = rs) (hb : L.length ≤ 12) : ∃ a cap, v = .slice a rs.length cap ∧ Imgs base w a rs.length rs := h.1.imgs he (fun x hx => (h.2 x hx).ints) hb
theorem Passes.blk {w : World} {b off len : Nat} {ps : List Ps} (h : Passes w (some ⟨b, off, none⟩) len ps) {k : Nat} (hk : k < len) : b < w.heap.size := by
  rcases h.cells with e | ⟨b', off', ha, hl, _⟩
  · have := h.leng; subst e; simp at this; omega
  · injection ha with ha
    injection ha with e1 e2
    subst e1
    exact hl
set_option maxHeartbeats 4000000 in
theorem images_any (W H S O : Int) (a : Option Addr) (len cap : Nat) (ps : List Ps) (w : World) (hp : Passes w a len ps) (hE : frameE ⟨W, H, S, O, ps⟩ = 0) :
    Calls Tryz.prog 56 #[.agg #[.int .i64 W, .int .i64 H, .int .i64 S, .int .i64 O, .slice a len cap]] w (ToldIm w (pics ⟨W, H, S, O, ps⟩ len)) := by
  obtain rfl := hp.leng
  obtain ⟨hbnd, hfirst, hsh⟩ := frameE_zero hE
  dsimp only at hfirst
  obtain ⟨_, _, _, _, hL⟩ := boundsE_zero hbnd
  dsimp only at hL
  obtain ⟨i0, hi, hz0, hz1, hz2⟩ := info_parts Tryz.infoImage
  have hb0 := below_box (Below.refl w.heap.size w) (.cells #[.int .i64 W, .int .i64 H, .int .i64 S, .int .i64 O, .slice a ps.length cap] 35)
  have hB := FBox.new w W H S O a ps.length cap
  have hsr := sourcesOfRef_any W H S O a ps.length cap ps _ (hp.below hb0) hL.2
  have hs2 : ∀ x ∈ srcs ps ps.length, x.length ≤ 2 := by
    intro x hx
    unfold srcs at hx
    rw [List.mem_map] at hx
    obtain ⟨n, _, rfl⟩ := hx
    unfold srcOf
    rw [List.length_map]
    exact takesP_len _
  go_enter Tryz.func56, Tryz.ntmps56
  go_wp2_with fail
  refine hsr.mono ?_
  clear hsr
  rintro e w1 ⟨⟨v1, rfl, hLL⟩, b1⟩
  obtain ⟨sa, scap, rfl, hSs⟩ := hLL.lls hs2
  rw [srcs_length] at hSs ⊢
  have hB1 := hB.below b1
  have hb1 := below_step hb0 b1
  have hp1 := hp.below hb1
  clear hB hb0 b1 hLL hs2 hp
  go_wp2
  go_loopw [4, 5] (fun v i wr => ∃ (k : Nat) (L : Lr), k ≤ ps.length ∧ i = .int .i64 k ∧ RowI w1.heap.size wr v L ∧ L.map Prod.fst = pics ⟨W, H, S, O, ps⟩ k ∧ Below w1.heap.size w1 wr) (fun _ i _ => ps.length - (intOf i).toNat)
  case atStart => exact ⟨0, [], Nat.zero_le _, rfl, RowI.nil _ _, rfl, Below.refl _ _⟩
  case round =>
    obtain ⟨k, L, hk, rfl, hrow, hmap, hbr⟩ := hrel
    have hBr := hB1.below hbr
    have hpr := hp1.below hbr
    have hSr := hSs.below hbr
    obtain ⟨_, g0, g1, g2, g3, g4⟩ := id hBr
    have hLl : L.length = k := by have := congrArg List.length hmap; simpa [pics_length] using this
    by_cases hlt : k < ps.length
    · have hfk := firstE_down ⟨W, H, S, O, ps⟩ hfirst (k := k) (by omega)
      have hpE : passE ⟨W, H, S, O, ps⟩ k = 0 := (firstE_at ⟨W, H, S, O, ps⟩ hfk).symm.trans (firstE_down ⟨W, H, S, O, ps⟩ hfirst (k := k + 1) (by omega))
      have hRR := paint_right hbnd hpE (pics_right hbnd hfk)
      obtain ⟨o1, o2, _⟩ := passE_zero hpE
      obtain ⟨hkn, _⟩ := ownE_zero o1
      have hin := src_bd o2
      have hsl : (srcOf ps k).length ≤ 2 := by unfold srcOf; rw [List.length_map]; exact takesP_len _
      have hAl : hasA (ps.getD k Ps.zero).Op = true → 1 ≤ (srcOf ps k).length := fun hA => by
        obtain ⟨r, hr⟩ := takes_pos hA
        unfold srcOf; rw [List.length_map, hr]; simp
      have hBl : hasB (ps.getD k Ps.zero).Op = true → 2 ≤ (srcOf ps k).length := fun hB => by
        unfold srcOf; rw [List.length_map, takes_two' hB]; simp
      have HG : Hid (pics ⟨W, H, S, O, ps⟩ (k + 1) = pics ⟨W, H, S, O, ps⟩ k ++ [paintRes (ps.getD k Ps.zero) (sizeN ⟨W, H, S, O, ps⟩ k) (pickR (pics ⟨W, H, S, O, ps⟩ k) (srcOf ps k))]) := rfl
      have hzz : (ps.getD k Ps.zero).Op = 1 ∨ (ps.getD k Ps.zero).Op = 2 → sizeN ⟨W, H, S, O, ps⟩ k = (W, H) := fun h => by unfold sizeN sizeP; rw [if_pos h]
      obtain ⟨va, vc, rfl, hImg⟩ := row_imgs hrow hmap (by omega)
      obtain ⟨b, off, la, ll, lc, rfl, p0, p1, p2, p3, p4, p5, hLi⟩ := hpr.nth hlt
      obtain ⟨sb, so, ua, uc, rfl, hsb, q0, hUI⟩ := hSr.nth hlt
      rw [srcs_at _ hlt] at q0 hUI
      have hblk := hpr.blk hlt
      have hpicl : (pics ⟨W, H, S, O, ps⟩ k).length = k := pics_length _ _
      dsimp only at hRR hkn
      generalize pics ⟨W, H, S, O, ps⟩ k = rs at hrow hmap HG hRR hImg hpicl ⊢
      generalize sizeN ⟨W, H, S, O, ps⟩ k = z at HG hRR hzz
      generalize srcOf ps k = sr at HG hRR hAl hBl q0 hUI hsl hin
      generalize ps.getD k Ps.zero = p at p0 p1 p2 p3 p4 p5 hLi hRR hkn hAl hBl HG hzz
      obtain ⟨Op, To, A, B, K, ls⟩ := p
      dsimp only at p0 p1 p2 p3 p4 p5 hLi hkn hAl hBl hzz
      have hpl : (pickR rs sr).length = sr.length := by simp [pickR]
      have hso := fun w' (pa : Option Addr) (pcap : Nat) (hz : Imgs 0 w' pa (pickR rs sr).length (pickR rs sr)) (hb : Below wr.heap.size wr w') => made_any W H S O (some ⟨b, off, none⟩) ps.length cap (Op := Op) To A B (K := K) lc pcap hkn (hLi.below hb) hz (by rw [hpl]; exact hAl) (by rw [hpl]; exact hBl) hzz hRR.1
      have HRR : Hid (_) := hRR
      have HMAP : Hid (_) := hmap
      have HLL : Hid (_) := hLl
      clear hRR hkn hAl hBl hzz hmap hLl hfk hpE o1 o2
      obtain rfl : k = rs.length := hpicl.symm
      obtain ⟨wO, e0⟩ : ∃ z, z = wr := ⟨_, rfl⟩
      subst e0
      go_wp2_with fail
      go_loopw [6, 7] (fun v i ws => ∃ (j : Nat) (M : Lr), j ≤ sr.length ∧ i = .int .i64 j ∧ OwnsR wO.heap.size ws v M ∧ M.map Prod.fst = pickR rs (sr.take j) ∧ (∀ x ∈ M, Ints 0 wO x.2.1 x.1.ps.length x.1.ps) ∧ Below wO.heap.size wO ws) (fun _ i _ => sr.length - (intOf i).toNat)
      case atStart => exact ⟨0, [], Nat.zero_le _, rfl, World.ownsRow_nil _ _ _ _, rfl, (fun x hx => by cases hx), Below.refl _ _⟩
      case round =>
        obtain ⟨j, M, hj, rfl, hown, hmapM, hintsM, hbs⟩ := hrel
        have hMl : M.length = j := by
          have := congrArg List.length hmapM
          simp [pickR] at this
          omega
        clear g0 g1 g2 g3 g4
        have q1 := (hbs.cell (p := ⟨sb, so + rs.length, none⟩) hsb).trans q0
        have hsz := hbs.size
        have hU1 := hUI.below (Nat.le_refl _) hbs
        have HM : Hid (_) := hmapM
        have HML : Hid (_) := hMl
        have HI : Hid (_) := hintsM
        clear hmapM hMl hintsM
        by_cases hjl : j < sr.length
        · obtain ⟨bu, ou, rfl, hcx⟩ := hU1.nth hjl
          have hr := hin _ (getD_mem hjl 0)
          have HS := pickR_succ rs sr j hjl
          generalize sr.getD j 0 = n at hcx hr HS
          obtain ⟨m, rfl⟩ := Int.eq_ofNat_of_zero_le hr.1
          obtain ⟨b', off', pa, pcap, rfl, hb', d0, d1, d2, hpi⟩ := hImg.nth (k := m) (by omega)
          replace d0 := (hbs.cell (p := ⟨b', off' + m * 3, none⟩) hb').trans d0
          replace d1 := (hbs.cell (p := ⟨b', off' + m * 3 + 1, none⟩) hb').trans d1
          replace d2 := (hbs.cell (p := ⟨b', off' + m * 3 + 2, none⟩) hb').trans d2
          rw [Int.toNat_natCast] at HS
          have HS' : Hid (pickR rs (sr.take (j + 1)) = pickR rs (sr.take j) ++ [rs.getD m (noRes 0)]) := HS
          have HP : Hid (_) := hpi.mono (Nat.zero_le _)
          have hmr : (m : Int) < (rs.length : Int) := hr.2
          clear HS hpi hso hImg hU1 hUI hLi hpr hp1 hSr hSs hBr hB1 hr p0 p1 p2 p3 p4 p5
          generalize rs.getD m (noRes 0) = r at d0 d1 d2 HS' HP
          go_wp2_with (at_builtin; refine wpList_append_own _ rfl _ _ 69 rfl wO.heap.size 24 i0 _ 3 40 Tryz.underlying69 hi hz0 hz1 hz2 rfl (by decide) _ _ _ rfl (World.ownsRow.alloc hown _) ⟨wr.heap.size, 0, none⟩ 1 1 [.int .i64 r.W, .int .i64 r.H, .slice pa r.ps.length pcap] rfl rfl (cell_three_new _ _ _ _ _) (by intro u hu; simp at hu; rcases hu with rfl | rfl | rfl <;> rfl) (by rw [HML.out]; unfold maxLen; omega) (by rw [HML.out]; omega) (by simp; omega) ?_; intro v' w9 hown9 hgrow9 _)
          have RR := OwnsR.push (x := (r, pa, pcap)) hown hbs hsz hown9 rfl hgrow9
          go_roundw
          case rel => exact ⟨j + 1, M ++ [(r, pa, pcap)], by omega, by go_num, RR.1, by rw [HS'.out, List.map_append, HM.out]; rfl, (fun x hx => by rcases List.mem_append.1 hx with h | h; exact HI.out x h; rw [List.mem_singleton] at h; subst h; exact HP.out), RR.2⟩
          case measure => simp [intOf]; omega
        · have hje : j = sr.length := by omega
          have hmM := HM.out
          rw [hje, List.take_length] at hmM
          have hML2 : M.length ≤ 12 := by rw [HML.out]; omega
          obtain ⟨na, ncap, rfl, hN⟩ := hown.imgs hmM (fun x hx => (HI.out x hx).below (Nat.le_refl _) hbs) hML2
          rw [hpl] at hN ⊢
          rw [hpl] at hso
          have hbD : Below wO.heap.size wO wr.drew := hbs.drew
          have hcall := hso _ na ncap (hN.below (Below.refl _ _).drew) hbD
          obtain ⟨_, g0, g1, g2, g3, g4⟩ := hBr.below hbs
          replace p0 := (hbs.cell (p := ⟨b, off + rs.length * 6, none⟩) hblk).trans p0
          replace p1 := (hbs.cell (p := ⟨b, off + rs.length * 6 + 1, none⟩) hblk).trans p1
          replace p2 := (hbs.cell (p := ⟨b, off + rs.length * 6 + 2, none⟩) hblk).trans p2
          replace p3 := (hbs.cell (p := ⟨b, off + rs.length * 6 + 3, none⟩) hblk).trans p3
          replace p4 := (hbs.cell (p := ⟨b, off + rs.length * 6 + 4, none⟩) hblk).trans p4
          replace p5 := (hbs.cell (p := ⟨b, off + rs.length * 6 + 5, none⟩) hblk).trans p5
          generalize paintRes ⟨Op, To, A, B, K, ls⟩ z (pickR rs sr) = r at hcall HG HRR
          have HROW : Hid (RowI w1.heap.size wO (.slice va rs.length vc) L) := hrow
          have hrl := hrow.lt
          have HRL : Hid (_) := hrl
          clear hso hImg hU1 hUI hLi hpr hp1 hSr hSs hBr hB1 hN hmM hML2 hin hown q0 HRR hrow hrl
          go_wp2_with fail
          go_region_law (first
            | (go_simp; go_at_call 92; refine hcall.mono ?_; rintro e w3 ⟨ra, rc, rfl, hri, hb3⟩; have hbO3 := below_step hbD hb3; have hrow3 := HROW.out.below hbO3; have hpx3 := Px.of (v := .slice va rs.length vc) (c := rc) hri (show w1.heap.size ≤ _ from Nat.le_trans hbr.size hbD.size) (fun j hj => Nat.lt_of_lt_of_le (HRL.out j hj).2 hbD.size); go_wp2_with fail)
            | (refine step_append_at rfl _ _ 69 rfl w1.heap.size 24 i0 (.agg #[.int .i64 0, .int .i64 0, .slice none 0 0]) 3 40 Tryz.underlying69 hi hz0 hz1 hz2 rfl (by decide) (.slice va rs.length vc) L.length (rcells L) rfl (hrow3.below ((Below.refl _ _).alloc (Nat.le_refl _) _)).1 ⟨w3.heap.size, 0, none⟩ 1 1 [.int .i64 r.W, .int .i64 r.H, .slice ra r.ps.length rc] rfl rfl (cell_three_new _ _ _ _ _) (by intro u hu; simp at hu; rcases hu with rfl | rfl | rfl <;> rfl) (by rw [HLL.out]; unfold maxLen; omega) (by rw [HLL.out]; omega) (by have h1 := hbr.size; have h2 := hbO3.size; simp; omega) ?_; intro v' w9 hown9 hgrow9 hloc9))
          all_goals
            have bA := (Below.refl w3.heap.size w3).alloc (Nat.le_refl _) (.cells #[.int .i64 r.W, .int .i64 r.H, .slice ra r.ps.length rc] 24)
            have RR := (hrow3.below bA).push (x := (r, ra, rc)) (hpx3.below bA) hown9 hgrow9 hloc9
            have h1 := hbr.size
            have h2 := hbO3.size
            have hb9 : Below w1.heap.size w1 w9 := ((hbr.trans (hbO3.mono hbr.size)).alloc (by omega) (.cells #[.int .i64 r.W, .int .i64 r.H, .slice ra r.ps.length rc] 24)).grown hgrow9 (by simp; omega) (fun j hj => (HRL.out j hj).1)
            go_wp2
            exact ⟨⟨rs.length + 1, L ++ [(r, ra, rc)], by omega, by go_num, RR, by rw [HG.out, List.map_append, HMAP.out]; rfl, hb9⟩, by simp [intOf]; omega⟩
    · have hke : k = ps.length := by omega
      subst hke
      have HROW : Hid (_) := hrow
      have HMAP : Hid (_) := hmap
      clear hrow hmap hLl hpr hSr hBr
      go_wp2
      go_ret
      exact ⟨⟨_, L, rfl, ⟨row_mono HROW.out.1 hb1.size, fun x hx => (HROW.out.2 x hx).mono hb1.size⟩, HMAP.out⟩, below_step hb1 hbr⟩
end Go.Proofs.YtaenpgdmiaekcaaGreatDoor
/-
  RENDERREF: the reference's RenderOf.
-/
namespace Go.Proofs.YtaenpgdmiaekcaaGreatDoor
set_option maxRecDepth 100000
open Go.RowKit Im

theorem FBox.five {w : World} {b : Nat} {W H S O : Int} {a : Option Addr} {len cap : Nat} (h : FBox w b W H S O a len cap) : w.cell? ⟨b, 0, none⟩ = some (.int .i64 W) ∧ w.cell? ⟨b, 1, none⟩ = some (.int .i64 H) ∧ w.cell? ⟨b, 2, none⟩ = some (.int .i64 S) ∧ w.cell? ⟨b, 3, none⟩ = some (.int .i64 O) ∧ w.cell? ⟨b, 4, none⟩ = some (.slice a len cap) := ⟨h.c0, h.c1, h.c2, h.c3, h.c4⟩
set_option maxHeartbeats 4000000 in
theorem renderOf_any (W H S O : Int) (a : Option Addr) (len cap : Nat) (ps : List Ps) (w : World) (hp : Passes w a len ps) (hE : frameE ⟨W, H, S, O, ps⟩ = 0) :
    Calls Tryz.prog 24 #[.agg #[.int .i64 W, .int .i64 H, .int .i64 S, .int .i64 O, .slice a len cap]] w (ToldM w (renderP ⟨W, H, S, O, ps⟩)) := by
  obtain rfl := hp.leng
  obtain ⟨hbnd, hfirst, hsh⟩ := frameE_zero hE
  obtain ⟨_, _, _, _, hL⟩ := boundsE_zero hbnd
  dsimp only at hL
  have hr : renderP ⟨W, H, S, O, ps⟩ = (pics ⟨W, H, S, O, ps⟩ ps.length).getD (shownP ⟨W, H, S, O, ps⟩).toNat (noRes 0) := by unfold renderP; rw [if_pos hE]
  rw [hr]
  clear hr
  obtain ⟨N, hN⟩ := Int.eq_ofNat_of_zero_le hsh
  have hNl : N < ps.length := by have := (wrt_bd ps ps.length O).2; have e : shownP ⟨W, H, S, O, ps⟩ = wrt ps ps.length O := rfl; omega
  rw [hN, Int.toNat_natCast]
  have hb0 := below_box (below_box (Below.refl w.heap.size w) (.cells #[.int .i64 W, .int .i64 H, .int .i64 S, .int .i64 O, .slice a ps.length cap] 35)) (.cells #[.int .i64 0, .int .i64 0, .slice none 0 0] 24)
  have hbox := IBox.new (w.alloc (.cells #[.int .i64 W, .int .i64 H, .int .i64 S, .int .i64 O, .slice a ps.length cap] 35))
  have hB := (FBox.new w W H S O a ps.length cap).alloc (.cells #[.int .i64 0, .int .i64 0, .slice none 0 0] 24)
  rw [World.size_alloc] at hbox
  have him := fun wx hp => images_any W H S O a ps.length cap ps wx hp hE
  have hla := fun wx hp => lastOf_any W H S O a ps.length cap ps wx hp
  have hp2 := hp.below hb0
  have hsz2 : w.heap.size + 2 ≤ ((w.alloc (.cells #[.int .i64 W, .int .i64 H, .int .i64 S, .int .i64 O, .slice a ps.length cap] 35)).alloc (.cells #[.int .i64 0, .int .i64 0, .slice none 0 0] 24)).heap.size := by simp
  generalize hpp : pics ⟨W, H, S, O, ps⟩ ps.length = rs at *
  have hrl : rs.length = ps.length := by rw [← hpp]; exact pics_length _ _
  rw [hN] at hla
  clear hpp hp hbnd hfirst hsh hN hE
  go_enter Tryz.func24, Tryz.ntmps24
  go_wp2_with fail
  generalize (w.alloc (.cells #[.int .i64 W, .int .i64 H, .int .i64 S, .int .i64 O, .slice a ps.length cap] 35)).alloc (.cells #[.int .i64 0, .int .i64 0, .slice none 0 0] 24) = w2 at *
  obtain ⟨r, hr⟩ : ∃ r, rs.getD N (noRes 0) = r := ⟨_, rfl⟩
  have HR : Hid (rs.getD N (noRes 0) = r) := hr
  clear hr
  obtain ⟨_, g0, g1, g2, g3, g4⟩ := id hB
  go_region_law (first
    | (go_simp; go_at_call 56; refine (him _ (hp2.below (Below.refl _ _).drew)).mono ?_; rintro e w3 ⟨⟨v, L, rfl, hrow, hmap⟩, b3⟩; obtain ⟨va, vc, rfl, hImg⟩ := row_imgs hrow hmap (by have h1 := congrArg List.length hmap; simp at h1; omega); have b3' := below_step (Below.refl w2.heap.size w2).drew b3; have hB3 := hB.below b3'; have hp3 := hp2.below b3'; obtain ⟨_, j0, j1, j2, j3, j4⟩ := id hB3; clear hrow hmap b3; go_wp2_with fail)
    | (go_simp; go_at_call 57; refine (hla _ hp3).mono ?_; rintro e w4 ⟨rfl, b4⟩; have b4' := below_step b3' b4; obtain ⟨ib, io, pa, pc, rfl, hib, d0, d1, d2, hxi⟩ := (hImg.below b4).nth (k := N) (by omega); rw [HR.out] at d0 d1 d2 hxi; obtain ⟨_, c0, c1, c2, f0, f1, f2⟩ := hbox.below b4' hbox.lt b4'.size; have hNr : (N : Int) < (rs.length : Int) := (by omega); go_wp2_with fail))
  all_goals
    have hxw : Ints (w.heap.size + 2) w4 pa r.ps.length r.ps := hxi.mono hsz2
    clear hImg hxi
    go_wp2
    refine bodyPost_ret (v := .agg #[.int .i64 r.W, .int .i64 r.H, .slice pa r.ps.length pc]) (by simp [results, Tryz.results24, go_sem, c0, c1, c2]) rfl ?_
    rw [HR.out]
    exact ⟨pa, pc, rfl, (((hxw.setCell (p := ⟨w.heap.size + 1, 0, none⟩) (by simp) _).setCell (p := ⟨w.heap.size + 1, 1, none⟩) (by simp) _).setCell (p := ⟨w.heap.size + 1, 2, none⟩) (by simp) _).mono (by omega), (((below_step hb0 b4').setCell (p := ⟨w.heap.size + 1, 0, none⟩) (by simp) _).setCell (p := ⟨w.heap.size + 1, 1, none⟩) (by simp) _).setCell (p := ⟨w.heap.size + 1, 2, none⟩) (by simp) _⟩
end Go.Proofs.YtaenpgdmiaekcaaGreatDoor
/-
  DESKDRAWN: the reference's Drawn.
-/
namespace Go.Proofs.YtaenpgdmiaekcaaGreatDoor
set_option maxRecDepth 100000
open Go.RowKit Im Go.Maps

/-- Errors ahead of the peak. -/
theorem drawn_early (s : ByteArray) (room : Int) (w : World) (h : 2048 < s.size ∨ ¬ rdE (numsOf s) = 0 ∨ room < 0 ∨ 4096 < room) :
    Calls Tryz.prog 9 #[.string s, .int .i64 room] w fun e w' => e = .returned (.tuple #[.string (drawS s room), .int .i64 (drawE s room)]) ∧ Below w.heap.size w w' := by
  by_cases hbig : 2048 < s.size
  · have hE : drawE s room = 2 := by unfold drawE; rw [if_pos hbig]
    rw [draw_not (by rw [hE]; decide), hE]
    have hbI : (2048 : Int) < (s.size : Int) := by omega
    clear h hE hbig
    go_enter Tryz.func9, Tryz.ntmps9
    go_wp2
    go_ret2
    exact ⟨rfl, Below.refl _ _⟩
  · have hbI : ¬ (2048 : Int) < (s.size : Int) := by omega
    obtain ⟨is, his, hfr⟩ := from_x (numsOf_bytes s) (by rw [numsOf_len]; omega) w
    rw [numsOf_str] at hfr
    by_cases hok : rdE (numsOf s) = 0
    · have hr : room < 0 ∨ 4096 < room := by
        rcases h with h | h | h
        · exact absurd h hbig
        · exact absurd hok h
        · exact h
      have hE : drawE s room = 3 := by unfold drawE; rw [if_neg hbig, if_neg (fun h => h hok), if_pos hr]
      rw [draw_not (by rw [hE]; decide), hE]
      obtain rfl : is = true := by
        cases is
        · rw [hok] at his; cases his
        · rfl
      have hwi : withinB room 0 4096 = false := by unfold withinB; simp; omega
      clear h hE hbig hok his hr
      generalize rdF (numsOf s) = F at *
      obtain ⟨FW, FH, FS, FO, Fp⟩ := F
      go_enter Tryz.func9, Tryz.ntmps9
      go_wp2_with fail
      refine hfr.mono ?_
      rintro e w1 ⟨xa, xc, rfl, hP1, b1⟩
      dsimp only at hP1 ⊢
      have hb2 := below_box b1 (.cells #[.int .i64 FW, .int .i64 FH, .int .i64 FS, .int .i64 FO, .slice xa Fp.length xc] 35)
      go_wp2_with (go_at_call 15; refine (within_any _ _ _ _).mono ?_; rintro e w' ⟨rfl, rfl⟩)
      go_ret2
      exact ⟨rfl, hb2⟩
    · have hE : drawE s room = 1 := by unfold drawE; rw [if_neg hbig, if_pos hok]
      rw [draw_not (by rw [hE]; decide), hE]
      obtain rfl : is = false := by
        cases is
        · rfl
        · exact absurd his hok
      clear h hE hbig hok his
      generalize rdF (numsOf s) = F at *
      obtain ⟨FW, FH, FS, FO, Fp⟩ := F
      go_enter Tryz.func9, Tryz.ntmps9
      go_wp2_with fail
      refine hfr.mono ?_
      rintro e w1 ⟨xa, xc, rfl, hP1, b1⟩
      dsimp only at hP1 ⊢
      have hb2 := below_box b1 (.cells #[.int .i64 FW, .int .i64 FH, .int .i64 FS, .int .i64 FO, .slice xa Fp.length xc] 35)
      go_wp2
      go_ret2
      exact ⟨rfl, hb2⟩
set_option maxHeartbeats 8000000 in
theorem drawn_frame (s : ByteArray) (W H S O : Int) (ps : List Ps) (room : Nat) (w : World) (hbI : ¬ (2048 : Int) < (s.size : Int)) (hrd : Calls Tryz.prog 21 #[.string s] w (ToldX w ⟨W, H, S, O, ps⟩ (.bool true))) (hE : frameE ⟨W, H, S, O, ps⟩ = 0) (hr : room ≤ 4096) :
    Calls Tryz.prog 9 #[.string s, .int .i64 room] w (DrawnAs ⟨W, H, S, O, ps⟩ room w) := by
  obtain ⟨hpl, hcl⟩ := comp_plan hE
  have hOrd := (planE_zero hpl).2
  have e1 : peakP ⟨W, H, S, O, ps⟩ (cOs ⟨W, H, S, O, ps⟩) (cPs ⟨W, H, S, O, ps⟩) = peakR (gpOf ⟨W, H, S, O, ps⟩).ar (cPs ⟨W, H, S, O, ps⟩) ps.length := by unfold peakP; rw [if_pos hpl]; exact peak_ref hOrd
  have h12 : ps.length ≤ 12 := by
    obtain ⟨hb, _, _⟩ := frameE_zero hE
    exact (boundsE_zero hb).2.2.2.2.2
  have HF : Hid (_) := render_fine hE
  have hwi : withinB room 0 4096 = true := by unfold withinB; simp; omega
  go_enter Tryz.func9, Tryz.ntmps9
  go_wp2_with fail
  refine hrd.mono ?_
  clear hrd
  rintro e w1 ⟨a, cap, rfl, hP1, b1⟩
  dsimp only at hP1 ⊢
  have hF2 := FBox.new w1 W H S O a ps.length cap
  have bA := (Below.refl w1.heap.size w1).alloc (Nat.le_refl _) (.cells #[.int .i64 W, .int .i64 H, .int .i64 S, .int .i64 O, .slice a ps.length cap] 35)
  have hP2 := hP1.below bA
  have hb2 := below_step b1 bA
  clear hP1 bA b1
  go_upto_region 6 with fail
  generalize w1.alloc (.cells #[.int .i64 W, .int .i64 H, .int .i64 S, .int .i64 O, .slice a ps.length cap] 35) = w2 at *
  go_upto_region 8 with (go_at_call 15; refine (within_any _ _ _ _).mono ?_; rintro e w' ⟨rfl, rfl⟩)
  have hco := fun wx (h : Below w2.heap.size w2 wx) => compileOf_any W H S O a ps.length cap ps wx (hP2.below h) hE
  have hpk := fun wx (h : Below w2.heap.size w2 wx) ov pb (hL : Ints 0 wx (some ⟨pb, 0, none⟩) ps.length (cPs ⟨W, H, S, O, ps⟩)) => peakOf_any W H S O a ps.length cap ps wx (hP2.below h) ov (some ⟨pb, 0, none⟩) ps.length ps.length (cOs ⟨W, H, S, O, ps⟩) _ hL hE hOrd
  have hre := fun wx (h : Below w2.heap.size w2 wx) => renderOf_any W H S O a ps.length cap ps wx (hP2.below h) hE
  rw [← e1] at hpk
  generalize hpe : peakP ⟨W, H, S, O, ps⟩ (cOs ⟨W, H, S, O, ps⟩) (cPs ⟨W, H, S, O, ps⟩) = pk at *
  have HPE : Hid (_) := hpe
  have hfi := HF.out
  generalize hRd : renderP ⟨W, H, S, O, ps⟩ = R at *
  have HRd : Hid (_) := hRd
  have held : ∀ wx, Below w2.heap.size w2 wx → wx.cell? ⟨w1.heap.size, 0, none⟩ = some (.int .i64 W) ∧ wx.cell? ⟨w1.heap.size, 1, none⟩ = some (.int .i64 H) ∧ wx.cell? ⟨w1.heap.size, 2, none⟩ = some (.int .i64 S) ∧ wx.cell? ⟨w1.heap.size, 3, none⟩ = some (.int .i64 O) ∧ wx.cell? ⟨w1.heap.size, 4, none⟩ = some (.slice a ps.length cap) := fun wx h => by
    obtain ⟨_, g0, g1, g2, g3, g4⟩ := hF2.below h
    exact ⟨g0, g1, g2, g3, g4⟩
  have b0x := (Below.refl w2.heap.size w2).drew
  obtain ⟨_, g0, g1, g2, g3, g4⟩ := id hF2
  clear hpe hRd HF e1 hpl hOrd hwi
  go_region_held3 (fun wx => wx.cell? ⟨w1.heap.size, 0, none⟩ = some (.int .i64 W) ∧ wx.cell? ⟨w1.heap.size, 1, none⟩ = some (.int .i64 H) ∧ wx.cell? ⟨w1.heap.size, 2, none⟩ = some (.int .i64 S) ∧ wx.cell? ⟨w1.heap.size, 3, none⟩ = some (.int .i64 O) ∧ wx.cell? ⟨w1.heap.size, 4, none⟩ = some (.slice a ps.length cap))
    ((refine held _ ?_; first | exact b0x | exact hb4 | exact hb3))
    (first
      | (go_at_call 23; (with_reducible refine (hco _ b0x).mono ?_); rintro e w3 ⟨⟨v, pb, rfl, hpb, hOv, hNm⟩, b3⟩; have hb3 := below_step b0x b3; have hIp : Ints 0 w3 (some ⟨pb, 0, none⟩) ps.length (cPs ⟨W, H, S, O, ps⟩) := nm_list hNm hcl (by show ps.length ≤ _; omega))
      | (go_at_call 22; (with_reducible refine (hpk _ hb3 _ _ hIp).mono ?_); rintro e w4 ⟨rfl, b4⟩; have hb4 := below_step hb3 b4))
  all_goals
    have hB4 := below_step hb2 hb4
    have hre4 := hre _ hb4
    obtain ⟨_, j0, j1, j2, j3, j4⟩ := id (hF2.below hb4)
    clear hco hpk hre held g0 g1 g2 g3 g4 hIp hOv hNm
    by_cases hfull : (room : Int) < pk
    · clear hre4
      go_wp2
      go_ret2
      exact ⟨.inl ⟨rfl, by rw [HPE.out]; exact hfull⟩, hB4⟩
    · have HPK : Hid (pk ≤ (room : Int)) := by show _ ≤ _; omega
      go_wp2_with fail
      refine hre4.mono ?_
      clear hre4
      rintro e w5 ⟨ia, ic, rfl, hI5, b5⟩
      have hB5 := below_step hB4 b5
      have hit := imageText_any R.W R.H ia R.ps.length ic R.ps w5 (hI5.mono (Nat.zero_le _)) hfi
      go_wp2_with fail
      refine hit.mono ?_
      clear hit
      rintro e w6 ⟨rfl, b6⟩
      go_wp2
      go_ret2
      exact ⟨.inr ⟨by rw [HRd.out]; rfl, by rw [HPE.out]; have := HPK.out; omega⟩, below_step hB5 b6⟩
theorem deskDrawn_any (s : ByteArray) (room : Int) (w : World) :
    Calls Tryz.prog 9 #[.string s, .int .i64 room] w fun e w' => e = .returned (.tuple #[.string (drawS s room), .int .i64 (drawE s room)]) ∧ Below w.heap.size w w' := by
  by_cases h : 2048 < s.size ∨ ¬ rdE (numsOf s) = 0 ∨ room < 0 ∨ 4096 < room
  · exact drawn_early s room w h
  · have hs : ¬ 2048 < s.size := fun h1 => h (.inl h1)
    have hok : rdE (numsOf s) = 0 := Classical.byContradiction fun h1 => h (.inr (.inl h1))
    have hr0 : ¬ (room < 0 ∨ 4096 < room) := fun h1 => h (.inr (.inr h1))
    obtain ⟨n, rfl⟩ : ∃ n : Nat, room = n := ⟨room.toNat, by omega⟩
    have hn : n ≤ 4096 := by omega
    obtain ⟨is, his, hfr⟩ := from_x (numsOf_bytes s) (by rw [numsOf_len]; omega) w
    rw [numsOf_str] at hfr
    obtain rfl : is = true := by
      cases is
      · rw [hok] at his; cases his
      · rfl
    exact (drawn_frame s (dF s).W (dF s).H (dF s).S (dF s).O (dF s).ps n w (by omega) hfr (rdE_zero hok) hn).mono fun _ _ h => draw_same hs hok hn h
end Go.Proofs.YtaenpgdmiaekcaaGreatDoor
/-
  LAWDESK: the law DeskDraws.
-/
namespace Go.Proofs.YtaenpgdmiaekcaaGreatDoor
set_option maxRecDepth 100000
open Go.RowKit Im Go.Maps

set_option maxHeartbeats 4000000 in
theorem deskDraws_any (W H : Int) (a : Option Addr) (len cap : Nat) (ps : List Int) (s : ByteArray) (room : Int) (w : World) (h : Ints 0 w a len ps) (_hs : s.size ≤ maxLen) (hp : Pow w) :
    Calls Tryz.prog 3 #[.agg #[.int .i64 W, .int .i64 H, .slice a len cap], .string s, .int .i64 room] w fun e w' => e = .returned (.bool true) ∧ Below w.heap.size w w' := by
  have hb0 := below_box (Below.refl w.heap.size w) (.cells #[.int .i64 W, .int .i64 H, .slice a len cap] 24)
  have hJ0 := JBox.new w W H (.slice a len cap)
  have hdr := fun wx hp => deskDraw_any s room wx hp
  have hdn := fun wx => deskDrawn_any s room wx
  generalize drawS s room = dS at *
  generalize drawE s room = dE at *
  have hI0 := h.below (Nat.le_refl _) hb0
  obtain ⟨_, c0, c1, c2⟩ := id hJ0
  go_enter Tryz.func3, Tryz.ntmps3
  go_wp2_with fail
  generalize w.alloc (.cells #[.int .i64 W, .int .i64 H, .slice a len cap] 24) = w0 at *
  have hsh := show_any W H a len cap ps w0 hI0 (hp.below hb0)
  obtain ⟨EE, hEE⟩ : ∃ EE : Int, EE = if fineB W H ps = true then 0 else 1 := ⟨_, rfl⟩
  rw [← hEE] at hsh
  have HEE : Hid (_) := hEE
  clear hEE
  refine hsh.mono ?_
  clear hsh c0 c1 c2
  rintro e w1 ⟨rfl, b1⟩
  have hb1 := below_step hb0 b1
  have hI1 := hI0.below (Nat.le_refl _) b1
  obtain ⟨_, c0, c1, c2⟩ := id (hJ0.below b1)
  have hfi := isfine_any W H cap hI1
  go_wp2_with fail
  refine hfi.mono ?_
  clear hfi c0 c1 c2
  rintro e w2 ⟨rfl, b2⟩
  have hb2 := below_step hb1 b2
  have hI2 := hI1.below (Nat.le_refl _) b2
  obtain ⟨_, c0, c1, c2⟩ := id ((hJ0.below b1).below b2)
  by_cases hf : fineB W H ps = true
  · obtain rfl : EE = 0 := by rw [HEE.out, if_pos hf]
    rw [hf]
    clear HEE
    have hit := imageText_any W H a len cap ps w2 hI2 hf
    generalize textS W H ps = T at *
    clear hf hI1 hI0 h
    go_wp2_with fail
    refine hit.mono ?_
    clear hit c0 c1 c2
    rintro e w3 ⟨rfl, b3⟩
    have hb3 := below_step hb2 b3
    go_wp2_with fail
    refine (hdr _ (hp.below hb3)).mono ?_
    rintro e w4 ⟨rfl, b4⟩
    have hb4 := below_step hb3 b4
    go_wp2_with fail
    refine (hdn _).mono ?_
    rintro e w5 ⟨rfl, b5⟩
    have hb5 := below_step hb4 b5
    go_wp2_with fail
    refine (deskBegun_any _ (hp.below hb5)).mono ?_
    rintro e w6 ⟨rfl, b6⟩
    have hb6 := below_step hb5 b6
    go_wp2
    go_ret
    exact ⟨by simp, hb6⟩
  · have hf' : fineB W H ps = false := by simpa using hf
    have eT : textS W H ps = ByteArray.empty := by unfold textS; rw [if_neg hf]
    obtain rfl : EE = 1 := by rw [HEE.out, if_neg hf]
    rw [eT, hf']
    clear HEE
    clear hf hf' eT hI1 hI0 h hI2
    go_wp2_with fail
    refine (hdr _ (hp.below hb2)).mono ?_
    rintro e w4 ⟨rfl, b4⟩
    have hb4 := below_step hb2 b4
    go_wp2_with fail
    refine (hdn _).mono ?_
    rintro e w5 ⟨rfl, b5⟩
    have hb5 := below_step hb4 b5
    go_wp2_with fail
    refine (deskBegun_any _ (hp.below hb5)).mono ?_
    rintro e w6 ⟨rfl, b6⟩
    have hb6 := below_step hb5 b6
    go_wp2
    go_ret
    exact ⟨by simp, hb6⟩
end Go.Proofs.YtaenpgdmiaekcaaGreatDoor
