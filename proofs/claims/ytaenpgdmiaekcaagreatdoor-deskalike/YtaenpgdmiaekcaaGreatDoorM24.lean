/- Compile, FitBegun, LawExec3: joined, in this order. -/
import Derived.Test.YtaenpgdmiaekcaaGreatDoorM23
import Derived.Test.YtaenpgdmiaekcaaGreatDoorM15
import Derived.Test.YtaenpgdmiaekcaaGreatDoorM11
import Derived.Test.YtaenpgdmiaekcaaGreatDoorM20
import Derived.Test.YtaenpgdmiaekcaaGreatDoorM21
import Derived.Test.YtaenpgdmiaekcaaGreatDoorM01
/-
  COMPILE: fit.Compile.
-/
namespace Go.Proofs.YtaenpgdmiaekcaaGreatDoor
set_option maxRecDepth 100000
open Go.RowKit Im Go.Maps

theorem Sp.other {w : World} {b n : Nat} {g : Nat → Int × Int} (h : Sp w b n g) {p : Addr} (hp : p.block ≠ b) (u : Value) : Sp (w.setCell p u) b n g :=
  ⟨by simpa using h.lt, fun j hj => (set_other _ (fun e => hp (by rw [e]))).trans (h.c0 j hj), fun j hj => (set_other _ (fun e => hp (by rw [e]))).trans (h.c1 j hj), fun o => by simpa using h.froz o⟩
theorem owns_cap {base e size n : Nat} {w : World} {a : Option Addr} {cap : Nat} {xs : List Value} (h : w.ownsRow base e size (.slice a n cap) n xs) : n ≤ cap := by
  rcases h.2 with ⟨hv, rfl⟩ | ⟨g, c, cur, hv, _, _, hc, _⟩
  · exact Nat.zero_le _
  · injection hv with _ _ h3; omega
/-- What fit.Compile tells. -/
def ToldComp (w : World) (f : Fr) (e : Ending) (w' : World) : Prop :=
  ((frameE f = 0 ∧ ∃ v pb, e = .returned (.tuple #[.agg #[v, .slice (some ⟨pb, 0, none⟩) f.ps.length f.ps.length], .int .i64 0]) ∧ w.heap.size ≤ pb ∧ Owns (pb + 1) w' v (cOrd (gpOf f) f.ps.length) ∧ Nm w' pb f.ps.length (fun k => (cPl (gpOf f)).getD k 0)) ∨
   (frameE f ≠ 0 ∧ e = .returned (.tuple #[.agg #[.slice none 0 0, .slice none 0 0], .int .i64 (frameE f)]))) ∧ Below w.heap.size w w'
set_option maxHeartbeats 2000000 in
theorem compile_err (W H S O : Int) (a : Option Addr) (len cap : Nat) (ps : List Ps) (w : World) (hp : Passes w a len ps) (hE : frameE ⟨W, H, S, O, ps⟩ ≠ 0) :
    Calls Tryz.prog 18 #[.agg #[.int .i64 W, .int .i64 H, .int .i64 S, .int .i64 O, .slice a len cap]] w (ToldComp w ⟨W, H, S, O, ps⟩) := by
  have hb0 := below_box (below_box (Below.refl w.heap.size w) (.cells #[.int .i64 W, .int .i64 H, .int .i64 S, .int .i64 O, .slice a len cap] 35)) (.cells #[.slice none 0 0, .slice none 0 0] 48)
  have hR0 := WBox.new (w.alloc (.cells #[.int .i64 W, .int .i64 H, .int .i64 S, .int .i64 O, .slice a len cap] 35)) (.slice none 0 0) (.slice none 0 0) 48
  rw [World.size_alloc] at hR0
  have hke := kept_any W H S O a len cap ps _ (hp.below hb0)
  have HE : Hid (_) := hE
  go_enter Tryz.func18, Tryz.ntmps18
  go_wp2_with fail
  refine hke.mono ?_
  clear hke
  rintro e w1 ⟨⟨h0, _⟩ | ⟨_, rfl⟩, b1⟩
  · exact absurd h0 hE
  have hR1 := hR0.below b1 hR0.lt b1.size
  have hb1 := below_step hb0 b1
  obtain ⟨_, r0, r1, fr⟩ := id hR1
  have fr0 := fr 0
  have fr1 := fr 1
  obtain ⟨_, d0, d1, _⟩ := (hR1.put0 (.slice none 0 0)).put1 (.slice none 0 0)
  have hb2 := (hb1.setCell (p := ⟨w.heap.size + 1, 0, none⟩) (Nat.le_succ _) (.slice none 0 0)).setCell (p := ⟨w.heap.size + 1, 1, none⟩) (Nat.le_succ _) (.slice none 0 0)
  have HB : Hid (_) := hb2
  clear hb2
  go_wp2
  exact bodyPost_ret (v := .tuple #[.agg #[.slice none 0 0, .slice none 0 0], .int .i64 (frameE ⟨W, H, S, O, ps⟩)]) (by simp [results, Tryz.results18, go_sem, d0, d1]) rfl ⟨.inr ⟨HE.out, rfl⟩, HB.out⟩
/-- What is compiled, step by step: the places P, what each step is given R. -/
structure Comp (f : Fr) (z : Nat → Int) (os : List Int) (sp : Nat → Int × Int) (zs : List Sz) (P : Nat → Nat → Int) (R : Nat → Int) : Prop where
  p0 : ∀ k, P 0 k = z k
  pe : ∀ k, k < f.ps.length → P os.length k = (cPl (gpOf f)).getD k 0
  step : ∀ t, t < os.length → ∀ k, P (t + 1) k = if (os.getD t 0).toNat = k then R t else P t k
  busyE : ∀ t, t < os.length → placeE (busyF sp (fun k => areaZ (zs.getD k Sz.zero)) (P t) os t t) (areaZ (zs.getD (os.getD t 0).toNat Sz.zero)) = 0
  busyP : ∀ t, t < os.length → placeP (busyF sp (fun k => areaZ (zs.getD k Sz.zero)) (P t) os t t) (areaZ (zs.getD (os.getD t 0).toNat Sz.zero)) = R t
  pb : ∀ t, t ≤ os.length → ∀ k, -1 ≤ P t k ∧ P t k ≤ 4097
  blen : ∀ t, t < os.length → (busyF sp (fun k => areaZ (zs.getD k Sz.zero)) (P t) os t t).length ≤ 12
  inN : ∀ o ∈ os, 0 ≤ o ∧ o < f.ps.length
  ol : os.length ≤ 12
  sz : ∀ k, k < f.ps.length → (0 ≤ (zs.getD k Sz.zero).1 ∧ (zs.getD k Sz.zero).1 ≤ 16) ∧ (0 ≤ (zs.getD k Sz.zero).2 ∧ (zs.getD k Sz.zero).2 ≤ 16)
theorem comp_any {f : Fr} (hE : frameE f = 0) {z : Nat → Int} (hz : ∀ k, -1 ≤ z k ∧ z k ≤ 0) (hz0 : ∀ k, k < f.ps.length → ¬ (gpOf f).kept k = true → z k = -1) :
    ∃ P R, Comp f z (cOrd (gpOf f) f.ps.length) (spanP (gpOf f) (cOrd (gpOf f) f.ps.length)) (szs f f.ps.length) P R := by
  have hG := gp_right hE
  have hN12 : f.ps.length ≤ 12 := hG.hN.2
  have hl := cOrd_len (gpOf f) f.ps.length
  obtain ⟨hb, hf, hs⟩ := frameE_zero hE
  refine ⟨plcN (gpOf f) (cOrd (gpOf f) f.ps.length) z, fun t => placeR (busyQ (gpOf f) (cOrd (gpOf f) f.ps.length) (qsP (gpOf f) (cOrd (gpOf f) f.ps.length) t) t t) ((gpOf f).ar ((cOrd (gpOf f) f.ps.length).getD t 0).toNat), fun k => plc_zero k, fun k hk => plc_done (G := gpOf f) hz0 hk, fun t ht k => plcN_step (G := gpOf f) (cOrd_nodup _) (cOrd_in _) ht k, fun t ht => ?_, fun t ht => ?_, fun t ht k => ?_, fun t ht => ?_, cOrd_in (gpOf f), by omega, fun k hk => ?_⟩
  · have h1 := comp_busy (G := gpOf f) (z := z) (show t ≤ _ from Nat.le_of_lt ht)
    have h2 := comp_place hG ht
    rw [← h1] at h2
    exact h2
  · have h1 := comp_busy (G := gpOf f) (z := z) (show t ≤ _ from Nat.le_of_lt ht)
    have h2 := comp_placeP hG ht
    rw [← h1] at h2
    exact h2.trans (by rw [h1]; rfl)
  · have := plc_bd hG hz ht k; exact ⟨this.1, Int.le_trans this.2 (by decide)⟩
  · exact Nat.le_trans (busyF_len _ _ _ _ _ _) (by omega)
  · have := szs_bd hb hf _ (getD_mem (show k < (szs f f.ps.length).length by rw [szs_length]; exact hk) Sz.zero)
    obtain ⟨h1, h2⟩ := this
    exact ⟨⟨by omega, by omega⟩, ⟨by omega, by omega⟩⟩
set_option maxHeartbeats 4000000 in
theorem compile_ok (W H S O : Int) (a : Option Addr) (len cap : Nat) (ps : List Ps) (w : World) (hp : Passes w a len ps) (hE : frameE ⟨W, H, S, O, ps⟩ = 0) :
    Calls Tryz.prog 18 #[.agg #[.int .i64 W, .int .i64 H, .int .i64 S, .int .i64 O, .slice a len cap]] w (ToldComp w ⟨W, H, S, O, ps⟩) := by
  have hb0 := below_box (below_box (Below.refl w.heap.size w) (.cells #[.int .i64 W, .int .i64 H, .int .i64 S, .int .i64 O, .slice a len cap] 35)) (.cells #[.slice none 0 0, .slice none 0 0] 48)
  have hR0 := WBox.new (w.alloc (.cells #[.int .i64 W, .int .i64 H, .int .i64 S, .int .i64 O, .slice a len cap] 35)) (.slice none 0 0) (.slice none 0 0) 48
  have hF0 := (FBox.new w W H S O a len cap).alloc (.cells #[.slice none 0 0, .slice none 0 0] 48)
  rw [World.size_alloc] at hR0
  have hke := kept_any W H S O a len cap ps _ (hp.below hb0)
  have hG := gp_right hE
  have hC : Closed (gpOf ⟨W, H, S, O, ps⟩) := gp_closed hE
  have hN12 : ps.length ≤ 12 := hG.hN.2
  have HE : Hid (_) := hE
  go_enter Tryz.func18, Tryz.ntmps18
  go_wp2_with fail
  refine hke.mono ?_
  clear hke
  rintro e w1 ⟨⟨_, b, rfl, hbb, hBl⟩ | ⟨h0, _⟩, b1⟩
  rotate_left
  · exact absurd hE h0
  have hb1 := below_step hb0 b1
  have hF1 := hF0.below b1
  have hR1 := hR0.below b1 hR0.lt b1.size
  have hsz := sizes_any W H S O a len cap ps _ (hp.below hb1)
  obtain ⟨_, g0, g1, g2, g3, g4⟩ := id hF1
  dsimp only at hBl ⊢
  go_wp2_with fail
  refine hsz.mono ?_
  clear hsz
  rintro e w2 ⟨⟨v2, rfl, hZ⟩, b2⟩
  rw [hE, if_pos rfl] at hZ
  obtain ⟨za, zc, rfl, hZs⟩ := hZ.zs (by rw [szs_length]; omega)
  rw [szs_length] at hZs ⊢
  have hb2 := below_step hb1 b2
  have hF2 := hF1.below b2
  have hR2 := hR1.below b2 hR1.lt b2.size
  have hB2 := hBl.below b2 hBl.lt b2.size
  have hun := unplaced_any (G := gpOf ⟨W, H, S, O, ps⟩) hN12 hB2 ps.length
  have hp2 := hp.below hb2
  have hs2 : w.heap.size + 2 ≤ w2.heap.size := by have h1 := b1.size; have h2 := b2.size; rw [World.size_alloc, World.size_alloc] at h1; omega
  clear g0 g1 g2 g3 g4 hF0 hF1 hR0 hR1 hb0 hb1 b1 b2 hBl hZ hB2 hp
  obtain ⟨_, g0, g1, g2, g3, g4⟩ := id hF2
  go_wp2_with fail
  refine hun.mono ?_
  clear hun
  rintro e w3 ⟨⟨v3, pb, rfl, hpb, hpl, hO3, hN3⟩, b3⟩
  obtain ⟨P, R, hCm⟩ := comp_any hE (z := fun j => if (gpOf ⟨W, H, S, O, ps⟩).kept j = true then 0 else -1) (fun k => by split <;> omega) (fun k _ h => if_neg h)
  have hOrd : planE ⟨W, H, S, O, ps⟩ (cOrd (gpOf ⟨W, H, S, O, ps⟩) ps.length) ((List.range ps.length).map fun j => if (gpOf ⟨W, H, S, O, ps⟩).kept j = true then 0 else -1) = 0 := by
    have ho : ordB (gpOf ⟨W, H, S, O, ps⟩) (cOrd (gpOf ⟨W, H, S, O, ps⟩) ps.length) ((List.range ps.length).map fun j => if (gpOf ⟨W, H, S, O, ps⟩).kept j = true then 0 else -1) = true := ord_iff.2 (comp_ord hG hC (fun k _ h => if_neg h) (fun k _ h => if_pos h))
    unfold planE
    rw [if_pos hE, if_pos ho]
  obtain ⟨oa, oc, rfl⟩ := owns_slice hO3
  have hoc := owns_cap hO3
  have hN3' : Nm w3 pb ps.length (P 0) := hN3.congr (fun k _ => hCm.p0 k)
  have hL3 := hN3.ints (by omega)
  have HOE : Hid (∀ w', Owns (pb + 1) w' (.slice oa (cOrd (gpOf ⟨W, H, S, O, ps⟩) ps.length).length oc) (cOrd (gpOf ⟨W, H, S, O, ps⟩) ps.length) → Nm w' pb ps.length (P (cOrd (gpOf ⟨W, H, S, O, ps⟩) ps.length).length) → Below w.heap.size w w' → ToldComp w ⟨W, H, S, O, ps⟩ (.returned (.tuple #[.agg #[.slice oa (cOrd (gpOf ⟨W, H, S, O, ps⟩) ps.length).length oc, .slice (some ⟨pb, 0, none⟩) ps.length ps.length], .int .i64 0])) w') :=
    fun w' h1 h2 h3 => ⟨.inl ⟨hE, _, pb, rfl, by omega, h1, h2.congr (fun k hk => (hCm.pe k hk).symm)⟩, h3⟩
  clear hN3 hC hG hE HE
  generalize ((List.range ps.length).map fun j => if (gpOf ⟨W, H, S, O, ps⟩).kept j = true then 0 else -1) = zl at hOrd hL3
  have hspn := fun wx hp oa hO hL => spans_any W H S O a len cap ps wx hp oa (cOrd (gpOf ⟨W, H, S, O, ps⟩) ps.length).length oc (some ⟨pb, 0, none⟩) ps.length ps.length (cOrd (gpOf ⟨W, H, S, O, ps⟩) ps.length) zl hO hL
  rw [hOrd] at hspn
  generalize spanP (gpOf ⟨W, H, S, O, ps⟩) (cOrd (gpOf ⟨W, H, S, O, ps⟩) ps.length) = sp at hCm hspn
  generalize szs ⟨W, H, S, O, ps⟩ ps.length = zs at hCm hZs
  generalize cOrd (gpOf ⟨W, H, S, O, ps⟩) ps.length = os at *
  have hol := hCm.ol
  obtain ⟨oa', oc', hoe, hI3⟩ := hO3.ints (by omega)
  injection hoe with e1 _ e2
  subst e1 e2
  have bA : Below w3.heap.size w3 (w3.alloc (.cells #[.slice oa os.length oc, .slice (some ⟨pb, 0, none⟩) ps.length ps.length] 48)) := (Below.refl _ _).alloc (Nat.le_refl _) _
  have hX4 := WBox.new w3 (.slice oa os.length oc) (.slice (some ⟨pb, 0, none⟩) ps.length ps.length) 48
  have b4 := below_step b3 bA
  have hO4 := hO3.below bA (Nat.le_refl _)
  have hN4 := hN3'.below bA hN3'.lt bA.size
  have hs4 : (w3.alloc (.cells #[.slice oa os.length oc, .slice (some ⟨pb, 0, none⟩) ps.length ps.length] 48)).heap.size = w3.heap.size + 1 := by simp
  have hF4 := (hF2.below b3).below bA
  have hs4' := hspn _ (hp2.below b4) oa ((hI3.below (Nat.le_refl _) bA).mono (Nat.zero_le _)) (hL3.below (Nat.le_refl _) bA)
  have hF3 := hF2.below b3
  clear g0 g1 g2 g3 g4 hF2 hspn hp2
  obtain ⟨_, g0, g1, g2, g3, g4⟩ := id hF3
  dsimp only
  go_wp2_with fail
  refine hs4'.mono ?_
  clear hs4'
  rintro e w5 ⟨⟨_, sb, rfl, hsb, hSp⟩ | ⟨h0, _⟩, b5⟩
  rotate_left
  · exact absurd rfl h0
  rw [hs4] at hsb
  have hX5 := hX4.below b5 hX4.lt b5.size
  have hO5 := hO4.below b5 (Nat.le_refl _)
  have hN5 := hN4.below b5 hN4.lt b5.size
  have B5 := below_step b4 b5
  have hq5 : w3.heap.size + 1 ≤ w5.heap.size := by rw [← hs4]; exact b5.size
  clear g0 g1 g2 g3 g4 hF3 hF4 hX4 hO4 hN4 bA b4 hs4 b5 b3 hO3 hN3' hI3 hL3 hOrd zl
  generalize w3.heap.size = q at *
  obtain ⟨_, x0, x1, _⟩ := id hX5
  dsimp only
  go_wp2
  clear x0 x1
  have HCM : Hid (_) := hCm
  clear hCm
  go_loopw [46] (fun i wr => ∃ t : Nat, t ≤ os.length ∧ i = .int .i64 t ∧ WBox wr q (.slice oa os.length oc) (.slice (some ⟨pb, 0, none⟩) ps.length ps.length) ∧ Owns (pb + 1) wr (.slice oa os.length oc) os ∧ Nm wr pb ps.length (P t) ∧ Sp wr sb ps.length sp ∧ Below w2.heap.size w2 wr) (fun i _ => os.length - (intOf i).toNat)
  case atStart => exact ⟨0, Nat.zero_le _, rfl, hX5, hO5, hN5, hSp, B5⟩
  case round =>
    obtain ⟨t, ht, rfl, hX, hO, hN, hS, hB⟩ := hrel
    clear hX5 hO5 hN5 hSp B5
    by_cases hlt : t < os.length
    · obtain ⟨oa', oc', hoe, hI⟩ := hO.ints (by omega)
      injection hoe with e1 _ e2
      subst e1 e2
      obtain ⟨ob, oo, rfl, hox⟩ := hI.nth hlt
      have hor : 0 ≤ os.getD t 0 ∧ os.getD t 0 < (ps.length : Int) := HCM.out.inN _ (getD_mem hlt 0)
      have HST : Hid (_) := HCM.out.step t hlt
      have HBE : Hid (_) := HCM.out.busyE t hlt
      have HBP : Hid (_) := HCM.out.busyP t hlt
      have HBL : Hid (_) := HCM.out.blen t hlt
      have hZr := hZs.below hB
      have hbu := fun wx (h : Below wr.heap.size wr wx) => busyAt_any (N := ps.length) (sp := sp) (pf := P t) (zs := zs) HCM.out.inN hol HCM.out.sz (fun k _ => HCM.out.pb t ht k) hoc zc hlt ((hI.mono (Nat.zero_le _)).below (Nat.le_refl _) h) (hS.below h hS.lt h.size) (hN.below h hN.lt h.size) (hZr.below h)
      generalize os.getD t 0 = p at *
      obtain ⟨k, rfl⟩ := Int.eq_ofNat_of_zero_le hor.1
      rw [Int.toNat_natCast] at HST HBE HBP
      have hkl : k < ps.length := by omega
      have hkI : (k : Int) < (ps.length : Int) := by omega
      have hk0 : (0 : Int) ≤ (k : Int) := by omega
      have htI : (t : Int) < (os.length : Int) := by omega
      have ht0 : (0 : Int) ≤ (t : Int) := by omega
      obtain ⟨zb, zo, rfl, hzl, z0, z1⟩ := hZr.nth hkl
      have hzb := HCM.out.sz k hkl
      have hpla := fun wx (ra : Option Addr) (rc : Nat) (h : Zs wx ra (busyF sp (fun k => areaZ (zs.getD k Sz.zero)) (P t) os t t).length (busyF sp (fun k => areaZ (zs.getD k Sz.zero)) (P t) os t t)) => place_any rc h (areaZ (zs.getD k Sz.zero))
      unfold ToldPl at hpla
      rw [HBE.out, HBP.out] at hpla
      generalize busyF sp (fun k => areaZ (zs.getD k Sz.zero)) (P t) os t t = L at *
      have hnu := fun wx => fitNum_any (zs.getD k Sz.zero).1 (zs.getD k Sz.zero).2 hzb.1 hzb.2 wx
      have har : (zs.getD k Sz.zero).1 * (zs.getD k Sz.zero).2 = areaZ (zs.getD k Sz.zero) := rfl
      rw [har] at hnu
      generalize areaZ (zs.getD k Sz.zero) = ar at *
      generalize (zs.getD k Sz.zero).1 = zx at *
      generalize (zs.getD k Sz.zero).2 = zy at *
      obtain ⟨_, x0, x1, _⟩ := id hX
      have held : ∀ wx, Below wr.heap.size wr wx → wx.cell? ⟨q, 0, none⟩ = some (.slice (some ⟨ob, oo, none⟩) os.length oc) ∧ wx.cell? ⟨q, 1, none⟩ = some (.slice (some ⟨pb, 0, none⟩) ps.length ps.length) ∧ wx.cell? ⟨zb, zo + k * 2, none⟩ = some (.int .i64 zx) ∧ wx.cell? ⟨zb, zo + k * 2 + 1, none⟩ = some (.int .i64 zy) := fun wx h =>
        ⟨(h.cell (p := ⟨q, 0, none⟩) hX.lt).trans x0, (h.cell (p := ⟨q, 1, none⟩) hX.lt).trans x1, (h.cell (p := ⟨zb, zo + k * 2, none⟩) hzl).trans z0, (h.cell (p := ⟨zb, zo + k * 2 + 1, none⟩) hzl).trans z1⟩
      have hr0 := Below.refl wr.heap.size wr
      have hd := hr0.drew
      have hbL : L.length ≤ 4096 := Nat.le_trans HBL.out (by decide)
      clear HBE HBP har
      go_upto_region 14 with fail
      go_region_held3 (fun wx => wx.cell? ⟨q, 0, none⟩ = some (.slice (some ⟨ob, oo, none⟩) os.length oc) ∧ wx.cell? ⟨q, 1, none⟩ = some (.slice (some ⟨pb, 0, none⟩) ps.length ps.length) ∧ wx.cell? ⟨zb, zo + k * 2, none⟩ = some (.int .i64 zx) ∧ wx.cell? ⟨zb, zo + k * 2 + 1, none⟩ = some (.int .i64 zy))
        (first | exact held _ hr0 | exact held _ hd | exact held _ (by assumption) | exact held _ (Below.drew (by assumption)))
        (first
          | (go_at_call 41; refine (hbu _ (by first | exact hd | assumption)).mono ?_; rintro e wA ⟨⟨vA, rfl, hoA⟩, bA⟩; obtain ⟨ra, rc, rfl, hZA⟩ := OwnsS.zs hoA hbL; first | (have bAA : Below wr.heap.size wr wA := below_step hd bA) | (have bAA : Below wr.heap.size wr wA := below_step bB bA))
          | (go_at_call 42; refine (hnu _).mono ?_; rintro e wB ⟨rfl, hwB⟩; first | (have bB : Below wr.heap.size wr wB := by rw [hwB]; exact below_box hd _) | (have bBA : Below wA.heap.size wA wB := (by rw [hwB]; exact below_box (Below.refl _ _) _); have bBB : Below wr.heap.size wr wB := below_step bAA bBA; replace hZA := hZA.below bBA); clear hwB)
          | (go_at_call 40; refine (hpla _ _ _ (by first | exact hZA)).mono ?_; rintro e wP ⟨rfl, bP⟩; first | (have bPP : Below wr.heap.size wr wP := below_step bBB bP) | (have bPP : Below wr.heap.size wr wP := below_step bAA bP)))
      all_goals
        have hXP := hX.below bPP hX.lt bPP.size
        have hNP := hN.below bPP hN.lt bPP.size
        have hSP := hS.below bPP hS.lt bPP.size
        have hOP := hO.below bPP (Nat.le_refl _)
        have hBP := below_step hB bPP
        clear x0 x1 z0 z1 held hX hN hS hO hB hbu hnu hpla hoA bA bP bBA hZA
        obtain ⟨_, x0, x1, _⟩ := id hXP
        have p0 := hNP.cells k hkl
        have pf := hNP.froz k
        have hN9 : Nm (wP.setCell ⟨pb, k, none⟩ (.int .i64 (R t))) pb ps.length (P (t + 1)) := hNP.put k (R t) hkl (fun j _ => HST.out j)
        have hX9 := hXP.other (p := ⟨pb, k, none⟩) (show pb ≠ q by omega) (.int .i64 (R t))
        have hS9 := hSP.other (p := ⟨pb, k, none⟩) (show pb ≠ sb by omega) (.int .i64 (R t))
        have hO9 : Owns (pb + 1) _ _ os := ownsRow_setCell_below hOP (a := ⟨pb, k, none⟩) (Nat.lt_succ_self _) (.int .i64 (R t))
        have hB9 := hBP.setCell (p := ⟨pb, k, none⟩) hpb (.int .i64 (R t))
        have HN9 : Hid (_) := hN9
        clear hN9 hXP hSP hOP hBP hNP HST
        go_wp2
        go_roundw
        case rel => exact ⟨t + 1, by omega, by go_num, hX9, hO9, HN9.out, hS9, hB9⟩
        case measure => simp [intOf]; omega
    · have hte : t = os.length := by omega
      subst hte
      have hRr := hR2.below hB hR2.lt hB.size
      obtain ⟨_, x0, x1, _⟩ := id hX
      obtain ⟨_, r0, r1, fr⟩ := id hRr
      have fr0 := fr 0
      have fr1 := fr 1
      obtain ⟨_, d0, d1, _⟩ := (hRr.put0 (.slice oa os.length oc)).put1 (.slice (some ⟨pb, 0, none⟩) ps.length ps.length)
      have hpn : w.heap.size + 1 ≠ pb := by omega
      have T1 : Owns (pb + 1) _ _ os := ownsRow_setCell_below (ownsRow_setCell_below hO (a := ⟨w.heap.size + 1, 0, none⟩) (by show w.heap.size + 1 < pb + 1; omega) (.slice oa os.length oc)) (a := ⟨w.heap.size + 1, 1, none⟩) (by show w.heap.size + 1 < pb + 1; omega) (.slice (some ⟨pb, 0, none⟩) ps.length ps.length)
      have T2 := (hN.other (p := ⟨w.heap.size + 1, 0, none⟩) hpn (.slice oa os.length oc)).other (p := ⟨w.heap.size + 1, 1, none⟩) hpn (.slice (some ⟨pb, 0, none⟩) ps.length ps.length)
      have T3 := ((below_step hb2 hB).setCell (p := ⟨w.heap.size + 1, 0, none⟩) (Nat.le_succ _) (.slice oa os.length oc)).setCell (p := ⟨w.heap.size + 1, 1, none⟩) (Nat.le_succ _) (.slice (some ⟨pb, 0, none⟩) ps.length ps.length)
      have HT1 : Hid (_) := T1
      have HT2 : Hid (_) := T2
      have HT3 : Hid (_) := T3
      clear T1 T2 T3 hX hO hN hS hB hRr
      go_wp2
      exact bodyPost_ret (v := .tuple #[.agg #[.slice oa os.length oc, .slice (some ⟨pb, 0, none⟩) ps.length ps.length], .int .i64 0]) (by simp [results, Tryz.results18, go_sem, d0, d1]) rfl (HOE.out _ HT1.out HT2.out HT3.out)
theorem compile_any (W H S O : Int) (a : Option Addr) (len cap : Nat) (ps : List Ps) (w : World) (hp : Passes w a len ps) :
    Calls Tryz.prog 18 #[.agg #[.int .i64 W, .int .i64 H, .int .i64 S, .int .i64 O, .slice a len cap]] w (ToldComp w ⟨W, H, S, O, ps⟩) := by
  by_cases hE : frameE ⟨W, H, S, O, ps⟩ = 0
  · exact compile_ok W H S O a len cap ps w hp hE
  · exact compile_err W H S O a len cap ps w hp hE
end Go.Proofs.YtaenpgdmiaekcaaGreatDoor
/-
  FITBEGUN: the reference's SamePlans; what the laws of fitting begin with comes out true.
-/
namespace Go.Proofs.YtaenpgdmiaekcaaGreatDoor
set_option maxRecDepth 100000
open Go.RowKit Im Go.Maps

theorem zs_two (w : World) (x0 y0 x1 y1 : Int) (t : TypeId) : Zs (w.alloc (.cells #[.int .i64 x0, .int .i64 y0, .int .i64 x1, .int .i64 y1] t)) (some ⟨w.heap.size, 0, none⟩) 2 [(x0, y0), (x1, y1)] := by
  refine ⟨rfl, by omega, .inr ⟨w.heap.size, 0, rfl, by simp, fun j hj => ?_⟩⟩
  rw [World.cell?_alloc_new, World.cell?_alloc_new]
  match j, hj with
  | 0, _ => exact ⟨rfl, rfl⟩
  | 1, _ => exact ⟨rfl, rfl⟩
theorem f_p2 : placeP [(0, 3), (6, 9)] 2 = 4 := by decide
theorem f_e2 : placeE [(0, 3), (6, 9)] 2 = 0 := by decide
theorem f_p3 : placeP [(0, 3), (6, 9)] 3 = 10 := by decide
theorem f_e3 : placeE [(0, 3), (6, 9)] 3 = 0 := by decide
theorem f_ord : cOrd (gpOf glowF) 5 = [0, 3, 4] := by decide
theorem f_pl : cPl (gpOf glowF) = [0, -1, -1, 8, 16] := by decide
theorem f_e : frameE glowF = 0 := by decide
theorem Nm.list {w : World} {b n : Nat} {l : List Int} (h : Nm w b n (fun k => l.getD k 0)) (hl : l.length = n) (hn : n ≤ 4096) : Ints 0 w (some ⟨b, 0, none⟩) n l :=
  ⟨hl, by omega, .inr ⟨b, 0, rfl, Nat.zero_le _, h.lt, fun j hj => by rw [Nat.zero_add]; exact h.cells j hj⟩⟩
end Go.Proofs.YtaenpgdmiaekcaaGreatDoor
/-
  LAWEXEC3: the law ExecSame.
-/
namespace Go.Proofs.YtaenpgdmiaekcaaGreatDoor
set_option maxRecDepth 100000
open Go.RowKit Im Go.Maps

theorem nm_list {w : World} {b n : Nat} {l : List Int} (h : Nm w b n (fun k => l.getD k 0)) (hl : l.length = n) (hn : n ≤ 4096) : Ints 0 w (some ⟨b, 0, none⟩) n l :=
  ⟨hl, by omega, .inr ⟨b, 0, rfl, Nat.zero_le _, h.lt, fun j hj => by rw [Nat.zero_add]; exact h.cells j hj⟩⟩
/-- The plan that is compiled. -/
abbrev cOs (f : Fr) : List Int := cOrd (gpOf f) f.ps.length
abbrev cPs (f : Fr) : List Int := cPl (gpOf f)
theorem comp_plan {f : Fr} (hE : frameE f = 0) : planE f (cOs f) (cPs f) = 0 ∧ (cPs f).length = f.ps.length := by
  have hG := gp_right hE
  have hC : Closed (gpOf f) := gp_closed hE
  have hO : Ord (gpOf f) (cOs f) (cPs f) := cPl_ord hG hC
  exact ⟨by unfold planE; rw [if_pos hE, if_pos (ord_iff.2 hO)], hO.len⟩
/-- It fits in any arena that is as great as its peak. -/
theorem comp_fits {f : Fr} (hE : frameE f = 0) (A : List Int) : execE f (cOs f) (cPs f) A = 0 ∨ (A.length : Int) < peakP f (cOs f) (cPs f) ∨ execE f (cOs f) (cPs f) A = 3 := by
  have hG := gp_right hE
  have hC : Closed (gpOf f) := gp_closed hE
  have hO : Ord (gpOf f) (cOs f) (cPs f) := cPl_ord hG hC
  obtain ⟨hp, _⟩ := comp_plan hE
  have hcl : clearP f (cOs f) (cPs f) = true := (clearT_iff hO _ _).2 (comp_clear hG hC)
  have e1 : peakP f (cOs f) (cPs f) = peakT (cOs f) (lieP (gpOf f) (cOs f) (cPs f)) (cOs f).length := by unfold peakP; rw [if_pos hp]
  by_cases h1 : (A.length : Int) < peakP f (cOs f) (cPs f)
  · exact .inr (.inl h1)
  · by_cases h2 : (A.length : Int) ≤ 4096
    · have hc : checkP f (cOs f) (cPs f) A.length = 0 := by
        rw [check_fits ⟨by omega, h2⟩ hp, if_pos ⟨by rw [← e1]; omega, hcl⟩]
      unfold execE
      rw [if_pos hc]
      by_cases hf : fineA A = true
      · rw [if_pos hf]; exact .inl rfl
      · rw [if_neg hf]; exact .inr (.inr rfl)
    · have hc : checkP f (cOs f) (cPs f) A.length = 3 := check_room hE (fun h => h2 h.2)
      unfold execE
      rw [if_neg (by rw [hc]; decide), hc]
      exact .inr (.inr rfl)
theorem runP_same {f : Fr} {os pl A : List Int} (h : execE f os pl A = 0) : runP f os pl A = renderP f := by
  obtain ⟨hC, hA⟩ := exec_zero h
  unfold runP
  rw [if_pos h, run_same (fit_of hC hA)]
theorem runP_err {f : Fr} {os pl A : List Int} : (runP f os pl A).E = execE f os pl A := by
  unfold runP
  by_cases h : execE f os pl A = 0
  · rw [if_pos h, h]; rfl
  · rw [if_neg h]; rfl
theorem renderP_E (f : Fr) : (renderP f).E = frameE f := by
  unfold renderP
  by_cases h : frameE f = 0
  · rw [if_pos h, h]
    obtain ⟨hb, hfirst, hs⟩ := frameE_zero h
    have hl : shownP f < f.ps.length := (wrt_bd f.ps f.ps.length f.O).2
    exact (pics_right hb hfirst (shownP f).toNat (by omega)).1
  · rw [if_neg h]; rfl
theorem own_room {base : Nat} {w : World} {a : Option Addr} {n c : Nat} {A : List Int} (h : Owns base w (.slice a n c) A) : n ≤ c := by
  obtain ⟨h1, h2⟩ := h
  rcases h2 with ⟨e, _⟩ | ⟨g, cap, cur, e, _, _, hc, _⟩
  · injection e with _ e2 e3
    omega
  · injection e with _ e2 e3
    omega
end Go.Proofs.YtaenpgdmiaekcaaGreatDoor
