/- Compile, Glow, PlanBegun, FitBegun, WireM, WireNum: joined, in this order. -/
import Derived.Test.YtaenpgdmiaekcaaGreatDoorM20
import Derived.Test.YtaenpgdmiaekcaaGreatDoorM15
import Derived.Test.YtaenpgdmiaekcaaGreatDoorM11
import Derived.Test.YtaenpgdmiaekcaaGreatDoorM12
import Derived.Test.YtaenpgdmiaekcaaGreatDoorM17
import Derived.Test.YtaenpgdmiaekcaaGreatDoorM01
import Derived.Test.YtaenpgdmiaekcaaGreatDoorM03
import Derived.Maps.AppendAt
/-
  COMPILE: fit.Compile.
-/
namespace Go.Proofs.YtaenpgdmiaekcaaGreatDoor
set_option maxRecDepth 100000
open Go.RowKit Im Go.Maps

theorem Sp.other {w : World} {b n : Nat} {g : Nat → Int × Int} (h : Sp w b n g) {p : Addr} (hp : p.block ≠ b) (u : Value) : Sp (w.setCell p u) b n g :=
  ⟨by simpa using h.lt, fun j hj => (set_other _ (fun e => hp (by rw [e]))).trans (h.c0 j hj), fun j hj => (set_other _ (fun e => hp (by rw [e]))).trans (h.c1 j hj), fun o => by simpa using h.froz o⟩
theorem owns_cap {base e size n : Nat} {w : World} {a : Option Addr} {cap : Nat} {xs : List Value} (h : w.ownsRow base e size (.slice a n cap) n xs) : n ≤ cap := by
  rcases h.2 with ⟨hv, rfl⟩ | ⟨g, c, cur, hv, _, _, hc, _⟩
  · exact Nat.zero_le _
  · injection hv with _ _ h3; omega
/-- What fit.Compile tells. -/
def ToldComp (w : World) (f : Fr) (e : Ending) (w' : World) : Prop :=
  ((frameE f = 0 ∧ ∃ v pb, e = .returned (.tuple #[.agg #[v, .slice (some ⟨pb, 0, none⟩) f.ps.length f.ps.length], .int .i64 0]) ∧ w.heap.size ≤ pb ∧ Owns (pb + 1) w' v (cOrd (gpOf f) f.ps.length) ∧ Nm w' pb f.ps.length (fun k => (cPl (gpOf f)).getD k 0)) ∨
   (frameE f ≠ 0 ∧ e = .returned (.tuple #[.agg #[.slice none 0 0, .slice none 0 0], .int .i64 (frameE f)]))) ∧ Below w.heap.size w w'
set_option maxHeartbeats 2000000 in
theorem compile_err (W H S O : Int) (a : Option Addr) (len cap : Nat) (ps : List Ps) (w : World) (hp : Passes w a len ps) (hE : frameE ⟨W, H, S, O, ps⟩ ≠ 0) :
    Calls Tryz.prog 18 #[.agg #[.int .i64 W, .int .i64 H, .int .i64 S, .int .i64 O, .slice a len cap]] w (ToldComp w ⟨W, H, S, O, ps⟩) := by
  have hb0 := below_box (below_box (Below.refl w.heap.size w) (.cells #[.int .i64 W, .int .i64 H, .int .i64 S, .int .i64 O, .slice a len cap] 35)) (.cells #[.slice none 0 0, .slice none 0 0] 48)
  have hR0 := WBox.new (w.alloc (.cells #[.int .i64 W, .int .i64 H, .int .i64 S, .int .i64 O, .slice a len cap] 35)) (.slice none 0 0) (.slice none 0 0) 48
  rw [World.size_alloc] at hR0
  have hke := kept_any W H S O a len cap ps _ (hp.below hb0)
  have HE : Hid (_) := hE
  go_enter Tryz.func18, Tryz.ntmps18
  go_wp2_with fail
  refine hke.mono ?_
  clear hke
  rintro e w1 ⟨⟨h0, _⟩ | ⟨_, rfl⟩, b1⟩
  · exact absurd h0 hE
  have hR1 := hR0.below b1 hR0.lt b1.size
  have hb1 := below_step hb0 b1
  obtain ⟨_, r0, r1, fr⟩ := id hR1
  have fr0 := fr 0
  have fr1 := fr 1
  obtain ⟨_, d0, d1, _⟩ := (hR1.put0 (.slice none 0 0)).put1 (.slice none 0 0)
  have hb2 := (hb1.setCell (p := ⟨w.heap.size + 1, 0, none⟩) (Nat.le_succ _) (.slice none 0 0)).setCell (p := ⟨w.heap.size + 1, 1, none⟩) (Nat.le_succ _) (.slice none 0 0)
  have HB : Hid (_) := hb2
  clear hb2
  go_wp2
  exact bodyPost_ret (v := .tuple #[.agg #[.slice none 0 0, .slice none 0 0], .int .i64 (frameE ⟨W, H, S, O, ps⟩)]) (by simp [results, Tryz.results18, go_sem, d0, d1]) rfl ⟨.inr ⟨HE.out, rfl⟩, HB.out⟩
/-- What is compiled, step by step: the places P, what each step is given R. -/
structure Comp (f : Fr) (z : Nat → Int) (os : List Int) (sp : Nat → Int × Int) (zs : List Sz) (P : Nat → Nat → Int) (R : Nat → Int) : Prop where
  p0 : ∀ k, P 0 k = z k
  pe : ∀ k, k < f.ps.length → P os.length k = (cPl (gpOf f)).getD k 0
  step : ∀ t, t < os.length → ∀ k, P (t + 1) k = if (os.getD t 0).toNat = k then R t else P t k
  busyE : ∀ t, t < os.length → placeE (busyF sp (fun k => areaZ (zs.getD k Sz.zero)) (P t) os t t) (areaZ (zs.getD (os.getD t 0).toNat Sz.zero)) = 0
  busyP : ∀ t, t < os.length → placeP (busyF sp (fun k => areaZ (zs.getD k Sz.zero)) (P t) os t t) (areaZ (zs.getD (os.getD t 0).toNat Sz.zero)) = R t
  pb : ∀ t, t ≤ os.length → ∀ k, -1 ≤ P t k ∧ P t k ≤ 4097
  blen : ∀ t, t < os.length → (busyF sp (fun k => areaZ (zs.getD k Sz.zero)) (P t) os t t).length ≤ 12
  inN : ∀ o ∈ os, 0 ≤ o ∧ o < f.ps.length
  ol : os.length ≤ 12
  sz : ∀ k, k < f.ps.length → (0 ≤ (zs.getD k Sz.zero).1 ∧ (zs.getD k Sz.zero).1 ≤ 16) ∧ (0 ≤ (zs.getD k Sz.zero).2 ∧ (zs.getD k Sz.zero).2 ≤ 16)
theorem comp_any {f : Fr} (hE : frameE f = 0) {z : Nat → Int} (hz : ∀ k, -1 ≤ z k ∧ z k ≤ 0) (hz0 : ∀ k, k < f.ps.length → ¬ (gpOf f).kept k = true → z k = -1) :
    ∃ P R, Comp f z (cOrd (gpOf f) f.ps.length) (spanP (gpOf f) (cOrd (gpOf f) f.ps.length)) (szs f f.ps.length) P R := by
  have hG := gp_right hE
  have hN12 : f.ps.length ≤ 12 := hG.hN.2
  have hl := cOrd_len (gpOf f) f.ps.length
  obtain ⟨hb, hf, hs⟩ := frameE_zero hE
  refine ⟨plcN (gpOf f) (cOrd (gpOf f) f.ps.length) z, fun t => placeR (busyQ (gpOf f) (cOrd (gpOf f) f.ps.length) (qsP (gpOf f) (cOrd (gpOf f) f.ps.length) t) t t) ((gpOf f).ar ((cOrd (gpOf f) f.ps.length).getD t 0).toNat), fun k => plc_zero k, fun k hk => plc_done (G := gpOf f) hz0 hk, fun t ht k => plcN_step (G := gpOf f) (cOrd_nodup _) (cOrd_in _) ht k, fun t ht => ?_, fun t ht => ?_, fun t ht k => ?_, fun t ht => ?_, cOrd_in (gpOf f), by omega, fun k hk => ?_⟩
  · have h1 := comp_busy (G := gpOf f) (z := z) (show t ≤ _ from Nat.le_of_lt ht)
    have h2 := comp_place hG ht
    rw [← h1] at h2
    exact h2
  · have h1 := comp_busy (G := gpOf f) (z := z) (show t ≤ _ from Nat.le_of_lt ht)
    have h2 := comp_placeP hG ht
    rw [← h1] at h2
    exact h2.trans (by rw [h1]; rfl)
  · have := plc_bd hG hz ht k; exact ⟨this.1, Int.le_trans this.2 (by decide)⟩
  · exact Nat.le_trans (busyF_len _ _ _ _ _ _) (by omega)
  · have := szs_bd hb hf _ (getD_mem (show k < (szs f f.ps.length).length by rw [szs_length]; exact hk) Sz.zero)
    obtain ⟨h1, h2⟩ := this
    exact ⟨⟨by omega, by omega⟩, ⟨by omega, by omega⟩⟩
set_option maxHeartbeats 4000000 in
theorem compile_ok (W H S O : Int) (a : Option Addr) (len cap : Nat) (ps : List Ps) (w : World) (hp : Passes w a len ps) (hE : frameE ⟨W, H, S, O, ps⟩ = 0) :
    Calls Tryz.prog 18 #[.agg #[.int .i64 W, .int .i64 H, .int .i64 S, .int .i64 O, .slice a len cap]] w (ToldComp w ⟨W, H, S, O, ps⟩) := by
  have hb0 := below_box (below_box (Below.refl w.heap.size w) (.cells #[.int .i64 W, .int .i64 H, .int .i64 S, .int .i64 O, .slice a len cap] 35)) (.cells #[.slice none 0 0, .slice none 0 0] 48)
  have hR0 := WBox.new (w.alloc (.cells #[.int .i64 W, .int .i64 H, .int .i64 S, .int .i64 O, .slice a len cap] 35)) (.slice none 0 0) (.slice none 0 0) 48
  have hF0 := (FBox.new w W H S O a len cap).alloc (.cells #[.slice none 0 0, .slice none 0 0] 48)
  rw [World.size_alloc] at hR0
  have hke := kept_any W H S O a len cap ps _ (hp.below hb0)
  have hG := gp_right hE
  have hC : Closed (gpOf ⟨W, H, S, O, ps⟩) := gp_closed hE
  have hN12 : ps.length ≤ 12 := hG.hN.2
  have HE : Hid (_) := hE
  go_enter Tryz.func18, Tryz.ntmps18
  go_wp2_with fail
  refine hke.mono ?_
  clear hke
  rintro e w1 ⟨⟨_, b, rfl, hbb, hBl⟩ | ⟨h0, _⟩, b1⟩
  rotate_left
  · exact absurd hE h0
  have hb1 := below_step hb0 b1
  have hF1 := hF0.below b1
  have hR1 := hR0.below b1 hR0.lt b1.size
  have hsz := sizes_any W H S O a len cap ps _ (hp.below hb1)
  obtain ⟨_, g0, g1, g2, g3, g4⟩ := id hF1
  dsimp only at hBl ⊢
  go_wp2_with fail
  refine hsz.mono ?_
  clear hsz
  rintro e w2 ⟨⟨v2, rfl, hZ⟩, b2⟩
  rw [hE, if_pos rfl] at hZ
  obtain ⟨za, zc, rfl, hZs⟩ := hZ.zs (by rw [szs_length]; omega)
  rw [szs_length] at hZs ⊢
  have hb2 := below_step hb1 b2
  have hF2 := hF1.below b2
  have hR2 := hR1.below b2 hR1.lt b2.size
  have hB2 := hBl.below b2 hBl.lt b2.size
  have hun := unplaced_any (G := gpOf ⟨W, H, S, O, ps⟩) hN12 hB2 ps.length
  have hp2 := hp.below hb2
  have hs2 : w.heap.size + 2 ≤ w2.heap.size := by have h1 := b1.size; have h2 := b2.size; rw [World.size_alloc, World.size_alloc] at h1; omega
  clear g0 g1 g2 g3 g4 hF0 hF1 hR0 hR1 hb0 hb1 b1 b2 hBl hZ hB2 hp
  obtain ⟨_, g0, g1, g2, g3, g4⟩ := id hF2
  go_wp2_with fail
  refine hun.mono ?_
  clear hun
  rintro e w3 ⟨⟨v3, pb, rfl, hpb, hpl, hO3, hN3⟩, b3⟩
  obtain ⟨P, R, hCm⟩ := comp_any hE (z := fun j => if (gpOf ⟨W, H, S, O, ps⟩).kept j = true then 0 else -1) (fun k => by split <;> omega) (fun k _ h => if_neg h)
  have hOrd : planE ⟨W, H, S, O, ps⟩ (cOrd (gpOf ⟨W, H, S, O, ps⟩) ps.length) ((List.range ps.length).map fun j => if (gpOf ⟨W, H, S, O, ps⟩).kept j = true then 0 else -1) = 0 := by
    have ho : ordB (gpOf ⟨W, H, S, O, ps⟩) (cOrd (gpOf ⟨W, H, S, O, ps⟩) ps.length) ((List.range ps.length).map fun j => if (gpOf ⟨W, H, S, O, ps⟩).kept j = true then 0 else -1) = true := ord_iff.2 (comp_ord hG hC (fun k _ h => if_neg h) (fun k _ h => if_pos h))
    unfold planE
    rw [if_pos hE, if_pos ho]
  obtain ⟨oa, oc, rfl⟩ := owns_slice hO3
  have hoc := owns_cap hO3
  have hN3' : Nm w3 pb ps.length (P 0) := hN3.congr (fun k _ => hCm.p0 k)
  have hL3 := hN3.ints (by omega)
  have HOE : Hid (∀ w', Owns (pb + 1) w' (.slice oa (cOrd (gpOf ⟨W, H, S, O, ps⟩) ps.length).length oc) (cOrd (gpOf ⟨W, H, S, O, ps⟩) ps.length) → Nm w' pb ps.length (P (cOrd (gpOf ⟨W, H, S, O, ps⟩) ps.length).length) → Below w.heap.size w w' → ToldComp w ⟨W, H, S, O, ps⟩ (.returned (.tuple #[.agg #[.slice oa (cOrd (gpOf ⟨W, H, S, O, ps⟩) ps.length).length oc, .slice (some ⟨pb, 0, none⟩) ps.length ps.length], .int .i64 0])) w') :=
    fun w' h1 h2 h3 => ⟨.inl ⟨hE, _, pb, rfl, by omega, h1, h2.congr (fun k hk => (hCm.pe k hk).symm)⟩, h3⟩
  clear hN3 hC hG hE HE
  generalize ((List.range ps.length).map fun j => if (gpOf ⟨W, H, S, O, ps⟩).kept j = true then 0 else -1) = zl at hOrd hL3
  have hspn := fun wx hp oa hO hL => spans_any W H S O a len cap ps wx hp oa (cOrd (gpOf ⟨W, H, S, O, ps⟩) ps.length).length oc (some ⟨pb, 0, none⟩) ps.length ps.length (cOrd (gpOf ⟨W, H, S, O, ps⟩) ps.length) zl hO hL
  rw [hOrd] at hspn
  generalize spanP (gpOf ⟨W, H, S, O, ps⟩) (cOrd (gpOf ⟨W, H, S, O, ps⟩) ps.length) = sp at hCm hspn
  generalize szs ⟨W, H, S, O, ps⟩ ps.length = zs at hCm hZs
  generalize cOrd (gpOf ⟨W, H, S, O, ps⟩) ps.length = os at *
  have hol := hCm.ol
  obtain ⟨oa', oc', hoe, hI3⟩ := hO3.ints (by omega)
  injection hoe with e1 _ e2
  subst e1 e2
  have bA : Below w3.heap.size w3 (w3.alloc (.cells #[.slice oa os.length oc, .slice (some ⟨pb, 0, none⟩) ps.length ps.length] 48)) := (Below.refl _ _).alloc (Nat.le_refl _) _
  have hX4 := WBox.new w3 (.slice oa os.length oc) (.slice (some ⟨pb, 0, none⟩) ps.length ps.length) 48
  have b4 := below_step b3 bA
  have hO4 := hO3.below bA (Nat.le_refl _)
  have hN4 := hN3'.below bA hN3'.lt bA.size
  have hs4 : (w3.alloc (.cells #[.slice oa os.length oc, .slice (some ⟨pb, 0, none⟩) ps.length ps.length] 48)).heap.size = w3.heap.size + 1 := by simp
  have hF4 := (hF2.below b3).below bA
  have hs4' := hspn _ (hp2.below b4) oa ((hI3.below (Nat.le_refl _) bA).mono (Nat.zero_le _)) (hL3.below (Nat.le_refl _) bA)
  have hF3 := hF2.below b3
  clear g0 g1 g2 g3 g4 hF2 hspn hp2
  obtain ⟨_, g0, g1, g2, g3, g4⟩ := id hF3
  dsimp only
  go_wp2_with fail
  refine hs4'.mono ?_
  clear hs4'
  rintro e w5 ⟨⟨_, sb, rfl, hsb, hSp⟩ | ⟨h0, _⟩, b5⟩
  rotate_left
  · exact absurd rfl h0
  rw [hs4] at hsb
  have hX5 := hX4.below b5 hX4.lt b5.size
  have hO5 := hO4.below b5 (Nat.le_refl _)
  have hN5 := hN4.below b5 hN4.lt b5.size
  have B5 := below_step b4 b5
  have hq5 : w3.heap.size + 1 ≤ w5.heap.size := by rw [← hs4]; exact b5.size
  clear g0 g1 g2 g3 g4 hF3 hF4 hX4 hO4 hN4 bA b4 hs4 b5 b3 hO3 hN3' hI3 hL3 hOrd zl
  generalize w3.heap.size = q at *
  obtain ⟨_, x0, x1, _⟩ := id hX5
  dsimp only
  go_wp2
  clear x0 x1
  have HCM : Hid (_) := hCm
  clear hCm
  go_loopw [46] (fun i wr => ∃ t : Nat, t ≤ os.length ∧ i = .int .i64 t ∧ WBox wr q (.slice oa os.length oc) (.slice (some ⟨pb, 0, none⟩) ps.length ps.length) ∧ Owns (pb + 1) wr (.slice oa os.length oc) os ∧ Nm wr pb ps.length (P t) ∧ Sp wr sb ps.length sp ∧ Below w2.heap.size w2 wr) (fun i _ => os.length - (intOf i).toNat)
  case atStart => exact ⟨0, Nat.zero_le _, rfl, hX5, hO5, hN5, hSp, B5⟩
  case round =>
    obtain ⟨t, ht, rfl, hX, hO, hN, hS, hB⟩ := hrel
    clear hX5 hO5 hN5 hSp B5
    by_cases hlt : t < os.length
    · obtain ⟨oa', oc', hoe, hI⟩ := hO.ints (by omega)
      injection hoe with e1 _ e2
      subst e1 e2
      obtain ⟨ob, oo, rfl, hox⟩ := hI.nth hlt
      have hor : 0 ≤ os.getD t 0 ∧ os.getD t 0 < (ps.length : Int) := HCM.out.inN _ (getD_mem hlt 0)
      have HST : Hid (_) := HCM.out.step t hlt
      have HBE : Hid (_) := HCM.out.busyE t hlt
      have HBP : Hid (_) := HCM.out.busyP t hlt
      have HBL : Hid (_) := HCM.out.blen t hlt
      have hZr := hZs.below hB
      have hbu := fun wx (h : Below wr.heap.size wr wx) => busyAt_any (N := ps.length) (sp := sp) (pf := P t) (zs := zs) HCM.out.inN hol HCM.out.sz (fun k _ => HCM.out.pb t ht k) hoc zc hlt ((hI.mono (Nat.zero_le _)).below (Nat.le_refl _) h) (hS.below h hS.lt h.size) (hN.below h hN.lt h.size) (hZr.below h)
      generalize os.getD t 0 = p at *
      obtain ⟨k, rfl⟩ := Int.eq_ofNat_of_zero_le hor.1
      rw [Int.toNat_natCast] at HST HBE HBP
      have hkl : k < ps.length := by omega
      have hkI : (k : Int) < (ps.length : Int) := by omega
      have hk0 : (0 : Int) ≤ (k : Int) := by omega
      have htI : (t : Int) < (os.length : Int) := by omega
      have ht0 : (0 : Int) ≤ (t : Int) := by omega
      obtain ⟨zb, zo, rfl, hzl, z0, z1⟩ := hZr.nth hkl
      have hzb := HCM.out.sz k hkl
      have hpla := fun wx (ra : Option Addr) (rc : Nat) (h : Zs wx ra (busyF sp (fun k => areaZ (zs.getD k Sz.zero)) (P t) os t t).length (busyF sp (fun k => areaZ (zs.getD k Sz.zero)) (P t) os t t)) => place_any rc h (areaZ (zs.getD k Sz.zero))
      unfold ToldPl at hpla
      rw [HBE.out, HBP.out] at hpla
      generalize busyF sp (fun k => areaZ (zs.getD k Sz.zero)) (P t) os t t = L at *
      have hnu := fun wx => fitNum_any (zs.getD k Sz.zero).1 (zs.getD k Sz.zero).2 hzb.1 hzb.2 wx
      have har : (zs.getD k Sz.zero).1 * (zs.getD k Sz.zero).2 = areaZ (zs.getD k Sz.zero) := rfl
      rw [har] at hnu
      generalize areaZ (zs.getD k Sz.zero) = ar at *
      generalize (zs.getD k Sz.zero).1 = zx at *
      generalize (zs.getD k Sz.zero).2 = zy at *
      obtain ⟨_, x0, x1, _⟩ := id hX
      have held : ∀ wx, Below wr.heap.size wr wx → wx.cell? ⟨q, 0, none⟩ = some (.slice (some ⟨ob, oo, none⟩) os.length oc) ∧ wx.cell? ⟨q, 1, none⟩ = some (.slice (some ⟨pb, 0, none⟩) ps.length ps.length) ∧ wx.cell? ⟨zb, zo + k * 2, none⟩ = some (.int .i64 zx) ∧ wx.cell? ⟨zb, zo + k * 2 + 1, none⟩ = some (.int .i64 zy) := fun wx h =>
        ⟨(h.cell (p := ⟨q, 0, none⟩) hX.lt).trans x0, (h.cell (p := ⟨q, 1, none⟩) hX.lt).trans x1, (h.cell (p := ⟨zb, zo + k * 2, none⟩) hzl).trans z0, (h.cell (p := ⟨zb, zo + k * 2 + 1, none⟩) hzl).trans z1⟩
      have hr0 := Below.refl wr.heap.size wr
      have hd := hr0.drew
      have hbL : L.length ≤ 4096 := Nat.le_trans HBL.out (by decide)
      clear HBE HBP har
      go_upto_region 14 with fail
      go_region_held3 (fun wx => wx.cell? ⟨q, 0, none⟩ = some (.slice (some ⟨ob, oo, none⟩) os.length oc) ∧ wx.cell? ⟨q, 1, none⟩ = some (.slice (some ⟨pb, 0, none⟩) ps.length ps.length) ∧ wx.cell? ⟨zb, zo + k * 2, none⟩ = some (.int .i64 zx) ∧ wx.cell? ⟨zb, zo + k * 2 + 1, none⟩ = some (.int .i64 zy))
        (first | exact held _ hr0 | exact held _ hd | exact held _ (by assumption) | exact held _ (Below.drew (by assumption)))
        (first
          | (go_at_call 41; refine (hbu _ (by first | exact hd | assumption)).mono ?_; rintro e wA ⟨⟨vA, rfl, hoA⟩, bA⟩; obtain ⟨ra, rc, rfl, hZA⟩ := OwnsS.zs hoA hbL; first | (have bAA : Below wr.heap.size wr wA := below_step hd bA) | (have bAA : Below wr.heap.size wr wA := below_step bB bA))
          | (go_at_call 42; refine (hnu _).mono ?_; rintro e wB ⟨rfl, hwB⟩; first | (have bB : Below wr.heap.size wr wB := by rw [hwB]; exact below_box hd _) | (have bBA : Below wA.heap.size wA wB := (by rw [hwB]; exact below_box (Below.refl _ _) _); have bBB : Below wr.heap.size wr wB := below_step bAA bBA; replace hZA := hZA.below bBA); clear hwB)
          | (go_at_call 40; refine (hpla _ _ _ (by first | exact hZA)).mono ?_; rintro e wP ⟨rfl, bP⟩; first | (have bPP : Below wr.heap.size wr wP := below_step bBB bP) | (have bPP : Below wr.heap.size wr wP := below_step bAA bP)))
      all_goals
        have hXP := hX.below bPP hX.lt bPP.size
        have hNP := hN.below bPP hN.lt bPP.size
        have hSP := hS.below bPP hS.lt bPP.size
        have hOP := hO.below bPP (Nat.le_refl _)
        have hBP := below_step hB bPP
        clear x0 x1 z0 z1 held hX hN hS hO hB hbu hnu hpla hoA bA bP bBA hZA
        obtain ⟨_, x0, x1, _⟩ := id hXP
        have p0 := hNP.cells k hkl
        have pf := hNP.froz k
        have hN9 : Nm (wP.setCell ⟨pb, k, none⟩ (.int .i64 (R t))) pb ps.length (P (t + 1)) := hNP.put k (R t) hkl (fun j _ => HST.out j)
        have hX9 := hXP.other (p := ⟨pb, k, none⟩) (show pb ≠ q by omega) (.int .i64 (R t))
        have hS9 := hSP.other (p := ⟨pb, k, none⟩) (show pb ≠ sb by omega) (.int .i64 (R t))
        have hO9 : Owns (pb + 1) _ _ os := ownsRow_setCell_below hOP (a := ⟨pb, k, none⟩) (Nat.lt_succ_self _) (.int .i64 (R t))
        have hB9 := hBP.setCell (p := ⟨pb, k, none⟩) hpb (.int .i64 (R t))
        have HN9 : Hid (_) := hN9
        clear hN9 hXP hSP hOP hBP hNP HST
        go_wp2
        go_roundw
        case rel => exact ⟨t + 1, by omega, by go_num, hX9, hO9, HN9.out, hS9, hB9⟩
        case measure => simp [intOf]; omega
    · have hte : t = os.length := by omega
      subst hte
      have hRr := hR2.below hB hR2.lt hB.size
      obtain ⟨_, x0, x1, _⟩ := id hX
      obtain ⟨_, r0, r1, fr⟩ := id hRr
      have fr0 := fr 0
      have fr1 := fr 1
      obtain ⟨_, d0, d1, _⟩ := (hRr.put0 (.slice oa os.length oc)).put1 (.slice (some ⟨pb, 0, none⟩) ps.length ps.length)
      have hpn : w.heap.size + 1 ≠ pb := by omega
      have T1 : Owns (pb + 1) _ _ os := ownsRow_setCell_below (ownsRow_setCell_below hO (a := ⟨w.heap.size + 1, 0, none⟩) (by show w.heap.size + 1 < pb + 1; omega) (.slice oa os.length oc)) (a := ⟨w.heap.size + 1, 1, none⟩) (by show w.heap.size + 1 < pb + 1; omega) (.slice (some ⟨pb, 0, none⟩) ps.length ps.length)
      have T2 := (hN.other (p := ⟨w.heap.size + 1, 0, none⟩) hpn (.slice oa os.length oc)).other (p := ⟨w.heap.size + 1, 1, none⟩) hpn (.slice (some ⟨pb, 0, none⟩) ps.length ps.length)
      have T3 := ((below_step hb2 hB).setCell (p := ⟨w.heap.size + 1, 0, none⟩) (Nat.le_succ _) (.slice oa os.length oc)).setCell (p := ⟨w.heap.size + 1, 1, none⟩) (Nat.le_succ _) (.slice (some ⟨pb, 0, none⟩) ps.length ps.length)
      have HT1 : Hid (_) := T1
      have HT2 : Hid (_) := T2
      have HT3 : Hid (_) := T3
      clear T1 T2 T3 hX hO hN hS hB hRr
      go_wp2
      exact bodyPost_ret (v := .tuple #[.agg #[.slice oa os.length oc, .slice (some ⟨pb, 0, none⟩) ps.length ps.length], .int .i64 0]) (by simp [results, Tryz.results18, go_sem, d0, d1]) rfl (HOE.out _ HT1.out HT2.out HT3.out)
theorem compile_any (W H S O : Int) (a : Option Addr) (len cap : Nat) (ps : List Ps) (w : World) (hp : Passes w a len ps) :
    Calls Tryz.prog 18 #[.agg #[.int .i64 W, .int .i64 H, .int .i64 S, .int .i64 O, .slice a len cap]] w (ToldComp w ⟨W, H, S, O, ps⟩) := by
  by_cases hE : frameE ⟨W, H, S, O, ps⟩ = 0
  · exact compile_ok W H S O a len cap ps w hp hE
  · exact compile_err W H S O a len cap ps w hp hE
end Go.Proofs.YtaenpgdmiaekcaaGreatDoor
/-
  GLOW: the frame of five passes that the laws begin with.
-/
namespace Go.Proofs.YtaenpgdmiaekcaaGreatDoor
set_option maxRecDepth 100000
open Go.RowKit Im

def glowP : List Ps := [⟨2, 0, 0, 0, 100, []⟩, ⟨1, 2, 0, 0, 7, []⟩, ⟨10, 1, 0, 0, 0, []⟩, ⟨1, 2, 0, 0, 9, []⟩, ⟨4, 1, 0, 2, 0, []⟩]
def glowF : Fr := ⟨4, 2, 3, 1, glowP⟩
theorem glow_ok : frameE glowF = 0 := by decide
theorem glow_szs : szs glowF 5 = [(4, 2), (4, 2), (4, 2), (4, 2), (4, 2)] := by decide
theorem glow_srcs : srcs glowP 5 = [[], [], [0], [], [0, 3]] := by decide
theorem glow_shown : shownP glowF = 4 := by decide
theorem glow_pic : (pics glowF 5).getD 4 (noRes 0) = ⟨0, 4, 2, [9, 109, 209, 309, 10, 110, 210, 310]⟩ := by rfl
def glowC : Array Value := #[.int .i64 2, .int .i64 0, .int .i64 0, .int .i64 0, .int .i64 100, .slice none 0 0, .int .i64 1, .int .i64 2, .int .i64 0, .int .i64 0, .int .i64 7, .slice none 0 0, .int .i64 10, .int .i64 1, .int .i64 0, .int .i64 0, .int .i64 0, .slice none 0 0, .int .i64 1, .int .i64 2, .int .i64 0, .int .i64 0, .int .i64 9, .slice none 0 0, .int .i64 4, .int .i64 1, .int .i64 0, .int .i64 2, .int .i64 0, .slice none 0 0]
/-- The call's end tells the frame of five passes. -/
def ToldG (w : World) (e : Ending) (w' : World) : Prop :=
  ∃ b, e = .returned (.agg #[.int .i64 4, .int .i64 2, .int .i64 3, .int .i64 1, .slice (some ⟨b, 0, none⟩) 5 5]) ∧ Passes w' (some ⟨b, 0, none⟩) 5 glowP ∧ Below w.heap.size w w'
theorem Lights.nil (w : World) : Lights w none 0 [] := ⟨rfl, by omega, .inl rfl⟩
theorem glow_passes (w : World) : Passes (w.alloc (.cells glowC 72)) (some ⟨w.heap.size, 0, none⟩) 5 glowP := by
  have hc : ∀ o, (w.alloc (.cells glowC 72)).cell? ⟨w.heap.size, o, none⟩ = glowC[o]? := fun o => World.cell?_alloc_new w glowC 72 o
  refine ⟨rfl, by decide, .inr ⟨w.heap.size, 0, rfl, by simp, fun j hj => ⟨none, 0, 0, ?_⟩⟩⟩
  simp only [hc]
  match j, hj with
  | 0, _ => exact ⟨rfl, rfl, rfl, rfl, rfl, rfl, Lights.nil _⟩
  | 1, _ => exact ⟨rfl, rfl, rfl, rfl, rfl, rfl, Lights.nil _⟩
  | 2, _ => exact ⟨rfl, rfl, rfl, rfl, rfl, rfl, Lights.nil _⟩
  | 3, _ => exact ⟨rfl, rfl, rfl, rfl, rfl, rfl, Lights.nil _⟩
  | 4, _ => exact ⟨rfl, rfl, rfl, rfl, rfl, rfl, Lights.nil _⟩
theorem glow_any (w : World) : Calls Tryz.prog 26 #[] w (ToldG w) := by
  go_enter Tryz.func26, Tryz.ntmps26
  go_wp2
  refine bodyPost_ret (v := .agg #[.int .i64 4, .int .i64 2, .int .i64 3, .int .i64 1, .slice (some ⟨w.heap.size + 1, 0, none⟩) 5 5]) (by simp [results, Tryz.results26, go_sem]) rfl ?_
  have hg := glow_passes (w.alloc (.cells #[.int .i64 4, .int .i64 2, .int .i64 3, .int .i64 1, .slice (some ⟨w.heap.size + 1, 0, none⟩) 5 5] 35))
  rw [World.size_alloc] at hg
  exact ⟨_, rfl, hg, below_box (below_box (Below.refl _ _) _) _⟩
end Go.Proofs.YtaenpgdmiaekcaaGreatDoor
/-
  PLANBEGUN: what the laws of plans begin with comes out true.
-/
namespace Go.Proofs.YtaenpgdmiaekcaaGreatDoor
set_option maxRecDepth 100000
open Go.RowKit Im Go.Maps

abbrev oOs : List Int := [3, 0, 4]
abbrev oPl : List Int := [8, -1, -1, 0, 20]
theorem ints_new {w : World} {ps : List Int} (hl : ps.length ≤ 4096) (t : TypeId) : Ints 0 (w.alloc (.cells (ps.map (Value.int .i64)).toArray t)) (some ⟨w.heap.size, 0, none⟩) ps.length ps := by
  refine ⟨rfl, by omega, .inr ⟨w.heap.size, 0, rfl, Nat.zero_le _, by simp, fun j hj => ?_⟩⟩
  rw [World.cell?_alloc_new]
  simp [List.getD, hj]
def ToldO (w : World) (e : Ending) (w' : World) : Prop :=
  ∃ b c, e = .returned (.agg #[.slice (some ⟨b, 0, none⟩) 3 3, .slice (some ⟨c, 0, none⟩) 5 5]) ∧ Ints 0 w' (some ⟨b, 0, none⟩) 3 oOs ∧ Ints 0 w' (some ⟨c, 0, none⟩) 5 oPl ∧ Below w.heap.size w w'
theorem o_plan : planE glowF oOs oPl = 0 := by decide
theorem o_peak : peakP glowF oOs oPl = 28 := by decide
theorem o_floor : floorP glowF oOs oPl = 24 := by decide
theorem o_check : checkP glowF oOs oPl 28 = 0 := by decide
theorem o_full : checkP glowF oOs oPl 27 = 7 := by decide
theorem o_none : checkP glowF [] [] 28 = 1 := by decide
theorem o_span3 : spanP (gpOf glowF) oOs 3 = (0, 2) := by decide
theorem o_span1 : spanP (gpOf glowF) oOs 1 = (-1, -1) := by decide
end Go.Proofs.YtaenpgdmiaekcaaGreatDoor
/-
  FITBEGUN: the reference's SamePlans; what the laws of fitting begin with comes out true.
-/
namespace Go.Proofs.YtaenpgdmiaekcaaGreatDoor
set_option maxRecDepth 100000
open Go.RowKit Im Go.Maps

theorem zs_two (w : World) (x0 y0 x1 y1 : Int) (t : TypeId) : Zs (w.alloc (.cells #[.int .i64 x0, .int .i64 y0, .int .i64 x1, .int .i64 y1] t)) (some ⟨w.heap.size, 0, none⟩) 2 [(x0, y0), (x1, y1)] := by
  refine ⟨rfl, by omega, .inr ⟨w.heap.size, 0, rfl, by simp, fun j hj => ?_⟩⟩
  rw [World.cell?_alloc_new, World.cell?_alloc_new]
  match j, hj with
  | 0, _ => exact ⟨rfl, rfl⟩
  | 1, _ => exact ⟨rfl, rfl⟩
theorem f_p2 : placeP [(0, 3), (6, 9)] 2 = 4 := by decide
theorem f_e2 : placeE [(0, 3), (6, 9)] 2 = 0 := by decide
theorem f_p3 : placeP [(0, 3), (6, 9)] 3 = 10 := by decide
theorem f_e3 : placeE [(0, 3), (6, 9)] 3 = 0 := by decide
theorem f_ord : cOrd (gpOf glowF) 5 = [0, 3, 4] := by decide
theorem f_pl : cPl (gpOf glowF) = [0, -1, -1, 8, 16] := by decide
theorem f_e : frameE glowF = 0 := by decide
theorem Nm.list {w : World} {b n : Nat} {l : List Int} (h : Nm w b n (fun k => l.getD k 0)) (hl : l.length = n) (hn : n ≤ 4096) : Ints 0 w (some ⟨b, 0, none⟩) n l :=
  ⟨hl, by omega, .inr ⟨b, 0, rfl, Nat.zero_le _, h.lt, fun j hj => by rw [Nat.zero_add]; exact h.cells j hj⟩⟩
end Go.Proofs.YtaenpgdmiaekcaaGreatDoor
/-
  WIREM: numbers alone: the bytes of a frame, and the frame of which bytes are.
-/
namespace Go.Proofs.YtaenpgdmiaekcaaGreatDoor
set_option maxRecDepth 100000

def b8 (n : Int) : Int := n % 256
def lightBytes (l : Lt) : List Int := [b8 l.X, b8 l.Y, b8 l.R, b8 (l.P / 256), b8 l.P]
def passBytes (p : Ps) : List Int := [b8 p.Op, b8 p.To, b8 p.A, b8 p.B, b8 (p.K / 65536), b8 (p.K / 256), b8 p.K, b8 p.ls.length] ++ p.ls.flatMap lightBytes
def frameBytes (f : Fr) : List Int := [b8 f.W, b8 f.H, b8 f.S, b8 f.O, b8 f.ps.length] ++ f.ps.flatMap passBytes
/-- The n numbers from place i on; nothing there is 0. -/
def win (s : List Int) (i n : Nat) : List Int := (List.range n).map fun k => s.getD (i + k) 0
theorem win_len (s : List Int) (i n : Nat) : (win s i n).length = n := by simp [win]
theorem win_add (s : List Int) (i n m : Nat) : win s i (n + m) = win s i n ++ win s (i + n) m := by
  unfold win
  rw [List.range_add, List.map_append, List.map_map]
  congr 1
  refine List.map_congr_left fun k _ => ?_
  simp only [Function.comp]
  rw [Nat.add_assoc]
theorem win_all (s : List Int) : win s 0 s.length = s := by
  refine List.ext_getElem? fun k => ?_
  unfold win
  by_cases h : k < s.length
  · simp [h, List.getD]
  · rw [List.getElem?_eq_none (by simp; omega), List.getElem?_eq_none (by omega)]
/-- The number for which n, of three bytes, stands. -/
def sgn (n : Int) : Int := if 8388608 ≤ n then n - 16777216 else n
def rdLight (s : List Int) (i : Nat) : Lt := ⟨s.getD i 0, s.getD (i + 1) 0, s.getD (i + 2) 0, 256 * s.getD (i + 3) 0 + s.getD (i + 4) 0⟩
def rdLights (s : List Int) (i : Nat) : Nat → List Lt
  | 0 => []
  | n + 1 => rdLights s i n ++ [rdLight s (i + 5 * n)]
def rdPass (s : List Int) (i : Nat) : Ps := ⟨s.getD i 0, s.getD (i + 1) 0, s.getD (i + 2) 0, s.getD (i + 3) 0, sgn (65536 * s.getD (i + 4) 0 + 256 * s.getD (i + 5) 0 + s.getD (i + 6) 0), rdLights s (i + 8) (s.getD (i + 7) 0).toNat⟩
def rdStop (s : List Int) (i : Nat) : Nat := i + 8 + 5 * (s.getD (i + 7) 0).toNat
def rdPos (s : List Int) : Nat → Nat
  | 0 => 5
  | n + 1 => rdStop s (rdPos s n)
def rdPasses (s : List Int) : Nat → List Ps
  | 0 => []
  | n + 1 => rdPasses s n ++ [rdPass s (rdPos s n)]
def rdFrame (s : List Int) : Fr := ⟨s.getD 0 0, s.getD 1 0, s.getD 2 0, s.getD 3 0, rdPasses s (s.getD 4 0).toNat⟩
def rdEnd (s : List Int) : Nat := rdPos s (s.getD 4 0).toNat
/-- All are bytes. -/
def Bytes (s : List Int) : Prop := ∀ x ∈ s, 0 ≤ x ∧ x < 256
theorem Bytes.at {s : List Int} (h : Bytes s) (i : Nat) : 0 ≤ s.getD i 0 ∧ s.getD i 0 < 256 := by
  rw [List.getD_eq_getElem?_getD]
  by_cases hi : i < s.length
  · rw [List.getElem?_eq_getElem hi]; exact h _ (List.getElem_mem hi)
  · rw [List.getElem?_eq_none (by omega)]; simp
theorem Bytes.low {s : List Int} (h : Bytes s) (i : Nat) : b8 (s.getD i 0) = s.getD i 0 := by
  have := h.at i
  unfold b8
  omega
theorem rdLights_len (s : List Int) (i : Nat) : ∀ n, (rdLights s i n).length = n
  | 0 => rfl
  | n + 1 => by unfold rdLights; rw [List.length_append, rdLights_len s i n]; rfl
theorem rdPasses_len (s : List Int) : ∀ n, (rdPasses s n).length = n
  | 0 => rfl
  | n + 1 => by unfold rdPasses; rw [List.length_append, rdPasses_len s n]; rfl
theorem bytes_light {s : List Int} (h : Bytes s) (i : Nat) : lightBytes (rdLight s i) = win s i 5 := by
  have h3 := h.at (i + 3)
  have h4 := h.at (i + 4)
  have e1 : b8 ((256 * s.getD (i + 3) 0 + s.getD (i + 4) 0) / 256) = s.getD (i + 3) 0 := by unfold b8; omega
  have e2 : b8 (256 * s.getD (i + 3) 0 + s.getD (i + 4) 0) = s.getD (i + 4) 0 := by unfold b8; omega
  show [b8 (s.getD i 0), b8 (s.getD (i + 1) 0), b8 (s.getD (i + 2) 0), b8 ((256 * s.getD (i + 3) 0 + s.getD (i + 4) 0) / 256), b8 (256 * s.getD (i + 3) 0 + s.getD (i + 4) 0)] = [s.getD (i + 0) 0, s.getD (i + 1) 0, s.getD (i + 2) 0, s.getD (i + 3) 0, s.getD (i + 4) 0]
  rw [h.low i, h.low (i + 1), h.low (i + 2), e1, e2]; rfl
theorem bytes_lights {s : List Int} (h : Bytes s) (i : Nat) : ∀ n, (rdLights s i n).flatMap lightBytes = win s i (5 * n)
  | 0 => rfl
  | n + 1 => by
    unfold rdLights
    rw [List.flatMap_append, bytes_lights h i n, show 5 * (n + 1) = 5 * n + 5 by omega, win_add]
    simp [bytes_light h]
theorem bytes_pass {s : List Int} (h : Bytes s) (i : Nat) : passBytes (rdPass s i) = win s i (8 + 5 * (s.getD (i + 7) 0).toNat) := by
  have h4 := h.at (i + 4)
  have h5 := h.at (i + 5)
  have h6 := h.at (i + 6)
  have h7 := h.at (i + 7)
  have e1 : b8 (sgn (65536 * s.getD (i + 4) 0 + 256 * s.getD (i + 5) 0 + s.getD (i + 6) 0) / 65536) = s.getD (i + 4) 0 := by unfold b8 sgn; split <;> omega
  have e2 : b8 (sgn (65536 * s.getD (i + 4) 0 + 256 * s.getD (i + 5) 0 + s.getD (i + 6) 0) / 256) = s.getD (i + 5) 0 := by unfold b8 sgn; split <;> omega
  have e3 : b8 (sgn (65536 * s.getD (i + 4) 0 + 256 * s.getD (i + 5) 0 + s.getD (i + 6) 0)) = s.getD (i + 6) 0 := by unfold b8 sgn; split <;> omega
  have e4 : b8 ((rdLights s (i + 8) (s.getD (i + 7) 0).toNat).length : Int) = s.getD (i + 7) 0 := by rw [rdLights_len]; unfold b8; omega
  rw [win_add, ← bytes_lights h]
  show [b8 (s.getD i 0), b8 (s.getD (i + 1) 0), b8 (s.getD (i + 2) 0), b8 (s.getD (i + 3) 0), b8 (sgn (65536 * s.getD (i + 4) 0 + 256 * s.getD (i + 5) 0 + s.getD (i + 6) 0) / 65536), b8 (sgn (65536 * s.getD (i + 4) 0 + 256 * s.getD (i + 5) 0 + s.getD (i + 6) 0) / 256), b8 (sgn (65536 * s.getD (i + 4) 0 + 256 * s.getD (i + 5) 0 + s.getD (i + 6) 0)), b8 ((rdLights s (i + 8) (s.getD (i + 7) 0).toNat).length : Int)] ++ (rdLights s (i + 8) (s.getD (i + 7) 0).toNat).flatMap lightBytes = [s.getD (i + 0) 0, s.getD (i + 1) 0, s.getD (i + 2) 0, s.getD (i + 3) 0, s.getD (i + 4) 0, s.getD (i + 5) 0, s.getD (i + 6) 0, s.getD (i + 7) 0] ++ _
  rw [h.low i, h.low (i + 1), h.low (i + 2), h.low (i + 3), e1, e2, e3, e4]; rfl
theorem rdPos_ge (s : List Int) : ∀ n, 5 + 8 * n ≤ rdPos s n
  | 0 => Nat.le_refl _
  | n + 1 => by have := rdPos_ge s n; show _ ≤ rdStop s (rdPos s n); unfold rdStop; omega
theorem bytes_passes {s : List Int} (h : Bytes s) : ∀ n, win s 0 5 ++ (rdPasses s n).flatMap passBytes = win s 0 (rdPos s n)
  | 0 => by simp [rdPasses, rdPos]
  | n + 1 => by
    have ih := bytes_passes h n
    unfold rdPasses
    rw [List.flatMap_append, ← List.append_assoc, ih]
    show _ = win s 0 (rdStop s (rdPos s n))
    unfold rdStop
    rw [Nat.add_assoc, win_add, Nat.zero_add]
    simp [bytes_pass h]
/-- The bytes of the frame that is read are those that were read. -/
theorem bytes_frame {s : List Int} (h : Bytes s) : frameBytes (rdFrame s) = win s 0 (rdEnd s) := by
  have h4 := h.at 4
  have e4 : b8 ((rdPasses s (s.getD 4 0).toNat).length : Int) = s.getD 4 0 := by rw [rdPasses_len]; unfold b8; omega
  unfold rdEnd
  rw [← bytes_passes h]
  show [b8 (s.getD 0 0), b8 (s.getD 1 0), b8 (s.getD 2 0), b8 (s.getD 3 0), b8 ((rdPasses s (s.getD 4 0).toNat).length : Int)] ++ _ = _
  rw [h.low 0, h.low 1, h.low 2, h.low 3, e4]; rfl
theorem bytes_same {s : List Int} (h : Bytes s) : frameBytes (rdFrame s) = s ↔ rdEnd s = s.length := by
  rw [bytes_frame h]
  constructor
  · intro e
    have := congrArg List.length e
    rwa [win_len] at this
  · intro e
    rw [e, win_all]
/-- Lights, passes and frames whose numbers go into their bytes. -/
def LtOk (l : Lt) : Prop := (0 ≤ l.X ∧ l.X < 256) ∧ (0 ≤ l.Y ∧ l.Y < 256) ∧ (0 ≤ l.R ∧ l.R < 256) ∧ (0 ≤ l.P ∧ l.P < 65536)
def PsOk (p : Ps) : Prop := (0 ≤ p.Op ∧ p.Op < 256) ∧ (0 ≤ p.To ∧ p.To < 256) ∧ (0 ≤ p.A ∧ p.A < 256) ∧ (0 ≤ p.B ∧ p.B < 256) ∧ (-8388608 ≤ p.K ∧ p.K < 8388608) ∧ p.ls.length < 256 ∧ ∀ l ∈ p.ls, LtOk l
def FrOk (f : Fr) : Prop := (0 ≤ f.W ∧ f.W < 256) ∧ (0 ≤ f.H ∧ f.H < 256) ∧ (0 ≤ f.S ∧ f.S < 256) ∧ (0 ≤ f.O ∧ f.O < 256) ∧ f.ps.length < 256 ∧ ∀ p ∈ f.ps, PsOk p
theorem getD_mid {pre l post : List Int} {k : Nat} (h : k < l.length) : (pre ++ (l ++ post)).getD (pre.length + k) 0 = l.getD k 0 := by
  rw [List.getD_eq_getElem?_getD, List.getElem?_append_right (by omega), Nat.add_sub_cancel_left, List.getElem?_append_left h, ← List.getD_eq_getElem?_getD]
theorem read_light {pre post : List Int} {l : Lt} (h : LtOk l) : rdLight (pre ++ (lightBytes l ++ post)) pre.length = l := by
  obtain ⟨hX, hY, hR, hP⟩ := h
  have g : ∀ k, k < 5 → (pre ++ (lightBytes l ++ post)).getD (pre.length + k) 0 = (lightBytes l).getD k 0 := fun k hk => getD_mid hk
  have g0 := g 0 (by omega)
  rw [Nat.add_zero] at g0
  unfold rdLight
  rw [g0, g 1 (by omega), g 2 (by omega), g 3 (by omega), g 4 (by omega)]
  obtain ⟨X, Y, R, P⟩ := l
  show Lt.mk (b8 X) (b8 Y) (b8 R) (256 * b8 (P / 256) + b8 P) = ⟨X, Y, R, P⟩
  simp only at hX hY hR hP
  have e1 : b8 X = X := by unfold b8; omega
  have e2 : b8 Y = Y := by unfold b8; omega
  have e3 : b8 R = R := by unfold b8; omega
  have e4 : 256 * b8 (P / 256) + b8 P = P := by unfold b8; omega
  rw [e1, e2, e3, e4]
theorem lights_len : ∀ ls : List Lt, (ls.flatMap lightBytes).length = 5 * ls.length
  | [] => rfl
  | l :: ls => by rw [List.flatMap_cons, List.length_append, lights_len ls]; simp [lightBytes]; omega
theorem read_lights {pre post : List Int} : ∀ {ls : List Lt}, (∀ l ∈ ls, LtOk l) → ∀ n, n ≤ ls.length → rdLights (pre ++ (ls.flatMap lightBytes ++ post)) pre.length n = ls.take n
  | ls, h, 0, _ => by simp [rdLights]
  | ls, h, n + 1, hn => by
    have hl : n < ls.length := by omega
    have ih := read_lights (pre := pre) (post := post) h n (by omega)
    unfold rdLights
    rw [ih, List.take_succ_eq_append_getElem hl]
    congr 2
    have e : ls = ls.take n ++ (ls[n] :: ls.drop (n + 1)) := by rw [← List.drop_eq_getElem_cons hl, List.take_append_drop]
    have e2 : pre ++ (ls.flatMap lightBytes ++ post) = (pre ++ (ls.take n).flatMap lightBytes) ++ (lightBytes ls[n] ++ ((ls.drop (n + 1)).flatMap lightBytes ++ post)) := by
      refine (congrArg (fun l => pre ++ (l.flatMap lightBytes ++ post)) e).trans ?_
      simp only [List.flatMap_append, List.flatMap_cons, List.append_assoc]
    have e3 : pre.length + 5 * n = (pre ++ (ls.take n).flatMap lightBytes).length := by
      rw [List.length_append, lights_len, List.length_take]; omega
    rw [e2, e3]
    exact read_light (h _ (List.getElem_mem hl))
theorem read_pass {pre post : List Int} {p : Ps} (h : PsOk p) : rdPass (pre ++ (passBytes p ++ post)) pre.length = p ∧ rdStop (pre ++ (passBytes p ++ post)) pre.length = pre.length + (passBytes p).length := by
  obtain ⟨hO, hT, hA, hB, hK, hl, hL⟩ := h
  have hlen : (passBytes p).length = 8 + 5 * p.ls.length := by unfold passBytes; rw [List.length_append, lights_len]; rfl
  have g : ∀ k, k < 8 → (pre ++ (passBytes p ++ post)).getD (pre.length + k) 0 = (passBytes p).getD k 0 := fun k hk => getD_mid (by omega)
  have g0 := g 0 (by omega)
  rw [Nat.add_zero] at g0
  have g7 := g 7 (by omega)
  have e7 : (passBytes p).getD 7 0 = p.ls.length := by
    show b8 (p.ls.length : Int) = _
    unfold b8; omega
  have hls : rdLights (pre ++ (passBytes p ++ post)) (pre.length + 8) p.ls.length = p.ls := by
    have := read_lights (pre := pre ++ [b8 p.Op, b8 p.To, b8 p.A, b8 p.B, b8 (p.K / 65536), b8 (p.K / 256), b8 p.K, b8 p.ls.length]) (post := post) hL p.ls.length (Nat.le_refl _)
    rw [List.take_length] at this
    rw [List.length_append] at this
    unfold passBytes
    simpa using this
  constructor
  · unfold rdPass
    rw [g0, g 1 (by omega), g 2 (by omega), g 3 (by omega), g 4 (by omega), g 5 (by omega), g 6 (by omega), g7, e7, Int.toNat_natCast, hls]
    obtain ⟨Op, To, A, B, K, ls⟩ := p
    show Ps.mk (b8 Op) (b8 To) (b8 A) (b8 B) (sgn (65536 * b8 (K / 65536) + 256 * b8 (K / 256) + b8 K)) ls = ⟨Op, To, A, B, K, ls⟩
    simp only at hO hT hA hB hK
    have e1 : b8 Op = Op := by unfold b8; omega
    have e2 : b8 To = To := by unfold b8; omega
    have e3 : b8 A = A := by unfold b8; omega
    have e4 : b8 B = B := by unfold b8; omega
    have e5 : sgn (65536 * b8 (K / 65536) + 256 * b8 (K / 256) + b8 K) = K := by unfold b8 sgn; split <;> omega
    rw [e1, e2, e3, e4, e5]
  · unfold rdStop
    rw [g7, e7, Int.toNat_natCast, hlen]; omega
theorem read_passes {pre : List Int} (h5 : pre.length = 5) : ∀ {ps : List Ps}, (∀ p ∈ ps, PsOk p) → ∀ n, n ≤ ps.length → rdPasses (pre ++ ps.flatMap passBytes) n = ps.take n ∧ rdPos (pre ++ ps.flatMap passBytes) n = (pre ++ (ps.take n).flatMap passBytes).length
  | ps, h, 0, _ => by simp [rdPasses, rdPos, h5]
  | ps, h, n + 1, hn => by
    have hl : n < ps.length := by omega
    obtain ⟨ih1, ih2⟩ := read_passes h5 h n (by omega)
    have e : ps = ps.take n ++ (ps[n] :: ps.drop (n + 1)) := by rw [← List.drop_eq_getElem_cons hl, List.take_append_drop]
    have e2 : pre ++ ps.flatMap passBytes = (pre ++ (ps.take n).flatMap passBytes) ++ (passBytes ps[n] ++ (ps.drop (n + 1)).flatMap passBytes) := by
      refine (congrArg (fun l => pre ++ l.flatMap passBytes) e).trans ?_
      simp only [List.flatMap_append, List.flatMap_cons, List.append_assoc]
    obtain ⟨r1, r2⟩ := read_pass (pre := pre ++ (ps.take n).flatMap passBytes) (post := (ps.drop (n + 1)).flatMap passBytes) (h _ (List.getElem_mem hl))
    rw [← e2, ← ih2] at r1 r2
    refine ⟨?_, ?_⟩
    · unfold rdPasses
      rw [ih1, r1, List.take_succ_eq_append_getElem hl]
    · show rdStop _ (rdPos _ n) = _
      rw [r2, ih2, List.take_succ_eq_append_getElem hl]
      simp only [List.flatMap_append, List.flatMap_cons, List.flatMap_nil, List.append_nil, List.length_append]
      omega
/-- What is written is read as it was. -/
theorem read_frame {f : Fr} (h : FrOk f) : rdFrame (frameBytes f) = f ∧ rdEnd (frameBytes f) = (frameBytes f).length := by
  obtain ⟨hW, hH, hS, hO, hl, hP⟩ := h
  obtain ⟨r1, r2⟩ := read_passes (pre := [b8 f.W, b8 f.H, b8 f.S, b8 f.O, b8 f.ps.length]) rfl hP f.ps.length (Nat.le_refl _)
  rw [List.take_length] at r1 r2
  have e4 : (frameBytes f).getD 4 0 = f.ps.length := by
    show b8 (f.ps.length : Int) = _
    unfold b8; omega
  constructor
  · unfold rdFrame
    rw [e4, Int.toNat_natCast]
    have : rdPasses (frameBytes f) f.ps.length = f.ps := r1
    rw [this]
    obtain ⟨W, H, S, O, ps⟩ := f
    show Fr.mk (b8 W) (b8 H) (b8 S) (b8 O) ps = ⟨W, H, S, O, ps⟩
    simp only at hW hH hS hO
    have e1 : b8 W = W := by unfold b8; omega
    have e2 : b8 H = H := by unfold b8; omega
    have e3 : b8 S = S := by unfold b8; omega
    have e5 : b8 O = O := by unfold b8; omega
    rw [e1, e2, e3, e5]
  · unfold rdEnd
    rw [e4, Int.toNat_natCast]
    exact r2
theorem b8_bd (n : Int) : 0 ≤ b8 n ∧ b8 n < 256 := by unfold b8; omega
theorem bytes_of_frame (f : Fr) : Bytes (frameBytes f) := by
  intro x hx
  have hb : ∀ n, 0 ≤ b8 n ∧ b8 n < 256 := b8_bd
  unfold frameBytes at hx
  rcases List.mem_append.1 hx with h | h
  · simp only [List.mem_cons, List.not_mem_nil, or_false] at h
    rcases h with rfl | rfl | rfl | rfl | rfl <;> exact hb _
  · obtain ⟨p, _, h⟩ := List.mem_flatMap.1 h
    unfold passBytes at h
    rcases List.mem_append.1 h with h | h
    · simp only [List.mem_cons, List.not_mem_nil, or_false] at h
      rcases h with rfl | rfl | rfl | rfl | rfl | rfl | rfl | rfl <;> exact hb _
    · obtain ⟨l, _, h⟩ := List.mem_flatMap.1 h
      unfold lightBytes at h
      simp only [List.mem_cons, List.not_mem_nil, or_false] at h
      rcases h with rfl | rfl | rfl | rfl | rfl <;> exact hb _
end Go.Proofs.YtaenpgdmiaekcaaGreatDoor
/-
  WIRENUM: rows of bytes that are one's own; wire.appendNumber.
-/
namespace Go.Proofs.YtaenpgdmiaekcaaGreatDoor
set_option maxRecDepth 100000
open Go.RowKit Im

/-- The slice value v is nil or the head of a row of bytes of the call's own, from block 'base' on; since w0 nothing else but the block r has changed. -/
structure BRow (base : Nat) (r : Option Nat) (w0 w : World) (v : Value) (l : List Int) : Prop where
  own : w.ownsRow base 5 1 v l.length (l.map (Value.int .u8))
  grew : w0.grownBy w r
  lies : v.ownBlock = r ∨ ∃ b, v.ownBlock = some b ∧ w0.heap.size ≤ b
theorem BRow.start {base : Nat} {w : World} {v : Value} {l : List Int} (h : w.ownsRow base 5 1 v l.length (l.map (Value.int .u8))) : BRow base v.ownBlock w w v l := ⟨h, World.grownBy.refl _ _, .inl rfl⟩
theorem BRow.alloc {base : Nat} {r : Option Nat} {w0 w : World} {v : Value} {l : List Int} (h : BRow base r w0 w v l) (o : Obj) : BRow base r w0 (w.alloc o) v l :=
  ⟨World.ownsRow.alloc h.own o, ⟨h.grew.os, h.grew.tape, h.grew.output, by have := h.grew.size; simp; omega, fun k hk hr => (Below.heap_alloc _ _ _ (Nat.lt_of_lt_of_le hk h.grew.size)).trans (h.grew.block k hk hr)⟩, h.lies⟩
theorem BRow.push {base : Nat} {r : Option Nat} {w0 w w1 : World} {v v' : Value} {l news : List Int} {m : Nat} (h : BRow base r w0 w v l) (hm : news.length = m)
    (h' : w1.ownsRow base 5 1 v' (l.length + m) (l.map (Value.int .u8) ++ news.map (Value.int .u8))) (hg : w.grownBy w1 v.ownBlock) (ha : v'.ownBlock = v.ownBlock ∨ v'.ownBlock = some w.heap.size) : BRow base r w0 w1 v' (l ++ news) := by
  have hs := h.grew.size
  refine ⟨by rw [List.length_append, List.map_append, hm]; exact h', ⟨hg.os.trans h.grew.os, hg.tape.trans h.grew.tape, hg.output.trans h.grew.output, Nat.le_trans hs hg.size, fun k hk hr => ?_⟩, ?_⟩
  · rw [hg.block k (Nat.lt_of_lt_of_le hk hs) (fun e => ?_)]
    · exact h.grew.block k hk hr
    · rcases h.lies with h1 | ⟨b, h1, h2⟩
      · exact hr (e.trans h1)
      · rw [h1] at e; injection e with e; omega
  · rcases ha with ha | ha
    · rw [ha]; exact h.lies
    · exact .inr ⟨_, ha, hs⟩
/-- A round's row is the whole's. -/
theorem BRow.join {base : Nat} {r : Option Nat} {w0 w w1 w2 : World} {v v' : Value} {l l' : List Int} (h : BRow base r w0 w v l) (hk : BRow base v.ownBlock w1 w2 v' l') (hg : w0.grownBy w1 r) : BRow base r w0 w2 v' l' := by
  have hs := hg.size
  refine ⟨hk.own, ⟨hk.grew.os.trans hg.os, hk.grew.tape.trans hg.tape, hk.grew.output.trans hg.output, Nat.le_trans hs hk.grew.size, fun k hk' hr => ?_⟩, ?_⟩
  · rw [hk.grew.block k (Nat.lt_of_lt_of_le hk' hs) (fun e => ?_)]
    · exact hg.block k hk' hr
    · rcases h.lies with h1 | ⟨b, h1, h2⟩
      · exact hr (e.trans h1)
      · rw [h1] at e; injection e with e; omega
  · rcases hk.lies with h1 | ⟨b, h1, h2⟩
    · rw [h1]; exact h.lies
    · exact .inr ⟨b, h1, Nat.le_trans hs h2⟩
theorem BRow.below {base B : Nat} {r : Option Nat} {w0 w : World} {v : Value} {l : List Int} (h : BRow base r w0 w v l) (hB : B ≤ w0.heap.size) (hr : ∀ k, r = some k → B ≤ k) : Below B w0 w := (Below.refl B w0).grown h.grew hB hr
theorem cells_new (w : World) (vs : List Value) (t : TypeId) : ∀ (j : Nat) (u : Value), vs[j]? = some u → (w.alloc (.cells vs.toArray t)).cell? ((⟨w.heap.size, 0, none⟩ : Addr).add j) = some u := by
  intro j u h
  have : (⟨w.heap.size, 0, none⟩ : Addr).add j = ⟨w.heap.size, j, none⟩ := by simp [Addr.add]; exact fun h => h.symm
  rw [this, World.cell?_alloc_new]
  simpa using h
theorem Tryz.infoByte : (Tryz.prog.info? 5).map (fun i => (i.zero, i.size, i.bytes)) = some (some (.int .u8 0), 1, 1) := by kernel_rfl
/-- The k lowest bytes of n, the highest first. -/
def numBy (n : Int) : Nat → List Int
  | 0 => []
  | k + 1 => (n / 2 ^ (8 * k)) % 256 :: numBy n k
set_option maxHeartbeats 2000000 in
theorem appendNumber_any {base : Nat} {r : Option Nat} {w0 w : World} {v : Value} {l : List Int} (h : BRow base r w0 w v l) (hB : base ≤ w0.heap.size) (n : Int) {many : Nat} (hm : many ≤ 3) (hl : l.length ≤ 4096) :
    Calls Tryz.prog 94 #[v, .int .i64 n, .int .i64 many] w fun e w' => ∃ v', e = .returned v' ∧ BRow base r w0 w' v' (l ++ numBy n many) := by
  obtain ⟨i0, hi, hz0, hz1, hz2⟩ := info_parts Tryz.infoByte
  have hw1 : IntKind.i64.wrap ((many : Int) - 1) = (many : Int) - 1 := by rw [IntKind.wrap_i64]; omega
  obtain ⟨va, vc, rfl⟩ := owns_slice h.own
  go_enter Tryz.func94, Tryz.ntmps94
  go_wp2
  go_loopw [0, 7] (fun u i wr => ∃ (k : Nat) (l' : List Int), k ≤ many ∧ i = .int .i64 ((k : Int) - 1) ∧ BRow base r w0 wr u l' ∧ l' ++ numBy n k = l ++ numBy n many ∧ l'.length + k = l.length + many) (fun _ i _ => (intOf i + 1).toNat)
  case atStart => exact ⟨many, l, Nat.le_refl _, rfl, h, rfl, rfl⟩
  case round =>
    obtain ⟨k, l', hk, rfl, hown, hcat, hlen⟩ := hrel
    obtain ⟨ua, uc, rfl⟩ := owns_slice hown.own
    have hsz := Nat.le_trans hB hown.grew.size
    by_cases h0 : k = 0
    · subst h0
      have HF : Hid (BRow base r w0 wr (.slice ua l'.length uc) (l ++ numBy n many)) := by
        have e : l' = l ++ numBy n many := by rw [← hcat]; simp [numBy]
        show BRow base r w0 wr _ _
        rw [← e]; exact hown
      go_wp2
      go_ret
      exact ⟨_, rfl, HF.out⟩
    · obtain ⟨j, rfl⟩ : ∃ j, k = j + 1 := ⟨k - 1, by omega⟩
      have hj : ((j + 1 : Nat) : Int) - 1 = (j : Int) := by omega
      rw [hj]
      have HC : Hid (l' ++ ((n / 2 ^ (8 * j)) % 256 :: numBy n j) = l ++ numBy n many) := hcat
      have hj3 : j < 3 := by omega
      have hj0 : (0 : Int) ≤ (j : Int) := by omega
      clear hcat h0
      go_wp2_with (at_builtin; refine wpList_append_own_at _ rfl _ _ 42 rfl base 5 i0 (.int .u8 0) 1 1 Tryz.underlying42 hi hz0 hz1 hz2 rfl (by decide) _ _ _ rfl (hown.alloc _).own ⟨wr.heap.size, 0, none⟩ 1 1 [.int .u8 (n / 2 ^ (8 * j) % 256)] rfl rfl (cell_one_new _ _ _) (by intro u hu; simp at hu; subst hu; rfl) (by unfold maxLen; omega) (by omega) (by simp; omega) ?_; intro v' w9 hown9 hgrow9 _ hat9; obtain ⟨a9, c9, hv9⟩ := owns_slice hown9; subst hv9; have RR := (hown.alloc _).push (news := [n / 2 ^ (8 * j) % 256]) rfl hown9 hgrow9 hat9)
      go_roundw
      case rel => exact ⟨j, l' ++ [n / 2 ^ (8 * j) % 256], by omega, by go_num, RR, by rw [← HC.out]; simp, by simp; omega⟩
      case measure => simp [intOf]
theorem numB_three (n : Int) : numBy n 3 = [b8 (n / 65536), b8 (n / 256), b8 n] := by
  show [n / 2 ^ (8 * 2) % 256, n / 2 ^ (8 * 1) % 256, n / 2 ^ (8 * 0) % 256] = _
  unfold b8
  simp
theorem numB_two (n : Int) : numBy n 2 = [b8 (n / 256), b8 n] := by
  show [n / 2 ^ (8 * 1) % 256, n / 2 ^ (8 * 0) % 256] = _
  unfold b8
  simp
end Go.Proofs.YtaenpgdmiaekcaaGreatDoor
