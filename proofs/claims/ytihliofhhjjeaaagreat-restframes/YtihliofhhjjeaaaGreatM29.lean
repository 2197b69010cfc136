/- Compile, LawExec3, FitBegun, CompRef: joined, in this order. -/
import Derived.Test.YtihliofhhjjeaaaGreatM28
import Derived.Test.YtihliofhhjjeaaaGreatM16
import Derived.Test.YtihliofhhjjeaaaGreatM12
import Derived.Test.YtihliofhhjjeaaaGreatM21
import Derived.Test.YtihliofhhjjeaaaGreatM02
import Derived.Test.YtihliofhhjjeaaaGreatM20
import Derived.Test.YtihliofhhjjeaaaGreatM25
import Derived.Test.YtihliofhhjjeaaaGreatM23
import Derived.Test.YtihliofhhjjeaaaGreatM13
import Derived.Deep.AppendLies
set_option maxRecDepth 100000
namespace Go.Proofs.YtihliofhhjjeaaaGreat
open Go.RowKit Im Go.Maps
theorem Sp.other {w : World} {b n : Nat} {g : Nat → Int × Int} (h : Sp w b n g) {p : Addr} (hp : p.block ≠ b) (u : Value) : Sp (w.setCell p u) b n g :=
  ⟨by simpa using h.lt, fun j hj => (set_other _ (fun e => hp (by rw [e]))).trans (h.c0 j hj), fun j hj => (set_other _ (fun e => hp (by rw [e]))).trans (h.c1 j hj), fun o => by simpa using h.froz o⟩
theorem owns_cap {base e size n : Nat} {w : World} {a : Option Addr} {cap : Nat} {xs : List Value} (h : w.ownsRow base e size (.slice a n cap) n xs) : n ≤ cap := by
  rcases h.2 with ⟨hv, rfl⟩ | ⟨g, c, cur, hv, _, _, hc, _⟩
  · exact Nat.zero_le _
  · injection hv with _ _ h3; omega
def ToldComp (w : World) (f : Fr) (e : Ending) (w' : World) : Prop :=
  ((frameE f = 0 ∧ ∃ v pb, e = .returned (.tuple #[.agg #[v, .slice (some ⟨pb, 0, none⟩) f.ps.length f.ps.length], .int .i64 0]) ∧ w.heap.size ≤ pb ∧ Owns (pb + 1) w' v (cOrd (gpOf f) f.ps.length) ∧ Nm w' pb f.ps.length (fun k => (cPl (gpOf f)).getD k 0)) ∨
   (frameE f ≠ 0 ∧ e = .returned (.tuple #[.agg #[.slice none 0 0, .slice none 0 0], .int .i64 (frameE f)]))) ∧ Below w.heap.size w w'
set_option maxHeartbeats 2000000 in
theorem compile_err (W H S O : Int) (a : Option Addr) (len cap : Nat) (ps : List Ps) (w : World) (hp : Passes w a len ps) (hE : frameE ⟨W, H, S, O, ps⟩ ≠ 0) :
    Calls Tryz.prog 8 #[.agg #[.int .i64 W, .int .i64 H, .int .i64 S, .int .i64 O, .slice a len cap]] w (ToldComp w ⟨W, H, S, O, ps⟩) := by
  have hb0 := below_box (below_box (Below.refl w.heap.size w) (.cells #[.int .i64 W, .int .i64 H, .int .i64 S, .int .i64 O, .slice a len cap] 24)) (.cells #[.slice none 0 0, .slice none 0 0] 27)
  have hR0 := WBox.new (w.alloc (.cells #[.int .i64 W, .int .i64 H, .int .i64 S, .int .i64 O, .slice a len cap] 24)) (.slice none 0 0) (.slice none 0 0) 27
  rw [World.size_alloc] at hR0
  have hke := kept_any W H S O a len cap ps _ (hp.below hb0)
  have HE : Hid (_) := hE
  go_enter Tryz.func8, Tryz.ntmps8
  go_wp2_with fail
  refine hke.mono ?_
  clear hke
  rintro e w1 ⟨⟨h0, _⟩ | ⟨_, rfl⟩, b1⟩
  · exact absurd h0 hE
  have hR1 := hR0.below b1 hR0.lt b1.size
  have hb1 := below_step hb0 b1
  obtain ⟨_, r0, r1, fr⟩ := id hR1
  have fr0 := fr 0
  have fr1 := fr 1
  obtain ⟨_, d0, d1, _⟩ := (hR1.put0 (.slice none 0 0)).put1 (.slice none 0 0)
  have hb2 := (hb1.setCell (p := ⟨w.heap.size + 1, 0, none⟩) (Nat.le_succ _) (.slice none 0 0)).setCell (p := ⟨w.heap.size + 1, 1, none⟩) (Nat.le_succ _) (.slice none 0 0)
  have HB : Hid (_) := hb2
  clear hb2
  go_wp2
  exact bodyPost_ret (v := .tuple #[.agg #[.slice none 0 0, .slice none 0 0], .int .i64 (frameE ⟨W, H, S, O, ps⟩)]) (by simp [results, Tryz.results8, go_sem, d0, d1]) rfl ⟨.inr ⟨HE.out, rfl⟩, HB.out⟩
structure Comp (f : Fr) (z : Nat → Int) (os : List Int) (sp : Nat → Int × Int) (zs : List Sz) (P : Nat → Nat → Int) (R : Nat → Int) : Prop where
  p0 : ∀ k, P 0 k = z k
  pe : ∀ k, k < f.ps.length → P os.length k = (cPl (gpOf f)).getD k 0
  step : ∀ t, t < os.length → ∀ k, P (t + 1) k = if (os.getD t 0).toNat = k then R t else P t k
  busyE : ∀ t, t < os.length → placeE (busyF sp (fun k => areaZ (zs.getD k Sz.zero)) (P t) os t t) (areaZ (zs.getD (os.getD t 0).toNat Sz.zero)) = 0
  busyP : ∀ t, t < os.length → placeP (busyF sp (fun k => areaZ (zs.getD k Sz.zero)) (P t) os t t) (areaZ (zs.getD (os.getD t 0).toNat Sz.zero)) = R t
  pb : ∀ t, t ≤ os.length → ∀ k, -1 ≤ P t k ∧ P t k ≤ 4097
  blen : ∀ t, t < os.length → (busyF sp (fun k => areaZ (zs.getD k Sz.zero)) (P t) os t t).length ≤ 12
  inN : ∀ o ∈ os, 0 ≤ o ∧ o < f.ps.length
  ol : os.length ≤ 12
  sz : ∀ k, k < f.ps.length → (0 ≤ (zs.getD k Sz.zero).1 ∧ (zs.getD k Sz.zero).1 ≤ 16) ∧ (0 ≤ (zs.getD k Sz.zero).2 ∧ (zs.getD k Sz.zero).2 ≤ 16)
theorem comp_any {f : Fr} (hE : frameE f = 0) {z : Nat → Int} (hz : ∀ k, -1 ≤ z k ∧ z k ≤ 0) (hz0 : ∀ k, k < f.ps.length → ¬ (gpOf f).kept k = true → z k = -1) :
    ∃ P R, Comp f z (cOrd (gpOf f) f.ps.length) (spanP (gpOf f) (cOrd (gpOf f) f.ps.length)) (szs f f.ps.length) P R := by
  have hG := gp_right hE
  have hN12 : f.ps.length ≤ 12 := hG.hN.2
  have hl := cOrd_len (gpOf f) f.ps.length
  obtain ⟨hb, hf, hs⟩ := frameE_zero hE
  refine ⟨plcN (gpOf f) (cOrd (gpOf f) f.ps.length) z, fun t => placeR (busyQ (gpOf f) (cOrd (gpOf f) f.ps.length) (qsP (gpOf f) (cOrd (gpOf f) f.ps.length) t) t t) ((gpOf f).ar ((cOrd (gpOf f) f.ps.length).getD t 0).toNat), fun k => plc_zero k, fun k hk => plc_done (G := gpOf f) hz0 hk, fun t ht k => plcN_step (G := gpOf f) (cOrd_nodup _) (cOrd_in _) ht k, fun t ht => ?_, fun t ht => ?_, fun t ht k => ?_, fun t ht => ?_, cOrd_in (gpOf f), by omega, fun k hk => ?_⟩
  · have h1 := comp_busy (G := gpOf f) (z := z) (show t ≤ _ from Nat.le_of_lt ht)
    have h2 := comp_place hG ht
    rw [← h1] at h2
    exact h2
  · have h1 := comp_busy (G := gpOf f) (z := z) (show t ≤ _ from Nat.le_of_lt ht)
    have h2 := comp_placeP hG ht
    rw [← h1] at h2
    exact h2.trans (by rw [h1]; rfl)
  · have := plc_bd hG hz ht k; exact ⟨this.1, Int.le_trans this.2 (by decide)⟩
  · exact Nat.le_trans (busyF_len _ _ _ _ _ _) (by omega)
  · have := szs_bd hb hf _ (getD_mem (show k < (szs f f.ps.length).length by rw [szs_length]; exact hk) Sz.zero)
    obtain ⟨h1, h2⟩ := this
    exact ⟨⟨by omega, by omega⟩, ⟨by omega, by omega⟩⟩
set_option maxHeartbeats 4000000 in
theorem compile_ok (W H S O : Int) (a : Option Addr) (len cap : Nat) (ps : List Ps) (w : World) (hp : Passes w a len ps) (hE : frameE ⟨W, H, S, O, ps⟩ = 0) :
    Calls Tryz.prog 8 #[.agg #[.int .i64 W, .int .i64 H, .int .i64 S, .int .i64 O, .slice a len cap]] w (ToldComp w ⟨W, H, S, O, ps⟩) := by
  have hb0 := below_box (below_box (Below.refl w.heap.size w) (.cells #[.int .i64 W, .int .i64 H, .int .i64 S, .int .i64 O, .slice a len cap] 24)) (.cells #[.slice none 0 0, .slice none 0 0] 27)
  have hR0 := WBox.new (w.alloc (.cells #[.int .i64 W, .int .i64 H, .int .i64 S, .int .i64 O, .slice a len cap] 24)) (.slice none 0 0) (.slice none 0 0) 27
  have hF0 := (FBox.new w W H S O a len cap).alloc (.cells #[.slice none 0 0, .slice none 0 0] 27)
  rw [World.size_alloc] at hR0
  have hke := kept_any W H S O a len cap ps _ (hp.below hb0)
  have hG := gp_right hE
  have hC : Closed (gpOf ⟨W, H, S, O, ps⟩) := gp_closed hE
  have hN12 : ps.length ≤ 12 := hG.hN.2
  have HE : Hid (_) := hE
  go_enter Tryz.func8, Tryz.ntmps8
  go_wp2_with fail
  refine hke.mono ?_
  clear hke
  rintro e w1 ⟨⟨_, b, rfl, hbb, hBl⟩ | ⟨h0, _⟩, b1⟩
  rotate_left
  · exact absurd hE h0
  have hb1 := below_step hb0 b1
  have hF1 := hF0.below b1
  have hR1 := hR0.below b1 hR0.lt b1.size
  have hsz := sizes_any W H S O a len cap ps _ (hp.below hb1)
  obtain ⟨_, g0, g1, g2, g3, g4⟩ := id hF1
  dsimp only at hBl ⊢
  go_wp2_with fail
  refine hsz.mono ?_
  clear hsz
  rintro e w2 ⟨⟨v2, rfl, hZ⟩, b2⟩
  rw [hE, if_pos rfl] at hZ
  obtain ⟨za, zc, rfl, hZs⟩ := hZ.zs (by rw [szs_length]; omega)
  rw [szs_length] at hZs ⊢
  have hb2 := below_step hb1 b2
  have hF2 := hF1.below b2
  have hR2 := hR1.below b2 hR1.lt b2.size
  have hB2 := hBl.below b2 hBl.lt b2.size
  have hun := unplaced_any (G := gpOf ⟨W, H, S, O, ps⟩) hN12 hB2 ps.length
  have hp2 := hp.below hb2
  have hs2 : w.heap.size + 2 ≤ w2.heap.size := by have h1 := b1.size; have h2 := b2.size; rw [World.size_alloc, World.size_alloc] at h1; omega
  clear g0 g1 g2 g3 g4 hF0 hF1 hR0 hR1 hb0 hb1 b1 b2 hBl hZ hB2 hp
  obtain ⟨_, g0, g1, g2, g3, g4⟩ := id hF2
  go_wp2_with fail
  refine hun.mono ?_
  clear hun
  rintro e w3 ⟨⟨v3, pb, rfl, hpb, hpl, hO3, hN3⟩, b3⟩
  obtain ⟨P, R, hCm⟩ := comp_any hE (z := fun j => if (gpOf ⟨W, H, S, O, ps⟩).kept j = true then 0 else -1) (fun k => by split <;> omega) (fun k _ h => if_neg h)
  have hOrd : planE ⟨W, H, S, O, ps⟩ (cOrd (gpOf ⟨W, H, S, O, ps⟩) ps.length) ((List.range ps.length).map fun j => if (gpOf ⟨W, H, S, O, ps⟩).kept j = true then 0 else -1) = 0 := by
    have ho : ordB (gpOf ⟨W, H, S, O, ps⟩) (cOrd (gpOf ⟨W, H, S, O, ps⟩) ps.length) ((List.range ps.length).map fun j => if (gpOf ⟨W, H, S, O, ps⟩).kept j = true then 0 else -1) = true := ord_iff.2 (comp_ord hG hC (fun k _ h => if_neg h) (fun k _ h => if_pos h))
    unfold planE
    rw [if_pos hE, if_pos ho]
  obtain ⟨oa, oc, rfl⟩ := owns_slice hO3
  have hoc := owns_cap hO3
  have hN3' : Nm w3 pb ps.length (P 0) := hN3.congr (fun k _ => hCm.p0 k)
  have hL3 := hN3.ints (by omega)
  have HOE : Hid (∀ w', Owns (pb + 1) w' (.slice oa (cOrd (gpOf ⟨W, H, S, O, ps⟩) ps.length).length oc) (cOrd (gpOf ⟨W, H, S, O, ps⟩) ps.length) → Nm w' pb ps.length (P (cOrd (gpOf ⟨W, H, S, O, ps⟩) ps.length).length) → Below w.heap.size w w' → ToldComp w ⟨W, H, S, O, ps⟩ (.returned (.tuple #[.agg #[.slice oa (cOrd (gpOf ⟨W, H, S, O, ps⟩) ps.length).length oc, .slice (some ⟨pb, 0, none⟩) ps.length ps.length], .int .i64 0])) w') :=
    fun w' h1 h2 h3 => ⟨.inl ⟨hE, _, pb, rfl, by omega, h1, h2.congr (fun k hk => (hCm.pe k hk).symm)⟩, h3⟩
  clear hN3 hC hG hE HE
  generalize ((List.range ps.length).map fun j => if (gpOf ⟨W, H, S, O, ps⟩).kept j = true then 0 else -1) = zl at hOrd hL3
  have hspn := fun wx hp oa hO hL => spans_any W H S O a len cap ps wx hp oa (cOrd (gpOf ⟨W, H, S, O, ps⟩) ps.length).length oc (some ⟨pb, 0, none⟩) ps.length ps.length (cOrd (gpOf ⟨W, H, S, O, ps⟩) ps.length) zl hO hL
  rw [hOrd] at hspn
  generalize spanP (gpOf ⟨W, H, S, O, ps⟩) (cOrd (gpOf ⟨W, H, S, O, ps⟩) ps.length) = sp at hCm hspn
  generalize szs ⟨W, H, S, O, ps⟩ ps.length = zs at hCm hZs
  generalize cOrd (gpOf ⟨W, H, S, O, ps⟩) ps.length = os at *
  have hol := hCm.ol
  obtain ⟨oa', oc', hoe, hI3⟩ := hO3.ints (by omega)
  injection hoe with e1 _ e2
  subst e1 e2
  have bA : Below w3.heap.size w3 (w3.alloc (.cells #[.slice oa os.length oc, .slice (some ⟨pb, 0, none⟩) ps.length ps.length] 27)) := (Below.refl _ _).alloc (Nat.le_refl _) _
  have hX4 := WBox.new w3 (.slice oa os.length oc) (.slice (some ⟨pb, 0, none⟩) ps.length ps.length) 27
  have b4 := below_step b3 bA
  have hO4 := hO3.below bA (Nat.le_refl _)
  have hN4 := hN3'.below bA hN3'.lt bA.size
  have hs4 : (w3.alloc (.cells #[.slice oa os.length oc, .slice (some ⟨pb, 0, none⟩) ps.length ps.length] 27)).heap.size = w3.heap.size + 1 := by simp
  have hF4 := (hF2.below b3).below bA
  have hs4' := hspn _ (hp2.below b4) oa ((hI3.below (Nat.le_refl _) bA).mono (Nat.zero_le _)) (hL3.below (Nat.le_refl _) bA)
  have hF3 := hF2.below b3
  clear g0 g1 g2 g3 g4 hF2 hspn hp2
  obtain ⟨_, g0, g1, g2, g3, g4⟩ := id hF3
  dsimp only
  go_wp2_with fail
  refine hs4'.mono ?_
  clear hs4'
  rintro e w5 ⟨⟨_, sb, rfl, hsb, hSp⟩ | ⟨h0, _⟩, b5⟩
  rotate_left
  · exact absurd rfl h0
  rw [hs4] at hsb
  have hX5 := hX4.below b5 hX4.lt b5.size
  have hO5 := hO4.below b5 (Nat.le_refl _)
  have hN5 := hN4.below b5 hN4.lt b5.size
  have B5 := below_step b4 b5
  have hq5 : w3.heap.size + 1 ≤ w5.heap.size := by rw [← hs4]; exact b5.size
  clear g0 g1 g2 g3 g4 hF3 hF4 hX4 hO4 hN4 bA b4 hs4 b5 b3 hO3 hN3' hI3 hL3 hOrd zl
  generalize w3.heap.size = q at *
  obtain ⟨_, x0, x1, _⟩ := id hX5
  dsimp only
  go_wp2
  clear x0 x1
  have HCM : Hid (_) := hCm
  clear hCm
  go_loopw [46] (fun i wr => ∃ t : Nat, t ≤ os.length ∧ i = .int .i64 t ∧ WBox wr q (.slice oa os.length oc) (.slice (some ⟨pb, 0, none⟩) ps.length ps.length) ∧ Owns (pb + 1) wr (.slice oa os.length oc) os ∧ Nm wr pb ps.length (P t) ∧ Sp wr sb ps.length sp ∧ Below w2.heap.size w2 wr) (fun i _ => os.length - (intOf i).toNat)
  case atStart => exact ⟨0, Nat.zero_le _, rfl, hX5, hO5, hN5, hSp, B5⟩
  case round =>
    obtain ⟨t, ht, rfl, hX, hO, hN, hS, hB⟩ := hrel
    clear hX5 hO5 hN5 hSp B5
    by_cases hlt : t < os.length
    · obtain ⟨oa', oc', hoe, hI⟩ := hO.ints (by omega)
      injection hoe with e1 _ e2
      subst e1 e2
      obtain ⟨ob, oo, rfl, hox⟩ := hI.nth hlt
      have hor : 0 ≤ os.getD t 0 ∧ os.getD t 0 < (ps.length : Int) := HCM.out.inN _ (getD_mem hlt 0)
      have HST : Hid (_) := HCM.out.step t hlt
      have HBE : Hid (_) := HCM.out.busyE t hlt
      have HBP : Hid (_) := HCM.out.busyP t hlt
      have HBL : Hid (_) := HCM.out.blen t hlt
      have hZr := hZs.below hB
      have hbu := fun wx (h : Below wr.heap.size wr wx) => busyAt_any (N := ps.length) (sp := sp) (pf := P t) (zs := zs) HCM.out.inN hol HCM.out.sz (fun k _ => HCM.out.pb t ht k) hoc zc hlt ((hI.mono (Nat.zero_le _)).below (Nat.le_refl _) h) (hS.below h hS.lt h.size) (hN.below h hN.lt h.size) (hZr.below h)
      generalize os.getD t 0 = p at *
      obtain ⟨k, rfl⟩ := Int.eq_ofNat_of_zero_le hor.1
      rw [Int.toNat_natCast] at HST HBE HBP
      have hkl : k < ps.length := by omega
      have hkI : (k : Int) < (ps.length : Int) := by omega
      have hk0 : (0 : Int) ≤ (k : Int) := by omega
      have htI : (t : Int) < (os.length : Int) := by omega
      have ht0 : (0 : Int) ≤ (t : Int) := by omega
      obtain ⟨zb, zo, rfl, hzl, z0, z1⟩ := hZr.nth hkl
      have hzb := HCM.out.sz k hkl
      have hpla := fun wx (ra : Option Addr) (rc : Nat) (h : Zs wx ra (busyF sp (fun k => areaZ (zs.getD k Sz.zero)) (P t) os t t).length (busyF sp (fun k => areaZ (zs.getD k Sz.zero)) (P t) os t t)) => place_any rc h (areaZ (zs.getD k Sz.zero))
      unfold ToldPl at hpla
      rw [HBE.out, HBP.out] at hpla
      generalize busyF sp (fun k => areaZ (zs.getD k Sz.zero)) (P t) os t t = L at *
      have hnu := fun wx => fitNum_any (zs.getD k Sz.zero).1 (zs.getD k Sz.zero).2 hzb.1 hzb.2 wx
      have har : (zs.getD k Sz.zero).1 * (zs.getD k Sz.zero).2 = areaZ (zs.getD k Sz.zero) := rfl
      rw [har] at hnu
      generalize areaZ (zs.getD k Sz.zero) = ar at *
      generalize (zs.getD k Sz.zero).1 = zx at *
      generalize (zs.getD k Sz.zero).2 = zy at *
      obtain ⟨_, x0, x1, _⟩ := id hX
      have held : ∀ wx, Below wr.heap.size wr wx → wx.cell? ⟨q, 0, none⟩ = some (.slice (some ⟨ob, oo, none⟩) os.length oc) ∧ wx.cell? ⟨q, 1, none⟩ = some (.slice (some ⟨pb, 0, none⟩) ps.length ps.length) ∧ wx.cell? ⟨zb, zo + k * 2, none⟩ = some (.int .i64 zx) ∧ wx.cell? ⟨zb, zo + k * 2 + 1, none⟩ = some (.int .i64 zy) := fun wx h =>
        ⟨(h.cell (p := ⟨q, 0, none⟩) hX.lt).trans x0, (h.cell (p := ⟨q, 1, none⟩) hX.lt).trans x1, (h.cell (p := ⟨zb, zo + k * 2, none⟩) hzl).trans z0, (h.cell (p := ⟨zb, zo + k * 2 + 1, none⟩) hzl).trans z1⟩
      have hr0 := Below.refl wr.heap.size wr
      have hd := hr0.drew
      have hbL : L.length ≤ 4096 := Nat.le_trans HBL.out (by decide)
      clear HBE HBP har
      go_upto_region 14 with fail
      go_region_held3 (fun wx => wx.cell? ⟨q, 0, none⟩ = some (.slice (some ⟨ob, oo, none⟩) os.length oc) ∧ wx.cell? ⟨q, 1, none⟩ = some (.slice (some ⟨pb, 0, none⟩) ps.length ps.length) ∧ wx.cell? ⟨zb, zo + k * 2, none⟩ = some (.int .i64 zx) ∧ wx.cell? ⟨zb, zo + k * 2 + 1, none⟩ = some (.int .i64 zy))
        (first | exact held _ hr0 | exact held _ hd | exact held _ (by assumption) | exact held _ (Below.drew (by assumption)))
        (first
          | (go_at_call 32; refine (hbu _ (by first | exact hd | assumption)).mono ?_; rintro e wA ⟨⟨vA, rfl, hoA⟩, bA⟩; obtain ⟨ra, rc, rfl, hZA⟩ := OwnsS.zs hoA hbL; first | (have bAA : Below wr.heap.size wr wA := below_step hd bA) | (have bAA : Below wr.heap.size wr wA := below_step bB bA))
          | (go_at_call 33; refine (hnu _).mono ?_; rintro e wB ⟨rfl, hwB⟩; first | (have bB : Below wr.heap.size wr wB := by rw [hwB]; exact below_box hd _) | (have bBA : Below wA.heap.size wA wB := (by rw [hwB]; exact below_box (Below.refl _ _) _); have bBB : Below wr.heap.size wr wB := below_step bAA bBA; replace hZA := hZA.below bBA); clear hwB)
          | (go_at_call 23; refine (hpla _ _ _ (by first | exact hZA)).mono ?_; rintro e wP ⟨rfl, bP⟩; first | (have bPP : Below wr.heap.size wr wP := below_step bBB bP) | (have bPP : Below wr.heap.size wr wP := below_step bAA bP)))
      all_goals
        have hXP := hX.below bPP hX.lt bPP.size
        have hNP := hN.below bPP hN.lt bPP.size
        have hSP := hS.below bPP hS.lt bPP.size
        have hOP := hO.below bPP (Nat.le_refl _)
        have hBP := below_step hB bPP
        clear x0 x1 z0 z1 held hX hN hS hO hB hbu hnu hpla hoA bA bP bBA hZA
        obtain ⟨_, x0, x1, _⟩ := id hXP
        have p0 := hNP.cells k hkl
        have pf := hNP.froz k
        have hN9 : Nm (wP.setCell ⟨pb, k, none⟩ (.int .i64 (R t))) pb ps.length (P (t + 1)) := hNP.put k (R t) hkl (fun j _ => HST.out j)
        have hX9 := hXP.other (p := ⟨pb, k, none⟩) (show pb ≠ q by omega) (.int .i64 (R t))
        have hS9 := hSP.other (p := ⟨pb, k, none⟩) (show pb ≠ sb by omega) (.int .i64 (R t))
        have hO9 : Owns (pb + 1) _ _ os := ownsRow_setCell_below hOP (a := ⟨pb, k, none⟩) (Nat.lt_succ_self _) (.int .i64 (R t))
        have hB9 := hBP.setCell (p := ⟨pb, k, none⟩) hpb (.int .i64 (R t))
        have HN9 : Hid (_) := hN9
        clear hN9 hXP hSP hOP hBP hNP HST
        go_wp2
        go_roundw
        case rel => exact ⟨t + 1, by omega, by go_num, hX9, hO9, HN9.out, hS9, hB9⟩
        case measure => simp [intOf]; omega
    · have hte : t = os.length := by omega
      subst hte
      have hRr := hR2.below hB hR2.lt hB.size
      obtain ⟨_, x0, x1, _⟩ := id hX
      obtain ⟨_, r0, r1, fr⟩ := id hRr
      have fr0 := fr 0
      have fr1 := fr 1
      obtain ⟨_, d0, d1, _⟩ := (hRr.put0 (.slice oa os.length oc)).put1 (.slice (some ⟨pb, 0, none⟩) ps.length ps.length)
      have hpn : w.heap.size + 1 ≠ pb := by omega
      have T1 : Owns (pb + 1) _ _ os := ownsRow_setCell_below (ownsRow_setCell_below hO (a := ⟨w.heap.size + 1, 0, none⟩) (by show w.heap.size + 1 < pb + 1; omega) (.slice oa os.length oc)) (a := ⟨w.heap.size + 1, 1, none⟩) (by show w.heap.size + 1 < pb + 1; omega) (.slice (some ⟨pb, 0, none⟩) ps.length ps.length)
      have T2 := (hN.other (p := ⟨w.heap.size + 1, 0, none⟩) hpn (.slice oa os.length oc)).other (p := ⟨w.heap.size + 1, 1, none⟩) hpn (.slice (some ⟨pb, 0, none⟩) ps.length ps.length)
      have T3 := ((below_step hb2 hB).setCell (p := ⟨w.heap.size + 1, 0, none⟩) (Nat.le_succ _) (.slice oa os.length oc)).setCell (p := ⟨w.heap.size + 1, 1, none⟩) (Nat.le_succ _) (.slice (some ⟨pb, 0, none⟩) ps.length ps.length)
      have HT1 : Hid (_) := T1
      have HT2 : Hid (_) := T2
      have HT3 : Hid (_) := T3
      clear T1 T2 T3 hX hO hN hS hB hRr
      go_wp2
      exact bodyPost_ret (v := .tuple #[.agg #[.slice oa os.length oc, .slice (some ⟨pb, 0, none⟩) ps.length ps.length], .int .i64 0]) (by simp [results, Tryz.results8, go_sem, d0, d1]) rfl (HOE.out _ HT1.out HT2.out HT3.out)
theorem compile_any (W H S O : Int) (a : Option Addr) (len cap : Nat) (ps : List Ps) (w : World) (hp : Passes w a len ps) :
    Calls Tryz.prog 8 #[.agg #[.int .i64 W, .int .i64 H, .int .i64 S, .int .i64 O, .slice a len cap]] w (ToldComp w ⟨W, H, S, O, ps⟩) := by
  by_cases hE : frameE ⟨W, H, S, O, ps⟩ = 0
  · exact compile_ok W H S O a len cap ps w hp hE
  · exact compile_err W H S O a len cap ps w hp hE
end Go.Proofs.YtihliofhhjjeaaaGreat
namespace Go.Proofs.YtihliofhhjjeaaaGreat
open Go.RowKit Im Go.Maps
abbrev cOs (f : Fr) : List Int := cOrd (gpOf f) f.ps.length
abbrev cPs (f : Fr) : List Int := cPl (gpOf f)
theorem comp_plan {f : Fr} (hE : frameE f = 0) : planE f (cOs f) (cPs f) = 0 ∧ (cPs f).length = f.ps.length := by
  have hG := gp_right hE
  have hC : Closed (gpOf f) := gp_closed hE
  have hO : Ord (gpOf f) (cOs f) (cPs f) := cPl_ord hG hC
  exact ⟨by unfold planE; rw [if_pos hE, if_pos (ord_iff.2 hO)], hO.len⟩
theorem renderP_E (f : Fr) : (renderP f).E = frameE f := by
  unfold renderP
  by_cases h : frameE f = 0
  · rw [if_pos h, h]
    obtain ⟨hb, hfirst, hs⟩ := frameE_zero h
    have hl : shownP f < f.ps.length := (wrt_bd f.ps f.ps.length f.O).2
    exact (pics_right hb hfirst (shownP f).toNat (by omega)).1
  · rw [if_neg h]; rfl
end Go.Proofs.YtihliofhhjjeaaaGreat
namespace Go.Proofs.YtihliofhhjjeaaaGreat
open Go.RowKit Im Go.Maps
set_option maxHeartbeats 2000000 in
theorem samePlans_any {oa oa' pa pa' : Option Addr} {ol ol' pn pn' : Nat} (oc oc' pc pc' : Nat) {os os' pl pl' : List Int} {w : World} (h1 : Ints 0 w oa ol os) (h1' : Ints 0 w oa' ol' os') (h2 : Ints 0 w pa pn pl) (h2' : Ints 0 w pa' pn' pl') :
    Calls Tryz.prog 16 #[.agg #[.slice oa ol oc, .slice pa pn pc], .agg #[.slice oa' ol' oc', .slice pa' pn' pc']] w fun e w' => e = .returned (.bool (decide (os = os') && decide (pl = pl'))) ∧ Below w.heap.size w w' := by
  have hb0 := below_box (below_box (Below.refl w.heap.size w) (.cells #[.slice oa ol oc, .slice pa pn pc] 27)) (.cells #[.slice oa' ol' oc', .slice pa' pn' pc'] 27)
  have hA := (PlBox.new w (.slice oa ol oc) (.slice pa pn pc) 27).below ((Below.refl _ _).alloc (Nat.le_refl _) (.cells #[.slice oa' ol' oc', .slice pa' pn' pc'] 27))
  have hB := PlBox.new (w.alloc (.cells #[.slice oa ol oc, .slice pa pn pc] 27)) (.slice oa' ol' oc') (.slice pa' pn' pc') 27
  rw [World.size_alloc] at hB
  have hs1 := fun wx (h : Below w.heap.size w wx) => sameInts_any oc oc' (h1.below (Nat.le_refl _) h) (h1'.below (Nat.le_refl _) h)
  have hs2 := fun wx (h : Below w.heap.size w wx) => sameInts_any pc pc' (h2.below (Nat.le_refl _) h) (h2'.below (Nat.le_refl _) h)
  generalize decide (os = os') = x at hs1 ⊢
  generalize decide (pl = pl') = y at hs2 ⊢
  go_enter Tryz.func16, Tryz.ntmps16
  go_wp2_with fail
  refine (hs1 _ hb0).mono ?_
  rintro e w1 ⟨rfl, b1⟩
  have hA1 := hA.below b1
  have hB1 := hB.below b1
  have hb1 := below_step hb0 b1
  obtain ⟨_, a0, a1⟩ := id hA1
  obtain ⟨_, c0, c1⟩ := id hB1
  cases x with
  | false =>
    go_wp2
    go_ret
    exact ⟨rfl, hb1⟩
  | true =>
    go_wp2_with fail
    refine (hs2 _ hb1).mono ?_
    rintro e w2 ⟨rfl, b2⟩
    go_wp2
    go_ret
    exact ⟨rfl, below_step hb1 b2⟩
theorem zs_two (w : World) (x0 y0 x1 y1 : Int) (t : TypeId) : Zs (w.alloc (.cells #[.int .i64 x0, .int .i64 y0, .int .i64 x1, .int .i64 y1] t)) (some ⟨w.heap.size, 0, none⟩) 2 [(x0, y0), (x1, y1)] := by
  refine ⟨rfl, by omega, .inr ⟨w.heap.size, 0, rfl, by simp, fun j hj => ?_⟩⟩
  rw [World.cell?_alloc_new, World.cell?_alloc_new]
  match j, hj with
  | 0, _ => exact ⟨rfl, rfl⟩
  | 1, _ => exact ⟨rfl, rfl⟩
theorem f_p2 : placeP [(0, 3), (6, 9)] 2 = 4 := by decide
theorem f_e2 : placeE [(0, 3), (6, 9)] 2 = 0 := by decide
theorem f_p3 : placeP [(0, 3), (6, 9)] 3 = 10 := by decide
theorem f_e3 : placeE [(0, 3), (6, 9)] 3 = 0 := by decide
theorem f_ord : cOrd (gpOf glowF) 5 = [0, 3, 4] := by decide
theorem f_pl : cPl (gpOf glowF) = [0, -1, -1, 8, 16] := by decide
theorem f_e : frameE glowF = 0 := by decide
theorem Nm.list {w : World} {b n : Nat} {l : List Int} (h : Nm w b n (fun k => l.getD k 0)) (hl : l.length = n) (hn : n ≤ 4096) : Ints 0 w (some ⟨b, 0, none⟩) n l :=
  ⟨hl, by omega, .inr ⟨b, 0, rfl, Nat.zero_le _, h.lt, fun j hj => by rw [Nat.zero_add]; exact h.cells j hj⟩, fun h0 => absurd h0 (Nat.lt_irrefl 0)⟩
set_option maxHeartbeats 8000000 in
theorem fitBegun_any (w : World) : Calls Tryz.prog 5 #[] w fun e w' => e = .returned (.bool true) ∧ Below w.heap.size w w' := by
  have hp2 := fun wx a cap h => place_any (a := a) (len := 2) (w := wx) (L := [(0, 3), (6, 9)]) cap h 2
  have hp3 := fun wx a cap h => place_any (a := a) (len := 2) (w := wx) (L := [(0, 3), (6, 9)]) cap h 3
  have hco := fun a cap wx hp => compile_any 4 2 3 1 a 5 cap glowP wx hp
  unfold ToldPl at hp2 hp3
  rw [f_p2, f_e2] at hp2
  rw [f_p3, f_e3] at hp3
  go_enter Tryz.func5, Tryz.ntmps5
  go_wp2_with fail
  refine (hp2 _ _ _ (zs_two w 0 3 6 9 _)).mono ?_
  rintro e w1 ⟨rfl, b1⟩
  have hb1 := (below_box (Below.refl w.heap.size w) _).trans (b1.mono (by simp))
  go_wp2_with fail
  refine (hp3 _ _ _ (zs_two w1 0 3 6 9 _)).mono ?_
  rintro e w2 ⟨rfl, b2⟩
  have hb2 := below_step hb1 ((below_box (Below.refl w1.heap.size w1) _).trans (b2.mono (by simp)))
  clear hb1 b1 b2 hp2 hp3
  go_wp2_with fail
  refine (glow_any _).mono ?_
  rintro e w3 ⟨g3, rfl, hp3, b3⟩
  have hb3 := below_step hb2 b3
  go_wp2_with fail
  refine (hco _ _ _ hp3).mono ?_
  rintro e w4 ⟨⟨_, v, pb, rfl, hpb, hO, hN⟩ | ⟨h0, _⟩, b4⟩
  case inr => exact absurd f_e h0
  have hb4 := below_step hb3 b4
  have hO' : Owns (pb + 1) w4 v [0, 3, 4] := by have e := f_ord; rw [← e]; exact hO
  have hN' : Ints 0 w4 (some ⟨pb, 0, none⟩) 5 [0, -1, -1, 8, 16] := by
    have e := f_pl
    rw [← e]
    exact Nm.list hN (by rw [e]; rfl) (by decide)
  obtain ⟨oa, oc, rfl, hI⟩ := hO'.ints (by decide)
  have hI0 := hI.mono (Nat.zero_le _)
  clear hO hO' hN hI hp3 b3 b4 hb2 hb3 hco
  have i1 := ints_new (w := w4.alloc (.cells #[.slice oa 3 oc, .slice (some ⟨pb, 0, none⟩) 5 5] 27)) (ps := [0, 3, 4]) (by decide) 3
  rw [World.size_alloc] at i1
  have i2 := ints_new (w := (w4.alloc (.cells #[.slice oa 3 oc, .slice (some ⟨pb, 0, none⟩) 5 5] 27)).alloc (.cells (([0, 3, 4] : List Int).map (Value.int .i64)).toArray 3)) (ps := [0, -1, -1, 8, 16]) (by decide) 3
  rw [World.size_alloc, World.size_alloc] at i2
  have bX := below_box (below_box (below_box (Below.refl w4.heap.size w4) (.cells #[.slice oa 3 oc, .slice (some ⟨pb, 0, none⟩) 5 5] 27)) (.cells (([0, 3, 4] : List Int).map (Value.int .i64)).toArray 3)) (.cells (([0, -1, -1, 8, 16] : List Int).map (Value.int .i64)).toArray 3)
  have hsp := samePlans_any oc 3 5 5 (hI0.below (Nat.le_refl _) bX) (i1.below (Nat.le_refl _) ((Below.refl _ _).alloc (Nat.le_refl _) (.cells (([0, -1, -1, 8, 16] : List Int).map (Value.int .i64)).toArray 3))) (hN'.below (Nat.le_refl _) bX) i2
  have hb5 := below_step hb4 bX
  clear i1 i2 bX hN' hI0
  go_wp2_with fail
  refine hsp.mono ?_
  rintro e w5 ⟨rfl, b5⟩
  go_wp2
  go_ret
  exact ⟨rfl, below_step hb5 b5⟩
end Go.Proofs.YtihliofhhjjeaaaGreat
namespace Go.Proofs.YtihliofhhjjeaaaGreat
open Go.RowKit Im Go.Maps
theorem ints_lt {base : Nat} {w : World} {b off len : Nat} {ps : List Int} (h : Ints base w (some ⟨b, off, none⟩) len ps) {k : Nat} (hk : k < ps.length) : b < w.heap.size := by
  rcases h.cells with e | ⟨b', off', ha, _, hl, _⟩
  · rw [e] at hk; cases hk
  · injection ha with ha
    injection ha with h1 _
    rw [h1]; exact hl
theorem ints_base {base : Nat} {w : World} {b off len : Nat} {ps : List Int} (h : Ints base w (some ⟨b, off, none⟩) len ps) {k : Nat} (hk : k < ps.length) : base ≤ b := by
  rcases h.cells with e | ⟨b', off', ha, hl, _, _⟩
  · rw [e] at hk; cases hk
  · injection ha with ha
    injection ha with h1 _
    rw [h1]; exact hl
def ToldCR (w : World) (f : Fr) (e : Ending) (w' : World) : Prop :=
  (∃ v pb, e = .returned (.agg #[v, .slice (some ⟨pb, 0, none⟩) f.ps.length f.ps.length]) ∧ w.heap.size ≤ pb ∧ Owns (pb + 1) w' v (cOrd (gpOf f) f.ps.length) ∧ Nm w' pb f.ps.length (fun k => (cPl (gpOf f)).getD k 0)) ∧ Below w.heap.size w w'
set_option maxHeartbeats 8000000 in
theorem compileOf_any (W H S O : Int) (a : Option Addr) (len cap : Nat) (ps : List Ps) (w : World) (hp : Passes w a len ps) (hE : frameE ⟨W, H, S, O, ps⟩ = 0) :
    Calls Tryz.prog 17 #[.agg #[.int .i64 W, .int .i64 H, .int .i64 S, .int .i64 O, .slice a len cap]] w (ToldCR w ⟨W, H, S, O, ps⟩) := by
  obtain rfl := hp.leng
  obtain ⟨i0, hi, hz0, hz1, hz2⟩ := info_parts Tryz.info3
  obtain ⟨j0, hj, hy0, hy1, hy2⟩ := info_parts Tryz.infoSpan
  have hb0 := below_box (below_box (Below.refl w.heap.size w) (.cells #[.int .i64 W, .int .i64 H, .int .i64 S, .int .i64 O, .slice a ps.length cap] 24)) (.cells #[.slice none 0 0, .slice none 0 0] 27)
  have hR0 := WBox.new (w.alloc (.cells #[.int .i64 W, .int .i64 H, .int .i64 S, .int .i64 O, .slice a ps.length cap] 24)) (.slice none 0 0) (.slice none 0 0) 27
  have hF0 := (FBox.new w W H S O a ps.length cap).alloc (.cells #[.slice none 0 0, .slice none 0 0] 27)
  rw [World.size_alloc] at hR0
  have hcf := checkFrame_any W H S O a ps.length cap ps _ (hp.below hb0)
  have hG := gp_right hE
  have hN12 : ps.length ≤ 12 := hG.hN.2
  obtain ⟨P, R, hCm⟩ := comp_any hE (z := fun _ => -1) (fun _ => by omega) (fun _ _ _ => rfl)
  have HCO : Hid (∀ k, cOrd (gpOf ⟨W, H, S, O, ps⟩) (k + 1) = if keptG ps ps.length (shownP ⟨W, H, S, O, ps⟩) ps.length k = true then cOrd (gpOf ⟨W, H, S, O, ps⟩) k ++ [(k : Int)] else cOrd (gpOf ⟨W, H, S, O, ps⟩) k) := fun _ => rfl
  have HC0 : Hid (cOrd (gpOf ⟨W, H, S, O, ps⟩) 0 = []) := rfl
  have HCL : Hid (∀ k, (cOrd (gpOf ⟨W, H, S, O, ps⟩) k).length ≤ k) := fun k => cOrd_len _ k
  have hsO := fun wx hp oa oc pv hO => spansOwn_any W H S O a ps.length cap ps wx hp oa (cOrd (gpOf ⟨W, H, S, O, ps⟩) ps.length).length oc pv (cOrd (gpOf ⟨W, H, S, O, ps⟩) ps.length) hO hE hCm.inN hCm.ol
  have HT : Hid (∀ v pb w', w.heap.size ≤ pb → Owns (pb + 1) w' v (cOrd (gpOf ⟨W, H, S, O, ps⟩) ps.length) → Nm w' pb ps.length (P (cOrd (gpOf ⟨W, H, S, O, ps⟩) ps.length).length) → Below w.heap.size w w' → ToldCR w ⟨W, H, S, O, ps⟩ (.returned (.agg #[v, .slice (some ⟨pb, 0, none⟩) ps.length ps.length])) w') :=
    fun v pb w' h0 h1 h2 h3 => ⟨⟨_, pb, rfl, h0, h1, h2.congr (fun k hk => (hCm.pe k hk).symm)⟩, h3⟩
  go_enter Tryz.func17, Tryz.ntmps17
  go_wp2_with fail
  refine hcf.mono ?_
  clear hcf
  rintro e w1 ⟨⟨v1, rfl, hZ⟩, b1⟩
  rw [hE, if_pos rfl] at hZ
  obtain ⟨za, zc, rfl, hZs⟩ := hZ.zs (by rw [szs_length]; exact hN12)
  dsimp only at hZs ⊢
  rw [szs_length] at hZs ⊢
  have hb1 := below_step hb0 b1
  have hF1 := hF0.below b1
  have hR1 := hR0.below b1 hR0.lt b1.size
  have hke := keptOf_any W H S O a ps.length cap ps _ (hp.below hb1) hE
  obtain ⟨_, g0, g1, g2, g3, g4⟩ := id hF1
  rw [hE]
  go_wp2_with fail
  refine hke.mono ?_
  clear hke
  rintro e w2 ⟨⟨b, rfl, _, hBl⟩, b2⟩
  have hb2 := below_step hb1 b2
  have hF2 := hF1.below b2
  have hR2 := hR1.below b2 hR1.lt b2.size
  have hZ2 := hZs.below b2
  have hp2 := hp.below hb2
  have hs2 : w.heap.size + 2 ≤ w2.heap.size := by have h1 := b1.size; have h2 := b2.size; rw [World.size_alloc, World.size_alloc] at h1; omega
  clear g0 g1 g2 g3 g4 hF0 hF1 hR0 hR1 hb0 hb1 b1 b2 hZ hZs hp hG
  generalize szs ⟨W, H, S, O, ps⟩ ps.length = zs at hCm hZ2
  generalize keptG ps ps.length (shownP ⟨W, H, S, O, ps⟩) ps.length = kp at HCO hBl
  generalize spanP (gpOf ⟨W, H, S, O, ps⟩) (cOrd (gpOf ⟨W, H, S, O, ps⟩) ps.length) = sp at hCm hsO
  generalize cOrd (gpOf ⟨W, H, S, O, ps⟩) = co at *
  go_upto_region 4 with (at_make; refine wpList_make_full _ rfl _ _ 25 rfl w2.heap.size 3 i0 (.int .i64 0) 1 Tryz.underlying25 hi hz0 hz1 .i64 .i64 _ _ ps.length rfl rfl (by simp) (by simp) (by rw [hz2]; omega) (by unfold maxLen; omega) (Nat.le_refl _) ?_; intro wM hown hgrow)
  have hbM : Below w2.heap.size w2 wM := (Below.refl _ _).grown hgrow (Nat.le_refl _) (fun k hk => by cases hk)
  have hlM := (World.ownsRow.lt (w := wM) hown w2.heap.size rfl).2
  have hKM := Nm.made hown hlM
  clear hown hgrow
  have hX1 := WBox.new wM (.slice none 0 0) (.slice (some ⟨w2.heap.size, 0, none⟩) ps.length ps.length) 27
  have bA : Below wM.heap.size wM (wM.alloc (.cells #[.slice none 0 0, .slice (some ⟨w2.heap.size, 0, none⟩) ps.length ps.length] 27)) := (Below.refl _ _).alloc (Nat.le_refl _) _
  have hK1 := hKM.below bA hlM bA.size
  have hB1 := below_step hbM bA
  have hs1 : (wM.alloc (.cells #[.slice none 0 0, .slice (some ⟨w2.heap.size, 0, none⟩) ps.length ps.length] 27)).heap.size = wM.heap.size + 1 := by simp
  clear hKM bA hbM
  generalize wM.alloc (.cells #[.slice none 0 0, .slice (some ⟨w2.heap.size, 0, none⟩) ps.length ps.length] 27) = w3 at hX1 hK1 hB1 hs1 ⊢
  generalize wM.heap.size = q at hlM hX1 hs1 ⊢
  clear wM
  have hpb2 : w.heap.size + 2 ≤ w2.heap.size := hs2
  obtain ⟨pb, hpe⟩ : ∃ x, x = w2.heap.size := ⟨_, rfl⟩
  rw [← hpe] at hlM hX1 hK1 hpb2 ⊢
  have hpge : w2.heap.size ≤ pb := by omega
  clear hpe
  go_wp2
  go_loopw [7] (fun i wr => ∃ (k : Nat) (v : Value), k ≤ ps.length ∧ i = .int .i64 k ∧ Owns (q + 1) wr v (co k) ∧ WBox wr q v (.slice (some ⟨pb, 0, none⟩) ps.length ps.length) ∧ Nm wr pb ps.length (fun j => if j < k then -1 else 0) ∧ Below w2.heap.size w2 wr ∧ q + 1 ≤ wr.heap.size) (fun i _ => ps.length - (intOf i).toNat)
  case atStart => exact ⟨0, _, Nat.zero_le _, rfl, by rw [HC0.out]; exact World.ownsRow_nil _ _ _ _, hX1, hK1.congr (fun j _ => by simp), hB1, by omega⟩
  case round =>
    obtain ⟨k, v, hk, rfl, hown, hX, hK, hbr, hsz⟩ := hrel
    clear hX1 hK1 hB1 hs1
    obtain ⟨va, vc, rfl⟩ := owns_slice hown
    have hcl := HCL.out k
    by_cases hlt : k < ps.length
    · have hkI : (k : Int) < (ps.length : Int) := by omega
      have hk0 : (0 : Int) ≤ (k : Int) := by omega
      have hq1 : pb ≠ q := by omega
      have hbl : b ≠ pb := by have := hBl.lt; omega
      have HC : Hid (_) := HCO.out k
      have p0 := hK.cells k hlt
      have pf := hK.froz k
      obtain ⟨_, x0, x1, fx⟩ := id hX
      have fx0 := fx 0
      have hK' : Nm (wr.setCell ⟨pb, k, none⟩ (.int .i64 (-1))) pb ps.length (fun j => if j < k + 1 then -1 else 0) := hK.put k (-1) hlt (fun j hj => by
        by_cases e : k = j
        · subst e; simp
        · rw [if_neg e]
          by_cases h : j < k
          · rw [if_pos h, if_pos (by omega)]
          · rw [if_neg h, if_neg (by omega)])
      have hX' := hX.other (p := ⟨pb, k, none⟩) hq1 (.int .i64 (-1))
      have hO' : Owns (q + 1) _ _ (co k) := ownsRow_setCell_below hown (a := ⟨pb, k, none⟩) (by show pb < q + 1; omega) (.int .i64 (-1))
      have hB' := hbr.setCell (p := ⟨pb, k, none⟩) (by show w2.heap.size ≤ pb; omega) (.int .i64 (-1))
      have g0 := (hBl.below hB' hBl.lt hB'.size).cells k hlt
      have hs' : q + 1 ≤ (wr.setCell ⟨pb, k, none⟩ (.int .i64 (-1))).heap.size := by rw [World.size_setCell]; exact hsz
      clear hK hX hown hbr fx fx0 hsz
      go_upto_region 8 with fail
      generalize wr.setCell ⟨pb, k, none⟩ (.int .i64 (-1)) = ws at *
      clear x0 x1 p0 pf
      obtain ⟨_, x0, x1, fx⟩ := id hX'
      have fx0 := fx 0
      generalize kp k = y at g0 HC
      cases y with
      | true =>
        have HC2 : Hid (co (k + 1) = co k ++ [(k : Int)]) := HC.out.trans (if_pos rfl)
        clear HC
        generalize co k = os at *
        go_wp2_with (at_builtin; refine wpList_append_own _ rfl _ _ 25 rfl (q + 1) 3 i0 (.int .i64 0) 1 8 Tryz.underlying25 hi hz0 hz1 hz2 rfl (by decide) _ _ _ rfl (World.ownsRow.alloc hO' _) ⟨ws.heap.size, 0, none⟩ 1 1 [.int .i64 k] rfl rfl (cell_one_new _ _ _) (by intro u hu; simp at hu; subst hu; rfl) (by unfold maxLen; omega) (by omega) (by simp; omega) ?_; intro v' w9 hown9 hgrow9 _; obtain ⟨a9, c9, hv9⟩ := owns_slice hown9; subst hv9; have RR := Owns.push (x := (k : Int)) hO' (Below.refl (q + 1) ws) hs' hown9 rfl hgrow9; have hX9 := hX'.below RR.2 (Nat.lt_succ_self _) RR.2.size; obtain ⟨_, y0, y1, fy⟩ := id hX9; have fy0 := fy 0)
        have hs9 := RR.2.size
        have hBq := hB'.size
        go_roundw
        case rel => exact ⟨k + 1, _, by omega, by go_num, by rw [HC2.out]; exact ownsRow_setCell_below RR.1 (a := ⟨q, 0, none⟩) (Nat.lt_succ_self _) _, hX9.put0 _, (hK'.below RR.2 (by omega) RR.2.size).other (p := ⟨q, 0, none⟩) (Ne.symm hq1) _, (hB'.trans (RR.2.mono (by omega))).setCell (p := ⟨q, 0, none⟩) (by show w2.heap.size ≤ q; omega) _, by rw [World.size_setCell]; omega⟩
        case measure => simp [intOf]; omega
      | false =>
        have HC2 : Hid (co (k + 1) = co k) := HC.out.trans (if_neg (by decide))
        clear HC
        go_wp2
        go_roundw
        case rel => exact ⟨k + 1, _, by omega, by go_num, by rw [HC2.out]; exact hO', hX', hK', hB', hs'⟩
        case measure => simp [intOf]; omega
    · have hke : k = ps.length := by omega
      subst hke
      have hN0 : Nm wr pb ps.length (P 0) := hK.congr (fun j hj => by rw [if_pos hj]; exact hCm.p0 j)
      have hoc := owns_cap hown
      clear HCO HC0 HCL hK hcl
      generalize co ps.length = os at *
      have hol := hCm.ol
      obtain ⟨oa', oc', hoe, hI⟩ := hown.ints (by omega)
      injection hoe with e1 _ e2
      subst e1 e2
      have hFr := hF2.below hbr
      have hsr := hsO wr (hp2.below hbr) va vc (.slice (some ⟨pb, 0, none⟩) ps.length ps.length) (hI.mono (Nat.zero_le _))
      clear hsO
      obtain ⟨_, g0, g1, g2, g3, g4⟩ := id hFr
      obtain ⟨_, x0, x1, _⟩ := id hX
      go_wp2_with fail
      refine hsr.mono ?_
      clear hsr g0 g1 g2 g3 g4 x0 x1
      rintro e w5 ⟨⟨vs, rfl, hSp⟩, b5⟩
      obtain ⟨sa, sc, rfl⟩ := owns_slice hSp
      have hX5 := hX.below b5 hX.lt b5.size
      have hO5 := hown.below b5 (Nat.le_refl _)
      have hN5 := hN0.below b5 hN0.lt b5.size
      have hB5 := below_step hbr b5
      have hq5 : q + 1 ≤ w5.heap.size := Nat.le_trans hsz b5.size
      have hSL : ((List.range ps.length).map sp).length = ps.length := by simp
      have HSG : Hid (∀ k, k < ps.length → (((List.range ps.length).map sp).getD k Sz.zero).2 = (sp k).2) := fun k hk => by simp [List.getD, hk]
      generalize (List.range ps.length).map sp = SL at *
      rw [hSL]
      unfold OwnsS at hSp
      rw [hSL] at hSp
      clear hX hown hN0 hbr hFr hF2 hp2 b5 hI
      generalize wr.heap.size = s5 at *
      have HCM : Hid (_) := hCm
      clear hCm
      dsimp only
      go_wp2
      go_loopw [9] (fun i wr => ∃ t : Nat, t ≤ os.length ∧ i = .int .i64 t ∧ Owns (q + 1) wr (.slice va os.length vc) os ∧ WBox wr q (.slice va os.length vc) (.slice (some ⟨pb, 0, none⟩) ps.length ps.length) ∧ Nm wr pb ps.length (P t) ∧ wr.ownsRow s5 58 2 (.slice sa ps.length sc) ps.length (zcells SL) ∧ Below w2.heap.size w2 wr ∧ q + 1 ≤ wr.heap.size) (fun i _ => os.length - (intOf i).toNat)
      case atStart => exact ⟨0, Nat.zero_le _, rfl, hO5, hX5, hN5, hSp, hB5, hq5⟩
      case round =>
        obtain ⟨t, ht, rfl, hO, hX, hN, hS, hB, hq⟩ := hrel
        clear hX5 hO5 hN5 hSp hB5 hq5
        obtain ⟨wO, e0⟩ : ∃ z, z = wr := ⟨_, rfl⟩
        subst e0
        obtain ⟨_, x0, x1, _⟩ := id hX
        by_cases hlt : t < os.length
        · obtain ⟨oa', oc', hoe, hI⟩ := hO.ints (by omega)
          injection hoe with e1 _ e2
          subst e1 e2
          have hSz : Zs wO sa ps.length SL := by
            have h1 : OwnsS s5 wO (.slice sa ps.length sc) SL := by unfold OwnsS; rw [hSL]; exact hS
            obtain ⟨a', c', e', h'⟩ := h1.zs (by omega)
            injection e' with e1 _ _
            subst e1
            rw [hSL] at h'
            exact h'
          have hZr := hZ2.below hB
          obtain ⟨ob, oo, rfl, hox⟩ := hI.nth hlt
          have HST : Hid (_) := HCM.out.step t hlt
          have HBE : Hid (_) := HCM.out.busyE t hlt
          have HBP : Hid (_) := HCM.out.busyP t hlt
          have HBL : Hid (∀ m, (busyF sp (fun k => areaZ (zs.getD k Sz.zero)) (P t) os t m).length ≤ m) := fun m => busyF_len _ _ _ _ _ m
          have HB0 : Hid (OwnsS wO.heap.size wO (.slice none 0 0) (busyF sp (fun k => areaZ (zs.getD k Sz.zero)) (P t) os t 0)) := World.ownsRow_nil _ _ _ _
          have HBS : Hid (∀ m, busyF sp (fun k => areaZ (zs.getD k Sz.zero)) (P t) os t (m + 1) = if (t : Int) ≤ (sp (os.getD m 0).toNat).2 then busyF sp (fun k => areaZ (zs.getD k Sz.zero)) (P t) os t m ++ [(P t (os.getD m 0).toNat, P t (os.getD m 0).toNat + (zs.getD (os.getD m 0).toNat Sz.zero).1 * (zs.getD (os.getD m 0).toNat Sz.zero).2 - 1)] else busyF sp (fun k => areaZ (zs.getD k Sz.zero)) (P t) os t m) := fun _ => rfl
          generalize busyF sp (fun k => areaZ (zs.getD k Sz.zero)) (P t) os t = bf at *
          have HPB : Hid (_) := HCM.out.pb t ht
          go_wp2
          clear x0 x1
          go_loopw [10, 11] (fun v j wr => ∃ m : Nat, m ≤ t ∧ j = .int .i64 m ∧ OwnsS wO.heap.size wr v (bf m) ∧ Below wO.heap.size wO wr) (fun _ j _ => t - (intOf j).toNat)
          case atStart => exact ⟨0, Nat.zero_le _, rfl, HB0.out, Below.refl _ _⟩
          case round =>
            obtain ⟨m, hm, rfl, hown, hBi⟩ := hrel
            have hbl := HBL.out m
            obtain ⟨va', vc', rfl⟩ := owns_slice hown
            have hsi := hBi.size
            have hXi := hX.below hBi hX.lt hBi.size
            obtain ⟨_, x0, x1, _⟩ := id hXi
            by_cases hmt : m < t
            · obtain ⟨ob', oo', hoe, hom⟩ := (hI.below (Nat.le_refl _) hBi).nth (show m < os.length by omega)
              injection hoe with hoe
              injection hoe with h1 h2
              subst h1 h2
              have hor : 0 ≤ os.getD m 0 ∧ os.getD m 0 < (ps.length : Int) := HCM.out.inN _ (getD_mem (show m < os.length by omega) 0)
              have HB1 : Hid (_) := HBS.out m
              generalize os.getD m 0 = p at *
              obtain ⟨k, rfl⟩ := Int.eq_ofNat_of_zero_le hor.1
              rw [Int.toNat_natCast] at HB1
              have hkl : k < ps.length := by omega
              have hkI : (k : Int) < (ps.length : Int) := by omega
              have hk0 : (0 : Int) ≤ (k : Int) := by omega
              have hmI : (m : Int) < (t : Int) := by omega
              have hmL : (m : Int) < (os.length : Int) := by omega
              have hm0 : (0 : Int) ≤ (m : Int) := by omega
              obtain ⟨sb, so, rfl, hsl, s0, s1⟩ := (hSz.below hBi).nth hkl
              rw [HSG.out k hkl] at s1
              generalize (sp k).2 = sl at s1 HB1
              clear s0
              by_cases hs : (t : Int) ≤ sl
              · obtain ⟨zb, zo, rfl, hzl, z0, z1⟩ := hZr.nth hkl
                have hzb := HCM.out.sz k hkl
                have hpk := HPB.out k
                have HB2 : Hid (_) := HB1.out.trans (if_pos hs)
                have p0 := hN.cells k hkl
                generalize (zs.getD k Sz.zero).1 = zx at *
                generalize (zs.getD k Sz.zero).2 = zy at *
                generalize P t k = pk at *
                have hxy : 0 ≤ zx * zy ∧ zx * zy ≤ 256 := ⟨Int.mul_nonneg hzb.1.1 hzb.2.1, Int.mul_le_mul hzb.1.2 hzb.2.2 hzb.2.1 (by omega)⟩
                have har := fun wx => area_any zx zy wx (by rw [IntKind.wrap_i64]; omega)
                generalize zx * zy = ar at *
                have hw1 : IntKind.i64.wrap (pk + ar) = pk + ar := by rw [IntKind.wrap_i64]; omega
                have hw2 : IntKind.i64.wrap (pk + ar - 1) = pk + ar - 1 := by rw [IntKind.wrap_i64]; omega
                have hNl := hN.lt
                have hXl := hX.lt
                have held : ∀ wx, Below wO.heap.size wO wx → wx.cell? ⟨q, 1, none⟩ = some (.slice (some ⟨pb, 0, none⟩) ps.length ps.length) ∧ wx.cell? ⟨pb, k, none⟩ = some (.int .i64 pk) ∧ wx.cell? ⟨zb, zo + k * 2, none⟩ = some (.int .i64 zx) ∧ wx.cell? ⟨zb, zo + k * 2 + 1, none⟩ = some (.int .i64 zy) := fun wx h =>
                  ⟨(h.cell (p := ⟨q, 1, none⟩) hXl).trans hX.c1, (h.cell (p := ⟨pb, k, none⟩) hNl).trans p0, (h.cell (p := ⟨zb, zo + k * 2, none⟩) hzl).trans z0, (h.cell (p := ⟨zb, zo + k * 2 + 1, none⟩) hzl).trans z1⟩
                have hd0 := hBi.drew
                have hd := (Below.refl wr.heap.size wr).drew
                generalize bf m = L at *
                go_upto_region 20 with fail
                go_region_held3 (fun wx => wx.cell? ⟨q, 1, none⟩ = some (.slice (some ⟨pb, 0, none⟩) ps.length ps.length) ∧ wx.cell? ⟨pb, k, none⟩ = some (.int .i64 pk) ∧ wx.cell? ⟨zb, zo + k * 2, none⟩ = some (.int .i64 zx) ∧ wx.cell? ⟨zb, zo + k * 2 + 1, none⟩ = some (.int .i64 zy))
                  (first | exact held _ hd0 | exact held _ bAO | exact held _ (bAO.alloc bAO.size _) | exact held _ RR.2 | exact held _ hBi)
                  (first
                    | (go_at_call 47; refine (har _).mono ?_; rintro e wA ⟨rfl, bA⟩; have bAA : Below wr.heap.size wr wA := below_step hd bA; have bAO : Below wO.heap.size wO wA := below_step hd0 bA)
                    | ((refine step_append_lies _ (by rfl) _ _ _ (by rfl) wO.heap.size 58 j0 _ 2 16 Tryz.underlying59 hj hy0 hy1 hy2 rfl (by omega) (.slice va' L.length vc') L.length (zcells L) (by rfl) (World.ownsRow.alloc (ownsRow_below hown bAA (Nat.le_refl _)) _) ⟨wA.heap.size, 0, none⟩ 1 1 [.int .i64 pk, .int .i64 (pk + ar - 1)] (by rfl) rfl (cell_two_new _ _ _ _) (by intro u hu; simp at hu; rcases hu with rfl | rfl <;> rfl) (by omega) (by unfold maxLen; omega) (by omega) (by have := bAA.size; simp; omega) (wA.heap.size + 1) (by simp) ?_; intro g cap9 w9 hown9 hgrow9 hat hlt9; have RR := OwnsS.push (z := (pk, pk + ar - 1)) (ownsRow_below hown bAA (Nat.le_refl _)) (hBi.trans (bAA.mono hsi)) (Nat.le_trans hsi bAA.size) hown9 rfl hgrow9)))
                all_goals
                  go_wp2
                  go_roundw
                  case rel => exact ⟨m + 1, by omega, by go_num, by rw [HB2.out]; exact RR.1, RR.2⟩
                  case measure => simp [intOf]; omega
              · have HB2 : Hid (_) := HB1.out.trans (if_neg hs)
                go_wp2
                go_roundw
                case rel => exact ⟨m + 1, by omega, by go_num, by rw [HB2.out]; exact hown, hBi⟩
                case measure => simp [intOf]; omega
            · have hmte : m = t := by omega
              subst hmte
              have hor : 0 ≤ os.getD m 0 ∧ os.getD m 0 < (ps.length : Int) := HCM.out.inN _ (getD_mem hlt 0)
              generalize os.getD m 0 = p at *
              obtain ⟨k, rfl⟩ := Int.eq_ofNat_of_zero_le hor.1
              rw [Int.toNat_natCast] at HST HBE HBP
              have hkl : k < ps.length := by omega
              have hkI : (k : Int) < (ps.length : Int) := by omega
              have hk0 : (0 : Int) ≤ (k : Int) := by omega
              have hmL : (m : Int) < (os.length : Int) := by omega
              have hm0 : (0 : Int) ≤ (m : Int) := by omega
              obtain ⟨zb, zo, rfl, hzl2, y0, y1⟩ := hZ2.nth hkl
              have hzl : zb < wO.heap.size := Nat.lt_of_lt_of_le hzl2 hB.size
              have z0 := (hB.cell (p := ⟨zb, zo + k * 2, none⟩) hzl2).trans y0
              have z1 := (hB.cell (p := ⟨zb, zo + k * 2 + 1, none⟩) hzl2).trans y1
              clear y0 y1
              have hzb := HCM.out.sz k hkl
              have p0 := hN.cells k hkl
              have pf := hN.froz k
              have hNl := hN.lt
              have hXl := hX.lt
              have hPR : placeR (bf m) (areaZ (zs.getD k Sz.zero)) = R m := by
                have h1 := HBP.out
                unfold placeP at h1
                rw [if_pos HBE.out] at h1
                exact h1
              have hpo := fun wx (ra : Option Addr) (rc : Nat) (h : Zs wx ra (bf m).length (bf m)) => placeOf_any rc h HBE.out
              rw [hPR] at hpo
              have hbl4 : (bf m).length ≤ 4096 := by omega
              obtain ⟨ra, rc, hre, hZb⟩ := OwnsS.zs hown hbl4
              injection hre with e1 _ e2
              subst e1 e2
              clear HBP HBE hPR
              have hxy : 0 ≤ (zs.getD k Sz.zero).1 * (zs.getD k Sz.zero).2 ∧ (zs.getD k Sz.zero).1 * (zs.getD k Sz.zero).2 ≤ 256 := ⟨Int.mul_nonneg hzb.1.1 hzb.2.1, Int.mul_le_mul hzb.1.2 hzb.2.2 hzb.2.1 (by omega)⟩
              have har := fun wx => area_any (zs.getD k Sz.zero).1 (zs.getD k Sz.zero).2 wx (by rw [IntKind.wrap_i64]; omega)
              have hare : (zs.getD k Sz.zero).1 * (zs.getD k Sz.zero).2 = areaZ (zs.getD k Sz.zero) := rfl
              rw [hare] at har
              generalize areaZ (zs.getD k Sz.zero) = ar at *
              clear hare hxy
              generalize (zs.getD k Sz.zero).1 = zx at *
              generalize (zs.getD k Sz.zero).2 = zy at *
              generalize bf m = L at *
              have hol' : ob < wO.heap.size := ints_lt hI hlt
              have held : ∀ wx, Below wO.heap.size wO wx → wx.cell? ⟨q, 0, none⟩ = some (.slice (some ⟨ob, oo, none⟩) os.length vc) ∧ wx.cell? ⟨q, 1, none⟩ = some (.slice (some ⟨pb, 0, none⟩) ps.length ps.length) ∧ wx.cell? ⟨ob, oo + m, none⟩ = some (.int .i64 k) ∧ wx.cell? ⟨zb, zo + k * 2, none⟩ = some (.int .i64 zx) ∧ wx.cell? ⟨zb, zo + k * 2 + 1, none⟩ = some (.int .i64 zy) := fun wx h =>
                ⟨(h.cell (p := ⟨q, 0, none⟩) hXl).trans hX.c0, (h.cell (p := ⟨q, 1, none⟩) hXl).trans hX.c1, (h.cell (p := ⟨ob, oo + m, none⟩) hol').trans hox, (h.cell (p := ⟨zb, zo + k * 2, none⟩) hzl).trans z0, (h.cell (p := ⟨zb, zo + k * 2 + 1, none⟩) hzl).trans z1⟩
              have hob : pb ≠ ob := by
                have := ints_base hI hlt
                omega
              have hqb : pb ≠ q := by omega
              have hzb' : pb ≠ zb := by omega
              have heldS : ∀ wx (u : Value), Below wO.heap.size wO wx → (wx.setCell ⟨pb, k, none⟩ u).cell? ⟨q, 0, none⟩ = some (.slice (some ⟨ob, oo, none⟩) os.length vc) ∧ (wx.setCell ⟨pb, k, none⟩ u).cell? ⟨q, 1, none⟩ = some (.slice (some ⟨pb, 0, none⟩) ps.length ps.length) ∧ (wx.setCell ⟨pb, k, none⟩ u).cell? ⟨ob, oo + m, none⟩ = some (.int .i64 k) ∧ (wx.setCell ⟨pb, k, none⟩ u).cell? ⟨zb, zo + k * 2, none⟩ = some (.int .i64 zx) ∧ (wx.setCell ⟨pb, k, none⟩ u).cell? ⟨zb, zo + k * 2 + 1, none⟩ = some (.int .i64 zy) := fun wx u h => by
                obtain ⟨c0, c1, c2, c3, c4⟩ := held wx h
                exact ⟨(set_other _ (fun e => hqb (by injection e))).trans c0, (set_other _ (fun e => hqb (by injection e))).trans c1, (set_other _ (fun e => hob (by injection e))).trans c2, (set_other _ (fun e => hzb' (by injection e))).trans c3, (set_other _ (fun e => hzb' (by injection e))).trans c4⟩
              have hd := (Below.refl wr.heap.size wr).drew
              have hd0 := hBi.drew
              go_upto_region 21 with fail
              go_region_held3 (fun wx => wx.cell? ⟨q, 0, none⟩ = some (.slice (some ⟨ob, oo, none⟩) os.length vc) ∧ wx.cell? ⟨q, 1, none⟩ = some (.slice (some ⟨pb, 0, none⟩) ps.length ps.length) ∧ wx.cell? ⟨ob, oo + m, none⟩ = some (.int .i64 k) ∧ wx.cell? ⟨zb, zo + k * 2, none⟩ = some (.int .i64 zx) ∧ wx.cell? ⟨zb, zo + k * 2 + 1, none⟩ = some (.int .i64 zy))
                (first | exact held _ hd0 | exact held _ bAO | exact held _ bPO | exact heldS _ _ bPO | exact held _ hBi)
                (first
                  | (go_at_call 47; refine (har _).mono ?_; rintro e wA ⟨rfl, bA⟩; have bAA : Below wr.heap.size wr wA := below_step hd bA; have bAO : Below wO.heap.size wO wA := below_step hd0 bA)
                  | (go_at_call 48; refine (hpo _ _ _ (by first | exact hZb.below bAA)).mono ?_; rintro e wP ⟨rfl, bP⟩; have bPO : Below wO.heap.size wO wP := below_step bAO bP; have hc9 := (bPO.cell (p := ⟨pb, k, none⟩) hNl).trans p0; have hf9 := (bPO.frozen (p := ⟨pb, k, none⟩) hNl).trans pf))
              all_goals
                have hXP := (hX.below bPO hX.lt bPO.size).other (p := ⟨pb, k, none⟩) hqb (.int .i64 (R m))
                have hNP : Nm (wP.setCell ⟨pb, k, none⟩ (.int .i64 (R m))) pb ps.length (P (m + 1)) := (hN.below bPO hN.lt bPO.size).put k (R m) hkl (fun j _ => HST.out j)
                have hSP := ownsRow_setCell_below (ownsRow_below hS bPO (Nat.le_refl _)) (a := ⟨pb, k, none⟩) (show pb < s5 by omega) (.int .i64 (R m))
                have hOP : Owns (q + 1) _ _ os := ownsRow_setCell_below (ownsRow_below hO bPO (Nat.le_refl _)) (a := ⟨pb, k, none⟩) (show pb < q + 1 by omega) (.int .i64 (R m))
                have hBP := (below_step hB bPO).setCell (p := ⟨pb, k, none⟩) hpge (.int .i64 (R m))
                have hsP : q + 1 ≤ (wP.setCell ⟨pb, k, none⟩ (.int .i64 (R m))).heap.size := by rw [World.size_setCell]; exact Nat.le_trans hq bPO.size
                have HNP : Hid (_) := hNP
                clear hNP HST
                go_wp2
                go_roundw
                case rel => exact ⟨m + 1, by omega, by go_num, hOP, hXP, HNP.out, hSP, hBP, hsP⟩
                case measure => simp [intOf]; omega
        · have hte : t = os.length := by omega
          subst hte
          have hRr := hR2.below hB hR2.lt hB.size
          obtain ⟨_, r0, r1, fr⟩ := id hRr
          have fr0 := fr 0
          have fr1 := fr 1
          obtain ⟨_, d0, d1, _⟩ := (hRr.put0 (.slice va os.length vc)).put1 (.slice (some ⟨pb, 0, none⟩) ps.length ps.length)
          have hpn : w.heap.size + 1 ≠ pb := by omega
          have T1 : Owns (pb + 1) _ _ os := Owns.mono (ownsRow_setCell_below (ownsRow_setCell_below hO (a := ⟨w.heap.size + 1, 0, none⟩) (by show w.heap.size + 1 < q + 1; omega) (.slice va os.length vc)) (a := ⟨w.heap.size + 1, 1, none⟩) (by show w.heap.size + 1 < q + 1; omega) (.slice (some ⟨pb, 0, none⟩) ps.length ps.length)) (show pb + 1 ≤ q + 1 by omega)
          have T2 := (hN.other (p := ⟨w.heap.size + 1, 0, none⟩) hpn (.slice va os.length vc)).other (p := ⟨w.heap.size + 1, 1, none⟩) hpn (.slice (some ⟨pb, 0, none⟩) ps.length ps.length)
          have T3 := ((below_step hb2 hB).setCell (p := ⟨w.heap.size + 1, 0, none⟩) (Nat.le_succ _) (.slice va os.length vc)).setCell (p := ⟨w.heap.size + 1, 1, none⟩) (Nat.le_succ _) (.slice (some ⟨pb, 0, none⟩) ps.length ps.length)
          have HT1 : Hid (_) := T1
          have HT2 : Hid (_) := T2
          have HT3 : Hid (_) := T3
          clear T1 T2 T3 hX hO hN hS hB hRr
          go_wp2
          exact bodyPost_ret (v := .agg #[.slice va os.length vc, .slice (some ⟨pb, 0, none⟩) ps.length ps.length]) (by simp [results, Tryz.results17, go_sem, d0, d1]) rfl (HT.out _ _ _ (by omega) HT1.out HT2.out HT3.out)
end Go.Proofs.YtihliofhhjjeaaaGreat
