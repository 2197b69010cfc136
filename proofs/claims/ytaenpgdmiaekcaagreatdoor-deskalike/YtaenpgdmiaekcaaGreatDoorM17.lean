/- Lay, PlanCalls, StepRef, OrdRef: joined, in this order. -/
import Derived.Test.YtaenpgdmiaekcaaGreatDoorM14
import Derived.Test.YtaenpgdmiaekcaaGreatDoorM15
import Derived.Test.YtaenpgdmiaekcaaGreatDoorM16
import Derived.Test.YtaenpgdmiaekcaaGreatDoorM12
/-
  LAY: a frame and a plan: plan.lay.
-/
namespace Go.Proofs.YtaenpgdmiaekcaaGreatDoor
set_option maxRecDepth 100000
open Go.RowKit Im Go.Maps

/-- What plans of a frame are held against. -/
def gpOf (f : Fr) : Gp := ⟨f.ps.length, srcOf f.ps, keptG f.ps f.ps.length (shownP f) f.ps.length, fun k => areaZ ((szs f f.ps.length).getD k Sz.zero), shownP f⟩
theorem gp_right {f : Fr} (hE : frameE f = 0) : (gpOf f).Right := by
  obtain ⟨hb, hf, hs⟩ := frameE_zero hE
  obtain ⟨_, _, _, _, hL⟩ := boundsE_zero hb
  have hl : shownP f < f.ps.length := (wrt_bd f.ps f.ps.length f.O).2
  refine ⟨hL, fun k hk => srcOk_of hE k hk, fun k hk => ?_, ⟨hs, hl⟩, ?_⟩
  · exact area_bd (szs_bd hb hf _ (getD_mem (by rw [szs_length]; exact hk) _))
  · obtain ⟨N, hN⟩ := Int.eq_ofNat_of_zero_le hs
    show keptG f.ps f.ps.length (shownP f) f.ps.length (shownP f).toNat = true
    rw [hN, Int.toNat_natCast]
    exact kept_shown
theorem gp_closed {f : Fr} (hE : frameE f = 0) : ∀ k, k < (gpOf f).N → (gpOf f).kept k = true → ∀ s ∈ (gpOf f).src k, (gpOf f).kept s.toNat = true := by
  intro k hk hK s hs
  have hb := srcOk_of hE k hk s hs
  obtain ⟨i, rfl⟩ := Int.eq_ofNat_of_zero_le hb.1
  rw [Int.toNat_natCast]
  exact kept_src (srcOk_of hE) hk hK hs
/-- The error of a plan, room aside. -/
def planE (f : Fr) (os pl : List Int) : Int := if frameE f = 0 then (if ordB (gpOf f) os pl = true then 0 else 1) else frameE f
theorem planE_zero {f : Fr} {os pl : List Int} (h : planE f os pl = 0) : frameE f = 0 ∧ Ord (gpOf f) os pl := by
  unfold planE at h
  by_cases hE : frameE f = 0
  · rw [if_pos hE] at h
    by_cases ho : ordB (gpOf f) os pl = true
    · exact ⟨hE, ord_iff.1 ho⟩
    · rw [if_neg ho] at h; cases h
  · rw [if_neg hE] at h; exact absurd h hE
abbrev noLay : Value := .agg #[.slice none 0 0, .slice none 0 0, .slice none 0 0]
/-- What plan.lay tells. -/
def ToldLay (w : World) (f : Fr) (os pl : List Int) (ov : Value) (e : Ending) (w' : World) : Prop :=
  ((planE f os pl = 0 ∧ ∃ sb lb, e = .returned (.tuple #[.agg #[ov, .slice (some ⟨sb, 0, none⟩) f.ps.length f.ps.length, .slice (some ⟨lb, 0, none⟩) f.ps.length f.ps.length], .int .i64 0]) ∧ w.heap.size ≤ sb ∧ Sp w' sb f.ps.length (spanP (gpOf f) os) ∧ Sp w' lb f.ps.length (lieP (gpOf f) os pl)) ∨
   (planE f os pl ≠ 0 ∧ e = .returned (.tuple #[noLay, .int .i64 (planE f os pl)]))) ∧ Below w.heap.size w w'
/-- A layout that is nothing, in a block of its own, that may be written. -/
structure NBox (w : World) (b : Nat) : Prop where
  lt : b < w.heap.size
  c0 : w.cell? ⟨b, 0, none⟩ = some (.slice none 0 0)
  c1 : w.cell? ⟨b, 1, none⟩ = some (.slice none 0 0)
  c2 : w.cell? ⟨b, 2, none⟩ = some (.slice none 0 0)
  fz : ∀ o, w.frozen? ⟨b, o, none⟩ = false
theorem NBox.new (w : World) : NBox (w.alloc (.cells #[.slice none 0 0, .slice none 0 0, .slice none 0 0] 91)) w.heap.size :=
  ⟨by simp, by simp [go_sem], by simp [go_sem], by simp [go_sem], fun o => frozen_new w _ _ o⟩
theorem NBox.below {w w' : World} {b : Nat} (h : NBox w b) (hb : Below w.heap.size w w') : NBox w' b :=
  ⟨Nat.lt_of_lt_of_le h.lt hb.size, (hb.cell (p := ⟨b, 0, none⟩) h.lt).trans h.c0, (hb.cell (p := ⟨b, 1, none⟩) h.lt).trans h.c1, (hb.cell (p := ⟨b, 2, none⟩) h.lt).trans h.c2, fun o => (hb.frozen (p := ⟨b, o, none⟩) h.lt).trans (h.fz o)⟩
/-- A plan in a box. -/
structure PlBox (w : World) (b : Nat) (v0 v1 : Value) : Prop where
  lt : b < w.heap.size
  c0 : w.cell? ⟨b, 0, none⟩ = some v0
  c1 : w.cell? ⟨b, 1, none⟩ = some v1
theorem PlBox.below {w w' : World} {b : Nat} {v0 v1 : Value} (h : PlBox w b v0 v1) (hb : Below w.heap.size w w') : PlBox w' b v0 v1 :=
  ⟨Nat.lt_of_lt_of_le h.lt hb.size, (hb.cell (p := ⟨b, 0, none⟩) h.lt).trans h.c0, (hb.cell (p := ⟨b, 1, none⟩) h.lt).trans h.c1⟩
theorem PlBox.new (w : World) (v0 v1 : Value) (t : TypeId) : PlBox (w.alloc (.cells #[v0, v1] t)) w.heap.size v0 v1 := ⟨by simp, by simp [go_sem], by simp [go_sem]⟩
/-- The world in which plan.lay begins. -/
abbrev lw (w : World) (W H S O : Int) (a : Option Addr) (len cap : Nat) (v0 v1 : Value) : World :=
  ((w.alloc (.cells #[.int .i64 W, .int .i64 H, .int .i64 S, .int .i64 O, .slice a len cap] 35)).alloc (.cells #[v0, v1] 48)).alloc (.cells #[.slice none 0 0, .slice none 0 0, .slice none 0 0] 91)
theorem lw_boxes (w : World) (W H S O : Int) (a : Option Addr) (len cap : Nat) (v0 v1 : Value) : Below w.heap.size w (lw w W H S O a len cap v0 v1) ∧ FBox (lw w W H S O a len cap v0 v1) w.heap.size W H S O a len cap ∧ PlBox (lw w W H S O a len cap v0 v1) (w.heap.size + 1) v0 v1 ∧ NBox (lw w W H S O a len cap v0 v1) (w.heap.size + 2) := by
  refine ⟨below_box (below_box (below_box (Below.refl _ _) _) _) _, ((FBox.new w W H S O a len cap).alloc _).alloc _, ?_, ?_⟩
  · have := (PlBox.new (w.alloc (.cells #[.int .i64 W, .int .i64 H, .int .i64 S, .int .i64 O, .slice a len cap] 35)) v0 v1 48).below ((Below.refl _ _).alloc (Nat.le_refl _) (.cells #[.slice none 0 0, .slice none 0 0, .slice none 0 0] 91))
    simpa using this
  · have := NBox.new ((w.alloc (.cells #[.int .i64 W, .int .i64 H, .int .i64 S, .int .i64 O, .slice a len cap] 35)).alloc (.cells #[v0, v1] 48))
    simpa using this
set_option maxHeartbeats 2000000 in
theorem lay_err (W H S O : Int) (a : Option Addr) (len cap : Nat) (ps : List Ps) (w : World) (hp : Passes w a len ps) (v0 v1 : Value) (os pl : List Int) (hE : frameE ⟨W, H, S, O, ps⟩ ≠ 0) :
    Calls Tryz.prog 43 #[.agg #[.int .i64 W, .int .i64 H, .int .i64 S, .int .i64 O, .slice a len cap], .agg #[v0, v1]] w (ToldLay w ⟨W, H, S, O, ps⟩ os pl v0) := by
  obtain ⟨hb0, hF, hP, hNb⟩ := lw_boxes w W H S O a len cap v0 v1
  have hsz := sizes_any W H S O a len cap ps _ (hp.below hb0)
  have hpe : planE ⟨W, H, S, O, ps⟩ os pl = frameE ⟨W, H, S, O, ps⟩ := by unfold planE; rw [if_neg hE]
  go_enter Tryz.func43, Tryz.ntmps43
  go_wp2_with fail
  refine hsz.mono ?_
  clear hsz
  rintro e w1 ⟨⟨v, rfl, hZ⟩, b1⟩
  rw [if_neg hE] at hZ
  obtain ⟨za, zc, rfl, _⟩ := hZ.zs (by simp)
  obtain ⟨_, c0, c1, c2, fz⟩ := hNb.below b1
  have f0 := fz 0
  have f1 := fz 1
  have f2 := fz 2
  have HE : Hid (_) := hE
  have HPE : Hid (_) := hpe
  have hb1 := below_step hb0 b1
  have hbs := ((hb1.setCell (p := ⟨w.heap.size + 2, 0, none⟩) (by simp) (.slice none 0 0)).setCell (p := ⟨w.heap.size + 2, 1, none⟩) (by simp) (.slice none 0 0)).setCell (p := ⟨w.heap.size + 2, 2, none⟩) (by simp) (.slice none 0 0)
  generalize frameE ⟨W, H, S, O, ps⟩ = E at *
  clear fz hpe
  go_wp2
  refine bodyPost_ret (v := .tuple #[noLay, .int .i64 E]) (by simp [results, Tryz.results43, go_sem, c0, c1, c2]) rfl ⟨.inr ⟨by rw [HPE.out]; exact HE.out, by rw [HPE.out]⟩, hbs⟩
/-- Three stores into another block. -/
theorem set3 {w : World} {b c o : Nat} (x y z : Value) (h : b ≠ c) : (((w.setCell ⟨b, 0, none⟩ x).setCell ⟨b, 1, none⟩ y).setCell ⟨b, 2, none⟩ z).cell? ⟨c, o, none⟩ = w.cell? ⟨c, o, none⟩ := by
  rw [set_other _ (fun e => h (by injection e)), set_other _ (fun e => h (by injection e)), set_other _ (fun e => h (by injection e))]
theorem Sp.set3 {w : World} {b B n : Nat} {g : Nat → Int × Int} (h : Sp w b n g) (x y z : Value) (hB : B ≠ b) : Sp (((w.setCell ⟨B, 0, none⟩ x).setCell ⟨B, 1, none⟩ y).setCell ⟨B, 2, none⟩ z) b n g :=
  ⟨by simpa using h.lt, fun j hj => (YtaenpgdmiaekcaaGreatDoor.set3 x y z hB).trans (h.c0 j hj), fun j hj => (YtaenpgdmiaekcaaGreatDoor.set3 x y z hB).trans (h.c1 j hj), fun o => by simpa using h.froz o⟩
theorem below3 {w wx : World} {B : Nat} (hb : Below w.heap.size w wx) (hB : w.heap.size ≤ B) (x y z : Value) : Below w.heap.size w (((wx.setCell ⟨B, 0, none⟩ x).setCell ⟨B, 1, none⟩ y).setCell ⟨B, 2, none⟩ z) :=
  ((hb.setCell (p := ⟨B, 0, none⟩) hB x).setCell (p := ⟨B, 1, none⟩) hB y).setCell (p := ⟨B, 2, none⟩) hB z
theorem ord_parts {G : Gp} {os pl : List Int} : ordB G os pl = (onceB os G.N && hasAllB G.kept os G.N && behB G.src os G.N && plcB os pl G.N) := rfl
set_option maxHeartbeats 4000000 in
theorem lay_ok (W H S O : Int) (a : Option Addr) (len cap : Nat) (ps : List Ps) (w : World) (hp : Passes w a len ps) (oa : Option Addr) (olen ocap : Nat) (pa : Option Addr) (plen pcap : Nat) (os pl : List Int) (hO : Ints 0 w oa olen os) (hL : Ints 0 w pa plen pl) (hE : frameE ⟨W, H, S, O, ps⟩ = 0) :
    Calls Tryz.prog 43 #[.agg #[.int .i64 W, .int .i64 H, .int .i64 S, .int .i64 O, .slice a len cap], .agg #[.slice oa olen ocap, .slice pa plen pcap]] w (ToldLay w ⟨W, H, S, O, ps⟩ os pl (.slice oa olen ocap)) := by
  obtain rfl := hp.leng
  have hR := gp_right hE
  obtain ⟨hb0, hF, hP, hNb⟩ := lw_boxes w W H S O a ps.length cap (.slice oa olen ocap) (.slice pa plen pcap)
  have hp0 := hp.below hb0
  have hO0 := hO.below (Nat.le_refl _) hb0
  have hL0 := hL.below (Nat.le_refl _) hb0
  have hsz := sizes_any W H S O a ps.length cap ps _ hp0
  have hso := fun wx hp => sources_any W H S O a ps.length cap ps wx hp
  have hke := fun wx hp => kept_any W H S O a ps.length cap ps wx hp
  have hla := fun wx hp => last_any W H S O a ps.length cap ps wx hp
  have hpe : planE ⟨W, H, S, O, ps⟩ os pl = if ordB (gpOf ⟨W, H, S, O, ps⟩) os pl = true then 0 else 1 := by unfold planE; rw [if_pos hE]
  unfold ToldLast at hla
  rw [hE, if_pos rfl] at hla
  have hs2 : ∀ x ∈ srcs ps ps.length, x.length ≤ 2 := by
    intro x hx
    unfold srcs at hx
    rw [List.mem_map] at hx
    obtain ⟨n, _, rfl⟩ := hx
    unfold srcOf
    rw [List.length_map]
    exact takesP_len _
  obtain ⟨hbnd, hfirst, hsh⟩ := frameE_zero hE
  have hzb := szs_bd hbnd hfirst
  dsimp only at hfirst hzb
  obtain ⟨la, hla'⟩ := Int.eq_ofNat_of_zero_le hsh
  have hlal : la < ps.length := by have := hR.last.2; have e : (gpOf ⟨W, H, S, O, ps⟩).last = la := hla'; rw [e] at this; have e2 : (gpOf ⟨W, H, S, O, ps⟩).N = ps.length := rfl; omega
  rw [hla'] at hla
  clear hO hL hp
  go_enter Tryz.func43, Tryz.ntmps43
  go_wp2_with fail
  refine hsz.mono ?_
  clear hsz
  rintro e w1 ⟨⟨v, rfl, hZ⟩, b1⟩
  rw [if_pos hE] at hZ
  rw [hE]
  obtain ⟨za, zc, rfl, hZs⟩ := hZ.zs (by rw [szs_length]; exact hR.hN.2)
  dsimp only at hZs ⊢
  rw [szs_length] at hZs ⊢
  have hF1 := hF.below b1
  have hb1 := below_step hb0 b1
  obtain ⟨_, g0, g1, g2, g3, g4⟩ := id hF1
  clear hZ
  go_wp2_with fail
  refine (hso _ (hp0.below b1)).mono ?_
  rintro e w2 ⟨⟨v2, rfl, hS⟩, b2⟩
  rw [if_pos hE] at hS
  rw [hE]
  obtain ⟨sa, sc, rfl, hSs⟩ := hS.lls hs2
  dsimp only at hSs ⊢
  rw [srcs_length] at hSs ⊢
  have hF2 := hF1.below b2
  have hb2 := below_step hb1 b2
  have hZ2 := hZs.below b2
  clear hS hs2 hso g0 g1 g2 g3 g4 hF1
  obtain ⟨_, g0, g1, g2, g3, g4⟩ := id hF2
  go_wp2_with fail
  refine (hke _ ((hp0.below b1).below b2)).mono ?_
  rintro e w3 ⟨⟨_, kb, rfl, hkb, hK⟩ | ⟨hne, _⟩, b3⟩
  case inr => exact absurd hE hne
  dsimp only at hK ⊢
  have hF3 := hF2.below b3
  have hb3 := below_step hb2 b3
  have hZ3 := hZ2.below b3
  have hS3 := hSs.below b3
  clear hke g0 g1 g2 g3 g4 hF2 hZ2 hZs hSs
  obtain ⟨_, g0, g1, g2, g3, g4⟩ := id hF3
  go_wp2_with fail
  refine (hla _ (((hp0.below b1).below b2).below b3)).mono ?_
  rintro e w4 ⟨rfl, b4⟩
  have hF4 := hF3.below b4
  have hb4 := below_step hb3 b4
  have hZ4 := hZ3.below b4
  have hS4 := hS3.below b4
  have hK4 := hK.below b4 hK.lt b4.size
  have hb04 := below_step (below_step (below_step b1 b2) b3) b4
  have hP4 := hP.below hb04
  have hN4 := hNb.below hb04
  have hO4 := hO0.below (Nat.le_refl _) hb04
  have hL4 := hL0.below (Nat.le_refl _) hb04
  clear hla g0 g1 g2 g3 g4 hF3 hZ3 hS3 hK b1 b2 b3 b4 hp0 hO0 hL0 hF hP hNb hb1 hb2 hb3
  obtain ⟨_, g0, g1, g2, g3, g4⟩ := id hF4
  obtain ⟨_, h0, h1⟩ := id hP4
  have hst := stepsOf_any ocap hO4 (N := ps.length) hR.hN.2
  have HPE : Hid (_) := hpe
  have HOB : Hid (ordB (gpOf ⟨W, H, S, O, ps⟩) os pl = (onceB os ps.length && hasAllB (keptG ps ps.length (shownP ⟨W, H, S, O, ps⟩) ps.length) os ps.length && behB (srcOf ps) os ps.length && plcB os pl ps.length)) := rfl
  have hE1 : ordB (gpOf ⟨W, H, S, O, ps⟩) os pl = false → planE ⟨W, H, S, O, ps⟩ os pl = 1 := fun h => by rw [HPE.out, if_neg (by rw [h]; decide)]
  have HE1 : Hid (_) := hE1
  have hsr : ∀ k, k < ps.length → (srcs ps ps.length).getD k [] = srcOf ps k := fun k hk => srcs_at ps hk
  have hs2 : ∀ k, k < ps.length → (srcOf ps k).length ≤ 2 ∧ ∀ s ∈ srcOf ps k, 0 ≤ s ∧ s < ps.length := fun k hk => ⟨by unfold srcOf; rw [List.length_map]; exact takesP_len _, fun s hs => by have := srcOk_of hE k hk s hs; omega⟩
  clear hpe hE1
  go_wp2_with fail
  refine hst.mono ?_
  clear hst
  rintro e w5 (⟨h1o, ⟨B, rfl, hB, hSt⟩, b5⟩ | ⟨h1o, rfl, b5⟩)
  case inr =>
    obtain ⟨_, c0, c1, c2, fz⟩ := hN4.below b5
    have f0 := fz 0
    have f1 := fz 1
    have f2 := fz 2
    have hbs := below3 (B := w.heap.size + 2) (below_step hb4 b5) (by omega) (.slice none 0 0) (.slice none 0 0) (.slice none 0 0)
    have HX : Hid (planE ⟨W, H, S, O, ps⟩ os pl = 1) := HE1.out (by rw [HOB.out, h1o]; rfl)
    clear fz hF4 hZ4 hS4 hK4 hP4 hN4 hO4 hL4 hsr hs2 hzb g0 g1 g2 g3 g4 h0 h1
    go_wp2
    exact bodyPost_ret (v := .tuple #[noLay, .int .i64 1]) (by simp [results, Tryz.results43, go_sem, c0, c1, c2]) rfl ⟨.inr ⟨by rw [HX.out]; decide, by rw [HX.out]⟩, hbs⟩
  have hF5 := hF4.below b5
  have hb5 := below_step hb4 b5
  have hZ5 := hZ4.below b5
  have hS5 := hS4.below b5
  have hK5 := hK4.below b5 hK4.lt b5.size
  have hP5 := hP4.below b5
  have hN5 := hN4.below b5
  have hO5 := hO4.below (Nat.le_refl _) b5
  have hL5 := hL4.below (Nat.le_refl _) b5
  clear g0 g1 g2 g3 g4 h0 h1 hF4 hZ4 hS4 hK4 hP4 hN4 hO4 hL4 hb4 hb04
  obtain ⟨_, g0, g1, g2, g3, g4⟩ := id hF5
  obtain ⟨_, h0, h1⟩ := id hP5
  obtain ⟨_, c0, c1, c2, fz⟩ := id hN5
  have f0 := fz 0
  have f1 := fz 1
  have f2 := fz 2
  have hha := hasAll_any (cap := ps.length) hSt hK5 hR.hN.2
  have hbe := isBehind_any (cap := sc) hSt hS5 hR.hN.2 hsr hs2
  have hpl := isPlaced_any (cap := pcap) hSt hL5 (N := ps.length) hR.hN.2
  have hbs := below3 (B := w.heap.size + 2) hb5 (by omega) (.slice none 0 0) (.slice none 0 0) (.slice none 0 0)
  have HON := onceB_iff.1 h1o
  have hol : os.length ≤ ps.length := nodup_len _ _ HON.2 HON.1
  have hol2 : os.length ≤ 12 := Nat.le_trans hol hR.hN.2
  rw [h1o] at HOB
  have HSR : Hid (_) := hsr
  have HS2 : Hid (_) := hs2
  have HZB : Hid (_) := hzb
  have HOI : Hid (_) := HON.1
  clear fz hsr hs2 hzb HON h1o
  generalize hx1 : hasAllB (keptG ps ps.length (shownP ⟨W, H, S, O, ps⟩) ps.length) os ps.length = x1 at *
  generalize hx2 : behB (srcOf ps) os ps.length = x2 at *
  generalize hx3 : plcB os pl ps.length = x3 at *
  clear hx1 hx2 hx3
  cases x1 with
  | false =>
    have HX : Hid (planE ⟨W, H, S, O, ps⟩ os pl = 1) := HE1.out (by rw [HOB.out]; rfl)
    go_wp2_with (first
      | (go_at_call 80; refine hha.mono ?_; rintro e w' ⟨rfl, rfl⟩))
    exact bodyPost_ret (v := .tuple #[noLay, .int .i64 1]) (by simp [results, Tryz.results43, go_sem, c0, c1, c2]) rfl ⟨.inr ⟨by rw [HX.out]; decide, by rw [HX.out]⟩, hbs⟩
  | true =>
    cases x2 with
    | false =>
      have HX : Hid (planE ⟨W, H, S, O, ps⟩ os pl = 1) := HE1.out (by rw [HOB.out]; rfl)
      go_wp2_with (first
        | (go_at_call 80; refine hha.mono ?_; rintro e w' ⟨rfl, rfl⟩)
        | (go_at_call 81; refine hbe.mono ?_; rintro e w' ⟨rfl, rfl⟩))
      exact bodyPost_ret (v := .tuple #[noLay, .int .i64 1]) (by simp [results, Tryz.results43, go_sem, c0, c1, c2]) rfl ⟨.inr ⟨by rw [HX.out]; decide, by rw [HX.out]⟩, hbs⟩
    | true =>
      cases x3 with
      | false =>
        have HX : Hid (planE ⟨W, H, S, O, ps⟩ os pl = 1) := HE1.out (by rw [HOB.out]; rfl)
        go_wp2_with (first
          | (go_at_call 80; refine hha.mono ?_; rintro e w' ⟨rfl, rfl⟩)
          | (go_at_call 81; refine hbe.mono ?_; rintro e w' ⟨rfl, rfl⟩)
          | (go_at_call 82; refine hpl.mono ?_; rintro e w' ⟨rfl, rfl⟩))
        exact bodyPost_ret (v := .tuple #[noLay, .int .i64 1]) (by simp [results, Tryz.results43, go_sem, c0, c1, c2]) rfl ⟨.inr ⟨by rw [HX.out]; decide, by rw [HX.out]⟩, hbs⟩
      | true =>
        have HX : Hid (planE ⟨W, H, S, O, ps⟩ os pl = 0) := by show _ = _; rw [HPE.out, if_pos (by rw [HOB.out]; rfl)]
        have hOrd := (planE_zero HX.out).2
        have hpl' : plen = ps.length := by rw [← hL5.leng]; exact hOrd.len
        subst hpl'
        have hsp := fun wx (h : Below w5.heap.size w5 wx) => spansOf_any (N := ps.length) hR.hN.2 hlal HS2.out HOI.out hol2 ocap sc (hO5.below (Nat.le_refl _) h) (hSt.below h) (hS5.below h) HSR.out
        have hli := fun wx (h : Below w5.heap.size w5 wx) => liesOf_any (N := ps.length) (pl := pl) hR.hN.2 HOI.out hol2 (fun k hk => hOrd.at_ k (by have := HOI.out _ hk; have e2 : (gpOf ⟨W, H, S, O, ps⟩).N = ps.length := rfl; omega) hk) HZB.out ocap pcap zc (hO5.below (Nat.le_refl _) h) (hL5.below (Nat.le_refl _) h) (hZ5.below h)
        have hd := (Below.refl w5.heap.size w5).drew
        have hwl : w.heap.size + 2 < w5.heap.size := hN5.lt
        clear hS5 hSt hO5 hL5 hZ5 hK5 hOrd hF5 c0 c1 c2 f0 f1 f2
        go_wp2_with (first
          | (go_at_call 80; refine hha.mono ?_; rintro e w' ⟨rfl, rfl⟩)
          | (go_at_call 81; refine hbe.mono ?_; rintro e w' ⟨rfl, rfl⟩)
          | (go_at_call 82; refine hpl.mono ?_; rintro e w' ⟨rfl, rfl⟩))
        clear hha hbe hpl g0 g1 g2 g3 g4
        go_region_held3 (fun w' => w'.cell? ⟨w.heap.size + 1, 0, none⟩ = some (.slice oa olen ocap) ∧ w'.cell? ⟨w.heap.size + 1, 1, none⟩ = some (.slice pa ps.length pcap))
          (first | exact ⟨h0, h1⟩ | exact ⟨hP6.c0, hP6.c1⟩ | exact ⟨hP7.c0, hP7.c1⟩ | exact ⟨(set3 _ _ _ (by omega)).trans hP6.c0, (set3 _ _ _ (by omega)).trans hP6.c1⟩ | exact ⟨(set3 _ _ _ (by omega)).trans hP7.c0, (set3 _ _ _ (by omega)).trans hP7.c1⟩)
          (first
            | (go_at_call 83; (with_reducible refine (hsp _ (by first | exact hd | exact B7)).mono ?_); rintro e w6 ⟨⟨sb, rfl, hsb, hSp⟩, b6⟩; have B6 : Below w5.heap.size w5 w6 := (by first | exact hd.trans b6 | exact below_step B7 b6); have hP6 := hP5.below B6; obtain ⟨_, c0, c1, c2, fz6⟩ := hN5.below B6; have f0 := fz6 0; have f1 := fz6 1; have f2 := fz6 2)
            | (go_at_call 84; (with_reducible refine (hli _ (by first | exact hd | exact B6)).mono ?_); rintro e w7 ⟨⟨lb, rfl, hlb, hLi⟩, b7⟩; have B7 : Below w5.heap.size w5 w7 := (by first | exact hd.trans b7 | exact below_step B6 b7); have hP7 := hP5.below B7; obtain ⟨_, d0, d1, d2, fz7⟩ := hN5.below B7; have k0 := fz7 0; have k1 := fz7 1; have k2 := fz7 2))
        have s6 := B6.size
        have s5 : w5.drew.heap.size = w5.heap.size := rfl
        have sw := hb5.size
        have hq1 := (hSp.below b7 hSp.lt b7.size).set3 (B := w.heap.size + 2) (.slice oa olen ocap) (.slice (some ⟨sb, 0, none⟩) ps.length ps.length) (.slice (some ⟨lb, 0, none⟩) ps.length ps.length) (by omega)
        have hq2 := hLi.set3 (B := w.heap.size + 2) (.slice oa olen ocap) (.slice (some ⟨sb, 0, none⟩) ps.length ps.length) (.slice (some ⟨lb, 0, none⟩) ps.length ps.length) (by omega)
        have hq3 := below3 (B := w.heap.size + 2) (below_step hb5 B7) (by omega) (.slice oa olen ocap) (.slice (some ⟨sb, 0, none⟩) ps.length ps.length) (.slice (some ⟨lb, 0, none⟩) ps.length ps.length)
        have e1 : spanP (gpOf ⟨W, H, S, O, ps⟩) os = spanQ (srcOf ps) os la := by
          funext k
          show (stepAt os k, if (k : Int) = shownP ⟨W, H, S, O, ps⟩ then (os.length : Int) - 1 else ltk (srcOf ps) os k (stepAt os k) os.length) = _
          rw [hla']; rfl
        rw [← e1] at hq1
        have hsb' : w.heap.size ≤ sb := by omega
        have HT : Hid (ToldLay w ⟨W, H, S, O, ps⟩ os pl (.slice oa olen ocap) (.returned (.tuple #[.agg #[.slice oa olen ocap, .slice (some ⟨sb, 0, none⟩) ps.length ps.length, .slice (some ⟨lb, 0, none⟩) ps.length ps.length], .int .i64 0])) (((w7.setCell ⟨w.heap.size + 2, 0, none⟩ (.slice oa olen ocap)).setCell ⟨w.heap.size + 2, 1, none⟩ (.slice (some ⟨sb, 0, none⟩) ps.length ps.length)).setCell ⟨w.heap.size + 2, 2, none⟩ (.slice (some ⟨lb, 0, none⟩) ps.length ps.length))) := ⟨.inl ⟨HX.out, sb, lb, rfl, hsb', hq1, hq2⟩, hq3⟩
        clear hq1 hq2 hq3 hSp hLi b6 b7 B6 B7 hP6 hP7 hN5 hP5 hsp hli e1 hla' hbs
        go_wp2
        exact bodyPost_ret (v := .tuple #[.agg #[.slice oa olen ocap, .slice (some ⟨sb, 0, none⟩) ps.length ps.length, .slice (some ⟨lb, 0, none⟩) ps.length ps.length], .int .i64 0]) (by simp [results, Tryz.results43, go_sem, d0, d1, d2]) rfl HT.out
/-- plan.lay. -/
theorem lay_any (W H S O : Int) (a : Option Addr) (len cap : Nat) (ps : List Ps) (w : World) (hp : Passes w a len ps) (oa : Option Addr) (olen ocap : Nat) (pa : Option Addr) (plen pcap : Nat) (os pl : List Int) (hO : Ints 0 w oa olen os) (hL : Ints 0 w pa plen pl) :
    Calls Tryz.prog 43 #[.agg #[.int .i64 W, .int .i64 H, .int .i64 S, .int .i64 O, .slice a len cap], .agg #[.slice oa olen ocap, .slice pa plen pcap]] w (ToldLay w ⟨W, H, S, O, ps⟩ os pl (.slice oa olen ocap)) := by
  by_cases hE : frameE ⟨W, H, S, O, ps⟩ = 0
  · exact lay_ok W H S O a len cap ps w hp oa olen ocap pa plen pcap os pl hO hL hE
  · exact lay_err W H S O a len cap ps w hp _ _ os pl hE
end Go.Proofs.YtaenpgdmiaekcaaGreatDoor
/-
  PLANCALLS: plan.Check, Spans, Peak and Floor.
-/
namespace Go.Proofs.YtaenpgdmiaekcaaGreatDoor
set_option maxRecDepth 100000
open Go.RowKit Im Go.Maps

def peakP (f : Fr) (os pl : List Int) : Int := if planE f os pl = 0 then peakT os (lieP (gpOf f) os pl) os.length else 0
def floorP (f : Fr) (os pl : List Int) : Int := if planE f os pl = 0 then floorT os (spanP (gpOf f) os) (lieP (gpOf f) os pl) os.length else 0
def clearP (f : Fr) (os pl : List Int) : Bool := clearT os (spanP (gpOf f) os) (lieP (gpOf f) os pl) os.length
/-- The error of a plan in an arena of room numbers. -/
def checkP (f : Fr) (os pl : List Int) (room : Int) : Int :=
  if frameE f = 0 then
    if 0 ≤ room ∧ room ≤ 4096 then
      if planE f os pl = 0 then
        if peakP f os pl ≤ room ∧ clearP f os pl = true then 0 else 7
      else planE f os pl
    else 3
  else frameE f
/-- A layout in a box of its own. -/
theorem Box3.alloc {w : World} {b : Nat} {v0 v1 v2 : Value} (h : Box3 w b v0 v1 v2) (o : Obj) : Box3 (w.alloc o) b v0 v1 v2 := h.below ((Below.refl _ _).alloc (Nat.le_refl _) _)
/-- What a plan in order gives peak, floor and clash. -/
structure Facts (f : Fr) (os pl : List Int) : Prop where
  hN : f.ps.length ≤ 12
  inN : ∀ o ∈ os, 0 ≤ o ∧ o < f.ps.length
  ol : os.length ≤ 12
  lie : ∀ k, k < f.ps.length → (0 ≤ (lieP (gpOf f) os pl k).1 ∧ (lieP (gpOf f) os pl k).1 ≤ 4096) ∧ (0 ≤ (lieP (gpOf f) os pl k).2 ∧ (lieP (gpOf f) os pl k).2 ≤ 4352) ∧ (lieP (gpOf f) os pl k).1 ≤ (lieP (gpOf f) os pl k).2 ∧ (lieP (gpOf f) os pl k).2 ≤ (lieP (gpOf f) os pl k).1 + 255
theorem facts {f : Fr} {os pl : List Int} (h : planE f os pl = 0) : Facts f os pl := by
  obtain ⟨hE, hO⟩ := planE_zero h
  have hR := gp_right hE
  exact ⟨hR.hN.2, hO.inN, Nat.le_trans hO.olen hR.hN.2, fun k hk => lie_bd hR hO hk⟩
set_option maxHeartbeats 1000000 in
theorem spans_any (W H S O : Int) (a : Option Addr) (len cap : Nat) (ps : List Ps) (w : World) (hp : Passes w a len ps) (oa : Option Addr) (olen ocap : Nat) (pa : Option Addr) (plen pcap : Nat) (os pl : List Int) (hO : Ints 0 w oa olen os) (hL : Ints 0 w pa plen pl) :
    Calls Tryz.prog 39 #[.agg #[.int .i64 W, .int .i64 H, .int .i64 S, .int .i64 O, .slice a len cap], .agg #[.slice oa olen ocap, .slice pa plen pcap]] w fun e w' =>
      ((planE ⟨W, H, S, O, ps⟩ os pl = 0 ∧ ∃ sb, e = .returned (.tuple #[.slice (some ⟨sb, 0, none⟩) ps.length ps.length, .int .i64 0]) ∧ w.heap.size ≤ sb ∧ Sp w' sb ps.length (spanP (gpOf ⟨W, H, S, O, ps⟩) os)) ∨ (planE ⟨W, H, S, O, ps⟩ os pl ≠ 0 ∧ e = .returned (.tuple #[.slice none 0 0, .int .i64 (planE ⟨W, H, S, O, ps⟩ os pl)]))) ∧ Below w.heap.size w w' := by
  have hb0 := below_box (below_box (Below.refl w.heap.size w) (.cells #[.int .i64 W, .int .i64 H, .int .i64 S, .int .i64 O, .slice a len cap] 35)) (.cells #[.slice oa olen ocap, .slice pa plen pcap] 48)
  have hla := lay_any W H S O a len cap ps _ (hp.below hb0) oa olen ocap pa plen pcap os pl (hO.below (Nat.le_refl _) hb0) (hL.below (Nat.le_refl _) hb0)
  go_enter Tryz.func39, Tryz.ntmps39
  go_wp2_with fail
  refine hla.mono ?_
  clear hla
  rintro e w1 ⟨⟨hE, sb, lb, rfl, hsb, hSp, hLi⟩ | ⟨hE, rfl⟩, b1⟩
  · have HE : Hid (_) := hE
    have hb1 := below_step hb0 b1
    have hsz := hb0.size
    dsimp only at hSp hLi ⊢
    clear hE hLi
    go_wp2
    go_ret2
    exact ⟨.inl ⟨HE.out, sb, rfl, by omega, hSp.alloc _⟩, below_box hb1 _⟩
  · have HE : Hid (_) := hE
    have hb1 := below_step hb0 b1
    clear hE
    go_wp2
    go_ret2
    exact ⟨.inr ⟨HE.out, rfl⟩, below_box hb1 _⟩
set_option maxHeartbeats 1000000 in
theorem planPeak_any (W H S O : Int) (a : Option Addr) (len cap : Nat) (ps : List Ps) (w : World) (hp : Passes w a len ps) (oa : Option Addr) (olen ocap : Nat) (pa : Option Addr) (plen pcap : Nat) (os pl : List Int) (hO : Ints 0 w oa olen os) (hL : Ints 0 w pa plen pl) :
    Calls Tryz.prog 19 #[.agg #[.int .i64 W, .int .i64 H, .int .i64 S, .int .i64 O, .slice a len cap], .agg #[.slice oa olen ocap, .slice pa plen pcap]] w fun e w' =>
      e = .returned (.tuple #[.int .i64 (peakP ⟨W, H, S, O, ps⟩ os pl), .int .i64 (planE ⟨W, H, S, O, ps⟩ os pl)]) ∧ Below w.heap.size w w' := by
  have hb0 := below_box (below_box (Below.refl w.heap.size w) (.cells #[.int .i64 W, .int .i64 H, .int .i64 S, .int .i64 O, .slice a len cap] 35)) (.cells #[.slice oa olen ocap, .slice pa plen pcap] 48)
  have hla := lay_any W H S O a len cap ps _ (hp.below hb0) oa olen ocap pa plen pcap os pl (hO.below (Nat.le_refl _) hb0) (hL.below (Nat.le_refl _) hb0)
  go_enter Tryz.func19, Tryz.ntmps19
  go_wp2_with fail
  refine hla.mono ?_
  clear hla
  rintro e w1 ⟨⟨hE, sb, lb, rfl, hsb, hSp, hLi⟩ | ⟨hE, rfl⟩, b1⟩
  · have hF := facts hE
    have HE : Hid (_) := hE
    have hb1 := below_step hb0 b1
    have HP : Hid (peakP ⟨W, H, S, O, ps⟩ os pl = peakT os (lieP (gpOf ⟨W, H, S, O, ps⟩) os pl) os.length) := by show _ = _; unfold peakP; rw [if_pos hE]
    have bA := (Below.refl w1.heap.size w1).alloc (Nat.le_refl _) (.cells #[.slice oa olen ocap, .slice (some ⟨sb, 0, none⟩) ps.length ps.length, .slice (some ⟨lb, 0, none⟩) ps.length ps.length] 91)
    have hO1 := (hO.below (Nat.le_refl _) hb1).below (Nat.le_refl _) bA
    have hS1 := hSp.alloc (.cells #[.slice oa olen ocap, .slice (some ⟨sb, 0, none⟩) ps.length ps.length, .slice (some ⟨lb, 0, none⟩) ps.length ps.length] 91)
    have hL1 := hLi.alloc (.cells #[.slice oa olen ocap, .slice (some ⟨sb, 0, none⟩) ps.length ps.length, .slice (some ⟨lb, 0, none⟩) ps.length ps.length] 91)
    have hpk := peak_any hF.inN hF.ol (fun k hk => (hF.lie k hk).2.1) ocap (.slice (some ⟨sb, 0, none⟩) ps.length ps.length) hO1 hL1
    dsimp only at hpk
    have hb2 := below_step hb1 bA
    dsimp only
    clear hE hLi hSp hF hO1 hL1 hS1
    go_wp2_with (go_at_call 44; refine hpk.mono ?_; rintro e w2 ⟨rfl, b2⟩)
    go_ret2
    exact ⟨by rw [HP.out, HE.out]; rfl, below_step hb2 b2⟩
  · have HE : Hid (_) := hE
    have hb1 := below_step hb0 b1
    have HP : Hid (peakP ⟨W, H, S, O, ps⟩ os pl = 0) := by show _ = _; unfold peakP; rw [if_neg hE]
    have bA := (Below.refl w1.heap.size w1).alloc (Nat.le_refl _) (.cells #[.slice none 0 0, .slice none 0 0, .slice none 0 0] 91)
    have hb2 := below_step hb1 bA
    clear hE
    go_wp2_with (go_at_call 44; refine (peak_nil _).mono ?_; rintro e w2 ⟨rfl, b2⟩)
    go_ret2
    exact ⟨by rw [HP.out]; rfl, below_step hb2 b2⟩
theorem check_none {f : Fr} {os pl : List Int} {room : Int} (h : frameE f ≠ 0) : checkP f os pl room = frameE f := by unfold checkP; rw [if_neg h]
theorem check_room {f : Fr} {os pl : List Int} {room : Int} (h : frameE f = 0) (hr : ¬ (0 ≤ room ∧ room ≤ 4096)) : checkP f os pl room = 3 := by unfold checkP; rw [if_pos h, if_neg hr]
theorem check_form {f : Fr} {os pl : List Int} {room : Int} (h : frameE f = 0) (hr : 0 ≤ room ∧ room ≤ 4096) (hp : planE f os pl ≠ 0) : checkP f os pl room = planE f os pl := by unfold checkP; rw [if_pos h, if_pos hr, if_neg hp]
theorem check_fits {f : Fr} {os pl : List Int} {room : Int} (hr : 0 ≤ room ∧ room ≤ 4096) (hp : planE f os pl = 0) : checkP f os pl room = if peakT os (lieP (gpOf f) os pl) os.length ≤ room ∧ clearP f os pl = true then 0 else 7 := by
  unfold checkP
  rw [if_pos (planE_zero hp).1, if_pos hr, if_pos hp]
  unfold peakP
  rw [if_pos hp]
set_option maxHeartbeats 4000000 in
theorem planCheck_any (W H S O : Int) (a : Option Addr) (len cap : Nat) (ps : List Ps) (w : World) (hp : Passes w a len ps) (oa : Option Addr) (olen ocap : Nat) (pa : Option Addr) (plen pcap : Nat) (os pl : List Int) (hO : Ints 0 w oa olen os) (hL : Ints 0 w pa plen pl) (hcap : olen ≤ ocap) (room : Int) :
    Calls Tryz.prog 85 #[.agg #[.int .i64 W, .int .i64 H, .int .i64 S, .int .i64 O, .slice a len cap], .agg #[.slice oa olen ocap, .slice pa plen pcap], .int .i64 room] w fun e w' =>
      e = .returned (.int .i64 (checkP ⟨W, H, S, O, ps⟩ os pl room)) ∧ Below w.heap.size w w' := by
  have hb0 := below_box (below_box (Below.refl w.heap.size w) (.cells #[.int .i64 W, .int .i64 H, .int .i64 S, .int .i64 O, .slice a len cap] 35)) (.cells #[.slice oa olen ocap, .slice pa plen pcap] 48)
  have hF0 := (FBox.new w W H S O a len cap).alloc (.cells #[.slice oa olen ocap, .slice pa plen pcap] 48)
  have hP0 := PlBox.new (w.alloc (.cells #[.int .i64 W, .int .i64 H, .int .i64 S, .int .i64 O, .slice a len cap] 35)) (.slice oa olen ocap) (.slice pa plen pcap) 48
  rw [World.size_alloc] at hP0
  have hfc := frameCheck_any W H S O a len cap ps _ (hp.below hb0)
  by_cases hE : frameE ⟨W, H, S, O, ps⟩ = 0
  · rw [hE] at hfc
    go_enter Tryz.func85, Tryz.ntmps85
    go_wp2_with fail
    refine hfc.mono ?_
    clear hfc
    rintro e w1 ⟨rfl, b1⟩
    have hF1 := hF0.below b1
    have hP1 := hP0.below b1
    have hb1 := below_step hb0 b1
    obtain ⟨_, g0, g1, g2, g3, g4⟩ := id hF1
    obtain ⟨_, h0, h1⟩ := id hP1
    have hla := lay_any W H S O a len cap ps _ (hp.below hb1) oa olen ocap pa plen pcap os pl (hO.below (Nat.le_refl _) hb1) (hL.below (Nat.le_refl _) hb1)
    by_cases hr1 : room < 0
    · have HC : Hid (_) := check_room (os := os) (pl := pl) (room := room) hE (by omega)
      clear hE hla
      go_wp2
      go_ret
      exact ⟨by rw [HC.out]; rfl, hb1⟩
    · by_cases hr2 : 4096 < room
      · have HC : Hid (_) := check_room (os := os) (pl := pl) (room := room) hE (by omega)
        clear hE hla
        go_wp2
        go_ret
        exact ⟨by rw [HC.out]; rfl, hb1⟩
      · have HC1 : Hid (_) := check_form (os := os) (pl := pl) (room := room) hE ⟨by omega, by omega⟩
        have HC2 : Hid (_) := check_fits (f := ⟨W, H, S, O, ps⟩) (os := os) (pl := pl) (room := room) ⟨by omega, by omega⟩
        clear hE
        go_wp2_with fail
        refine hla.mono ?_
        clear hla
        rintro e w2 ⟨⟨hE, sb, lb, rfl, hsb, hSp, hLi⟩ | ⟨hE, rfl⟩, b2⟩
        · have hF := facts hE
          have hb2 := below_step hb1 b2
          have bA := (Below.refl w2.heap.size w2).alloc (Nat.le_refl _) (.cells #[.slice oa olen ocap, .slice (some ⟨sb, 0, none⟩) ps.length ps.length, .slice (some ⟨lb, 0, none⟩) ps.length ps.length] 91)
          have hO1 := (hO.below (Nat.le_refl _) hb2).below (Nat.le_refl _) bA
          have hS1 := hSp.alloc (.cells #[.slice oa olen ocap, .slice (some ⟨sb, 0, none⟩) ps.length ps.length, .slice (some ⟨lb, 0, none⟩) ps.length ps.length] 91)
          have hL1 := hLi.alloc (.cells #[.slice oa olen ocap, .slice (some ⟨sb, 0, none⟩) ps.length ps.length, .slice (some ⟨lb, 0, none⟩) ps.length ps.length] 91)
          have hpk := peak_any hF.inN hF.ol (fun k hk => (hF.lie k hk).2.1) ocap (.slice (some ⟨sb, 0, none⟩) ps.length ps.length) hO1 hL1
          have hcl := fun wx (h : Below (w2.alloc (.cells #[.slice oa olen ocap, .slice (some ⟨sb, 0, none⟩) ps.length ps.length, .slice (some ⟨lb, 0, none⟩) ps.length ps.length] 91)).heap.size (w2.alloc (.cells #[.slice oa olen ocap, .slice (some ⟨sb, 0, none⟩) ps.length ps.length, .slice (some ⟨lb, 0, none⟩) ps.length ps.length] 91)) wx) => clash_any hF.inN hF.ol ocap hcap (hO1.below (Nat.le_refl _) h) (hS1.below h hS1.lt h.size) (hL1.below h hL1.lt h.size)
          dsimp only at hpk hcl
          have hb3 := below_step hb2 bA
          have hB := Box3.new w2 (.slice oa olen ocap) (.slice (some ⟨sb, 0, none⟩) ps.length ps.length) (.slice (some ⟨lb, 0, none⟩) ps.length ps.length) 91
          dsimp only
          have HC3 : Hid (checkP ⟨W, H, S, O, ps⟩ os pl room = if peakT os (lieP (gpOf ⟨W, H, S, O, ps⟩) os pl) os.length ≤ room ∧ clearT os (spanP (gpOf ⟨W, H, S, O, ps⟩) os) (lieP (gpOf ⟨W, H, S, O, ps⟩) os pl) os.length = true then 0 else 7) := HC2.out hE
          generalize peakT os (lieP (gpOf ⟨W, H, S, O, ps⟩) os pl) os.length = pk at *
          generalize clearT os (spanP (gpOf ⟨W, H, S, O, ps⟩) os) (lieP (gpOf ⟨W, H, S, O, ps⟩) os pl) os.length = cl at *
          clear hE hLi hSp hF hO1 hL1 hS1 g0 g1 g2 g3 g4 h0 h1 HC1 HC2
          by_cases hk : room < pk
          · go_wp2_with (go_at_call 44; refine hpk.mono ?_; rintro e w3 ⟨rfl, b3⟩)
            go_ret
            exact ⟨by rw [HC3.out, if_neg (fun h => by omega)]; rfl, below_step hb3 b3⟩
          · cases cl with
            | true =>
              go_wp2_with (first
                | (go_at_call 44; refine hpk.mono ?_; rintro e w3 ⟨rfl, b3⟩; obtain ⟨_, k0, k1, k2⟩ := hB.below b3)
                | (go_at_call 129; refine (hcl _ b3).mono ?_; rintro e w4 ⟨rfl, b4⟩))
              go_ret
              exact ⟨by rw [HC3.out, if_pos ⟨by omega, by trivial⟩]; rfl, below_step (below_step hb3 b3) b4⟩
            | false =>
              go_wp2_with (first
                | (go_at_call 44; refine hpk.mono ?_; rintro e w3 ⟨rfl, b3⟩; obtain ⟨_, k0, k1, k2⟩ := hB.below b3)
                | (go_at_call 129; refine (hcl _ b3).mono ?_; rintro e w4 ⟨rfl, b4⟩))
              go_ret
              exact ⟨by rw [HC3.out, if_neg (fun h => by cases h.2)]; rfl, below_step (below_step hb3 b3) b4⟩
        · have HE : Hid (_) := hE
          have hb2 := below_step hb1 b2
          have hne : ¬ planE ⟨W, H, S, O, ps⟩ os pl = 0 := hE
          have HC3 : Hid (_) := HC1.out hE
          clear hE HC1 HC2 g0 g1 g2 g3 g4 h0 h1
          generalize planE ⟨W, H, S, O, ps⟩ os pl = E at *
          go_wp2
          go_ret
          exact ⟨by rw [HC3.out]; rfl, below_box hb2 _⟩
  · have HC : Hid (_) := check_none (os := os) (pl := pl) (room := room) hE
    generalize frameE ⟨W, H, S, O, ps⟩ = E at *
    go_enter Tryz.func85, Tryz.ntmps85
    go_wp2_with fail
    refine hfc.mono ?_
    clear hfc
    rintro e w1 ⟨rfl, b1⟩
    go_wp2
    go_ret
    exact ⟨by rw [HC.out]; rfl, below_step hb0 b1⟩
end Go.Proofs.YtaenpgdmiaekcaaGreatDoor
/-
  STEPREF: the reference's stepOf, area and meet.
-/
namespace Go.Proofs.YtaenpgdmiaekcaaGreatDoor
set_option maxRecDepth 100000
open Go.RowKit Im Go.Maps

theorem stepAt_take_none {os : List Int} {p : Int} {k : Nat} (hk : k < os.length) (h : p ∉ os.take k) (e : os.getD k 0 = p) : stepAt os p = k := by
  induction os generalizing k with
  | nil => simp at hk
  | cons o l ih =>
    cases k with
    | zero => simp at e; subst e; simp [stepAt]
    | succ k =>
      rw [List.take_succ_cons, List.mem_cons, not_or] at h
      rw [List.getD_cons_succ] at e
      have := ih (k := k) (by simpa using hk) h.2 e
      unfold stepAt
      rw [if_neg (fun x => h.1 x.symm), this, if_neg (by omega)]
      omega
set_option maxHeartbeats 1000000 in
theorem stepOf_any {a : Option Addr} {len : Nat} (cap : Nat) {os : List Int} {base : Nat} {w : World} (hI : Ints base w a len os) (p : Int) :
    Calls Tryz.prog 90 #[.slice a len cap, .int .i64 p] w fun e w' => e = .returned (.int .i64 (stepAt os p)) ∧ w = w' := by
  obtain rfl := hI.leng
  have hbig := hI.big
  go_enter Tryz.func90, Tryz.ntmps90
  go_wp2
  go_loop [5] (fun i => ∃ k : Nat, k ≤ os.length ∧ i = .int .i64 k ∧ p ∉ os.take k) (fun i => os.length - (intOf i).toNat)
  case atStart => exact ⟨0, Nat.zero_le _, rfl, by simp⟩
  case round =>
    obtain ⟨k, hk, rfl, hno⟩ := hrel
    by_cases hlt : k < os.length
    · obtain ⟨b, off, rfl, hcx⟩ := hI.nth hlt
      have HT : Hid (os.getD k 0 = p → stepAt os p = k) := fun e => stepAt_take_none hlt hno e
      have HN : Hid (¬ os.getD k 0 = p → p ∉ os.take (k + 1)) := fun e h => ((mem_take_succ hlt p).1 h).elim hno e
      generalize os.getD k 0 = n at hcx HT HN
      clear hno
      by_cases hn : n = p
      · subst hn
        go_wp2
        go_ret
        exact ⟨by rw [HT.out (by trivial)]; rfl, rfl⟩
      · go_wp2
        go_round
        case rel => exact ⟨k + 1, by omega, by go_num, HN.out hn⟩
        case measure => simp [intOf]; omega
    · have hke : k = os.length := by omega
      subst hke
      rw [List.take_length] at hno
      have hs : stepAt os p = -1 := by
        have h1 := stepAt_bd os p
        have h2 : ¬ 0 ≤ stepAt os p := fun h => hno (stepAt_mem.1 h)
        omega
      have HS : Hid (_) := hs
      clear hs hno
      go_wp2
      go_ret
      exact ⟨by rw [HS.out]; rfl, rfl⟩
theorem area_any (zw zh : Int) (w : World) (hw : IntKind.i64.wrap (zw * zh) = zw * zh) : Calls Tryz.prog 52 #[.agg #[.int .i64 zw, .int .i64 zh]] w fun e w' => e = .returned (.int .i64 (zw * zh)) ∧ Below w.heap.size w w' := by
  go_enter Tryz.func52, Tryz.ntmps52
  go_wp2
  go_ret
  exact ⟨rfl, below_box (Below.refl _ _) _⟩
theorem meetRef_any (a b c d : Int) (w : World) : Calls Tryz.prog 91 #[.agg #[.int .i64 a, .int .i64 b], .agg #[.int .i64 c, .int .i64 d]] w fun e w' => e = .returned (.bool (meetB (a, b) (c, d))) ∧ Below w.heap.size w w' := by
  by_cases h1 : a ≤ d
  · by_cases h2 : c ≤ b
    · go_enter Tryz.func91, Tryz.ntmps91
      go_wp2
      go_ret
      exact ⟨by simp [meetB, h1, h2], below_box (below_box (Below.refl _ _) _) _⟩
    · go_enter Tryz.func91, Tryz.ntmps91
      go_wp2
      go_ret
      exact ⟨by simp [meetB, h1, h2], below_box (below_box (Below.refl _ _) _) _⟩
  · go_enter Tryz.func91, Tryz.ntmps91
    go_wp2
    go_ret
    exact ⟨by simp [meetB]; omega, below_box (below_box (Below.refl _ _) _) _⟩
end Go.Proofs.YtaenpgdmiaekcaaGreatDoor
/-
  ORDREF: the reference's InOrder.
-/
namespace Go.Proofs.YtaenpgdmiaekcaaGreatDoor
set_option maxRecDepth 100000
open Go.RowKit Im Go.Maps

end Go.Proofs.YtaenpgdmiaekcaaGreatDoor
