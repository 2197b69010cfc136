/- Lay, PlanCalls, NeedMath2, ExecN: joined, in this order. -/
import Derived.Test.YtihliofhhjjeaaaGreatM15
import Derived.Test.YtihliofhhjjeaaaGreatM16
import Derived.Test.YtihliofhhjjeaaaGreatM17
import Derived.Test.YtihliofhhjjeaaaGreatM02
import Derived.Test.YtihliofhhjjeaaaGreatM13
set_option maxRecDepth 100000
namespace Go.Proofs.YtihliofhhjjeaaaGreat
open Go.RowKit Im Go.Maps
def gpOf (f : Fr) : Gp := ⟨f.ps.length, srcOf f.ps, keptG f.ps f.ps.length (shownP f) f.ps.length, fun k => areaZ ((szs f f.ps.length).getD k Sz.zero), shownP f⟩
theorem gp_right {f : Fr} (hE : frameE f = 0) : (gpOf f).Right := by
  obtain ⟨hb, hf, hs⟩ := frameE_zero hE
  obtain ⟨_, _, _, _, hL⟩ := boundsE_zero hb
  have hl : shownP f < f.ps.length := (wrt_bd f.ps f.ps.length f.O).2
  refine ⟨hL, fun k hk => srcOk_of hE k hk, fun k hk => ?_, ⟨hs, hl⟩, ?_⟩
  · exact area_bd (szs_bd hb hf _ (getD_mem (by rw [szs_length]; exact hk) _))
  · obtain ⟨N, hN⟩ := Int.eq_ofNat_of_zero_le hs
    show keptG f.ps f.ps.length (shownP f) f.ps.length (shownP f).toNat = true
    rw [hN, Int.toNat_natCast]
    exact kept_shown
theorem gp_closed {f : Fr} (hE : frameE f = 0) : ∀ k, k < (gpOf f).N → (gpOf f).kept k = true → ∀ s ∈ (gpOf f).src k, (gpOf f).kept s.toNat = true := by
  intro k hk hK s hs
  have hb := srcOk_of hE k hk s hs
  obtain ⟨i, rfl⟩ := Int.eq_ofNat_of_zero_le hb.1
  rw [Int.toNat_natCast]
  exact kept_src (srcOk_of hE) hk hK hs
def planE (f : Fr) (os pl : List Int) : Int := if frameE f = 0 then (if ordB (gpOf f) os pl = true then 0 else 1) else frameE f
theorem planE_zero {f : Fr} {os pl : List Int} (h : planE f os pl = 0) : frameE f = 0 ∧ Ord (gpOf f) os pl := by
  unfold planE at h
  by_cases hE : frameE f = 0
  · rw [if_pos hE] at h
    by_cases ho : ordB (gpOf f) os pl = true
    · exact ⟨hE, ord_iff.1 ho⟩
    · rw [if_neg ho] at h; cases h
  · rw [if_neg hE] at h; exact absurd h hE
abbrev noLay : Value := .agg #[.slice none 0 0, .slice none 0 0, .slice none 0 0]
def ToldLay (w : World) (f : Fr) (os pl : List Int) (ov : Value) (e : Ending) (w' : World) : Prop :=
  ((planE f os pl = 0 ∧ ∃ sb lb, e = .returned (.tuple #[.agg #[ov, .slice (some ⟨sb, 0, none⟩) f.ps.length f.ps.length, .slice (some ⟨lb, 0, none⟩) f.ps.length f.ps.length], .int .i64 0]) ∧ w.heap.size ≤ sb ∧ Sp w' sb f.ps.length (spanP (gpOf f) os) ∧ Sp w' lb f.ps.length (lieP (gpOf f) os pl)) ∨
   (planE f os pl ≠ 0 ∧ e = .returned (.tuple #[noLay, .int .i64 (planE f os pl)]))) ∧ Below w.heap.size w w'
structure NBox (w : World) (b : Nat) : Prop where
  lt : b < w.heap.size
  c0 : w.cell? ⟨b, 0, none⟩ = some (.slice none 0 0)
  c1 : w.cell? ⟨b, 1, none⟩ = some (.slice none 0 0)
  c2 : w.cell? ⟨b, 2, none⟩ = some (.slice none 0 0)
  fz : ∀ o, w.frozen? ⟨b, o, none⟩ = false
theorem NBox.new (w : World) : NBox (w.alloc (.cells #[.slice none 0 0, .slice none 0 0, .slice none 0 0] 115)) w.heap.size :=
  ⟨by simp, by simp [go_sem], by simp [go_sem], by simp [go_sem], fun o => frozen_new w _ _ o⟩
theorem NBox.below {w w' : World} {b : Nat} (h : NBox w b) (hb : Below w.heap.size w w') : NBox w' b :=
  ⟨Nat.lt_of_lt_of_le h.lt hb.size, (hb.cell (p := ⟨b, 0, none⟩) h.lt).trans h.c0, (hb.cell (p := ⟨b, 1, none⟩) h.lt).trans h.c1, (hb.cell (p := ⟨b, 2, none⟩) h.lt).trans h.c2, fun o => (hb.frozen (p := ⟨b, o, none⟩) h.lt).trans (h.fz o)⟩
structure PlBox (w : World) (b : Nat) (v0 v1 : Value) : Prop where
  lt : b < w.heap.size
  c0 : w.cell? ⟨b, 0, none⟩ = some v0
  c1 : w.cell? ⟨b, 1, none⟩ = some v1
theorem PlBox.below {w w' : World} {b : Nat} {v0 v1 : Value} (h : PlBox w b v0 v1) (hb : Below w.heap.size w w') : PlBox w' b v0 v1 :=
  ⟨Nat.lt_of_lt_of_le h.lt hb.size, (hb.cell (p := ⟨b, 0, none⟩) h.lt).trans h.c0, (hb.cell (p := ⟨b, 1, none⟩) h.lt).trans h.c1⟩
theorem PlBox.new (w : World) (v0 v1 : Value) (t : TypeId) : PlBox (w.alloc (.cells #[v0, v1] t)) w.heap.size v0 v1 := ⟨by simp, by simp [go_sem], by simp [go_sem]⟩
abbrev lw (w : World) (W H S O : Int) (a : Option Addr) (len cap : Nat) (v0 v1 : Value) : World :=
  ((w.alloc (.cells #[.int .i64 W, .int .i64 H, .int .i64 S, .int .i64 O, .slice a len cap] 24)).alloc (.cells #[v0, v1] 27)).alloc (.cells #[.slice none 0 0, .slice none 0 0, .slice none 0 0] 115)
theorem lw_boxes (w : World) (W H S O : Int) (a : Option Addr) (len cap : Nat) (v0 v1 : Value) : Below w.heap.size w (lw w W H S O a len cap v0 v1) ∧ FBox (lw w W H S O a len cap v0 v1) w.heap.size W H S O a len cap ∧ PlBox (lw w W H S O a len cap v0 v1) (w.heap.size + 1) v0 v1 ∧ NBox (lw w W H S O a len cap v0 v1) (w.heap.size + 2) := by
  refine ⟨below_box (below_box (below_box (Below.refl _ _) _) _) _, ((FBox.new w W H S O a len cap).alloc _).alloc _, ?_, ?_⟩
  · have := (PlBox.new (w.alloc (.cells #[.int .i64 W, .int .i64 H, .int .i64 S, .int .i64 O, .slice a len cap] 24)) v0 v1 27).below ((Below.refl _ _).alloc (Nat.le_refl _) (.cells #[.slice none 0 0, .slice none 0 0, .slice none 0 0] 115))
    simpa using this
  · have := NBox.new ((w.alloc (.cells #[.int .i64 W, .int .i64 H, .int .i64 S, .int .i64 O, .slice a len cap] 24)).alloc (.cells #[v0, v1] 27))
    simpa using this
set_option maxHeartbeats 2000000 in
theorem lay_err (W H S O : Int) (a : Option Addr) (len cap : Nat) (ps : List Ps) (w : World) (hp : Passes w a len ps) (v0 v1 : Value) (os pl : List Int) (hE : frameE ⟨W, H, S, O, ps⟩ ≠ 0) :
    Calls Tryz.prog 61 #[.agg #[.int .i64 W, .int .i64 H, .int .i64 S, .int .i64 O, .slice a len cap], .agg #[v0, v1]] w (ToldLay w ⟨W, H, S, O, ps⟩ os pl v0) := by
  obtain ⟨hb0, hF, hP, hNb⟩ := lw_boxes w W H S O a len cap v0 v1
  have hsz := sizes_any W H S O a len cap ps _ (hp.below hb0)
  have hpe : planE ⟨W, H, S, O, ps⟩ os pl = frameE ⟨W, H, S, O, ps⟩ := by unfold planE; rw [if_neg hE]
  go_enter Tryz.func61, Tryz.ntmps61
  go_wp2_with fail
  refine hsz.mono ?_
  clear hsz
  rintro e w1 ⟨⟨v, rfl, hZ⟩, b1⟩
  rw [if_neg hE] at hZ
  obtain ⟨za, zc, rfl, _⟩ := hZ.zs (by simp)
  obtain ⟨_, c0, c1, c2, fz⟩ := hNb.below b1
  have f0 := fz 0
  have f1 := fz 1
  have f2 := fz 2
  have HE : Hid (_) := hE
  have HPE : Hid (_) := hpe
  have hb1 := below_step hb0 b1
  have hbs := ((hb1.setCell (p := ⟨w.heap.size + 2, 0, none⟩) (by simp) (.slice none 0 0)).setCell (p := ⟨w.heap.size + 2, 1, none⟩) (by simp) (.slice none 0 0)).setCell (p := ⟨w.heap.size + 2, 2, none⟩) (by simp) (.slice none 0 0)
  generalize frameE ⟨W, H, S, O, ps⟩ = E at *
  clear fz hpe
  go_wp2
  refine bodyPost_ret (v := .tuple #[noLay, .int .i64 E]) (by simp [results, Tryz.results61, go_sem, c0, c1, c2]) rfl ⟨.inr ⟨by rw [HPE.out]; exact HE.out, by rw [HPE.out]⟩, hbs⟩
theorem set3 {w : World} {b c o : Nat} (x y z : Value) (h : b ≠ c) : (((w.setCell ⟨b, 0, none⟩ x).setCell ⟨b, 1, none⟩ y).setCell ⟨b, 2, none⟩ z).cell? ⟨c, o, none⟩ = w.cell? ⟨c, o, none⟩ := by
  rw [set_other _ (fun e => h (by injection e)), set_other _ (fun e => h (by injection e)), set_other _ (fun e => h (by injection e))]
theorem Sp.set3 {w : World} {b B n : Nat} {g : Nat → Int × Int} (h : Sp w b n g) (x y z : Value) (hB : B ≠ b) : Sp (((w.setCell ⟨B, 0, none⟩ x).setCell ⟨B, 1, none⟩ y).setCell ⟨B, 2, none⟩ z) b n g :=
  ⟨by simpa using h.lt, fun j hj => (YtihliofhhjjeaaaGreat.set3 x y z hB).trans (h.c0 j hj), fun j hj => (YtihliofhhjjeaaaGreat.set3 x y z hB).trans (h.c1 j hj), fun o => by simpa using h.froz o⟩
theorem below3 {w wx : World} {B : Nat} (hb : Below w.heap.size w wx) (hB : w.heap.size ≤ B) (x y z : Value) : Below w.heap.size w (((wx.setCell ⟨B, 0, none⟩ x).setCell ⟨B, 1, none⟩ y).setCell ⟨B, 2, none⟩ z) :=
  ((hb.setCell (p := ⟨B, 0, none⟩) hB x).setCell (p := ⟨B, 1, none⟩) hB y).setCell (p := ⟨B, 2, none⟩) hB z
set_option maxHeartbeats 4000000 in
theorem lay_ok (W H S O : Int) (a : Option Addr) (len cap : Nat) (ps : List Ps) (w : World) (hp : Passes w a len ps) (oa : Option Addr) (olen ocap : Nat) (pa : Option Addr) (plen pcap : Nat) (os pl : List Int) (hO : Ints 0 w oa olen os) (hL : Ints 0 w pa plen pl) (hE : frameE ⟨W, H, S, O, ps⟩ = 0) :
    Calls Tryz.prog 61 #[.agg #[.int .i64 W, .int .i64 H, .int .i64 S, .int .i64 O, .slice a len cap], .agg #[.slice oa olen ocap, .slice pa plen pcap]] w (ToldLay w ⟨W, H, S, O, ps⟩ os pl (.slice oa olen ocap)) := by
  obtain rfl := hp.leng
  have hR := gp_right hE
  obtain ⟨hb0, hF, hP, hNb⟩ := lw_boxes w W H S O a ps.length cap (.slice oa olen ocap) (.slice pa plen pcap)
  have hp0 := hp.below hb0
  have hO0 := hO.below (Nat.le_refl _) hb0
  have hL0 := hL.below (Nat.le_refl _) hb0
  have hsz := sizes_any W H S O a ps.length cap ps _ hp0
  have hso := fun wx hp => sources_any W H S O a ps.length cap ps wx hp
  have hke := fun wx hp => kept_any W H S O a ps.length cap ps wx hp
  have hla := fun wx hp => last_any W H S O a ps.length cap ps wx hp
  have hpe : planE ⟨W, H, S, O, ps⟩ os pl = if ordB (gpOf ⟨W, H, S, O, ps⟩) os pl = true then 0 else 1 := by unfold planE; rw [if_pos hE]
  unfold ToldLast at hla
  rw [hE, if_pos rfl] at hla
  have hs2 : ∀ x ∈ srcs ps ps.length, x.length ≤ 2 := by
    intro x hx
    unfold srcs at hx
    rw [List.mem_map] at hx
    obtain ⟨n, _, rfl⟩ := hx
    unfold srcOf
    rw [List.length_map]
    exact takesP_len _
  obtain ⟨hbnd, hfirst, hsh⟩ := frameE_zero hE
  have hzb := szs_bd hbnd hfirst
  dsimp only at hfirst hzb
  obtain ⟨la, hla'⟩ := Int.eq_ofNat_of_zero_le hsh
  have hlal : la < ps.length := by have := hR.last.2; have e : (gpOf ⟨W, H, S, O, ps⟩).last = la := hla'; rw [e] at this; have e2 : (gpOf ⟨W, H, S, O, ps⟩).N = ps.length := rfl; omega
  rw [hla'] at hla
  clear hO hL hp
  go_enter Tryz.func61, Tryz.ntmps61
  go_wp2_with fail
  refine hsz.mono ?_
  clear hsz
  rintro e w1 ⟨⟨v, rfl, hZ⟩, b1⟩
  rw [if_pos hE] at hZ
  rw [hE]
  obtain ⟨za, zc, rfl, hZs⟩ := hZ.zs (by rw [szs_length]; exact hR.hN.2)
  dsimp only at hZs ⊢
  rw [szs_length] at hZs ⊢
  have hF1 := hF.below b1
  have hb1 := below_step hb0 b1
  obtain ⟨_, g0, g1, g2, g3, g4⟩ := id hF1
  clear hZ
  go_wp2_with fail
  refine (hso _ (hp0.below b1)).mono ?_
  rintro e w2 ⟨⟨v2, rfl, hS⟩, b2⟩
  rw [if_pos hE] at hS
  rw [hE]
  obtain ⟨sa, sc, rfl, hSs⟩ := hS.lls hs2
  dsimp only at hSs ⊢
  rw [srcs_length] at hSs ⊢
  have hF2 := hF1.below b2
  have hb2 := below_step hb1 b2
  have hZ2 := hZs.below b2
  clear hS hs2 hso g0 g1 g2 g3 g4 hF1
  obtain ⟨_, g0, g1, g2, g3, g4⟩ := id hF2
  go_wp2_with fail
  refine (hke _ ((hp0.below b1).below b2)).mono ?_
  rintro e w3 ⟨⟨_, kb, rfl, hkb, hK⟩ | ⟨hne, _⟩, b3⟩
  case inr => exact absurd hE hne
  dsimp only at hK ⊢
  have hF3 := hF2.below b3
  have hb3 := below_step hb2 b3
  have hZ3 := hZ2.below b3
  have hS3 := hSs.below b3
  clear hke g0 g1 g2 g3 g4 hF2 hZ2 hZs hSs
  obtain ⟨_, g0, g1, g2, g3, g4⟩ := id hF3
  go_wp2_with fail
  refine (hla _ (((hp0.below b1).below b2).below b3)).mono ?_
  rintro e w4 ⟨rfl, b4⟩
  have hF4 := hF3.below b4
  have hb4 := below_step hb3 b4
  have hZ4 := hZ3.below b4
  have hS4 := hS3.below b4
  have hK4 := hK.below b4 hK.lt b4.size
  have hb04 := below_step (below_step (below_step b1 b2) b3) b4
  have hP4 := hP.below hb04
  have hN4 := hNb.below hb04
  have hO4 := hO0.below (Nat.le_refl _) hb04
  have hL4 := hL0.below (Nat.le_refl _) hb04
  clear hla g0 g1 g2 g3 g4 hF3 hZ3 hS3 hK b1 b2 b3 b4 hp0 hO0 hL0 hF hP hNb hb1 hb2 hb3
  obtain ⟨_, g0, g1, g2, g3, g4⟩ := id hF4
  obtain ⟨_, h0, h1⟩ := id hP4
  have hst := stepsOf_any ocap hO4 (N := ps.length) hR.hN.2
  have HPE : Hid (_) := hpe
  have HOB : Hid (ordB (gpOf ⟨W, H, S, O, ps⟩) os pl = (onceB os ps.length && hasAllB (keptG ps ps.length (shownP ⟨W, H, S, O, ps⟩) ps.length) os ps.length && behB (srcOf ps) os ps.length && plcB os pl ps.length)) := rfl
  have hE1 : ordB (gpOf ⟨W, H, S, O, ps⟩) os pl = false → planE ⟨W, H, S, O, ps⟩ os pl = 1 := fun h => by rw [HPE.out, if_neg (by rw [h]; decide)]
  have HE1 : Hid (_) := hE1
  have hsr : ∀ k, k < ps.length → (srcs ps ps.length).getD k [] = srcOf ps k := fun k hk => srcs_at ps hk
  have hs2 : ∀ k, k < ps.length → (srcOf ps k).length ≤ 2 ∧ ∀ s ∈ srcOf ps k, 0 ≤ s ∧ s < ps.length := fun k hk => ⟨by unfold srcOf; rw [List.length_map]; exact takesP_len _, fun s hs => by have := srcOk_of hE k hk s hs; omega⟩
  clear hpe hE1
  go_wp2_with fail
  refine hst.mono ?_
  clear hst
  rintro e w5 (⟨h1o, ⟨B, rfl, hB, hSt⟩, b5⟩ | ⟨h1o, rfl, b5⟩)
  case inr =>
    obtain ⟨_, c0, c1, c2, fz⟩ := hN4.below b5
    have f0 := fz 0
    have f1 := fz 1
    have f2 := fz 2
    have hbs := below3 (B := w.heap.size + 2) (below_step hb4 b5) (by omega) (.slice none 0 0) (.slice none 0 0) (.slice none 0 0)
    have HX : Hid (planE ⟨W, H, S, O, ps⟩ os pl = 1) := HE1.out (by rw [HOB.out, h1o]; rfl)
    clear fz hF4 hZ4 hS4 hK4 hP4 hN4 hO4 hL4 hsr hs2 hzb g0 g1 g2 g3 g4 h0 h1
    go_wp2
    exact bodyPost_ret (v := .tuple #[noLay, .int .i64 1]) (by simp [results, Tryz.results61, go_sem, c0, c1, c2]) rfl ⟨.inr ⟨by rw [HX.out]; decide, by rw [HX.out]⟩, hbs⟩
  have hF5 := hF4.below b5
  have hb5 := below_step hb4 b5
  have hZ5 := hZ4.below b5
  have hS5 := hS4.below b5
  have hK5 := hK4.below b5 hK4.lt b5.size
  have hP5 := hP4.below b5
  have hN5 := hN4.below b5
  have hO5 := hO4.below (Nat.le_refl _) b5
  have hL5 := hL4.below (Nat.le_refl _) b5
  clear g0 g1 g2 g3 g4 h0 h1 hF4 hZ4 hS4 hK4 hP4 hN4 hO4 hL4 hb4 hb04
  obtain ⟨_, g0, g1, g2, g3, g4⟩ := id hF5
  obtain ⟨_, h0, h1⟩ := id hP5
  obtain ⟨_, c0, c1, c2, fz⟩ := id hN5
  have f0 := fz 0
  have f1 := fz 1
  have f2 := fz 2
  have hha := hasAll_any (cap := ps.length) hSt hK5 hR.hN.2
  have hbe := isBehind_any (cap := sc) hSt hS5 hR.hN.2 hsr hs2
  have hpl := isPlaced_any (cap := pcap) hSt hL5 (N := ps.length) hR.hN.2
  have hbs := below3 (B := w.heap.size + 2) hb5 (by omega) (.slice none 0 0) (.slice none 0 0) (.slice none 0 0)
  have HON := onceB_iff.1 h1o
  have hol : os.length ≤ ps.length := nodup_len _ _ HON.2 HON.1
  have hol2 : os.length ≤ 12 := Nat.le_trans hol hR.hN.2
  rw [h1o] at HOB
  have HSR : Hid (_) := hsr
  have HS2 : Hid (_) := hs2
  have HZB : Hid (_) := hzb
  have HOI : Hid (_) := HON.1
  clear fz hsr hs2 hzb HON h1o
  generalize hx1 : hasAllB (keptG ps ps.length (shownP ⟨W, H, S, O, ps⟩) ps.length) os ps.length = x1 at *
  generalize hx2 : behB (srcOf ps) os ps.length = x2 at *
  generalize hx3 : plcB os pl ps.length = x3 at *
  clear hx1 hx2 hx3
  cases x1 with
  | false =>
    have HX : Hid (planE ⟨W, H, S, O, ps⟩ os pl = 1) := HE1.out (by rw [HOB.out]; rfl)
    go_wp2_with (first
      | (go_at_call 92; refine hha.mono ?_; rintro e w' ⟨rfl, rfl⟩))
    exact bodyPost_ret (v := .tuple #[noLay, .int .i64 1]) (by simp [results, Tryz.results61, go_sem, c0, c1, c2]) rfl ⟨.inr ⟨by rw [HX.out]; decide, by rw [HX.out]⟩, hbs⟩
  | true =>
    cases x2 with
    | false =>
      have HX : Hid (planE ⟨W, H, S, O, ps⟩ os pl = 1) := HE1.out (by rw [HOB.out]; rfl)
      go_wp2_with (first
        | (go_at_call 92; refine hha.mono ?_; rintro e w' ⟨rfl, rfl⟩)
        | (go_at_call 93; refine hbe.mono ?_; rintro e w' ⟨rfl, rfl⟩))
      exact bodyPost_ret (v := .tuple #[noLay, .int .i64 1]) (by simp [results, Tryz.results61, go_sem, c0, c1, c2]) rfl ⟨.inr ⟨by rw [HX.out]; decide, by rw [HX.out]⟩, hbs⟩
    | true =>
      cases x3 with
      | false =>
        have HX : Hid (planE ⟨W, H, S, O, ps⟩ os pl = 1) := HE1.out (by rw [HOB.out]; rfl)
        go_wp2_with (first
          | (go_at_call 92; refine hha.mono ?_; rintro e w' ⟨rfl, rfl⟩)
          | (go_at_call 93; refine hbe.mono ?_; rintro e w' ⟨rfl, rfl⟩)
          | (go_at_call 94; refine hpl.mono ?_; rintro e w' ⟨rfl, rfl⟩))
        exact bodyPost_ret (v := .tuple #[noLay, .int .i64 1]) (by simp [results, Tryz.results61, go_sem, c0, c1, c2]) rfl ⟨.inr ⟨by rw [HX.out]; decide, by rw [HX.out]⟩, hbs⟩
      | true =>
        have HX : Hid (planE ⟨W, H, S, O, ps⟩ os pl = 0) := by show _ = _; rw [HPE.out, if_pos (by rw [HOB.out]; rfl)]
        have hOrd := (planE_zero HX.out).2
        have hpl' : plen = ps.length := by rw [← hL5.leng]; exact hOrd.len
        subst hpl'
        have hsp := fun wx (h : Below w5.heap.size w5 wx) => spansOf_any (N := ps.length) hR.hN.2 hlal HS2.out HOI.out hol2 ocap sc (hO5.below (Nat.le_refl _) h) (hSt.below h) (hS5.below h) HSR.out
        have hli := fun wx (h : Below w5.heap.size w5 wx) => liesOf_any (N := ps.length) (pl := pl) hR.hN.2 HOI.out hol2 (fun k hk => hOrd.at_ k (by have := HOI.out _ hk; have e2 : (gpOf ⟨W, H, S, O, ps⟩).N = ps.length := rfl; omega) hk) HZB.out ocap pcap zc (hO5.below (Nat.le_refl _) h) (hL5.below (Nat.le_refl _) h) (hZ5.below h)
        have hd := (Below.refl w5.heap.size w5).drew
        have hwl : w.heap.size + 2 < w5.heap.size := hN5.lt
        clear hS5 hSt hO5 hL5 hZ5 hK5 hOrd hF5 c0 c1 c2 f0 f1 f2
        go_wp2_with (first
          | (go_at_call 92; refine hha.mono ?_; rintro e w' ⟨rfl, rfl⟩)
          | (go_at_call 93; refine hbe.mono ?_; rintro e w' ⟨rfl, rfl⟩)
          | (go_at_call 94; refine hpl.mono ?_; rintro e w' ⟨rfl, rfl⟩))
        clear hha hbe hpl g0 g1 g2 g3 g4
        go_region_held3 (fun w' => w'.cell? ⟨w.heap.size + 1, 0, none⟩ = some (.slice oa olen ocap) ∧ w'.cell? ⟨w.heap.size + 1, 1, none⟩ = some (.slice pa ps.length pcap))
          (first | exact ⟨h0, h1⟩ | exact ⟨hP6.c0, hP6.c1⟩ | exact ⟨hP7.c0, hP7.c1⟩ | exact ⟨(set3 _ _ _ (by omega)).trans hP6.c0, (set3 _ _ _ (by omega)).trans hP6.c1⟩ | exact ⟨(set3 _ _ _ (by omega)).trans hP7.c0, (set3 _ _ _ (by omega)).trans hP7.c1⟩)
          (first
            | (go_at_call 95; (with_reducible refine (hsp _ (by first | exact hd | exact B7)).mono ?_); rintro e w6 ⟨⟨sb, rfl, hsb, hSp⟩, b6⟩; have B6 : Below w5.heap.size w5 w6 := (by first | exact hd.trans b6 | exact below_step B7 b6); have hP6 := hP5.below B6; obtain ⟨_, c0, c1, c2, fz6⟩ := hN5.below B6; have f0 := fz6 0; have f1 := fz6 1; have f2 := fz6 2)
            | (go_at_call 96; (with_reducible refine (hli _ (by first | exact hd | exact B6)).mono ?_); rintro e w7 ⟨⟨lb, rfl, hlb, hLi⟩, b7⟩; have B7 : Below w5.heap.size w5 w7 := (by first | exact hd.trans b7 | exact below_step B6 b7); have hP7 := hP5.below B7; obtain ⟨_, d0, d1, d2, fz7⟩ := hN5.below B7; have k0 := fz7 0; have k1 := fz7 1; have k2 := fz7 2))
        have s6 := B6.size
        have s5 : w5.drew.heap.size = w5.heap.size := rfl
        have sw := hb5.size
        have hq1 := (hSp.below b7 hSp.lt b7.size).set3 (B := w.heap.size + 2) (.slice oa olen ocap) (.slice (some ⟨sb, 0, none⟩) ps.length ps.length) (.slice (some ⟨lb, 0, none⟩) ps.length ps.length) (by omega)
        have hq2 := hLi.set3 (B := w.heap.size + 2) (.slice oa olen ocap) (.slice (some ⟨sb, 0, none⟩) ps.length ps.length) (.slice (some ⟨lb, 0, none⟩) ps.length ps.length) (by omega)
        have hq3 := below3 (B := w.heap.size + 2) (below_step hb5 B7) (by omega) (.slice oa olen ocap) (.slice (some ⟨sb, 0, none⟩) ps.length ps.length) (.slice (some ⟨lb, 0, none⟩) ps.length ps.length)
        have e1 : spanP (gpOf ⟨W, H, S, O, ps⟩) os = spanQ (srcOf ps) os la := by
          funext k
          show (stepAt os k, if (k : Int) = shownP ⟨W, H, S, O, ps⟩ then (os.length : Int) - 1 else ltk (srcOf ps) os k (stepAt os k) os.length) = _
          rw [hla']; rfl
        rw [← e1] at hq1
        have hsb' : w.heap.size ≤ sb := by omega
        have HT : Hid (ToldLay w ⟨W, H, S, O, ps⟩ os pl (.slice oa olen ocap) (.returned (.tuple #[.agg #[.slice oa olen ocap, .slice (some ⟨sb, 0, none⟩) ps.length ps.length, .slice (some ⟨lb, 0, none⟩) ps.length ps.length], .int .i64 0])) (((w7.setCell ⟨w.heap.size + 2, 0, none⟩ (.slice oa olen ocap)).setCell ⟨w.heap.size + 2, 1, none⟩ (.slice (some ⟨sb, 0, none⟩) ps.length ps.length)).setCell ⟨w.heap.size + 2, 2, none⟩ (.slice (some ⟨lb, 0, none⟩) ps.length ps.length))) := ⟨.inl ⟨HX.out, sb, lb, rfl, hsb', hq1, hq2⟩, hq3⟩
        clear hq1 hq2 hq3 hSp hLi b6 b7 B6 B7 hP6 hP7 hN5 hP5 hsp hli e1 hla' hbs
        go_wp2
        exact bodyPost_ret (v := .tuple #[.agg #[.slice oa olen ocap, .slice (some ⟨sb, 0, none⟩) ps.length ps.length, .slice (some ⟨lb, 0, none⟩) ps.length ps.length], .int .i64 0]) (by simp [results, Tryz.results61, go_sem, d0, d1, d2]) rfl HT.out
theorem lay_any (W H S O : Int) (a : Option Addr) (len cap : Nat) (ps : List Ps) (w : World) (hp : Passes w a len ps) (oa : Option Addr) (olen ocap : Nat) (pa : Option Addr) (plen pcap : Nat) (os pl : List Int) (hO : Ints 0 w oa olen os) (hL : Ints 0 w pa plen pl) :
    Calls Tryz.prog 61 #[.agg #[.int .i64 W, .int .i64 H, .int .i64 S, .int .i64 O, .slice a len cap], .agg #[.slice oa olen ocap, .slice pa plen pcap]] w (ToldLay w ⟨W, H, S, O, ps⟩ os pl (.slice oa olen ocap)) := by
  by_cases hE : frameE ⟨W, H, S, O, ps⟩ = 0
  · exact lay_ok W H S O a len cap ps w hp oa olen ocap pa plen pcap os pl hO hL hE
  · exact lay_err W H S O a len cap ps w hp _ _ os pl hE
end Go.Proofs.YtihliofhhjjeaaaGreat
namespace Go.Proofs.YtihliofhhjjeaaaGreat
open Go.RowKit Im Go.Maps
def peakP (f : Fr) (os pl : List Int) : Int := if planE f os pl = 0 then peakT os (lieP (gpOf f) os pl) os.length else 0
def clearP (f : Fr) (os pl : List Int) : Bool := clearT os (spanP (gpOf f) os) (lieP (gpOf f) os pl) os.length
def checkP (f : Fr) (os pl : List Int) (room : Int) : Int :=
  if frameE f = 0 then
    if 0 ≤ room ∧ room ≤ 4096 then
      if planE f os pl = 0 then
        if peakP f os pl ≤ room ∧ clearP f os pl = true then 0 else 7
      else planE f os pl
    else 3
  else frameE f
theorem Box3.alloc {w : World} {b : Nat} {v0 v1 v2 : Value} (h : Box3 w b v0 v1 v2) (o : Obj) : Box3 (w.alloc o) b v0 v1 v2 := h.below ((Below.refl _ _).alloc (Nat.le_refl _) _)
structure Facts (f : Fr) (os pl : List Int) : Prop where
  hN : f.ps.length ≤ 12
  inN : ∀ o ∈ os, 0 ≤ o ∧ o < f.ps.length
  ol : os.length ≤ 12
  lie : ∀ k, k < f.ps.length → (0 ≤ (lieP (gpOf f) os pl k).1 ∧ (lieP (gpOf f) os pl k).1 ≤ 4096) ∧ (0 ≤ (lieP (gpOf f) os pl k).2 ∧ (lieP (gpOf f) os pl k).2 ≤ 4352) ∧ (lieP (gpOf f) os pl k).1 ≤ (lieP (gpOf f) os pl k).2 ∧ (lieP (gpOf f) os pl k).2 ≤ (lieP (gpOf f) os pl k).1 + 255
theorem facts {f : Fr} {os pl : List Int} (h : planE f os pl = 0) : Facts f os pl := by
  obtain ⟨hE, hO⟩ := planE_zero h
  have hR := gp_right hE
  exact ⟨hR.hN.2, hO.inN, Nat.le_trans hO.olen hR.hN.2, fun k hk => lie_bd hR hO hk⟩
set_option maxHeartbeats 1000000 in
theorem spans_any (W H S O : Int) (a : Option Addr) (len cap : Nat) (ps : List Ps) (w : World) (hp : Passes w a len ps) (oa : Option Addr) (olen ocap : Nat) (pa : Option Addr) (plen pcap : Nat) (os pl : List Int) (hO : Ints 0 w oa olen os) (hL : Ints 0 w pa plen pl) :
    Calls Tryz.prog 31 #[.agg #[.int .i64 W, .int .i64 H, .int .i64 S, .int .i64 O, .slice a len cap], .agg #[.slice oa olen ocap, .slice pa plen pcap]] w fun e w' =>
      ((planE ⟨W, H, S, O, ps⟩ os pl = 0 ∧ ∃ sb, e = .returned (.tuple #[.slice (some ⟨sb, 0, none⟩) ps.length ps.length, .int .i64 0]) ∧ w.heap.size ≤ sb ∧ Sp w' sb ps.length (spanP (gpOf ⟨W, H, S, O, ps⟩) os)) ∨ (planE ⟨W, H, S, O, ps⟩ os pl ≠ 0 ∧ e = .returned (.tuple #[.slice none 0 0, .int .i64 (planE ⟨W, H, S, O, ps⟩ os pl)]))) ∧ Below w.heap.size w w' := by
  have hb0 := below_box (below_box (Below.refl w.heap.size w) (.cells #[.int .i64 W, .int .i64 H, .int .i64 S, .int .i64 O, .slice a len cap] 24)) (.cells #[.slice oa olen ocap, .slice pa plen pcap] 27)
  have hla := lay_any W H S O a len cap ps _ (hp.below hb0) oa olen ocap pa plen pcap os pl (hO.below (Nat.le_refl _) hb0) (hL.below (Nat.le_refl _) hb0)
  go_enter Tryz.func31, Tryz.ntmps31
  go_wp2_with fail
  refine hla.mono ?_
  clear hla
  rintro e w1 ⟨⟨hE, sb, lb, rfl, hsb, hSp, hLi⟩ | ⟨hE, rfl⟩, b1⟩
  · have HE : Hid (_) := hE
    have hb1 := below_step hb0 b1
    have hsz := hb0.size
    dsimp only at hSp hLi ⊢
    clear hE hLi
    go_wp2
    go_ret2
    exact ⟨.inl ⟨HE.out, sb, rfl, by omega, hSp.alloc _⟩, below_box hb1 _⟩
  · have HE : Hid (_) := hE
    have hb1 := below_step hb0 b1
    clear hE
    go_wp2
    go_ret2
    exact ⟨.inr ⟨HE.out, rfl⟩, below_box hb1 _⟩
theorem check_none {f : Fr} {os pl : List Int} {room : Int} (h : frameE f ≠ 0) : checkP f os pl room = frameE f := by unfold checkP; rw [if_neg h]
theorem check_room {f : Fr} {os pl : List Int} {room : Int} (h : frameE f = 0) (hr : ¬ (0 ≤ room ∧ room ≤ 4096)) : checkP f os pl room = 3 := by unfold checkP; rw [if_pos h, if_neg hr]
theorem check_form {f : Fr} {os pl : List Int} {room : Int} (h : frameE f = 0) (hr : 0 ≤ room ∧ room ≤ 4096) (hp : planE f os pl ≠ 0) : checkP f os pl room = planE f os pl := by unfold checkP; rw [if_pos h, if_pos hr, if_neg hp]
theorem check_fits {f : Fr} {os pl : List Int} {room : Int} (hr : 0 ≤ room ∧ room ≤ 4096) (hp : planE f os pl = 0) : checkP f os pl room = if peakT os (lieP (gpOf f) os pl) os.length ≤ room ∧ clearP f os pl = true then 0 else 7 := by
  unfold checkP
  rw [if_pos (planE_zero hp).1, if_pos hr, if_pos hp]
  unfold peakP
  rw [if_pos hp]
set_option maxHeartbeats 4000000 in
theorem planCheck_any (W H S O : Int) (a : Option Addr) (len cap : Nat) (ps : List Ps) (w : World) (hp : Passes w a len ps) (oa : Option Addr) (olen ocap : Nat) (pa : Option Addr) (plen pcap : Nat) (os pl : List Int) (hO : Ints 0 w oa olen os) (hL : Ints 0 w pa plen pl) (hcap : olen ≤ ocap) (room : Int) :
    Calls Tryz.prog 56 #[.agg #[.int .i64 W, .int .i64 H, .int .i64 S, .int .i64 O, .slice a len cap], .agg #[.slice oa olen ocap, .slice pa plen pcap], .int .i64 room] w fun e w' =>
      e = .returned (.int .i64 (checkP ⟨W, H, S, O, ps⟩ os pl room)) ∧ Below w.heap.size w w' := by
  have hb0 := below_box (below_box (Below.refl w.heap.size w) (.cells #[.int .i64 W, .int .i64 H, .int .i64 S, .int .i64 O, .slice a len cap] 24)) (.cells #[.slice oa olen ocap, .slice pa plen pcap] 27)
  have hF0 := (FBox.new w W H S O a len cap).alloc (.cells #[.slice oa olen ocap, .slice pa plen pcap] 27)
  have hP0 := PlBox.new (w.alloc (.cells #[.int .i64 W, .int .i64 H, .int .i64 S, .int .i64 O, .slice a len cap] 24)) (.slice oa olen ocap) (.slice pa plen pcap) 27
  rw [World.size_alloc] at hP0
  have hfc := frameCheck_any W H S O a len cap ps _ (hp.below hb0)
  by_cases hE : frameE ⟨W, H, S, O, ps⟩ = 0
  · rw [hE] at hfc
    go_enter Tryz.func56, Tryz.ntmps56
    go_wp2_with fail
    refine hfc.mono ?_
    clear hfc
    rintro e w1 ⟨rfl, b1⟩
    have hF1 := hF0.below b1
    have hP1 := hP0.below b1
    have hb1 := below_step hb0 b1
    obtain ⟨_, g0, g1, g2, g3, g4⟩ := id hF1
    obtain ⟨_, h0, h1⟩ := id hP1
    have hla := lay_any W H S O a len cap ps _ (hp.below hb1) oa olen ocap pa plen pcap os pl (hO.below (Nat.le_refl _) hb1) (hL.below (Nat.le_refl _) hb1)
    by_cases hr1 : room < 0
    · have HC : Hid (_) := check_room (os := os) (pl := pl) (room := room) hE (by omega)
      clear hE hla
      go_wp2
      go_ret
      exact ⟨by rw [HC.out]; rfl, hb1⟩
    · by_cases hr2 : 4096 < room
      · have HC : Hid (_) := check_room (os := os) (pl := pl) (room := room) hE (by omega)
        clear hE hla
        go_wp2
        go_ret
        exact ⟨by rw [HC.out]; rfl, hb1⟩
      · have HC1 : Hid (_) := check_form (os := os) (pl := pl) (room := room) hE ⟨by omega, by omega⟩
        have HC2 : Hid (_) := check_fits (f := ⟨W, H, S, O, ps⟩) (os := os) (pl := pl) (room := room) ⟨by omega, by omega⟩
        clear hE
        go_wp2_with fail
        refine hla.mono ?_
        clear hla
        rintro e w2 ⟨⟨hE, sb, lb, rfl, hsb, hSp, hLi⟩ | ⟨hE, rfl⟩, b2⟩
        · have hF := facts hE
          have hb2 := below_step hb1 b2
          have bA := (Below.refl w2.heap.size w2).alloc (Nat.le_refl _) (.cells #[.slice oa olen ocap, .slice (some ⟨sb, 0, none⟩) ps.length ps.length, .slice (some ⟨lb, 0, none⟩) ps.length ps.length] 115)
          have hO1 := (hO.below (Nat.le_refl _) hb2).below (Nat.le_refl _) bA
          have hS1 := hSp.alloc (.cells #[.slice oa olen ocap, .slice (some ⟨sb, 0, none⟩) ps.length ps.length, .slice (some ⟨lb, 0, none⟩) ps.length ps.length] 115)
          have hL1 := hLi.alloc (.cells #[.slice oa olen ocap, .slice (some ⟨sb, 0, none⟩) ps.length ps.length, .slice (some ⟨lb, 0, none⟩) ps.length ps.length] 115)
          have hpk := peak_any hF.inN hF.ol (fun k hk => (hF.lie k hk).2.1) ocap (.slice (some ⟨sb, 0, none⟩) ps.length ps.length) hO1 hL1
          have hcl := fun wx (h : Below (w2.alloc (.cells #[.slice oa olen ocap, .slice (some ⟨sb, 0, none⟩) ps.length ps.length, .slice (some ⟨lb, 0, none⟩) ps.length ps.length] 115)).heap.size (w2.alloc (.cells #[.slice oa olen ocap, .slice (some ⟨sb, 0, none⟩) ps.length ps.length, .slice (some ⟨lb, 0, none⟩) ps.length ps.length] 115)) wx) => clash_any hF.inN hF.ol ocap hcap (hO1.below (Nat.le_refl _) h) (hS1.below h hS1.lt h.size) (hL1.below h hL1.lt h.size)
          dsimp only at hpk hcl
          have hb3 := below_step hb2 bA
          have hB := Box3.new w2 (.slice oa olen ocap) (.slice (some ⟨sb, 0, none⟩) ps.length ps.length) (.slice (some ⟨lb, 0, none⟩) ps.length ps.length) 115
          dsimp only
          have HC3 : Hid (checkP ⟨W, H, S, O, ps⟩ os pl room = if peakT os (lieP (gpOf ⟨W, H, S, O, ps⟩) os pl) os.length ≤ room ∧ clearT os (spanP (gpOf ⟨W, H, S, O, ps⟩) os) (lieP (gpOf ⟨W, H, S, O, ps⟩) os pl) os.length = true then 0 else 7) := HC2.out hE
          generalize peakT os (lieP (gpOf ⟨W, H, S, O, ps⟩) os pl) os.length = pk at *
          generalize clearT os (spanP (gpOf ⟨W, H, S, O, ps⟩) os) (lieP (gpOf ⟨W, H, S, O, ps⟩) os pl) os.length = cl at *
          clear hE hLi hSp hF hO1 hL1 hS1 g0 g1 g2 g3 g4 h0 h1 HC1 HC2
          by_cases hk : room < pk
          · go_wp2_with (go_at_call 88; refine hpk.mono ?_; rintro e w3 ⟨rfl, b3⟩)
            go_ret
            exact ⟨by rw [HC3.out, if_neg (fun h => by omega)]; rfl, below_step hb3 b3⟩
          · cases cl with
            | true =>
              go_wp2_with (first
                | (go_at_call 88; refine hpk.mono ?_; rintro e w3 ⟨rfl, b3⟩; obtain ⟨_, k0, k1, k2⟩ := hB.below b3)
                | (go_at_call 89; refine (hcl _ b3).mono ?_; rintro e w4 ⟨rfl, b4⟩))
              go_ret
              exact ⟨by rw [HC3.out, if_pos ⟨by omega, by trivial⟩]; rfl, below_step (below_step hb3 b3) b4⟩
            | false =>
              go_wp2_with (first
                | (go_at_call 88; refine hpk.mono ?_; rintro e w3 ⟨rfl, b3⟩; obtain ⟨_, k0, k1, k2⟩ := hB.below b3)
                | (go_at_call 89; refine (hcl _ b3).mono ?_; rintro e w4 ⟨rfl, b4⟩))
              go_ret
              exact ⟨by rw [HC3.out, if_neg (fun h => by cases h.2)]; rfl, below_step (below_step hb3 b3) b4⟩
        · have HE : Hid (_) := hE
          have hb2 := below_step hb1 b2
          have hne : ¬ planE ⟨W, H, S, O, ps⟩ os pl = 0 := hE
          have HC3 : Hid (_) := HC1.out hE
          clear hE HC1 HC2 g0 g1 g2 g3 g4 h0 h1
          generalize planE ⟨W, H, S, O, ps⟩ os pl = E at *
          go_wp2
          go_ret
          exact ⟨by rw [HC3.out]; rfl, below_box hb2 _⟩
  · have HC : Hid (_) := check_none (os := os) (pl := pl) (room := room) hE
    generalize frameE ⟨W, H, S, O, ps⟩ = E at *
    go_enter Tryz.func56, Tryz.ntmps56
    go_wp2_with fail
    refine hfc.mono ?_
    clear hfc
    rintro e w1 ⟨rfl, b1⟩
    go_wp2
    go_ret
    exact ⟨by rw [HC.out]; rfl, below_step hb0 b1⟩
end Go.Proofs.YtihliofhhjjeaaaGreat
namespace Go.Proofs.YtihliofhhjjeaaaGreat
open Go.RowKit Im
def pos (ps : List Ps) (g : Nat → Bool) (k : Nat) : Nat := (cullP ps g k).length
def picN (f : Fr) (k : Nat) : Res := paintRes (f.ps.getD k Ps.zero) (sizeN f k) (pickR (pics f k) (srcOf f.ps k))
theorem pics_at (f : Fr) {n k : Nat} (h : k < n) : (pics f n).getD k (noRes 0) = picN f k := by
  induction n with
  | zero => omega
  | succ n ih =>
    have e : pics f (n + 1) = pics f n ++ [picN f n] := rfl
    have l := pics_length f n
    rw [e]
    by_cases hk : k < n
    · rw [getD_left _ _ _ (by omega), ih hk]
    · have : k = n := by omega
      subst this
      rw [getD_last _ _ _ (by omega)]
theorem passE_of {f : Fr} (hE : frameE f = 0) {m : Nat} (hm : m < f.ps.length) : passE f m = 0 := by
  obtain ⟨_, hfirst, _⟩ := frameE_zero hE
  have hfk := firstE_down f hfirst (k := m) (by omega)
  exact (firstE_at f hfk).symm.trans (firstE_down f hfirst (k := m + 1) (by omega))
end Go.Proofs.YtihliofhhjjeaaaGreat
namespace Go.Proofs.YtihliofhhjjeaaaGreat
open Go.RowKit Im
theorem paint_right_any {f : Fr} {n : Nat} (hb : boundsE f = 0) (hE : passE f n = 0) {rs : List Res} (hpick : ∀ j, j < (srcOf f.ps n).length → RB (rs.getD j (noRes 0)) ((pickZ (szs f n) (srcOf f.ps n)).getD j Sz.zero)) : RB (paintRes (f.ps.getD n Ps.zero) (sizeN f n) rs) (sizeN f n) := by
  obtain ⟨hW, hH, _⟩ := boundsE_zero hb
  obtain ⟨o1, o2, o3⟩ := passE_zero hE
  obtain ⟨hkn, hsl, hk, hl, hbare, _⟩ := ownE_zero o1
  have hlen : (srcOf f.ps n).length = (takesP (f.ps.getD n Ps.zero)).length := by simp [srcOf]
  unfold sizeN at *
  generalize f.ps.getD n Ps.zero = p at *
  generalize pickZ (szs f n) (srcOf f.ps n) = zs at *
  unfold paintRes
  by_cases h12 : p.Op = 1 ∨ p.Op = 2
  · rw [if_pos h12]
    have e : sizeP f.W f.H p.Op zs = (f.W, f.H) := by unfold sizeP; rw [if_pos h12]
    rw [e]
    have hK : hasK p.Op = true := by rcases h12 with h | h <;> rw [h] <;> rfl
    have := hk hK
    have e2 : kB p.Op p.K = withinB p.K 0 65535 := by unfold kB; rw [if_neg (by omega), if_neg (by omega)]
    rw [e2] at this
    exact make_right h12 hW hH (by simp [withinB] at this; omega)
  · rw [if_neg h12]
    have hA := hasA_of hkn (fun h => h12 (.inl h)) (fun h => h12 (.inr h))
    obtain ⟨r, hr⟩ := takes_pos hA
    have h0 := hpick 0 (by rw [hlen, hr]; simp)
    rw [sizeP_one h12]
    by_cases hB : hasB p.Op = true
    · rw [if_pos hB]
      have h1 := hpick 1 (by rw [hlen, takes_two' hB]; simp)
      have hop : p.Op = 4 ∨ p.Op = 5 ∨ p.Op = 6 ∨ p.Op = 7 := by simp [hasB, withinB] at hB; omega
      have ef : zs.getD 0 Sz.zero = zs.getD 1 Sz.zero := by
        unfold fitP at o3
        rw [if_neg (by omega), if_neg (by omega), if_pos hB] at o3
        simpa using o3
      rw [← ef] at h1
      have e : sizeP 0 0 p.Op [zs.getD 0 Sz.zero] = zs.getD 0 Sz.zero := by
        unfold sizeP
        rw [if_neg (by omega), if_neg (by omega), if_neg (by omega)]; rfl
      rw [e]
      exact two_right hop h0 h1
    · rw [if_neg hB]
      have hB' := eq_false_of_ne_true hB
      by_cases h13 : p.Op = 13
      · rw [if_pos h13]
        have e : sizeP 0 0 p.Op [zs.getD 0 Sz.zero] = zs.getD 0 Sz.zero := by
          unfold sizeP
          rw [if_neg (by omega), if_neg (by omega), if_neg (by omega)]; rfl
        rw [e]
        have hK : hasK p.Op = true := by rw [h13]; rfl
        have hL : hasL p.Op = true := by rw [h13]; rfl
        have := hk hK
        have e2 : kB p.Op p.K = withinB p.K 1 16 := by unfold kB; rw [if_neg (by omega), if_pos h13]
        rw [e2] at this
        exact lit_right (hl hL) (by simp [withinB] at this; omega) h0
      · rw [if_neg h13]
        refine one_right hA hB' h13 hk ?_ h0
        unfold fitP at o3 ⊢
        rw [hB'] at o3 ⊢
        exact o3
theorem check_zeroX {f : Fr} {os pl : List Int} {room : Int} (h : checkP f os pl room = 0) : planE f os pl = 0 ∧ (0 ≤ room ∧ room ≤ 4096) ∧ peakT os (lieP (gpOf f) os pl) os.length ≤ room ∧ clearP f os pl = true := by
  by_cases hE : frameE f = 0
  · by_cases hr : 0 ≤ room ∧ room ≤ 4096
    · by_cases hp : planE f os pl = 0
      · rw [check_fits hr hp] at h
        by_cases hc : peakT os (lieP (gpOf f) os pl) os.length ≤ room ∧ clearP f os pl = true
        · exact ⟨hp, hr, hc⟩
        · rw [if_neg hc] at h; cases h
      · rw [check_form hE hr hp] at h; exact absurd h hp
    · rw [check_room hE hr] at h; cases h
  · rw [check_none hE] at h; exact absurd h hE
def zOf (f : Fr) (s : Nat) : Sz := (szs f f.ps.length).getD s Sz.zero
def liesR (f : Fr) (pl A : List Int) (s : Int) : Res := ⟨0, (zOf f s.toNat).1, (zOf f s.toNat).2, getA A (pl.getD s.toNat 0).toNat (areaZ (zOf f s.toNat)).toNat⟩
def stepR (f : Fr) (pl A : List Int) (k : Nat) : Res := paintRes (f.ps.getD k Ps.zero) (zOf f k) ((srcOf f.ps k).map (liesR f pl A))
def stepA (f : Fr) (pl A : List Int) (k : Nat) : List Int := putA A (pl.getD k 0).toNat (stepR f pl A k).ps
def runA (f : Fr) (os pl A : List Int) : Nat → List Int
  | 0 => A
  | n + 1 => stepA f pl (runA f os pl A n) (os.getD n 0).toNat
def fineA (A : List Int) : Bool := A.all numB
def execE (f : Fr) (os pl A : List Int) : Int := if checkP f os pl A.length = 0 then (if fineA A = true then 0 else 3) else checkP f os pl A.length
def runR (f : Fr) (os pl A : List Int) : Res := liesR f pl (runA f os pl A os.length) (shownP f)
structure FitA (f : Fr) (os pl A : List Int) : Prop where
  E : frameE f = 0
  ord : Ord (gpOf f) os pl
  clear : Clear os (spanP (gpOf f) os) (lieP (gpOf f) os pl)
  peak : peakT os (lieP (gpOf f) os pl) os.length ≤ (A.length : Int)
  fine : ∀ x ∈ A, 0 ≤ x ∧ x ≤ 65535
  len : A.length ≤ 4096
theorem fit_of {f : Fr} {os pl A : List Int} (h : checkP f os pl A.length = 0) (hA : fineA A = true) : FitA f os pl A := by
  obtain ⟨h1, h2, h3, h4⟩ := check_zeroX h
  obtain ⟨hE, ho⟩ := planE_zero h1
  exact ⟨hE, ho, (clearT_iff ho _ _).1 h4, h3, fun x hx => (num_iff x).1 (List.all_eq_true.1 hA x hx), by omega⟩
theorem exec_zero {f : Fr} {os pl A : List Int} (h : execE f os pl A = 0) : checkP f os pl A.length = 0 ∧ fineA A = true := by
  unfold execE at h
  by_cases h1 : checkP f os pl A.length = 0
  · rw [if_pos h1] at h
    by_cases h2 : fineA A = true
    · exact ⟨h1, h2⟩
    · rw [if_neg h2] at h; cases h
  · rw [if_neg h1] at h; exact absurd h h1
theorem FitA.same {f : Fr} {os pl A B : List Int} (h : FitA f os pl A) (hl : B.length = A.length) (hf : ∀ x ∈ B, 0 ≤ x ∧ x ≤ 65535) : FitA f os pl B := ⟨h.E, h.ord, h.clear, by rw [hl]; exact h.peak, hf, by rw [hl]; exact h.len⟩
theorem FitA.place {f : Fr} {os pl A : List Int} (h : FitA f os pl A) {q : Nat} (hq : q < f.ps.length) (hm : (q : Int) ∈ os) : (0 ≤ pl.getD q 0 ∧ pl.getD q 0 ≤ 4096) ∧ ((1 ≤ (zOf f q).1 ∧ (zOf f q).1 ≤ 16) ∧ (1 ≤ (zOf f q).2 ∧ (zOf f q).2 ≤ 16)) ∧ (1 ≤ areaZ (zOf f q) ∧ areaZ (zOf f q) ≤ 256) ∧ pl.getD q 0 + areaZ (zOf f q) ≤ (A.length : Int) := by
  have hp2 := (all_os h.ord (fun k => (lieP (gpOf f) os pl k).2 + 1 ≤ A.length)).1 (((peakT_le (Nat.le_refl _)).1 h.peak).2)
  have h1 := hp2 q hq hm
  rw [Ord.lie hm] at h1
  have h2 := h.ord.at_ q hq hm
  obtain ⟨hb, hf, _⟩ := frameE_zero h.E
  have hz : ZB (zOf f q) := szs_bd hb hf _ (getD_mem (by rw [szs_length]; exact hq) _)
  have h3 := area_bd hz
  simp only at h1
  have e : (gpOf f).ar q = areaZ (zOf f q) := rfl
  rw [e] at h1
  exact ⟨h2, hz, h3, by omega⟩
theorem FitA.lies {f : Fr} {os pl A : List Int} (h : FitA f os pl A) {q : Nat} (hq : q < f.ps.length) (hm : (q : Int) ∈ os) : RB (liesR f pl A q) (zOf f q) := by
  obtain ⟨h1, h2, h3, h4⟩ := h.place hq hm
  refine ⟨rfl, ?_, by unfold liesR; simp only [Int.toNat_natCast], by unfold liesR; simp only [Int.toNat_natCast]⟩
  unfold liesR
  simp only [Int.toNat_natCast]
  refine (fine_iff _ _ _).2 ⟨h2.1, h2.2, ?_, get_mem h.fine⟩
  rw [getA_len (by omega)]
  have : areaZ (zOf f q) = (zOf f q).1 * (zOf f q).2 := rfl
  omega
theorem FitA.src {f : Fr} {os pl A : List Int} (h : FitA f os pl A) {q : Nat} (hq : q < f.ps.length) (hm : (q : Int) ∈ os) : ∀ s ∈ srcOf f.ps q, ∃ n : Nat, s = n ∧ n < q ∧ (n : Int) ∈ os := by
  intro s hs
  have h1 := h.ord.beh q hq hm s hs
  have h2 := srcOk_of h.E q hq s hs
  obtain ⟨n, rfl⟩ := Int.eq_ofNat_of_zero_le h2.1
  exact ⟨n, rfl, by omega, h1.1⟩
theorem FitA.step {f : Fr} {os pl A : List Int} (h : FitA f os pl A) {q : Nat} (hq : q < f.ps.length) (hm : (q : Int) ∈ os) : RB (stepR f pl A q) (zOf f q) := by
  obtain ⟨hb, hfirst, _⟩ := frameE_zero h.E
  have hfk := firstE_down f hfirst (k := q) (by omega)
  have hpE : passE f q = 0 := (firstE_at f hfk).symm.trans (firstE_down f hfirst (k := q + 1) (by omega))
  have e : zOf f q = sizeN f q := szs_at f hq
  unfold stepR
  rw [e]
  refine paint_right_any hb hpE fun j hj => ?_
  obtain ⟨n, e1, e2, e3⟩ := h.src hq hm _ (List.getElem_mem hj)
  have e4 : ((srcOf f.ps q).map (liesR f pl A)).getD j (noRes 0) = liesR f pl A n := by
    rw [List.getD_eq_getElem?_getD, List.getElem?_map, List.getElem?_eq_getElem hj, e1]; rfl
  have e5 : (pickZ (szs f q) (srcOf f.ps q)).getD j Sz.zero = zOf f n := by
    unfold pickZ
    rw [List.getD_eq_getElem?_getD, List.getElem?_map, List.getElem?_eq_getElem hj, e1]
    show (szs f q).getD n Sz.zero = _
    rw [szs_at f e2]
    exact (szs_at f (by omega)).symm
  rw [e4, e5]
  exact h.lies (by omega) e3
theorem FitA.next {f : Fr} {os pl A : List Int} (h : FitA f os pl A) {q : Nat} (hq : q < f.ps.length) (hm : (q : Int) ∈ os) : (pl.getD q 0).toNat + (stepR f pl A q).ps.length ≤ A.length ∧ (stepA f pl A q).length = A.length ∧ FitA f os pl (stepA f pl A q) := by
  obtain ⟨h1, h2, h3, h4⟩ := h.place hq hm
  have hr := h.step hq hm
  have hfi := (fine_iff _ _ _).1 hr.2.1
  have hl : ((stepR f pl A q).ps.length : Int) = areaZ (zOf f q) := hfi.2.2.1.trans (by rw [hr.2.2.1, hr.2.2.2]; rfl)
  have hfit : (pl.getD q 0).toNat + (stepR f pl A q).ps.length ≤ A.length := by omega
  have hlen : (stepA f pl A q).length = A.length := putA_len hfit
  exact ⟨hfit, hlen, h.same hlen (put_mem h.fine hfi.2.2.2)⟩
theorem os_at {f : Fr} {os pl A : List Int} (h : FitA f os pl A) {i : Nat} (hi : i < os.length) : ∃ q : Nat, os.getD i 0 = q ∧ q < f.ps.length ∧ (q : Int) ∈ os := by
  have hm := getD_mem hi 0
  have hb := h.ord.inN _ hm
  obtain ⟨q, e⟩ := Int.eq_ofNat_of_zero_le hb.1
  rw [e] at hm hb
  have : (q : Int) < (f.ps.length : Int) := hb.2
  exact ⟨q, e, by omega, hm⟩
theorem FitA.run {f : Fr} {os pl A : List Int} (h : FitA f os pl A) : ∀ {n : Nat}, n ≤ os.length → (runA f os pl A n).length = A.length ∧ FitA f os pl (runA f os pl A n)
  | 0, _ => ⟨rfl, h⟩
  | n + 1, hn => by
    obtain ⟨h1, h2⟩ := h.run (n := n) (by omega)
    obtain ⟨q, e, hq, hm⟩ := os_at h (i := n) (by omega)
    obtain ⟨_, h3, h4⟩ := h2.next hq hm
    show (stepA f pl (runA f os pl A n) (os.getD n 0).toNat).length = _ ∧ FitA f os pl (stepA f pl (runA f os pl A n) (os.getD n 0).toNat)
    rw [e, Int.toNat_natCast]
    exact ⟨h3.trans h1, h4⟩
theorem FitA.last {f : Fr} {os pl A : List Int} (h : FitA f os pl A) : ∃ q : Nat, shownP f = q ∧ q < f.ps.length ∧ (q : Int) ∈ os := by
  have hG := gp_right h.E
  have hl := hG.last
  have hm := h.ord.pos hG
  obtain ⟨q, e⟩ := Int.eq_ofNat_of_zero_le hl.1
  have e' : shownP f = q := e
  rw [e] at hm hl
  have : (q : Int) < (f.ps.length : Int) := hl.2
  exact ⟨q, e', by omega, hm⟩
def mkE (f : Fr) (k : Nat) (c : Nat → List Int) : List Int := (paintRes (f.ps.getD k Ps.zero) (zOf f k) ((srcOf f.ps k).map fun s => ⟨0, (zOf f s.toNat).1, (zOf f s.toNat).2, c s.toNat⟩)).ps
theorem runA_runN (f : Fr) (os pl A : List Int) : ∀ n, runA f os pl A n = runN (gpOf f) (mkE f) os pl A n
  | 0 => rfl
  | n + 1 => by
    show stepA f pl (runA f os pl A n) (os.getD n 0).toNat = putA (runN (gpOf f) (mkE f) os pl A n) _ _
    rw [runA_runN f os pl A n]
    rfl
theorem szs_at' (f : Fr) {k : Nat} (h : k < f.ps.length) : zOf f k = sizeN f k := szs_at f h
theorem run_same {f : Fr} {os pl A : List Int} (h : FitA f os pl A) : runR f os pl A = renderP f := by
  have hG := gp_right h.E
  obtain ⟨hb, hfirst, _⟩ := frameE_zero h.E
  have hR := pics_right hb hfirst
  have hpic : ∀ k, k < f.ps.length → (pics f f.ps.length).getD k (noRes 0) = ⟨0, (zOf f k).1, (zOf f k).2, ((pics f f.ps.length).getD k (noRes 0)).ps⟩ := by
    intro k hk
    obtain ⟨r1, _, r3, r4⟩ := hR k hk
    generalize (pics f f.ps.length).getD k (noRes 0) = p at *
    obtain ⟨E, W, H, ps⟩ := p
    dsimp only at r1 r3 r4
    subst r1
    unfold zOf
    rw [← r3, ← r4]
  have hs := run_shows hG (mk := mkE f) (pic := fun k => ((pics f f.ps.length).getD k (noRes 0)).ps) (A := A) h.ord h.clear h.peak (fun k hk => by
      obtain ⟨_, r2, r3, r4⟩ := hR k hk
      have := ((fine_iff _ _ _).1 r2).2.2.1
      rw [this, r3, r4]; rfl) (fun k c hk hc => by
      have hk' : k < f.ps.length := hk
      unfold mkE
      have e1 : ((srcOf f.ps k).map fun s => (⟨0, (zOf f s.toNat).1, (zOf f s.toNat).2, c s.toNat⟩ : Res)) = pickR (pics f k) (srcOf f.ps k) := by
        unfold pickR
        refine List.map_congr_left fun s hs => ?_
        have h2 := srcOk_of h.E k hk' s hs
        have hsn : s.toNat < k := by omega
        rw [hc s hs]
        rw [← hpic s.toNat (by omega), pics_at f (show s.toNat < f.ps.length by omega), pics_at f hsn]
      rw [e1, szs_at' f hk', pics_at f hk']
      rfl)
  unfold runR renderP
  rw [if_pos h.E, runA_runN]
  obtain ⟨q, e, hq, _⟩ := h.last
  have e2 : (gpOf f).last = q := e
  rw [e2, Int.toNat_natCast] at hs
  rw [e, Int.toNat_natCast, hpic q hq]
  unfold liesR
  simp only [Int.toNat_natCast]
  rw [← hs]
  rfl
end Go.Proofs.YtihliofhhjjeaaaGreat
