/- MadeRef2, Render, HasRef, SourcesRef: joined, in this order. -/
import Derived.Test.YtaenpgdmiaekcaaGreatDoorM13
import Derived.Deep.CutRange
import Derived.Test.YtaenpgdmiaekcaaGreatDoorM07
/-
  MADEREF2: the reference's Made, of passes that take images.
-/
namespace Go.Proofs.YtaenpgdmiaekcaaGreatDoor
set_option maxRecDepth 100000
open Go.RowKit Im

end Go.Proofs.YtaenpgdmiaekcaaGreatDoor
/-
  RENDER: frame.Render.
-/
namespace Go.Proofs.YtaenpgdmiaekcaaGreatDoor
set_option maxRecDepth 100000
open Go.RowKit Im

/-- What frame.Render tells. -/
def renderP (f : Fr) : Res := if frameE f = 0 then (pics f f.ps.length).getD (shownP f).toNat (noRes 0) else noRes (frameE f)
set_option maxHeartbeats 1000000 in
theorem render_err (W H S O : Int) (a : Option Addr) (len cap : Nat) (ps : List Ps) (w : World) (hp : Passes w a len ps) (hE : frameE ⟨W, H, S, O, ps⟩ ≠ 0) :
    Calls Tryz.prog 12 #[.agg #[.int .i64 W, .int .i64 H, .int .i64 S, .int .i64 O, .slice a len cap]] w (Told w (noRes (frameE ⟨W, H, S, O, ps⟩))) := by
  have hb0 := below_box (below_box (Below.refl w.heap.size w) (.cells #[.int .i64 W, .int .i64 H, .int .i64 S, .int .i64 O, .slice a len cap] 35)) (.cells #[.int .i64 0, .int .i64 0, .slice none 0 0] 24)
  have hfo := follow_any W H S O a len cap ps _ (hp.below hb0)
  have hbox := IBox.new (w.alloc (.cells #[.int .i64 W, .int .i64 H, .int .i64 S, .int .i64 O, .slice a len cap] 35))
  rw [World.size_alloc] at hbox
  go_enter Tryz.func12, Tryz.ntmps12
  go_wp2_with fail
  refine hfo.mono ?_
  clear hfo
  rintro e w1 (⟨h0, _⟩ | ⟨_, rfl, b1⟩)
  · exact absurd h0 hE
  · have hbox1 := (hbox.below b1 hbox.lt b1.size)
    have hbox2 := hbox1.below ((Below.refl w1.heap.size w1).alloc (Nat.le_refl _) (.cells #[.slice none 0 0, .slice none 0 0, .int .i64 0] 66)) hbox1.lt (by simp)
    obtain ⟨_, c0, c1, c2, f0, f1, f2⟩ := hbox2
    have hb2 := below_box (below_step hb0 b1) (.cells #[.slice none 0 0, .slice none 0 0, .int .i64 0] 66)
    clear hbox hbox1 hb0 b1
    go_wp2
    refine bodyPost_ret (v := .tuple #[noImage, .int .i64 (frameE ⟨W, H, S, O, ps⟩)]) (by simp [results, Tryz.results12, go_sem, c0, c1, c2]) rfl ?_
    exact told_no ⟨rfl, ((hb2.setCell (by simp) _).setCell (by simp) _).setCell (by simp) _⟩
/-- Behind the region: the image r lies in a block of its own. -/
def Made9 (wP : World) (r : Res) (s9 s10 : Value) (wx : World) : Prop :=
  s10 = .int .i64 r.E ∧ ∃ b ra rc, s9 = .pointer (some ⟨b, 0, none⟩) ∧ wx.cell? ⟨b, 0, none⟩ = some (.int .i64 r.W) ∧ wx.cell? ⟨b, 1, none⟩ = some (.int .i64 r.H) ∧ wx.cell? ⟨b, 2, none⟩ = some (.slice ra r.ps.length rc) ∧ Ints wP.heap.size wx ra r.ps.length r.ps ∧ Below wP.heap.size wP wx
theorem getD_over {α : Type} (l : List α) (d : α) {k : Nat} (h : l.length ≤ k) : l.getD k d = d := by
  rw [List.getD_eq_getElem?_getD, List.getElem?_eq_none h]; rfl
theorem pics_next (f : Fr) (k j : Nat) : (pics f (k + 1)).getD j (noRes 0) = if k = j then paintRes (f.ps.getD k Ps.zero) (sizeN f k) (pickR (pics f k) (srcOf f.ps k)) else (pics f k).getD j (noRes 0) := by
  have e1 : pics f (k + 1) = pics f k ++ [paintRes (f.ps.getD k Ps.zero) (sizeN f k) (pickR (pics f k) (srcOf f.ps k))] := rfl
  have l1 := pics_length f k
  rw [e1]
  rcases Nat.lt_trichotomy j k with h | h | h
  · rw [getD_left _ _ _ (by omega), if_neg (by omega)]
  · rw [getD_last _ _ _ (by omega), if_pos h.symm]
  · rw [if_neg (by omega), getD_over _ _ (by simp; omega), getD_over _ _ (by omega)]
theorem szs_at (f : Fr) {n k : Nat} (h : k < n) : (szs f n).getD k Sz.zero = sizeN f k := by
  induction n with
  | zero => omega
  | succ n ih =>
    have e : szs f (n + 1) = szs f n ++ [sizeN f n] := rfl
    have l := szs_length f n
    rw [e]
    by_cases hk : k < n
    · rw [getD_left _ _ _ (by omega), ih hk]
    · have : k = n := by omega
      subst this
      rw [getD_last _ _ _ (by omega)]
theorem srcs_at (ps : List Ps) {n k : Nat} (h : k < n) : (srcs ps n).getD k [] = srcOf ps k := by
  unfold srcs
  simp [List.getD_eq_getElem?_getD, h]
theorem keepM {wP w' : World} {bp bc zb zo sb so : Nat} {x0 x1 x2 x3 x4 x5 y0 y1 z0 z1 s0 : Value} (hb : Below wP.heap.size wP w') (h1 : bp < wP.heap.size) (h2 : bc < wP.heap.size) (h3 : zb < wP.heap.size) (h4 : sb < wP.heap.size)
    (p0 : wP.cell? ⟨bp, 0, none⟩ = some x0) (p1 : wP.cell? ⟨bp, 1, none⟩ = some x1) (p2 : wP.cell? ⟨bp, 2, none⟩ = some x2) (p3 : wP.cell? ⟨bp, 3, none⟩ = some x3) (p4 : wP.cell? ⟨bp, 4, none⟩ = some x4) (p5 : wP.cell? ⟨bp, 5, none⟩ = some x5) (c0 : wP.cell? ⟨bc, 0, none⟩ = some y0) (c1 : wP.cell? ⟨bc, 1, none⟩ = some y1) (d0 : wP.cell? ⟨zb, zo, none⟩ = some z0) (d1 : wP.cell? ⟨zb, zo + 1, none⟩ = some z1) (e0 : wP.cell? ⟨sb, so, none⟩ = some s0) :
    Below wP.heap.size wP w' ∧ w'.cell? ⟨bp, 0, none⟩ = some x0 ∧ w'.cell? ⟨bp, 1, none⟩ = some x1 ∧ w'.cell? ⟨bp, 2, none⟩ = some x2 ∧ w'.cell? ⟨bp, 3, none⟩ = some x3 ∧ w'.cell? ⟨bp, 4, none⟩ = some x4 ∧ w'.cell? ⟨bp, 5, none⟩ = some x5 ∧ w'.cell? ⟨bc, 0, none⟩ = some y0 ∧ w'.cell? ⟨bc, 1, none⟩ = some y1 ∧ w'.cell? ⟨zb, zo, none⟩ = some z0 ∧ w'.cell? ⟨zb, zo + 1, none⟩ = some z1 ∧ w'.cell? ⟨sb, so, none⟩ = some s0 :=
  ⟨hb, (hb.cell (p := ⟨bp, 0, none⟩) h1).trans p0, (hb.cell (p := ⟨bp, 1, none⟩) h1).trans p1, (hb.cell (p := ⟨bp, 2, none⟩) h1).trans p2, (hb.cell (p := ⟨bp, 3, none⟩) h1).trans p3, (hb.cell (p := ⟨bp, 4, none⟩) h1).trans p4, (hb.cell (p := ⟨bp, 5, none⟩) h1).trans p5, (hb.cell (p := ⟨bc, 0, none⟩) h2).trans c0, (hb.cell (p := ⟨bc, 1, none⟩) h2).trans c1, (hb.cell (p := ⟨zb, zo, none⟩) h3).trans d0, (hb.cell (p := ⟨zb, zo + 1, none⟩) h3).trans d1, (hb.cell (p := ⟨sb, so, none⟩) h4).trans e0⟩
set_option maxHeartbeats 4000000 in
theorem render_ok (W H S O : Int) (a : Option Addr) (len cap : Nat) (ps : List Ps) (w : World) (hp : Passes w a len ps) (hE : frameE ⟨W, H, S, O, ps⟩ = 0) :
    Calls Tryz.prog 12 #[.agg #[.int .i64 W, .int .i64 H, .int .i64 S, .int .i64 O, .slice a len cap]] w (Told w ((pics ⟨W, H, S, O, ps⟩ ps.length).getD (shownP ⟨W, H, S, O, ps⟩).toNat (noRes 0))) := by
  obtain rfl := hp.leng
  obtain ⟨hbnd, hfirst, hsh⟩ := frameE_zero hE
  dsimp only at hfirst
  obtain ⟨_, _, _, _, hL⟩ := boundsE_zero hbnd
  dsimp only at hL
  have hb0 := below_box (below_box (Below.refl w.heap.size w) (.cells #[.int .i64 W, .int .i64 H, .int .i64 S, .int .i64 O, .slice a ps.length cap] 35)) (.cells #[.int .i64 0, .int .i64 0, .slice none 0 0] 24)
  have hfo := follow_any W H S O a ps.length cap ps _ (hp.below hb0)
  have hbox := IBox.new (w.alloc (.cells #[.int .i64 W, .int .i64 H, .int .i64 S, .int .i64 O, .slice a ps.length cap] 35))
  have hB := (FBox.new w W H S O a ps.length cap).alloc (.cells #[.int .i64 0, .int .i64 0, .slice none 0 0] 24)
  rw [World.size_alloc] at hbox
  obtain ⟨i0, hi, hz0, hz1, hz2⟩ := info_parts Tryz.infoImage
  have hs2 : ∀ x ∈ srcs ps ps.length, x.length ≤ 2 := by
    intro x hx
    unfold srcs at hx
    rw [List.mem_map] at hx
    obtain ⟨n, _, rfl⟩ := hx
    unfold srcOf
    rw [List.length_map]
    exact takesP_len _
  go_enter Tryz.func12, Tryz.ntmps12
  go_wp2_with fail
  refine hfo.mono ?_
  clear hfo
  rintro e w1 (⟨_, ⟨v1, v2, rfl, hZ, hLL⟩, b1⟩ | ⟨h0, _⟩)
  · obtain ⟨za, zcap, rfl, hZs⟩ := hZ.zs (by rw [szs_length]; exact hL.2)
    obtain ⟨sa, scap, rfl, hSs⟩ := hLL.lls hs2
    rw [szs_length] at hZs ⊢
    rw [srcs_length] at hSs ⊢
    dsimp only at hZs hSs ⊢
    obtain ⟨N, hN⟩ := Int.eq_ofNat_of_zero_le hsh
    have HN : Hid (shownP ⟨W, H, S, O, ps⟩ = N) := hN
    rw [hN]
    have hbC := (Below.refl w1.heap.size w1).alloc (Nat.le_refl _) (.cells #[.slice za ps.length zcap, .slice sa ps.length scap, .int .i64 (N : Int)] 66)
    have hbox4 := (hbox.below b1 hbox.lt b1.size).below hbC (Nat.lt_of_lt_of_le hbox.lt b1.size) hbC.size
    have hB4 := (hB.below b1).alloc (.cells #[.slice za ps.length zcap, .slice sa ps.length scap, .int .i64 (N : Int)] 66)
    have hZ4 := hZs.below hbC
    have hS4 := hSs.below hbC
    have hb4 := below_box (below_step hb0 b1) (.cells #[.slice za ps.length zcap, .slice sa ps.length scap, .int .i64 (N : Int)] 66)
    have cc0 : (w1.alloc (.cells #[.slice za ps.length zcap, .slice sa ps.length scap, .int .i64 (N : Int)] 66)).cell? ⟨w1.heap.size, 0, none⟩ = some (.slice za ps.length zcap) := by simp [go_sem]
    have cc1 : (w1.alloc (.cells #[.slice za ps.length zcap, .slice sa ps.length scap, .int .i64 (N : Int)] 66)).cell? ⟨w1.heap.size, 1, none⟩ = some (.slice sa ps.length scap) := by simp [go_sem]
    have cc2 : (w1.alloc (.cells #[.slice za ps.length zcap, .slice sa ps.length scap, .int .i64 (N : Int)] 66)).cell? ⟨w1.heap.size, 2, none⟩ = some (.int .i64 (N : Int)) := by simp [go_sem]
    have hsz1 : w1.heap.size < (w1.alloc (.cells #[.slice za ps.length zcap, .slice sa ps.length scap, .int .i64 (N : Int)] 66)).heap.size := by simp
    have hp4 := hp.below hb4
    clear hbox hB hZs hSs hb0 hbC b1 hZ hLL
    have hNl : N < ps.length := by have := (wrt_bd ps ps.length O).2; have e : shownP ⟨W, H, S, O, ps⟩ = wrt ps ps.length O := rfl; omega
    clear hsh hN
    go_upto_region 2 with fail
    generalize w1.alloc (.cells #[.slice za ps.length zcap, .slice sa ps.length scap, .int .i64 (N : Int)] 66) = w4 at *
    have g4 := hB4.c4
    go_upto_region 5 with (at_make; refine wpList_make_full _ rfl _ _ 69 rfl w4.heap.size 24 i0 (.agg #[.int .i64 0, .int .i64 0, .slice none 0 0]) 3 Tryz.underlying69 hi hz0 hz1 .i64 .i64 _ _ ps.length rfl rfl (by simp) (by simp) (by rw [hz2]; omega) (by unfold maxLen; omega) (Nat.le_refl _) ?_; intro wM hown hgrow)
    have hbM : Below w4.heap.size w4 wM := (Below.refl _ _).grown hgrow (Nat.le_refl _) (fun k hk => by cases hk)
    have hlM := (World.ownsRow.lt (w := wM) hown w4.heap.size rfl).2
    have hIM := ImB.made hown hlM
    clear hown hgrow g4
    have g4 := (hB4.below hbM).c4
    go_wp2
    clear g4
    go_loopw [27] (fun i wr => ∃ k : Nat, k ≤ ps.length ∧ i = .int .i64 k ∧ ImB wr w4.heap.size ps.length (fun j => (pics ⟨W, H, S, O, ps⟩ k).getD j (noRes 0)) ∧ Below w4.heap.size w4 wr) (fun i _ => ps.length - (intOf i).toNat)
    case atStart => exact ⟨0, Nat.zero_le _, rfl, hIM, hbM⟩
    case round =>
      obtain ⟨k, hk, rfl, hIr, hbr⟩ := hrel
      clear hIM hbM hlM
      have hBr := hB4.below hbr
      have hpr := hp4.below hbr
      have hboxr := hbox4.below hbr hbox4.lt hbr.size
      have r0 := (hbr.cell (p := ⟨w1.heap.size, 0, none⟩) hsz1).trans cc0
      have r1 := (hbr.cell (p := ⟨w1.heap.size, 1, none⟩) hsz1).trans cc1
      have r2 := (hbr.cell (p := ⟨w1.heap.size, 2, none⟩) hsz1).trans cc2
      by_cases hlt : k < ps.length
      · have hfk := firstE_down ⟨W, H, S, O, ps⟩ hfirst (k := k) (by omega)
        have hpE : passE ⟨W, H, S, O, ps⟩ k = 0 := (firstE_at ⟨W, H, S, O, ps⟩ hfk).symm.trans (firstE_down ⟨W, H, S, O, ps⟩ hfirst (k := k + 1) (by omega))
        have hRR := paint_right hbnd hpE (pics_right hbnd hfk)
        obtain ⟨o1, o2, _⟩ := passE_zero hpE
        obtain ⟨hkn, _⟩ := ownE_zero o1
        have hin := src_bd o2
        have hsl : (srcOf ps k).length ≤ 2 := by unfold srcOf; rw [List.length_map]; exact takesP_len _
        have hAl : hasA (ps.getD k Ps.zero).Op = true → 1 ≤ (srcOf ps k).length := fun hA => by
          obtain ⟨r, hr⟩ := takes_pos hA
          unfold srcOf; rw [List.length_map, hr]; simp
        have hBl : hasB (ps.getD k Ps.zero).Op = true → 2 ≤ (srcOf ps k).length := fun hB => by
          unfold srcOf; rw [List.length_map, takes_two' hB]; simp
        have HG : Hid (∀ j, (pics ⟨W, H, S, O, ps⟩ (k + 1)).getD j (noRes 0) = if k = j then paintRes (ps.getD k Ps.zero) (sizeN ⟨W, H, S, O, ps⟩ k) (pickR (pics ⟨W, H, S, O, ps⟩ k) (srcOf ps k)) else (pics ⟨W, H, S, O, ps⟩ k).getD j (noRes 0)) := fun j => pics_next ⟨W, H, S, O, ps⟩ k j
        have hpr0 := pick_range (rs := pics ⟨W, H, S, O, ps⟩ k) (n := ps.length) (is := srcOf ps k) (fun i hi => by have := hin i hi; omega)
        have hin' : ∀ i ∈ srcOf ps k, 0 ≤ i ∧ i < ps.length := fun i hi => by have := hin i hi; omega
        have hImg := hIr.imgs hL.2
        obtain ⟨b, off, la, ll, lc, rfl, p0, p1, p2, p3, p4, p5, hLi⟩ := hpr.nth hlt
        obtain ⟨zb, zo, rfl, hzb, s0, s1⟩ := (hZ4.below hbr).nth hlt
        obtain ⟨sb, so, ua, uc, rfl, hsb, q0, hUI⟩ := (hS4.below hbr).nth hlt
        rw [szs_at _ hlt] at s0 s1
        rw [srcs_at _ hlt] at q0 hUI
        have hpk := fun w' (hb : Below wr.heap.size wr w') => pickedR_any ps.length uc (hImg.below hb) (hUI.below (Nat.le_refl _) hb) hin' hsl
        rw [hpr0] at hpk
        dsimp only at hRR hkn
        generalize pics ⟨W, H, S, O, ps⟩ k = rs at hIr hpk HG hRR
        generalize srcOf ps k = sr at hpk HG hRR hAl hBl q0 hUI hsl
        generalize sizeN ⟨W, H, S, O, ps⟩ k = z at s0 s1 HG hRR
        obtain ⟨zw, zh⟩ := z
        dsimp only at s0 s1
        generalize ps.getD k Ps.zero = p at p0 p1 p2 p3 p4 p5 hLi hRR hkn hAl hBl HG
        obtain ⟨Op, To, A, B, K, ls⟩ := p
        dsimp only at p0 p1 p2 p3 p4 p5 hLi hkn hAl hBl
        have hpl : (pickR rs sr).length = sr.length := by simp [pickR]
        rw [← hpl] at hAl hBl
        have hso := fun w' (pa : Option Addr) (pcap : Nat) (hz : Imgs 0 w' pa (pickR rs sr).length (pickR rs sr)) (hb : Below wr.heap.size wr w') => paint_any (Op := Op) To A B (K := K) lc zw zh pcap hkn (hLi.below hb) hz hAl hBl
        generalize paintRes ⟨Op, To, A, B, K, ls⟩ (zw, zh) (pickR rs sr) = r at hso HG hRR
        generalize pickR rs sr = fr at hpk hso
        have HR : Hid (r.E = 0) := hRR.1
        have hPp := PBox.new wr Op To A B K la ll lc
        have hbP := (Below.refl wr.heap.size wr).alloc (Nat.le_refl _) (.cells #[.int .i64 Op, .int .i64 To, .int .i64 A, .int .i64 B, .int .i64 K, .slice la ll lc] 72)
        have hIP := hIr.below hbP
        have t0 := (hbP.cell (p := ⟨w1.heap.size, 0, none⟩) (Nat.lt_of_lt_of_le hsz1 hbr.size)).trans r0
        have t1 := (hbP.cell (p := ⟨w1.heap.size, 1, none⟩) (Nat.lt_of_lt_of_le hsz1 hbr.size)).trans r1
        have u0 := (hbP.cell (p := ⟨zb, zo + k * 2, none⟩) hzb).trans s0
        have u1 := (hbP.cell (p := ⟨zb, zo + k * 2 + 1, none⟩) hzb).trans s1
        have q1 := (hbP.cell (p := ⟨sb, so + k, none⟩) hsb).trans q0
        have l1 : w1.heap.size < (wr.alloc (.cells #[.int .i64 Op, .int .i64 To, .int .i64 A, .int .i64 B, .int .i64 K, .slice la ll lc] 72)).heap.size := Nat.lt_of_lt_of_le hsz1 (Nat.le_trans hbr.size hbP.size)
        have l2 : zb < (wr.alloc (.cells #[.int .i64 Op, .int .i64 To, .int .i64 A, .int .i64 B, .int .i64 K, .slice la ll lc] 72)).heap.size := Nat.lt_of_lt_of_le hzb hbP.size
        have l3 : sb < (wr.alloc (.cells #[.int .i64 Op, .int .i64 To, .int .i64 A, .int .i64 B, .int .i64 K, .slice la ll lc] 72)).heap.size := Nat.lt_of_lt_of_le hsb hbP.size
        replace hpk := fun w' (hb : Below (wr.alloc (.cells #[.int .i64 Op, .int .i64 To, .int .i64 A, .int .i64 B, .int .i64 K, .slice la ll lc] 72)).heap.size (wr.alloc (.cells #[.int .i64 Op, .int .i64 To, .int .i64 A, .int .i64 B, .int .i64 K, .slice la ll lc] 72)) w') => hpk w' (below_step hbP hb)
        replace hso := fun w' (pa : Option Addr) (pcap : Nat) (hz : Imgs 0 w' pa fr.length fr) (hb : Below (wr.alloc (.cells #[.int .i64 Op, .int .i64 To, .int .i64 A, .int .i64 B, .int .i64 K, .slice la ll lc] 72)).heap.size (wr.alloc (.cells #[.int .i64 Op, .int .i64 To, .int .i64 A, .int .i64 B, .int .i64 K, .slice la ll lc] 72)) w') => hso w' pa pcap hz (below_step hbP hb)
        clear hp hp4 hpr hfirst hbnd hfk hpE o1 o2 hin hin' hpr0 hImg hUI hLi hRR hAl hBl hpl hkn
        go_upto_region 8 with fail
        obtain ⟨_, p0, p1, p2, p3, p4, p5⟩ := id hPp
        generalize wr.alloc (.cells #[.int .i64 Op, .int .i64 To, .int .i64 A, .int .i64 B, .int .i64 K, .slice la ll lc] 72) = wP at *
        go_cut [9, 10] from 32 to 48 (fun s9 s10 wx => Made9 wP r s9 s10 wx)
        case first =>
          go_region_held3 (fun w' => Below wP.heap.size wP w' ∧ w'.cell? ⟨wr.heap.size, 0, none⟩ = some (.int .i64 Op) ∧ w'.cell? ⟨wr.heap.size, 1, none⟩ = some (.int .i64 To) ∧ w'.cell? ⟨wr.heap.size, 2, none⟩ = some (.int .i64 A) ∧ w'.cell? ⟨wr.heap.size, 3, none⟩ = some (.int .i64 B) ∧ w'.cell? ⟨wr.heap.size, 4, none⟩ = some (.int .i64 K) ∧ w'.cell? ⟨wr.heap.size, 5, none⟩ = some (.slice la ll lc) ∧ w'.cell? ⟨w1.heap.size, 0, none⟩ = some (.slice (some ⟨zb, zo, none⟩) ps.length zcap) ∧ w'.cell? ⟨w1.heap.size, 1, none⟩ = some (.slice (some ⟨sb, so, none⟩) ps.length scap) ∧ w'.cell? ⟨zb, zo + k * 2, none⟩ = some (.int .i64 zw) ∧ w'.cell? ⟨zb, zo + k * 2 + 1, none⟩ = some (.int .i64 zh) ∧ w'.cell? ⟨sb, so + k, none⟩ = some (.slice ua sr.length uc))
            (first
              | exact keepM (Below.refl _ _).drew hPp.lt l1 l2 l3 p0 p1 p2 p3 p4 p5 t0 t1 u0 u1 q1
              | exact keepM hbt hPp.lt l1 l2 l3 p0 p1 p2 p3 p4 p5 t0 t1 u0 u1 q1
              | exact keepM hbs hPp.lt l1 l2 l3 p0 p1 p2 p3 p4 p5 t0 t1 u0 u1 q1
              | exact keepM hbn hPp.lt l1 l2 l3 p0 p1 p2 p3 p4 p5 t0 t1 u0 u1 q1
              | exact keepM hbx hPp.lt l1 l2 l3 p0 p1 p2 p3 p4 p5 t0 t1 u0 u1 q1
              | exact keepM (below_box (Below.refl _ _) _).drew hPp.lt l1 l2 l3 p0 p1 p2 p3 p4 p5 t0 t1 u0 u1 q1
              | exact keepM (below_box hbn _) hPp.lt l1 l2 l3 p0 p1 p2 p3 p4 p5 t0 t1 u0 u1 q1
              | exact keepM (below_box hbs _) hPp.lt l1 l2 l3 p0 p1 p2 p3 p4 p5 t0 t1 u0 u1 q1
              | exact keepM (((hbt.setCell (p := ⟨wP.heap.size, 0, none⟩) (Nat.le_refl _) _).setCell (p := ⟨wP.heap.size, 1, none⟩) (Nat.le_refl _) _).setCell (p := ⟨wP.heap.size, 2, none⟩) (Nat.le_refl _) _) hPp.lt l1 l2 l3 p0 p1 p2 p3 p4 p5 t0 t1 u0 u1 q1
              | exact keepM (((hbt.setCell (p := ⟨w2.heap.size, 0, none⟩) hbn.size _).setCell (p := ⟨w2.heap.size, 1, none⟩) hbn.size _).setCell (p := ⟨w2.heap.size, 2, none⟩) hbn.size _) hPp.lt l1 l2 l3 p0 p1 p2 p3 p4 p5 t0 t1 u0 u1 q1)
            (first
              | (go_at_call 32; (with_reducible show Calls _ _ _ (World.drew (World.alloc wP _)) _); refine (hpk _ (below_box (Below.refl _ _) _).drew).mono ?_; rintro e w2 ⟨pa, pcap, rfl, hpz, hb2⟩; have hbx : Below wP.heap.size wP w2 := below_step (below_box (Below.refl _ _) _).drew hb2; have hl2 : wP.heap.size < w2.heap.size := Nat.lt_of_lt_of_le (by simp) hb2.size; have x0 : w2.cell? ⟨wP.heap.size, 0, none⟩ = some (.int .i64 0) := (hb2.cell (by simp)).trans (by simp [go_sem]); have x1 : w2.cell? ⟨wP.heap.size, 1, none⟩ = some (.int .i64 0) := (hb2.cell (by simp)).trans (by simp [go_sem]); have x2 : w2.cell? ⟨wP.heap.size, 2, none⟩ = some (.slice none 0 0) := (hb2.cell (by simp)).trans (by simp [go_sem]); have y0 : w2.frozen? ⟨wP.heap.size, 0, none⟩ = false := (hb2.frozen (by simp)).trans (by simp [go_sem]); have y1 : w2.frozen? ⟨wP.heap.size, 1, none⟩ = false := (hb2.frozen (by simp)).trans (by simp [go_sem]); have y2 : w2.frozen? ⟨wP.heap.size, 2, none⟩ = false := (hb2.frozen (by simp)).trans (by simp [go_sem]))
              | (go_at_call 32; (with_reducible show Calls _ _ _ (World.drew wP) _); refine (hpk _ (Below.refl _ _).drew).mono ?_; rintro e w2 ⟨pa, pcap, rfl, hpz, hb2⟩; have hbn : Below wP.heap.size wP w2 := below_step (Below.refl _ _).drew hb2)
              | (go_at_call 31; have xx := x0; clear xx; refine (hso _ _ _ hpz hbx).mono ?_; rintro e w3 ⟨ra, rc, rfl, hri, hb3⟩; have hbt : Below wP.heap.size wP w3 := below_step hbx hb3; have z0 := (hb3.cell (p := ⟨wP.heap.size, 0, none⟩) hl2).trans x0; have z1 := (hb3.cell (p := ⟨wP.heap.size, 1, none⟩) hl2).trans x1; have z2 := (hb3.cell (p := ⟨wP.heap.size, 2, none⟩) hl2).trans x2; have v0 := (hb3.frozen (p := ⟨wP.heap.size, 0, none⟩) hl2).trans y0; have v1 := (hb3.frozen (p := ⟨wP.heap.size, 1, none⟩) hl2).trans y1; have v2 := (hb3.frozen (p := ⟨wP.heap.size, 2, none⟩) hl2).trans y2)
              | (go_at_call 31; (with_reducible show Calls _ _ _ (World.alloc _ _) _); refine (hso _ _ _ (hpz.below (below_box (Below.refl _ _) _)) (below_box hbn _)).mono ?_; rintro e w3 ⟨ra, rc, rfl, hri, hb3⟩; have hbt : Below wP.heap.size wP w3 := below_step (below_box hbn _) hb3; have z0 : w3.cell? ⟨w2.heap.size, 0, none⟩ = some (.int .i64 0) := (hb3.cell (by simp)).trans (by simp [go_sem]); have z1 : w3.cell? ⟨w2.heap.size, 1, none⟩ = some (.int .i64 0) := (hb3.cell (by simp)).trans (by simp [go_sem]); have z2 : w3.cell? ⟨w2.heap.size, 2, none⟩ = some (.slice none 0 0) := (hb3.cell (by simp)).trans (by simp [go_sem]); have v0 : w3.frozen? ⟨w2.heap.size, 0, none⟩ = false := (hb3.frozen (by simp)).trans (by simp [go_sem]); have v1 : w3.frozen? ⟨w2.heap.size, 1, none⟩ = false := (hb3.frozen (by simp)).trans (by simp [go_sem]); have v2 : w3.frozen? ⟨w2.heap.size, 2, none⟩ = false := (hb3.frozen (by simp)).trans (by simp [go_sem]))
              | (go_at_call 31; refine (hso _ _ _ hpz hbn).mono ?_; rintro e w3 ⟨ra, rc, rfl, hri, hb3⟩; have hbs : Below wP.heap.size wP w3 := below_step hbn hb3))
          all_goals (go_wp2_with fail; go_meet)
          all_goals first
            | exact ⟨rfl, _, ra, rc, rfl, by simp [go_sem], by simp [go_sem], by simp [go_sem], (hri.alloc _).mono hbn.size, below_box hbs _⟩
            | exact ⟨rfl, _, ra, rc, rfl, (set_other _ (by simp)).trans ((set_other _ (by simp)).trans (set_same z0)), (set_other _ (by simp)).trans (set_same ((set_other _ (by simp)).trans z1)), set_same ((set_other _ (by simp)).trans ((set_other _ (by simp)).trans z2)), (((hri.setCell (p := ⟨w2.heap.size, 0, none⟩) (by simp) _).setCell (p := ⟨w2.heap.size, 1, none⟩) (by simp) _).setCell (p := ⟨w2.heap.size, 2, none⟩) (by simp) _).mono (Nat.le_trans hbn.size (by simp)), (((hbt.setCell (p := ⟨w2.heap.size, 0, none⟩) hbn.size _).setCell (p := ⟨w2.heap.size, 1, none⟩) hbn.size _).setCell (p := ⟨w2.heap.size, 2, none⟩) hbn.size _)⟩
            | exact ⟨rfl, _, ra, rc, rfl, (set_other _ (by simp)).trans ((set_other _ (by simp)).trans (set_same z0)), (set_other _ (by simp)).trans (set_same ((set_other _ (by simp)).trans z1)), set_same ((set_other _ (by simp)).trans ((set_other _ (by simp)).trans z2)), (((hri.setCell (p := ⟨wP.heap.size, 0, none⟩) hl2 _).setCell (p := ⟨wP.heap.size, 1, none⟩) hl2 _).setCell (p := ⟨wP.heap.size, 2, none⟩) hl2 _).mono hbx.size, (((hbt.setCell (p := ⟨wP.heap.size, 0, none⟩) (Nat.le_refl _) _).setCell (p := ⟨wP.heap.size, 1, none⟩) (Nat.le_refl _) _).setCell (p := ⟨wP.heap.size, 2, none⟩) (Nat.le_refl _) _)⟩
        case rest =>
          obtain ⟨rfl, b9, ra, rc, rfl, m0, m1, m2, hri, bx⟩ := hcut
          rw [HR.out]
          have hIX := hIP.below bx
          have hbX := below_step hbr (below_step hbP bx)
          have hri' := hri.mono (show w4.heap.size + 1 ≤ wP.heap.size from hIP.lt)
          obtain ⟨xa, xc, k0, k1, k2, _⟩ := hIX.cells k hlt
          have f0 := hIX.froz (k * 3)
          have f1 := hIX.froz (k * 3 + 1)
          have f2 := hIX.froz (k * 3 + 2)
          rw [Nat.zero_add] at k0 k1 k2
          have hput := hIX.put (g' := fun j => (pics ⟨W, H, S, O, ps⟩ (k + 1)).getD j (noRes 0)) k r ra rc hlt hri' (fun j _ => HG.out j)
          simp only [Nat.zero_add] at hput
          have HP : Hid (_) := hput
          have HX : Hid (_) := hIX
          clear hput hIX hIP hri hri' hpk hso hPp hbP t0 t1 u0 u1 q1 p0 p1 p2 p3 p4 p5 HG hIr
          go_wp2
          go_roundw
          case rel => exact ⟨k + 1, by omega, by go_num, HP.out, ((hbX.setCell (by simp) _).setCell (by simp) _).setCell (by simp) _⟩
          case measure => simp [intOf]; omega
      · have hke : k = ps.length := by omega
        subst hke
        obtain ⟨xa, xc, k0, k1, k2, hxi⟩ := hIr.cells N hNl
        rw [Nat.zero_add] at k0 k1 k2
        have HNN : Hid ((shownP ⟨W, H, S, O, ps⟩).toNat = N) := by show _ = _; rw [HN.out]; rfl
        have HXI : Hid (_) := hxi
        generalize hrr : (pics ⟨W, H, S, O, ps⟩ ps.length).getD N (noRes 0) = r at k0 k1 k2 HXI
        have HRR : Hid (_) := hrr
        have HRE : Hid (r.E = 0) := by
          show _ = _
          rw [← hrr]
          exact (pics_right hbnd hfirst N hNl).1
        obtain ⟨_, c0, c1, c2, f0, f1, f2⟩ := id hboxr
        have hbw := below_step hb4 hbr
        have hlt2 : w.heap.size + 1 < w4.heap.size + 1 := by have := hbox4.lt; omega
        clear hrr hIr hxi hp hp4 hpr hfirst hbnd hBr
        go_wp2
        refine bodyPost_ret (v := .tuple #[.agg #[.int .i64 r.W, .int .i64 r.H, .slice xa r.ps.length xc], .int .i64 r.E]) (by simp [results, Tryz.results12, go_sem, c0, c1, c2, HRE.out]) rfl ?_
        rw [HNN.out, HRR.out]
        exact ⟨xa, xc, rfl, (((HXI.out.setCell (p := ⟨w.heap.size + 1, 0, none⟩) hlt2 _).setCell (p := ⟨w.heap.size + 1, 1, none⟩) hlt2 _).setCell (p := ⟨w.heap.size + 1, 2, none⟩) hlt2 _).mono (by have := hbox4.lt; omega), ((hbw.setCell (by simp) _).setCell (by simp) _).setCell (by simp) _⟩
  · exact absurd hE h0
/-- frame.Render. -/
theorem render_any (W H S O : Int) (a : Option Addr) (len cap : Nat) (ps : List Ps) (w : World) (hp : Passes w a len ps) :
    Calls Tryz.prog 12 #[.agg #[.int .i64 W, .int .i64 H, .int .i64 S, .int .i64 O, .slice a len cap]] w (Told w (renderP ⟨W, H, S, O, ps⟩)) := by
  unfold renderP
  by_cases hE : frameE ⟨W, H, S, O, ps⟩ = 0
  · rw [if_pos hE]; exact render_ok W H S O a len cap ps w hp hE
  · rw [if_neg hE]; exact render_err W H S O a len cap ps w hp hE
end Go.Proofs.YtaenpgdmiaekcaaGreatDoor
/-
  HASREF: the reference's has, and the slots of a pass.
-/
namespace Go.Proofs.YtaenpgdmiaekcaaGreatDoor
set_option maxRecDepth 100000
open Go.RowKit Im

end Go.Proofs.YtaenpgdmiaekcaaGreatDoor
/-
  SOURCESREF: the reference's SourcesOf: of each pass, which passes made what it takes.
-/
namespace Go.Proofs.YtaenpgdmiaekcaaGreatDoor
set_option maxRecDepth 100000
open Go.RowKit Im

end Go.Proofs.YtaenpgdmiaekcaaGreatDoor
