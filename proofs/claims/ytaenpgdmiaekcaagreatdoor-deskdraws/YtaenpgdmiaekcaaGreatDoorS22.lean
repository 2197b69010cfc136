/- ExecC, ExecD, ExecE, ExecF, ExecBegun: joined, in this order. -/
import Derived.Test.YtaenpgdmiaekcaaGreatDoorS21
import Derived.Test.YtaenpgdmiaekcaaGreatDoorS16
import Derived.Deep.CutRange
import Derived.Test.YtaenpgdmiaekcaaGreatDoorS17
import Derived.Test.YtaenpgdmiaekcaaGreatDoorS14
import Derived.Test.YtaenpgdmiaekcaaGreatDoorS20
import Derived.Deep.OwnRows
/-
  EXECC: exec's do.
-/
namespace Go.Proofs.YtaenpgdmiaekcaaGreatDoor
set_option maxRecDepth 100000
open Go.RowKit Im

theorem src_two (ps : List Ps) (k : Nat) : (srcOf ps k).length ≤ 2 := by
  unfold srcOf
  rw [List.length_map]
  unfold takesP
  split
  · simp
  · split <;> simp
/-- The image of pass q, as it lies in the arena. -/
theorem image_lies {f : Fr} {os pl A : List Int} (hF : FitA f os pl A) (v0 v3 : Value) (ra : Option Addr) (rlen rc : Nat) (za : Option Addr) (zc : Nat) (aa : Option Addr) (ac : Nat) {w : World} {b1 b2 : Nat} (hP : Ints b1 w ra rlen pl) (hZ : Zs w za f.ps.length (szs f f.ps.length)) (hA : Ints b2 w aa A.length A) (hac : A.length ≤ ac) {q : Nat} (hq : q < f.ps.length) (hm : (q : Int) ∈ os) :
    Calls Tryz.prog 48 #[.agg #[v0, .slice ra rlen rc, .slice za f.ps.length zc, v3, .slice aa A.length ac], .int .i64 q] w (ToldM w (liesR f pl A q)) := by
  obtain ⟨h1, h2, h3, h4⟩ := hF.place hq hm
  have hlen : pl.length = f.ps.length := hF.ord.len
  obtain ⟨p, hp⟩ := Int.eq_ofNat_of_zero_le h1.1
  obtain ⟨zw, hzw⟩ := Int.eq_ofNat_of_zero_le (show 0 ≤ (zOf f q).1 by omega)
  obtain ⟨zh, hzh⟩ := Int.eq_ofNat_of_zero_le (show 0 ≤ (zOf f q).2 by omega)
  have hz : (szs f f.ps.length).getD q Sz.zero = ((zw : Int), (zh : Int)) := by
    show zOf f q = _
    rw [← hzw, ← hzh]
  have har : areaZ (zOf f q) = ((zw * zh : Nat) : Int) := by unfold areaZ; rw [hzw, hzh, Int.natCast_mul]
  have e : liesR f pl A q = ⟨0, (zw : Int), (zh : Int), getA A p (zw * zh)⟩ := by
    unfold liesR
    simp only [Int.toNat_natCast]
    rw [har, hp, hzw, hzh, Int.toNat_natCast, Int.toNat_natCast]
  rw [e]
  exact image_any v0 v3 ra rlen rc za f.ps.length zc aa A.length ac hP hZ hA hac hF.len (by rw [← hP.leng]; omega) hq hp hz rfl (by omega) (by omega)
set_option maxHeartbeats 8000000 in
theorem do_any {f : Fr} {os pl A : List Int} (pa : Option Addr) (pc : Nat) (ra : Option Addr) (rc : Nat) (za : Option Addr) (zc : Nat) (sa : Option Addr) (sc g ac : Nat) {w : World} {b1 base : Nat}
    (hp : Passes w pa f.ps.length f.ps) (hP : Ints b1 w ra f.ps.length pl) (hZ : Zs w za f.ps.length (szs f f.ps.length)) (hS : LLs w sa f.ps.length (srcs f.ps f.ps.length)) (hO : Owns base w (.slice (some ⟨g, 0, none⟩) A.length ac) A) (hF : FitA f os pl A) {k : Nat} (hk : k < f.ps.length) (hm : (k : Int) ∈ os) :
    Calls Tryz.prog 46 #[.agg #[.slice pa f.ps.length pc, .slice ra f.ps.length rc, .slice za f.ps.length zc, .slice sa f.ps.length sc, .slice (some ⟨g, 0, none⟩) A.length ac], .int .i64 k] w fun e w' => e = .returned (.int .i64 0) ∧ Owns base w' (.slice (some ⟨g, 0, none⟩) A.length ac) (stepA f pl A k) ∧ w.grownBy w' (some g) := by
  obtain ⟨i0, hi, hz0, hz1, hz2⟩ := info_parts Tryz.infoImage
  obtain ⟨f1, f2, f3, f4⟩ := hF.place hk hm
  have hne : A ≠ [] := fun e => by have := congrArg List.length e; rw [List.length_nil] at this; omega
  obtain ⟨g', ac', ev, hg1, hg2, hac⟩ := hO.block hne
  injection ev with ev _ ev2
  injection ev with ev
  injection ev with ev
  subst ev ev2
  obtain ⟨aa, ac', ev, hA⟩ := hO.ints (by have := hF.len; omega)
  injection ev with ev _ ev2
  subst ev ev2
  have hb0 := below_box (Below.refl w.heap.size w) (.cells #[.slice pa f.ps.length pc, .slice ra f.ps.length rc, .slice za f.ps.length zc, .slice sa f.ps.length sc, .slice (some ⟨g, 0, none⟩) A.length ac] 96)
  have hK := WkBox.new w (.slice pa f.ps.length pc) (.slice ra f.ps.length rc) (.slice za f.ps.length zc) (.slice sa f.ps.length sc) (.slice (some ⟨g, 0, none⟩) A.length ac) 96
  have HIM : Hid (∀ wx, Below w.heap.size w wx → ∀ q : Nat, q < f.ps.length → (q : Int) ∈ os → Calls Tryz.prog 48 #[.agg #[.slice pa f.ps.length pc, .slice ra f.ps.length rc, .slice za f.ps.length zc, .slice sa f.ps.length sc, .slice (some ⟨g, 0, none⟩) A.length ac], .int .i64 q] wx (ToldM wx (liesR f pl A q))) := fun wx hb q hq hqm => image_lies hF _ _ ra f.ps.length rc za zc (some ⟨g, 0, none⟩) ac (hP.below (Nat.le_refl _) hb) (hZ.below hb) (hA.below (Nat.le_refl _) hb) hac hq hqm
  obtain ⟨sb, so, ua, uc, rfl, hsb, u0, hU⟩ := (hS.below hb0).nth hk
  rw [srcs_at f.ps hk] at u0 hU
  have hsrc := hF.src hk hm
  have hs2 : (srcOf f.ps k).length ≤ 2 := src_two f.ps k
  have HLS : Hid (stepR f pl A k = paintRes (f.ps.getD k Ps.zero) (zOf f k) ((srcOf f.ps k).map (liesR f pl A))) := rfl
  have HTK : Hid ((srcOf f.ps k).length = (takesP (f.ps.getD k Ps.zero)).length) := by show _ = _; simp [srcOf]
  generalize srcOf f.ps k = sr at *
  have hkI0 : (0 : Int) ≤ (k : Int) := by omega
  have hkI : (k : Int) < (f.ps.length : Int) := by omega
  have hs0 : w.heap.size + 1 ≤ (w.alloc (.cells #[.slice pa f.ps.length pc, .slice ra f.ps.length rc, .slice za f.ps.length zc, .slice (some ⟨sb, so, none⟩) f.ps.length sc, .slice (some ⟨g, 0, none⟩) A.length ac] 96)).heap.size := by simp
  go_enter Tryz.func46, Tryz.ntmps46
  obtain ⟨_, k0, k1, k2, k3, k4⟩ := id hK
  go_wp2_with fail
  generalize w.alloc (.cells #[.slice pa f.ps.length pc, .slice ra f.ps.length rc, .slice za f.ps.length zc, .slice (some ⟨sb, so, none⟩) f.ps.length sc, .slice (some ⟨g, 0, none⟩) A.length ac] 96) = w0 at *
  clear k0 k1 k2 k3 k4 u0
  go_loopw [5, 16] (fun v i wr => ∃ (j : Nat) (M : Lr), j ≤ sr.length ∧ i = .int .i64 j ∧ RowI w0.heap.size wr v M ∧ M.map Prod.fst = (sr.take j).map (liesR f pl A) ∧ Below w0.heap.size w0 wr) (fun _ i _ => sr.length - (intOf i).toNat)
  case atStart => exact ⟨0, [], Nat.zero_le _, rfl, RowI.nil _ _, rfl, Below.refl _ _⟩
  case round =>
    obtain ⟨j, M, hj, rfl, hR, hmap, hbr⟩ := hrel
    have hMl : M.length = j := by
      have := congrArg List.length hmap
      simp at this
      omega
    have HML : Hid (_) := hMl
    have HM : Hid (_) := hmap
    clear hmap hMl
    have hKr := hK.below hbr hK.lt hbr.size
    have hbw := below_step hb0 hbr
    obtain ⟨va, vc, rfl⟩ := owns_slice hR.1
    by_cases hjl : j < sr.length
    · have hjI : (j : Int) < (sr.length : Int) := by omega
      have hjI0 : (0 : Int) ≤ (j : Int) := by omega
      obtain ⟨ub, uo, rfl, hcx⟩ := (hU.below (Nat.le_refl _) hbr).nth hjl
      obtain ⟨q, e1, e2, e3⟩ := hsrc _ (getD_mem hjl 0)
      have HS : Hid ((sr.take (j + 1)).map (liesR f pl A) = (sr.take j).map (liesR f pl A) ++ [liesR f pl A q]) := by
        show _ = _
        rw [List.take_succ_eq_append_getElem hjl, List.map_append]
        have : sr[j] = (q : Int) := by rw [← e1, List.getD_eq_getElem?_getD, List.getElem?_eq_getElem hjl]; rfl
        rw [this]; rfl
      rw [e1] at hcx
      have him := HIM.out wr hbw q (by omega) e3
      generalize liesR f pl A q = r at him HS
      obtain ⟨_, k0, k1, k2, k3, k4⟩ := id hKr
      have HROW : Hid (RowI w0.heap.size wr (.slice va M.length vc) M) := hR
      have hsr := hbr.size
      clear hU hR e1 hsrc
      go_wp2_with fail
      refine him.mono ?_
      clear him
      rintro e w3 ⟨ia, ic, rfl, hii, b3⟩
      have hrow3 := HROW.out.below b3
      have hpx3 := Px.of (base := w0.heap.size) (v := .slice va M.length vc) (c := ic) hii hsr (fun j hj => (HROW.out.lt j hj).2)
      have hb3 : Below w0.heap.size w0 w3 := hbr.trans (b3.mono hsr)
      have HRL : Hid (_) := hrow3.lt
      clear k0 k1 k2 k3 k4
      go_wp2_with (at_builtin; refine wpList_append_own_at _ rfl _ _ 69 rfl w0.heap.size 24 i0 _ 3 40 Tryz.underlying69 hi hz0 hz1 hz2 rfl (by decide) (.slice va M.length vc) M.length (rcells M) rfl (World.ownsRow.alloc hrow3.1 _) ⟨w3.heap.size, 0, none⟩ 1 1 [.int .i64 r.W, .int .i64 r.H, .slice ia r.ps.length ic] rfl rfl (cell_three_new _ _ _ _ _) (by intro u hu; simp at hu; rcases hu with rfl | rfl | rfl <;> rfl) (by rw [HML.out]; unfold maxLen; omega) (by rw [HML.out]; omega) (by have := hb3.size; simp; omega) ?_; intro v' w9 hown9 hgrow9 _ hloc9)
      have bA := (Below.refl w3.heap.size w3).alloc (Nat.le_refl _) (.cells #[.int .i64 r.W, .int .i64 r.H, .slice ia r.ps.length ic] 24)
      have RR := (hrow3.below bA).push (x := (r, ia, ic)) (hpx3.below bA) hown9 hgrow9 hloc9
      have hb9 : Below w0.heap.size w0 w9 := (hb3.alloc hb3.size (.cells #[.int .i64 r.W, .int .i64 r.H, .slice ia r.ps.length ic] 24)).grown hgrow9 (by have := hb3.size; simp; omega) (fun j hj => (HRL.out j hj).1)
      have HRR : Hid (RowI w0.heap.size w9 v' (M ++ [(r, ia, ic)])) := RR
      clear RR hown9 hgrow9 hloc9 hrow3 hpx3 hii bA b3 hb3 HROW
      go_wp2
      go_roundw
      case rel => exact ⟨j + 1, M ++ [(r, ia, ic)], by omega, by go_num, HRR.out, by rw [HS.out, List.map_append, HM.out]; rfl, hb9⟩
      case measure => simp [intOf]; omega
    · have hje : j = sr.length := by omega
      have hmM := HM.out
      rw [hje, List.take_length] at hmM
      obtain ⟨na, nc, ev, hN⟩ := hR.1.imgs hmM (fun x hx => (hR.2 x hx).ints) (by rw [HML.out]; omega)
      injection ev with ev1 ev2 ev3
      subst ev1 ev3
      rw [← ev2] at hN
      have hMs : M.length = sr.length := by rw [HML.out, hje]
      clear ev2
      rw [hMs] at hN ⊢
      clear hMs
      subst hje
      have hpE := passE_of hF.E hk
      obtain ⟨o1, _, _⟩ := passE_zero hpE
      have hkn := (ownE_zero o1).1
      have hRB := hF.step hk hm
      have hnx := hF.next hk hm
      rw [HLS.out] at hRB
      have HNX : Hid ((pl.getD k 0).toNat + (paintRes (f.ps.getD k Ps.zero) (zOf f k) (sr.map (liesR f pl A))).ps.length ≤ A.length) := by show _ ≤ _; rw [← HLS.out]; exact hnx.1
      have HST : Hid (stepA f pl A k = putA A (pl.getD k 0).toNat (paintRes (f.ps.getD k Ps.zero) (zOf f k) (sr.map (liesR f pl A))).ps) := by show _ = _; rw [← HLS.out]; rfl
      obtain ⟨qb, qo, la, ll, lc, rfl, p0, p1, p2, p3, p4, p5, hLi⟩ := (hp.below hbw).nth hk
      obtain ⟨zb, zo, rfl, hzb, z0, z1⟩ := (hZ.below hbw).nth hk
      have ezz : (szs f f.ps.length).getD k Sz.zero = zOf f k := rfl
      rw [ezz] at z0 z1
      have hr1 := (fine_iff _ _ _).1 hRB.2.1
      have hqb : qb < wr.heap.size := World.block_lt_of_cell? _ _ p0
      generalize f.ps.getD k Ps.zero = P at *
      obtain ⟨Op, To, PA, PB, K, ls⟩ := P
      dsimp only at p0 p1 p2 p3 p4 p5 hLi hkn HTK
      generalize zOf f k = z at *
      obtain ⟨zw, zh⟩ := z
      dsimp only at z0 z1
      obtain rfl := hLi.leng
      have hAl : hasA Op = true → 1 ≤ sr.length := fun h => by
        obtain ⟨r, hr⟩ := takes_pos (p := ⟨Op, To, PA, PB, K, ls⟩) h
        rw [HTK.out, hr]; simp
      have hBl : hasB Op = true → 2 ≤ sr.length := fun h => by
        rw [HTK.out, takes_two' (p := ⟨Op, To, PA, PB, K, ls⟩) h]; simp
      have hso := fun wx (hb : Below wr.heap.size wr wx) => paint_any (Op := Op) To PA PB (K := K) lc zw zh vc hkn (hLi.below hb) (hN.below hb) hAl hBl
      generalize paintRes ⟨Op, To, PA, PB, K, ls⟩ (zw, zh) (sr.map (liesR f pl A)) = r at *
      have HE : Hid (r.E = 0) := hRB.1
      have hrl : 1 ≤ r.ps.length := by
        have h1 := hr1.2.2.1
        have h2 := side_mul ((side_iff _).2 hr1.1) ((side_iff _).2 hr1.2.1)
        omega
      have HRL : Hid (1 ≤ r.ps.length) := hrl
      obtain ⟨pq, hpq⟩ := Int.eq_ofNat_of_zero_le f1.1
      obtain ⟨rb, ro, rfl, hr0⟩ := (hP.below (Nat.le_refl _) hbw).nth hk
      rw [hpq] at hr0 HST HNX
      rw [Int.toNat_natCast] at HST HNX
      have hOr : Owns base wr (.slice (some ⟨g, 0, none⟩) A.length ac) A := ownsRow_below hO hbw (Nat.le_refl _)
      have hrb : rb < wr.heap.size := World.block_lt_of_cell? _ _ hr0
      obtain ⟨_, k0, k1, k2, k3, k4⟩ := id hKr
      have hKl := hKr.lt
      have hjI : ¬ (sr.length : Int) < (sr.length : Int) := by omega
      have held : ∀ wx, Below wr.heap.size wr wx → (wx.cell? ⟨w.heap.size, 0, none⟩ = some (.slice (some ⟨qb, qo, none⟩) f.ps.length pc) ∧ wx.cell? ⟨w.heap.size, 2, none⟩ = some (.slice (some ⟨zb, zo, none⟩) f.ps.length zc)) ∧ (wx.cell? ⟨qb, qo + k * 6, none⟩ = some (.int .i64 Op) ∧ wx.cell? ⟨qb, qo + k * 6 + 1, none⟩ = some (.int .i64 To) ∧ wx.cell? ⟨qb, qo + k * 6 + 2, none⟩ = some (.int .i64 PA) ∧ wx.cell? ⟨qb, qo + k * 6 + 3, none⟩ = some (.int .i64 PB) ∧ wx.cell? ⟨qb, qo + k * 6 + 4, none⟩ = some (.int .i64 K) ∧ wx.cell? ⟨qb, qo + k * 6 + 5, none⟩ = some (.slice la ls.length lc)) ∧ wx.cell? ⟨zb, zo + k * 2, none⟩ = some (.int .i64 zw) ∧ wx.cell? ⟨zb, zo + k * 2 + 1, none⟩ = some (.int .i64 zh) := fun wx h =>
        ⟨⟨(h.cell (p := ⟨w.heap.size, 0, none⟩) hKl).trans k0, (h.cell (p := ⟨w.heap.size, 2, none⟩) hKl).trans k2⟩, ⟨(h.cell (p := ⟨qb, qo + k * 6, none⟩) hqb).trans p0, (h.cell (p := ⟨qb, qo + k * 6 + 1, none⟩) hqb).trans p1, (h.cell (p := ⟨qb, qo + k * 6 + 2, none⟩) hqb).trans p2, (h.cell (p := ⟨qb, qo + k * 6 + 3, none⟩) hqb).trans p3, (h.cell (p := ⟨qb, qo + k * 6 + 4, none⟩) hqb).trans p4, (h.cell (p := ⟨qb, qo + k * 6 + 5, none⟩) hqb).trans p5⟩, (h.cell (p := ⟨zb, zo + k * 2, none⟩) hzb).trans z0, (h.cell (p := ⟨zb, zo + k * 2 + 1, none⟩) hzb).trans z1⟩
      have hd := (Below.refl wr.heap.size wr).drew
      clear hp hP hZ hS hO hF hA hN hmM hR hLi hAl hBl hRB hnx hU hsrc hpE o1 hr1 hkn k0 k2 p0 p1 p2 p3 p4 p5 z0 z1 HIM HM HML f1 f2 f3 f4
      go_upto_region 7 with fail
      go_cut [8, 9] from 27 to 41 (fun s8 s9 wx => Made9 wr r s8 s9 wx)
      case first =>
        go_region_held3 (fun wx => (wx.cell? ⟨w.heap.size, 0, none⟩ = some (.slice (some ⟨qb, qo, none⟩) f.ps.length pc) ∧ wx.cell? ⟨w.heap.size, 2, none⟩ = some (.slice (some ⟨zb, zo, none⟩) f.ps.length zc)) ∧ (wx.cell? ⟨qb, qo + k * 6, none⟩ = some (.int .i64 Op) ∧ wx.cell? ⟨qb, qo + k * 6 + 1, none⟩ = some (.int .i64 To) ∧ wx.cell? ⟨qb, qo + k * 6 + 2, none⟩ = some (.int .i64 PA) ∧ wx.cell? ⟨qb, qo + k * 6 + 3, none⟩ = some (.int .i64 PB) ∧ wx.cell? ⟨qb, qo + k * 6 + 4, none⟩ = some (.int .i64 K) ∧ wx.cell? ⟨qb, qo + k * 6 + 5, none⟩ = some (.slice la ls.length lc)) ∧ wx.cell? ⟨zb, zo + k * 2, none⟩ = some (.int .i64 zw) ∧ wx.cell? ⟨zb, zo + k * 2 + 1, none⟩ = some (.int .i64 zh))
          (first
            | exact held _ hd
            | exact held _ hbs
            | exact held _ (below_box (Below.refl _ _) _).drew
            | exact held _ (below_box hbs _)
            | exact held _ (((hbs.setCell (p := ⟨wr.heap.size, 0, none⟩) (Nat.le_refl _) _).setCell (p := ⟨wr.heap.size, 1, none⟩) (Nat.le_refl _) _).setCell (p := ⟨wr.heap.size, 2, none⟩) (Nat.le_refl _) _))
          (first
            | (go_at_call 31; (with_reducible show Calls _ _ _ (World.drew wr) _); refine (hso _ hd).mono ?_; rintro e w3 ⟨ia, ic, rfl, hri, hb3⟩; have hbs := below_step hd hb3)
            | (go_at_call 31; (with_reducible show Calls _ _ _ (World.drew (World.alloc wr _)) _); refine (hso _ (below_box (Below.refl _ _) _).drew).mono ?_; rintro e w3 ⟨ia, ic, rfl, hri, hb3⟩; have hbs := below_step (below_box (Below.refl _ _) _).drew hb3; have hl2 : wr.heap.size < w3.heap.size := Nat.lt_of_lt_of_le (by simp) hb3.size; have x0 : w3.cell? ⟨wr.heap.size, 0, none⟩ = some (.int .i64 0) := (hb3.cell (by simp)).trans (by simp [go_sem]); have x1 : w3.cell? ⟨wr.heap.size, 1, none⟩ = some (.int .i64 0) := (hb3.cell (by simp)).trans (by simp [go_sem]); have x2 : w3.cell? ⟨wr.heap.size, 2, none⟩ = some (.slice none 0 0) := (hb3.cell (by simp)).trans (by simp [go_sem]); have y0 : w3.frozen? ⟨wr.heap.size, 0, none⟩ = false := (hb3.frozen (by simp)).trans (by simp [go_sem]); have y1 : w3.frozen? ⟨wr.heap.size, 1, none⟩ = false := (hb3.frozen (by simp)).trans (by simp [go_sem]); have y2 : w3.frozen? ⟨wr.heap.size, 2, none⟩ = false := (hb3.frozen (by simp)).trans (by simp [go_sem])))
        all_goals (go_wp2_with fail; go_meet)
        all_goals first
          | exact ⟨rfl, _, ia, ic, rfl, by simp [go_sem], by simp [go_sem], by simp [go_sem], (hri.alloc _).mono (Nat.le_refl _), below_box hbs _⟩
          | exact ⟨rfl, _, ia, ic, rfl, (set_other _ (by simp)).trans ((set_other _ (by simp)).trans (set_same x0)), (set_other _ (by simp)).trans (set_same ((set_other _ (by simp)).trans x1)), set_same ((set_other _ (by simp)).trans ((set_other _ (by simp)).trans x2)), (((hri.setCell (p := ⟨wr.heap.size, 0, none⟩) (by simp) _).setCell (p := ⟨wr.heap.size, 1, none⟩) (by simp) _).setCell (p := ⟨wr.heap.size, 2, none⟩) (by simp) _).mono (by simp), ((hbs.setCell (Nat.le_refl _) _).setCell (Nat.le_refl _) _).setCell (Nat.le_refl _) _⟩
      case rest =>
        obtain ⟨rfl, b9, ia, ic, rfl, m0, m1, m2, hri, bx⟩ := hcut
        rw [HE.out]
        have j1 := (bx.cell (p := ⟨w.heap.size, 1, none⟩) hKl).trans k1
        have j4 := (bx.cell (p := ⟨w.heap.size, 4, none⟩) hKl).trans k4
        have j0 := (bx.cell (p := ⟨rb, ro + k, none⟩) hrb).trans hr0
        have hOx := ownsRow_below hOr bx (Nat.le_refl _)
        rcases hri.cells with e | ⟨ib, io, rfl, _, _, _⟩
        · have h1 := HRL.out
          rw [e] at h1
          simp at h1
        have hnews := ints_news hri
        have hn1 := HNX.out
        have hn2 := HRL.out
        have hq0 : (0 : Int) ≤ (pq : Int) := by omega
        have hq1 : (pq : Int) ≤ (A.length : Int) := by omega
        have hq3 : ¬ ac = pq := by omega
        obtain ⟨i3, h3, _, h31, _⟩ := info_parts Tryz.info3
        have hsz : (Tryz.prog.info? 3).map (·.size) = some 1 := by rw [h3]; simp [h31]
        have hgw := below_grown hbw (some g)
        have hgx := hgw.trans (below_grown bx (some g))
        clear held hso hd hOr k1 k4 hr0 hgw
        go_upto_region 10 with fail
        go_region_law (refine step_copy_ints rfl _ _ 22 22 rfl Tryz.underlying22 hsz g pq (A.length - pq) (ac - pq) ⟨ib, io, none⟩ ic r.ps rfl rfl base A.length ac A hOx hnews HNX.out (by have := HNX.out; omega) ?_; intro w9 hO9 hg9)
        all_goals
          have HO9 : Hid (Owns base w9 (.slice (some ⟨g, 0, none⟩) A.length ac) (stepA f pl A k)) := by show Owns _ _ _ _; rw [HST.out]; exact hO9
          have HG9 : Hid (_) := hgx.trans ⟨hg9.os, hg9.tape, hg9.output, hg9.size, hg9.block⟩
          clear hO9 hg9 hOx hnews
          go_wp2
          go_ret
          exact ⟨rfl, HO9.out, HG9.out⟩
end Go.Proofs.YtaenpgdmiaekcaaGreatDoor
/-
  EXECD: exec's begin.
-/
namespace Go.Proofs.YtaenpgdmiaekcaaGreatDoor
set_option maxRecDepth 100000
open Go.RowKit Im

theorem boxes2 (w : World) (W H S O : Int) (a : Option Addr) (len cap : Nat) (v0 v1 : Value) : Below w.heap.size w ((w.alloc (.cells #[.int .i64 W, .int .i64 H, .int .i64 S, .int .i64 O, .slice a len cap] 35)).alloc (.cells #[v0, v1] 48)) ∧ FBox ((w.alloc (.cells #[.int .i64 W, .int .i64 H, .int .i64 S, .int .i64 O, .slice a len cap] 35)).alloc (.cells #[v0, v1] 48)) w.heap.size W H S O a len cap ∧ PlBox ((w.alloc (.cells #[.int .i64 W, .int .i64 H, .int .i64 S, .int .i64 O, .slice a len cap] 35)).alloc (.cells #[v0, v1] 48)) (w.heap.size + 1) v0 v1 := by
  refine ⟨below_box (below_box (Below.refl _ _) _) _, (FBox.new w W H S O a len cap).alloc _, ?_⟩
  have hP0 := PlBox.new (w.alloc (.cells #[.int .i64 W, .int .i64 H, .int .i64 S, .int .i64 O, .slice a len cap] 35)) v0 v1 48
  rwa [World.size_alloc] at hP0
/-- Five values in a box that may be written. -/
structure Bx5 (w : World) (b : Nat) : Prop where
  lt : b < w.heap.size
  c : ∀ j, j < 5 → ∃ v, w.cell? ⟨b, j, none⟩ = some v
  fz : ∀ o, w.frozen? ⟨b, o, none⟩ = false
theorem Bx5.below {w w' : World} {b B : Nat} (h : Bx5 w b) (hb : Below B w w') (hB : b < B) (hs : w.heap.size ≤ w'.heap.size) : Bx5 w' b :=
  ⟨Nat.lt_of_lt_of_le h.lt hs, fun j hj => by obtain ⟨v, hv⟩ := h.c j hj; exact ⟨v, (hb.cell (p := ⟨b, j, none⟩) hB).trans hv⟩, fun o => (hb.frozen (p := ⟨b, o, none⟩) hB).trans (h.fz o)⟩
theorem Bx5.new (w : World) (v0 v1 v2 v3 v4 : Value) (t : TypeId) : Bx5 (w.alloc (.cells #[v0, v1, v2, v3, v4] t)) w.heap.size := ⟨by simp, fun j hj => by
    match j, hj with
    | 0, _ => exact ⟨_, by simp [go_sem]; rfl⟩
    | 1, _ => exact ⟨_, by simp [go_sem]; rfl⟩
    | 2, _ => exact ⟨_, by simp [go_sem]; rfl⟩
    | 3, _ => exact ⟨_, by simp [go_sem]; rfl⟩
    | 4, _ => exact ⟨_, by simp [go_sem]; rfl⟩, fun o => frozen_new w _ _ o⟩
abbrev put5 (w : World) (b : Nat) (x0 x1 x2 x3 x4 : Value) : World := ((((w.setCell ⟨b, 0, none⟩ x0).setCell ⟨b, 1, none⟩ x1).setCell ⟨b, 2, none⟩ x2).setCell ⟨b, 3, none⟩ x3).setCell ⟨b, 4, none⟩ x4
theorem Bx5.sets {w : World} {b : Nat} (h : Bx5 w b) (x0 x1 x2 x3 x4 : Value) :
    (put5 w b x0 x1 x2 x3 x4).cell? ⟨b, 0, none⟩ = some x0 ∧ (put5 w b x0 x1 x2 x3 x4).cell? ⟨b, 1, none⟩ = some x1 ∧ (put5 w b x0 x1 x2 x3 x4).cell? ⟨b, 2, none⟩ = some x2 ∧ (put5 w b x0 x1 x2 x3 x4).cell? ⟨b, 3, none⟩ = some x3 ∧ (put5 w b x0 x1 x2 x3 x4).cell? ⟨b, 4, none⟩ = some x4 := by
  obtain ⟨v0, k0⟩ := h.c 0 (by decide)
  obtain ⟨v1, k1⟩ := h.c 1 (by decide)
  obtain ⟨v2, k2⟩ := h.c 2 (by decide)
  obtain ⟨v3, k3⟩ := h.c 3 (by decide)
  obtain ⟨v4, k4⟩ := h.c 4 (by decide)
  have ht : ∀ i j : Nat, i ≠ j → (⟨b, i, none⟩ : Addr) ≠ ⟨b, j, none⟩ := fun i j hij e => hij (by injection e)
  have A := fun (w : World) (u : Value) (i j : Nat) (hij : i ≠ j) => set_other (w := w) u (ht i j hij)
  unfold put5
  refine ⟨?_, ?_, ?_, ?_, ?_⟩
  · rw [A _ _ 4 0 (by decide), A _ _ 3 0 (by decide), A _ _ 2 0 (by decide), A _ _ 1 0 (by decide)]; exact set_same k0
  · rw [A _ _ 4 1 (by decide), A _ _ 3 1 (by decide), A _ _ 2 1 (by decide)]; exact set_same ((A _ _ 0 1 (by decide)).trans k1)
  · rw [A _ _ 4 2 (by decide), A _ _ 3 2 (by decide)]; exact set_same ((A _ _ 1 2 (by decide)).trans ((A _ _ 0 2 (by decide)).trans k2))
  · rw [A _ _ 4 3 (by decide)]; exact set_same ((A _ _ 2 3 (by decide)).trans ((A _ _ 1 3 (by decide)).trans ((A _ _ 0 3 (by decide)).trans k3)))
  · exact set_same ((A _ _ 3 4 (by decide)).trans ((A _ _ 2 4 (by decide)).trans ((A _ _ 1 4 (by decide)).trans ((A _ _ 0 4 (by decide)).trans k4))))
/-- The same store in two worlds that are alike below n. -/
theorem below_both {n : Nat} {a b : World} (h : Below n a b) (p : Addr) (v : Value) : Below n (a.setCell p v) (b.setCell p v) :=
  ⟨h.os, h.tape, h.output, by simpa using h.size, fun k hk => by
    have := h.block k hk
    simp only [World.setCell, Array.getElem?_modify, this]⟩
abbrev noWork : Value := .agg #[.slice none 0 0, .slice none 0 0, .slice none 0 0, .slice none 0 0, .slice none 0 0]
/-- What begin is told by. -/
def ToldBg (w : World) (f : Fr) (os pl A : List Int) (vp vl : Value) (e : Ending) (w' : World) : Prop :=
  (execE f os pl A = 0 ∧ ∃ wS za zc sa sc g ac, e = .returned (.tuple #[.agg #[vp, vl, .slice za f.ps.length zc, .slice sa f.ps.length sc, .slice (some ⟨g, 0, none⟩) A.length ac], .int .i64 0]) ∧ Below w.heap.size w wS ∧ Zs wS za f.ps.length (szs f f.ps.length) ∧ LLs wS sa f.ps.length (srcs f.ps f.ps.length) ∧ Owns wS.heap.size w' (.slice (some ⟨g, 0, none⟩) A.length ac) A ∧ Below wS.heap.size wS w') ∨
  (execE f os pl A ≠ 0 ∧ e = .returned (.tuple #[noWork, .int .i64 (execE f os pl A)]) ∧ Below w.heap.size w w')
theorem below_put5 {n : Nat} {a b : World} (h : Below n a b) {q : Nat} (hq : n ≤ q) (x0 x1 x2 x3 x4 : Value) : Below n a (put5 b q x0 x1 x2 x3 x4) :=
  ((((h.setCell (p := ⟨q, 0, none⟩) hq x0).setCell (p := ⟨q, 1, none⟩) hq x1).setCell (p := ⟨q, 2, none⟩) hq x2).setCell (p := ⟨q, 3, none⟩) hq x3).setCell (p := ⟨q, 4, none⟩) hq x4
theorem execE_no {f : Fr} {os pl A : List Int} (h : checkP f os pl A.length ≠ 0) : execE f os pl A = checkP f os pl A.length := by unfold execE; rw [if_neg h]
theorem execE_bad {f : Fr} {os pl A : List Int} (h : checkP f os pl A.length = 0) (hb : fineA A ≠ true) : execE f os pl A = 3 := by unfold execE; rw [if_pos h, if_neg hb]
theorem execE_ok {f : Fr} {os pl A : List Int} (h : checkP f os pl A.length = 0) (hb : fineA A = true) : execE f os pl A = 0 := by unfold execE; rw [if_pos h, if_pos hb]
abbrev Fit0 (A : List Int) (f : Fr) (os pl : List Int) : Prop := FitA f os pl A
set_option maxHeartbeats 8000000 in
theorem begin_any (W H S O : Int) (a : Option Addr) (len cap : Nat) (ps : List Ps) (w : World) (hp : Passes w a len ps) (oa : Option Addr) (olen ocap : Nat) (pa : Option Addr) (plen pcap : Nat) (os pl : List Int) (hO : Ints 0 w oa olen os) (hL : Ints 0 w pa plen pl) (hcap : olen ≤ ocap) (aa : Option Addr) (alen ac : Nat) (A : List Int) (hA : Ints 0 w aa alen A) :
    Calls Tryz.prog 45 #[.agg #[.int .i64 W, .int .i64 H, .int .i64 S, .int .i64 O, .slice a len cap], .agg #[.slice oa olen ocap, .slice pa plen pcap], .slice aa alen ac] w (ToldBg w ⟨W, H, S, O, ps⟩ os pl A (.slice a len cap) (.slice pa plen pcap)) := by
  obtain rfl := hA.leng
  obtain ⟨hb0, hF0, hP0⟩ := boxes2 w W H S O a len cap (.slice oa olen ocap) (.slice pa plen pcap)
  have hs0 : w.heap.size + 2 ≤ ((w.alloc (.cells #[.int .i64 W, .int .i64 H, .int .i64 S, .int .i64 O, .slice a len cap] 35)).alloc (.cells #[.slice oa olen ocap, .slice pa plen pcap] 48)).heap.size := by simp
  have hR0 := Bx5.new ((w.alloc (.cells #[.int .i64 W, .int .i64 H, .int .i64 S, .int .i64 O, .slice a len cap] 35)).alloc (.cells #[.slice oa olen ocap, .slice pa plen pcap] 48)) (.slice none 0 0) (.slice none 0 0) (.slice none 0 0) (.slice none 0 0) (.slice none 0 0) 96
  have hbx := (Below.refl ((w.alloc (.cells #[.int .i64 W, .int .i64 H, .int .i64 S, .int .i64 O, .slice a len cap] 35)).alloc (.cells #[.slice oa olen ocap, .slice pa plen pcap] 48)).heap.size _).alloc (Nat.le_refl _) (.cells #[.slice none 0 0, .slice none 0 0, .slice none 0 0, .slice none 0 0, .slice none 0 0] 96)
  have hF1 := hF0.below hbx
  have hP1 := hP0.below hbx
  have hb1 := below_step hb0 hbx
  rw [World.size_alloc, World.size_alloc] at hR0
  have hck := planCheck_any W H S O a len cap ps _ (hp.below hb1) oa olen ocap pa plen pcap os pl (hO.below (Nat.le_refl _) hb1) (hL.below (Nat.le_refl _) hb1) hcap A.length
  clear hF0 hP0 hb0 hbx
  go_enter Tryz.func45, Tryz.ntmps45
  obtain ⟨_, g0, g1, g2, g3, g4⟩ := id hF1
  obtain ⟨_, e0, e1⟩ := id hP1
  go_wp2_with fail
  generalize ((w.alloc (.cells #[.int .i64 W, .int .i64 H, .int .i64 S, .int .i64 O, .slice a len cap] 35)).alloc (.cells #[.slice oa olen ocap, .slice pa plen pcap] 48)).alloc (.cells #[.slice none 0 0, .slice none 0 0, .slice none 0 0, .slice none 0 0, .slice none 0 0] 96) = w1 at *
  refine hck.mono ?_
  clear hck g0 g1 g2 g3 g4 e0 e1 hs0
  rintro e w2 ⟨rfl, b2⟩
  have hb2 := below_step hb1 b2
  have hF2 := hF1.below b2
  have hP2 := hP1.below b2
  have hR2 := hR0.below b2 hR0.lt b2.size
  have hrb : w.heap.size ≤ w.heap.size + 1 + 1 := by omega
  obtain ⟨v0, k0⟩ := hR2.c 0 (by decide)
  obtain ⟨v1, k1⟩ := hR2.c 1 (by decide)
  obtain ⟨v2, k2⟩ := hR2.c 2 (by decide)
  obtain ⟨v3, k3⟩ := hR2.c 3 (by decide)
  obtain ⟨v4, k4⟩ := hR2.c 4 (by decide)
  have f0 := hR2.fz 0
  have f1 := hR2.fz 1
  have f2 := hR2.fz 2
  have f3 := hR2.fz 3
  have f4 := hR2.fz 4
  have HT : Hid (_) := hR2.sets (.slice none 0 0) (.slice none 0 0) (.slice none 0 0) (.slice none 0 0) (.slice none 0 0)
  have HBZ : Hid (_) := below_put5 hb2 hrb (.slice none 0 0) (.slice none 0 0) (.slice none 0 0) (.slice none 0 0) (.slice none 0 0)
  by_cases hC : checkP ⟨W, H, S, O, ps⟩ os pl A.length = 0
  · have hE : frameE ⟨W, H, S, O, ps⟩ = 0 := (planE_zero (check_zeroX hC).1).1
    have h12 : ps.length ≤ 12 := by
      obtain ⟨hb, _, _⟩ := frameE_zero hE
      exact (boundsE_zero hb).2.2.2.2.2
    have hA4 : A.length ≤ 4096 := by have := (check_zeroX hC).2.1; omega
    have hFP : fineA A = true → Fit0 A ⟨W, H, S, O, ps⟩ os pl := fun h => fit_of hC h
    have HFP : Hid (_) := hFP
    have HX0 : Hid (fineA A = true → execE ⟨W, H, S, O, ps⟩ os pl A = 0) := fun h => execE_ok hC h
    have HX3 : Hid (fineA A ≠ true → execE ⟨W, H, S, O, ps⟩ os pl A = 3) := fun h => execE_bad hC h
    have hpr := hp.below hb2
    have hAr := hA.below (Nat.le_refl _) hb2
    have HBAD : Hid (fineA A ≠ true → ToldBg w ⟨W, H, S, O, ps⟩ os pl A (.slice a len cap) (.slice pa plen pcap) (.returned (.tuple #[noWork, .int .i64 3])) (put5 w2 (w.heap.size + 1 + 1) (.slice none 0 0) (.slice none 0 0) (.slice none 0 0) (.slice none 0 0) (.slice none 0 0))) := fun h => .inr ⟨by rw [HX3.out h]; decide, by rw [HX3.out h], HBZ.out⟩
    rw [hC]
    clear hFP hC hb1 hF1 hP1 hR0 b2 hO hL
    go_wp2_with fail
    go_loopw [7, 25] (fun s7 i wr => ∃ j : Nat, j ≤ A.length ∧ s7 = .int .i64 0 ∧ i = .int .i64 j ∧ (A.take j).all numB = true ∧ wr = w2) (fun _ i _ => A.length - (intOf i).toNat)
    case atStart => exact ⟨0, Nat.zero_le _, rfl, rfl, by simp, rfl⟩
    case round =>
      obtain ⟨j, hj, rfl, rfl, hall, rfl⟩ := hrel
      have HALL : Hid (_) := hall
      clear hall
      by_cases hjl : j < A.length
      · have hjI : (j : Int) < (A.length : Int) := by omega
        have hjI0 : (0 : Int) ≤ (j : Int) := by omega
        obtain ⟨ab, ao, rfl, hc⟩ := hAr.nth hjl
        have HN : Hid (numB (A[j]?.getD 0) = true → (A.take (j + 1)).all numB = true) := fun h => all_succ A j hjl HALL.out h
        have HNN : Hid (numB (A[j]?.getD 0) = false → fineA A ≠ true) := fun h => by
          have := all_not A j hjl h
          unfold fineA
          rw [this]; decide
        have eg : A.getD j 0 = A[j]?.getD 0 := List.getD_eq_getElem?_getD
        rw [eg] at hc
        generalize A[j]?.getD 0 = n at *
        by_cases h1 : n < 0
        · have HBD : Hid (_) := HBAD.out (HNN.out (by simp [numB]; omega))
          go_wp2
          obtain ⟨t0, t1, t2, t3, t4⟩ := HT.out
          exact bodyPost_ret (v := .tuple #[noWork, .int .i64 3]) (by simp [results, Tryz.results45, go_sem, t0, t1, t2, t3, t4]) rfl HBD.out
        · by_cases h2 : 65535 < n
          · have HBD : Hid (_) := HBAD.out (HNN.out (by simp [numB]; omega))
            go_wp2
            obtain ⟨t0, t1, t2, t3, t4⟩ := HT.out
            exact bodyPost_ret (v := .tuple #[noWork, .int .i64 3]) (by simp [results, Tryz.results45, go_sem, t0, t1, t2, t3, t4]) rfl HBD.out
          · have HA2 : Hid (_) := HN.out (by simp [numB]; omega)
            go_wp2
            go_roundw
            case rel => exact ⟨j + 1, by omega, rfl, by go_num, HA2.out, trivial⟩
            case measure => simp [intOf]; omega
      · have hje : j = A.length := by omega
        subst hje
        have hfin : fineA A = true := by
          have := HALL.out
          rw [List.take_length] at this
          exact this
        have hFit := HFP.out hfin
        have HEX := HX0.out hfin
        have hkI : ¬ (A.length : Int) < (A.length : Int) := by omega
        clear k0 k1 k2 k3 k4 f0 f1 f2 f3 f4 HT HBZ HBAD HALL
        have hsi := sizes_any W H S O a len cap ps wr hpr
        obtain ⟨_, g0, g1, g2, g3, g4⟩ := id hF2
        go_wp2_with fail
        refine hsi.mono ?_
        clear hsi g0 g1 g2 g3 g4
        rintro e w3 ⟨⟨vz, rfl, hZ3⟩, b3⟩
        rw [if_pos hE] at hZ3
        have hso := sources_any W H S O a len cap ps w3 (hpr.below b3)
        obtain ⟨_, g0, g1, g2, g3, g4⟩ := hF2.below b3
        rw [hE]
        go_wp2_with fail
        refine hso.mono ?_
        clear hso g0 g1 g2 g3 g4
        rintro e w4 ⟨⟨vs, rfl, hS4⟩, b4⟩
        rw [if_pos hE] at hS4
        have b34 := below_step b3 b4
        have hb4 := below_step hb2 b34
        have hne : A ≠ [] := fun e => by
          obtain ⟨q, _, hq, hm⟩ := hFit.last
          obtain ⟨h1, _, h3, h4⟩ := hFit.place hq hm
          have := congrArg List.length e
          rw [List.length_nil] at this
          omega
        have hZ4 : OwnsZ wr.heap.size w4 vz (szs ⟨W, H, S, O, ps⟩ ps.length) := ownsRow_below hZ3 b4 (Nat.le_refl _)
        obtain ⟨za, zc, rfl, _⟩ := hZ4.zs (by rw [szs_length]; exact h12)
        rw [szs_length] at hZ4 ⊢
        obtain ⟨sa, sc, rfl, _⟩ := hS4.lls (fun x hx => by
          unfold srcs at hx
          rw [List.mem_map] at hx
          obtain ⟨q, _, rfl⟩ := hx
          exact src_two ps q)
        rw [srcs_length] at hS4 ⊢
        have hF4 := hF2.below b34
        have hP4 := hP2.below b34
        have hR4 := hR2.below b34 hR2.lt b34.size
        have hd := (Below.refl w4.heap.size w4).drew
        have hcl := cloneI_any ac ((hAr.below (Nat.le_refl _) b34).below (Nat.le_refl _) hd) hA4
        have g4 := hF4.c4
        have e1 := hP4.c1
        have hgd := below_grown hd (some (w.heap.size + 1 + 1))
        have held : ∀ wx, w4.grownBy wx (some (w.heap.size + 1 + 1)) → wx.cell? ⟨w.heap.size, 4, none⟩ = some (.slice a len cap) ∧ wx.cell? ⟨w.heap.size + 1, 1, none⟩ = some (.slice pa plen pcap) := fun wx h =>
          ⟨(grown_cell h hF4.lt (fun e => by injection e with e; omega) 4).1.trans g4, (grown_cell h hP4.lt (fun e => by injection e with e; omega) 1).1.trans e1⟩
        have HFIN : Hid (∀ w5 g gc, Below w4.heap.size w4 w5 → Owns w4.heap.size w5 (.slice (some ⟨g, 0, none⟩) A.length gc) A → ToldBg w ⟨W, H, S, O, ps⟩ os pl A (.slice a len cap) (.slice pa plen pcap) (.returned (.tuple #[.agg #[.slice a len cap, .slice pa plen pcap, .slice za ps.length zc, .slice sa ps.length sc, .slice (some ⟨g, 0, none⟩) A.length gc], .int .i64 0])) (put5 w5 (w.heap.size + 1 + 1) (.slice a len cap) (.slice pa plen pcap) (.slice za ps.length zc) (.slice sa ps.length sc) (.slice (some ⟨g, 0, none⟩) A.length gc))) := by
          intro w5 g gc b5 hO5
          have hRr : w.heap.size + 1 + 1 < wr.heap.size := hR2.lt
          have hR3 : w.heap.size + 1 + 1 < w3.heap.size := Nat.lt_of_lt_of_le hRr b3.size
          have hRw : w.heap.size + 1 + 1 < w4.heap.size := Nat.lt_of_lt_of_le hR3 b4.size
          refine .inl ⟨HEX, put5 w4 (w.heap.size + 1 + 1) (.slice a len cap) (.slice pa plen pcap) (.slice za ps.length zc) (.slice sa ps.length sc) (.slice (some ⟨g, 0, none⟩) A.length gc), za, zc, sa, sc, g, gc, rfl, below_put5 hb4 hrb _ _ _ _ _, ?_, ?_, ?_, ?_⟩
          · have X : OwnsZ wr.heap.size (put5 w4 (w.heap.size + 1 + 1) (.slice a len cap) (.slice pa plen pcap) (.slice za ps.length zc) (.slice sa ps.length sc) (.slice (some ⟨g, 0, none⟩) A.length gc)) (.slice za ps.length zc) (szs ⟨W, H, S, O, ps⟩ ps.length) := ownsRow_setCell_below (ownsRow_setCell_below (ownsRow_setCell_below (ownsRow_setCell_below (ownsRow_setCell_below hZ4 hRr _) hRr _) hRr _) hRr _) hRr _
            obtain ⟨za', zc', ev, hz⟩ := X.zs (by rw [szs_length]; exact h12)
            rw [szs_length] at ev hz
            injection ev with ev
            subst ev
            exact hz
          · have X := ((((hS4.setCell (p := ⟨w.heap.size + 1 + 1, 0, none⟩) hR3 (.slice a len cap)).setCell (p := ⟨w.heap.size + 1 + 1, 1, none⟩) hR3 (.slice pa plen pcap)).setCell (p := ⟨w.heap.size + 1 + 1, 2, none⟩) hR3 (.slice za ps.length zc)).setCell (p := ⟨w.heap.size + 1 + 1, 3, none⟩) hR3 (.slice sa ps.length sc)).setCell (p := ⟨w.heap.size + 1 + 1, 4, none⟩) hR3 (.slice (some ⟨g, 0, none⟩) A.length gc)
            obtain ⟨sa', sc', ev, hz⟩ := X.lls (fun x hx => by
              unfold srcs at hx
              rw [List.mem_map] at hx
              obtain ⟨q, _, rfl⟩ := hx
              exact src_two ps q)
            rw [srcs_length] at ev hz
            injection ev with ev
            subst ev
            exact hz
          · have X := ownsRow_setCell_below (ownsRow_setCell_below (ownsRow_setCell_below (ownsRow_setCell_below (ownsRow_setCell_below hO5 (a := ⟨w.heap.size + 1 + 1, 0, none⟩) hRw (.slice a len cap)) (a := ⟨w.heap.size + 1 + 1, 1, none⟩) hRw (.slice pa plen pcap)) (a := ⟨w.heap.size + 1 + 1, 2, none⟩) hRw (.slice za ps.length zc)) (a := ⟨w.heap.size + 1 + 1, 3, none⟩) hRw (.slice sa ps.length sc)) (a := ⟨w.heap.size + 1 + 1, 4, none⟩) hRw (.slice (some ⟨g, 0, none⟩) A.length gc)
            have e : (put5 w4 (w.heap.size + 1 + 1) (.slice a len cap) (.slice pa plen pcap) (.slice za ps.length zc) (.slice sa ps.length sc) (.slice (some ⟨g, 0, none⟩) A.length gc)).heap.size = w4.heap.size := by simp
            rw [e]
            exact X
          · have e : (put5 w4 (w.heap.size + 1 + 1) (.slice a len cap) (.slice pa plen pcap) (.slice za ps.length zc) (.slice sa ps.length sc) (.slice (some ⟨g, 0, none⟩) A.length gc)).heap.size = w4.heap.size := by simp
            rw [e]
            exact below_both (below_both (below_both (below_both (below_both b5 _ _) _ _) _ _) _ _) _ _
        clear hZ3 hZ4 hS4 hF2 hP2 hR2 hp hpr hA hAr hFit HFP
        go_upto_region 16 with fail
        go_region_held3 (fun wx => wx.cell? ⟨w.heap.size, 4, none⟩ = some (.slice a len cap) ∧ wx.cell? ⟨w.heap.size + 1, 1, none⟩ = some (.slice pa plen pcap))
          (first | exact held _ hgd | exact held _ g5 | exact held _ (grown_put (grown_put (grown_put (grown_put (grown_put g5 0 _) 1 _) 2 _) 3 _) 4 _))
          ((go_at_call 86; refine hcl.mono ?_; rintro e w5 ⟨⟨v, rfl, hO5⟩, b5'⟩; have b5 := below_step hd b5'; have g5 := below_grown b5 (some (w.heap.size + 1 + 1)); obtain ⟨g, gc, rfl, _, _, _⟩ := hO5.block hne; have hR5 := hR4.below b5 hR4.lt b5.size; obtain ⟨v0, k0⟩ := hR5.c 0 (by decide); obtain ⟨v1, k1⟩ := hR5.c 1 (by decide); obtain ⟨v2, k2⟩ := hR5.c 2 (by decide); obtain ⟨v3, k3⟩ := hR5.c 3 (by decide); obtain ⟨v4, k4⟩ := hR5.c 4 (by decide); have f0 := hR5.fz 0; have f1 := hR5.fz 1; have f2 := hR5.fz 2; have f3 := hR5.fz 3; have f4 := hR5.fz 4))
        all_goals
          have HT : Hid (_) := hR5.sets (.slice a len cap) (.slice pa plen pcap) (.slice za ps.length zc) (.slice sa ps.length sc) (.slice (some ⟨g, 0, none⟩) A.length gc)
          have HF : Hid (_) := HFIN.out w5 g gc b5 hO5
          clear hO5 b5' hR5 HFIN held
          go_wp2
          obtain ⟨t0, t1, t2, t3, t4⟩ := HT.out
          exact bodyPost_ret (v := .tuple #[.agg #[.slice a len cap, .slice pa plen pcap, .slice za ps.length zc, .slice sa ps.length sc, .slice (some ⟨g, 0, none⟩) A.length gc], .int .i64 0]) (by simp [results, Tryz.results45, go_sem, t0, t1, t2, t3, t4]) rfl HF.out
  · have HFIN : Hid (ToldBg w ⟨W, H, S, O, ps⟩ os pl A (.slice a len cap) (.slice pa plen pcap) (.returned (.tuple #[noWork, .int .i64 (checkP ⟨W, H, S, O, ps⟩ os pl A.length)])) (put5 w2 (w.heap.size + 1 + 1) (.slice none 0 0) (.slice none 0 0) (.slice none 0 0) (.slice none 0 0) (.slice none 0 0))) := .inr ⟨by rw [execE_no hC]; exact hC, by rw [execE_no hC], HBZ.out⟩
    generalize checkP ⟨W, H, S, O, ps⟩ os pl A.length = E at *
    go_wp2
    obtain ⟨t0, t1, t2, t3, t4⟩ := HT.out
    exact bodyPost_ret (v := .tuple #[noWork, .int .i64 E]) (by simp [results, Tryz.results45, go_sem, t0, t1, t2, t3, t4]) rfl HFIN.out
end Go.Proofs.YtaenpgdmiaekcaaGreatDoor
/-
  EXECE: exec.Step.
-/
namespace Go.Proofs.YtaenpgdmiaekcaaGreatDoor
set_option maxRecDepth 100000
open Go.RowKit Im

theorem WkBox.grown {w w' : World} {b : Nat} {v0 v1 v2 v3 v4 : Value} {row : Option Nat} (h : WkBox w b v0 v1 v2 v3 v4) (hg : w.grownBy w' row) (hne : some b ≠ row) : WkBox w' b v0 v1 v2 v3 v4 :=
  ⟨Nat.lt_of_lt_of_le h.lt hg.size, (grown_cell hg h.lt hne 0).1.trans h.c0, (grown_cell hg h.lt hne 1).1.trans h.c1, (grown_cell hg h.lt hne 2).1.trans h.c2, (grown_cell hg h.lt hne 3).1.trans h.c3, (grown_cell hg h.lt hne 4).1.trans h.c4⟩
theorem grown_from {n : Nat} {a w w' : World} {g : Nat} (h : Below n a w) (hn : n ≤ w.heap.size) (hg : w.grownBy w' (some g)) (hg2 : n ≤ g) : Below n a w' := h.grown hg hn (fun k hk => by injection hk with hk; omega)
end Go.Proofs.YtaenpgdmiaekcaaGreatDoor
/-
  EXECF: exec.Run.
-/
namespace Go.Proofs.YtaenpgdmiaekcaaGreatDoor
set_option maxRecDepth 100000
open Go.RowKit Im

/-- What Run tells. -/
def runP (f : Fr) (os pl A : List Int) : Res := if execE f os pl A = 0 then runR f os pl A else noRes (execE f os pl A)
theorem IBox.grown {w w' : World} {b : Nat} {row : Option Nat} (h : IBox w b) (hg : w.grownBy w' row) (hne : some b ≠ row) : IBox w' b :=
  ⟨Nat.lt_of_lt_of_le h.lt hg.size, (grown_cell hg h.lt hne 0).1.trans h.c0, (grown_cell hg h.lt hne 1).1.trans h.c1, (grown_cell hg h.lt hne 2).1.trans h.c2, (grown_cell hg h.lt hne 0).2.trans h.f0, (grown_cell hg h.lt hne 1).2.trans h.f1, (grown_cell hg h.lt hne 2).2.trans h.f2⟩
theorem FBox.grown {w w' : World} {b : Nat} {W H S O : Int} {a : Option Addr} {len cap : Nat} {row : Option Nat} (h : FBox w b W H S O a len cap) (hg : w.grownBy w' row) (hne : some b ≠ row) : FBox w' b W H S O a len cap :=
  ⟨Nat.lt_of_lt_of_le h.lt hg.size, (grown_cell hg h.lt hne 0).1.trans h.c0, (grown_cell hg h.lt hne 1).1.trans h.c1, (grown_cell hg h.lt hne 2).1.trans h.c2, (grown_cell hg h.lt hne 3).1.trans h.c3, (grown_cell hg h.lt hne 4).1.trans h.c4⟩
set_option maxHeartbeats 8000000 in
theorem run_any (W H S O : Int) (a : Option Addr) (len cap : Nat) (ps : List Ps) (w : World) (hp : Passes w a len ps) (oa : Option Addr) (olen ocap : Nat) (pa : Option Addr) (plen pcap : Nat) (os pl : List Int) (hO : Ints 0 w oa olen os) (hL : Ints 0 w pa plen pl) (hcap : olen ≤ ocap) (aa : Option Addr) (alen ac : Nat) (A : List Int) (hA : Ints 0 w aa alen A) :
    Calls Tryz.prog 20 #[.agg #[.int .i64 W, .int .i64 H, .int .i64 S, .int .i64 O, .slice a len cap], .agg #[.slice oa olen ocap, .slice pa plen pcap], .slice aa alen ac] w (Told w (runP ⟨W, H, S, O, ps⟩ os pl A)) := by
  obtain rfl := hO.leng
  obtain rfl := hp.leng
  obtain ⟨hb0', hF0', hP0'⟩ := boxes2 w W H S O a ps.length cap (.slice oa os.length ocap) (.slice pa plen pcap)
  have bI := (Below.refl ((w.alloc (.cells #[.int .i64 W, .int .i64 H, .int .i64 S, .int .i64 O, .slice a ps.length cap] 35)).alloc (.cells #[.slice oa os.length ocap, .slice pa plen pcap] 48)).heap.size _).alloc (Nat.le_refl _) (.cells #[.int .i64 0, .int .i64 0, .slice none 0 0] 24)
  have hI0 := IBox.new ((w.alloc (.cells #[.int .i64 W, .int .i64 H, .int .i64 S, .int .i64 O, .slice a ps.length cap] 35)).alloc (.cells #[.slice oa os.length ocap, .slice pa plen pcap] 48))
  rw [World.size_alloc, World.size_alloc] at hI0
  have hb0 := below_step hb0' bI
  have hF0 := hF0'.below bI
  have hP0 := hP0'.below bI
  clear hb0' hF0' hP0' bI
  have hbg := begin_any W H S O a ps.length cap ps _ (hp.below hb0) oa os.length ocap pa plen pcap os pl (hO.below (Nat.le_refl _) hb0) (hL.below (Nat.le_refl _) hb0) hcap aa alen ac A (hA.below (Nat.le_refl _) hb0)
  go_enter Tryz.func20, Tryz.ntmps20
  obtain ⟨_, g0, g1, g2, g3, g4⟩ := id hF0
  obtain ⟨_, e0, e1⟩ := id hP0
  go_wp2_with fail
  generalize ((w.alloc (.cells #[.int .i64 W, .int .i64 H, .int .i64 S, .int .i64 O, .slice a ps.length cap] 35)).alloc (.cells #[.slice oa os.length ocap, .slice pa plen pcap] 48)).alloc (.cells #[.int .i64 0, .int .i64 0, .slice none 0 0] 24) = w1 at *
  refine hbg.mono ?_
  clear hbg g0 g1 g2 g3 g4 e0 e1
  have hw2 : w.heap.size ≤ w.heap.size + 1 + 1 := by omega
  rintro e w2 (⟨hX, wS, za, zc, sa, sc, g, gc, rfl, bS, hZ, hSr, hOw, b2⟩ | ⟨hX, rfl, b2⟩)
  · obtain ⟨hC, hfi⟩ := exec_zero hX
    have hFit : FitA ⟨W, H, S, O, ps⟩ os pl A := fit_of hC hfi
    have hS1 : w1.heap.size ≤ wS.heap.size := bS.size
    have hb2 : Below w1.heap.size w1 w2 := bS.trans (b2.mono hS1)
    have hbS := below_step hb0 bS
    have hbw := below_step hb0 hb2
    have HRP : Hid (runP ⟨W, H, S, O, ps⟩ os pl A = runR ⟨W, H, S, O, ps⟩ os pl A) := by show _ = _; unfold runP; rw [if_pos hX]
    dsimp only at hZ hSr ⊢
    have hpl : plen = ps.length := by rw [← hL.leng]; exact hFit.ord.len
    subst hpl
    have bA := (Below.refl w2.heap.size w2).alloc (Nat.le_refl _) (.cells #[.slice a ps.length cap, .slice pa ps.length pcap, .slice za ps.length zc, .slice sa ps.length sc, .slice (some ⟨g, 0, none⟩) A.length gc] 96)
    have hK := WkBox.new w2 (.slice a ps.length cap) (.slice pa ps.length pcap) (.slice za ps.length zc) (.slice sa ps.length sc) (.slice (some ⟨g, 0, none⟩) A.length gc) 96
    have hF3 := (hF0.below hb2).below bA
    have hP3 := (hP0.below hb2).below bA
    have hI3 := (hI0.below hb2 hI0.lt hb2.size).below bA (Nat.lt_of_lt_of_le hI0.lt hb2.size) bA.size
    have hg0 : wS.heap.size ≤ g ∧ g < w2.heap.size := World.ownsRow.lt (w := w2) hOw g rfl
    have hb3 : Below wS.heap.size wS (w2.alloc (.cells #[.slice a ps.length cap, .slice pa ps.length pcap, .slice za ps.length zc, .slice sa ps.length sc, .slice (some ⟨g, 0, none⟩) A.length gc] 96)) := b2.trans (bA.mono b2.size)
    have hO3 : Owns wS.heap.size _ (.slice (some ⟨g, 0, none⟩) A.length gc) A := ownsRow_below hOw bA (Nat.le_refl _)
    have hpS := hp.below hbS
    have hLS := hL.below (Nat.le_refl _) hbS
    have hOS := hO.below (Nat.le_refl _) hbS
    have hbig := hOS.big
    have hIl : w.heap.size + 1 + 1 < w1.heap.size := hI0.lt
    have e0 := hP3.c0
    have hs3 : wS.heap.size ≤ (w2.alloc (.cells #[.slice a ps.length cap, .slice pa ps.length pcap, .slice za ps.length zc, .slice sa ps.length sc, .slice (some ⟨g, 0, none⟩) A.length gc] 96)).heap.size := hb3.size
    have HE : Hid (frameE ⟨W, H, S, O, ps⟩ = 0) := hFit.E
    clear hO hL hp hA hOw hF0 hP0 hI0 hX hC hfi
    go_wp2_with fail
    generalize w2.alloc (.cells #[.slice a ps.length cap, .slice pa ps.length pcap, .slice za ps.length zc, .slice sa ps.length sc, .slice (some ⟨g, 0, none⟩) A.length gc] 96) = w3 at *
    have hne1 : some w2.heap.size ≠ some g := fun e => by injection e with e; omega
    have hne2 : some w.heap.size ≠ some g := fun e => by injection e with e; omega
    have hne3 : some (w.heap.size + 1 + 1) ≠ some g := fun e => by injection e with e; omega
    go_loopw [7, 28] (fun s7 i wr => ∃ j : Nat, j ≤ os.length ∧ s7 = .int .i64 0 ∧ i = .int .i64 j ∧ Owns wS.heap.size wr (.slice (some ⟨g, 0, none⟩) A.length gc) (runA ⟨W, H, S, O, ps⟩ os pl A j) ∧ w3.grownBy wr (some g)) (fun _ i _ => os.length - (intOf i).toNat)
    case atStart => exact ⟨0, Nat.zero_le _, rfl, rfl, hO3, World.grownBy.refl _ _⟩
    case round =>
      obtain ⟨j, hj, rfl, rfl, hOr, hgr⟩ := hrel
      clear e0 hO3
      obtain ⟨hl, hFj⟩ := hFit.run hj
      have hbr : Below wS.heap.size wS wr := grown_from hb3 hs3 hgr hg0.1
      have hbwr : Below w.heap.size w wr := hbS.trans (hbr.mono hbS.size)
      have hKr := hK.grown hgr hne1
      have hFr := hF3.grown hgr hne2
      by_cases hjl : j < os.length
      · obtain ⟨q, eq, hq, hqm⟩ := os_at hFit hjl
        obtain ⟨ob, oo, rfl, hoc⟩ := (hOS.below (Nat.le_refl _) hbr).nth hjl
        rw [eq] at hoc
        have hjI : (j : Int) < (os.length : Int) := by omega
        have hj0 : (0 : Int) ≤ (j : Int) := by omega
        have HNX : Hid (runA ⟨W, H, S, O, ps⟩ os pl A (j + 1) = stepA ⟨W, H, S, O, ps⟩ pl (runA ⟨W, H, S, O, ps⟩ os pl A j) q) := by
          show stepA _ _ _ (os.getD j 0).toNat = _
          rw [eq, Int.toNat_natCast]
        rw [← hl] at hOr
        have hdo := do_any (f := ⟨W, H, S, O, ps⟩) a cap pa pcap za zc sa sc g gc (hpS.below hbr) (hLS.below (Nat.le_refl _) hbr) (hZ.below hbr) (hSr.below hbr) hOr hFj hq hqm
        dsimp only at hdo
        rw [hl] at hdo
        obtain ⟨_, k0, k1, k2, k3, k4⟩ := id hKr
        clear hOr hFr hKr hFj hl hpS hLS hOS hZ hSr hFit
        generalize runA ⟨W, H, S, O, ps⟩ os pl A j = B at *
        go_wp2_with fail
        refine hdo.mono ?_
        clear hdo
        rintro e w5 ⟨rfl, hO5, g5⟩
        have HO5 : Hid (Owns wS.heap.size w5 (.slice (some ⟨g, 0, none⟩) A.length gc) (runA ⟨W, H, S, O, ps⟩ os pl A (j + 1))) := by show Owns _ _ _ _; rw [HNX.out]; exact hO5
        have g5' := hgr.trans g5
        clear hO5 g5 k0 k1 k2 k3 k4
        go_wp2
        go_roundw
        case rel => exact ⟨j + 1, by omega, rfl, by go_num, HO5.out, g5'⟩
        case measure => simp [intOf]; omega
      · have hje : j = os.length := by omega
        subst hje
        have hkI : ¬ (os.length : Int) < (os.length : Int) := by omega
        have hla := last_any W H S O a ps.length cap ps wr (hpS.below hbr)
        obtain ⟨q, eq, hq, hqm⟩ := hFit.last
        obtain ⟨_, g0, g1, g2, g3, g4⟩ := id hFr
        have HRR : Hid (runR ⟨W, H, S, O, ps⟩ os pl A = liesR ⟨W, H, S, O, ps⟩ pl (runA ⟨W, H, S, O, ps⟩ os pl A os.length) q) := by show _ = _; unfold runR; rw [eq]
        have hOr' := hOr
        rw [← hl] at hOr'
        obtain ⟨ga, gc', ev, hIr⟩ := hOr'.ints (by have := hFj.len; omega)
        injection ev with ev1 _ ev2
        subst ev1 ev2
        have hac : (runA ⟨W, H, S, O, ps⟩ os pl A os.length).length ≤ gc := by
          have hne : runA ⟨W, H, S, O, ps⟩ os pl A os.length ≠ [] := fun e => by
            obtain ⟨h1, _, h3, h4⟩ := hFj.place hq hqm
            have := congrArg List.length e
            rw [List.length_nil] at this
            omega
          obtain ⟨g', c', ev, _, _, hc⟩ := hOr'.block hne
          injection ev with _ _ ev
          rw [ev]; exact hc
        go_wp2_with fail
        refine hla.mono ?_
        clear hla g0 g1 g2 g3 g4
        rintro e w5 ⟨rfl, b5⟩
        rw [if_pos HE.out, HE.out, eq]
        have hb5 := below_step hbwr b5
        have hbS5 : Below wS.heap.size wS w5 := hbr.trans (b5.mono hbr.size)
        have him := image_lies hFj (.slice a ps.length cap) (.slice sa ps.length sc) pa ps.length pcap za zc (some ⟨g, 0, none⟩) gc (hLS.below (Nat.le_refl _) hbS5) (hZ.below hbS5) (hIr.below (Nat.le_refl _) b5) hac hq hqm
        rw [hl] at him
        obtain ⟨_, k0, k1, k2, k3, k4⟩ := hKr.below b5 hKr.lt b5.size
        have hI5 := (hI3.grown hgr hne3).below b5 (Nat.lt_of_lt_of_le hI3.lt hgr.size) b5.size
        dsimp only at him
        have HRE : Hid ((liesR ⟨W, H, S, O, ps⟩ pl (runA ⟨W, H, S, O, ps⟩ os pl A os.length) q).E = 0) := rfl
        clear hOr hOr' hIr hFr hKr hFj hpS hLS hOS hZ hSr hFit hac hl
        generalize liesR ⟨W, H, S, O, ps⟩ pl (runA ⟨W, H, S, O, ps⟩ os pl A os.length) q = r at *
        go_wp2_with fail
        refine him.mono ?_
        clear him
        rintro e w6 ⟨ia, ic, rfl, hii, b6⟩
        obtain ⟨_, c0, c1, c2, f0, f1, f2⟩ := hI5.below b6 hI5.lt b6.size
        have HT : Hid (Told w r (.returned (.tuple #[.agg #[.int .i64 r.W, .int .i64 r.H, .slice ia r.ps.length ic], .int .i64 r.E])) (((w6.setCell ⟨w.heap.size + 1 + 1, 0, none⟩ (.int .i64 r.W)).setCell ⟨w.heap.size + 1 + 1, 1, none⟩ (.int .i64 r.H)).setCell ⟨w.heap.size + 1 + 1, 2, none⟩ (.slice ia r.ps.length ic))) := paint_told hb5 hI5.lt hw2 hii b6
        clear hii b6 k0 k1 k2 k3 k4 hI5
        go_wp2
        refine bodyPost_ret (v := .tuple #[.agg #[.int .i64 r.W, .int .i64 r.H, .slice ia r.ps.length ic], .int .i64 r.E]) (by simp [results, Tryz.results20, go_sem, c0, c1, c2, HRE.out]) rfl ?_
        rw [HRP.out, HRR.out]
        exact HT.out
  · have HRP : Hid (runP ⟨W, H, S, O, ps⟩ os pl A = noRes (execE ⟨W, H, S, O, ps⟩ os pl A)) := by show _ = _; unfold runP; rw [if_neg hX]
    have bA := (Below.refl w2.heap.size w2).alloc (Nat.le_refl _) (.cells #[.slice none 0 0, .slice none 0 0, .slice none 0 0, .slice none 0 0, .slice none 0 0] 96)
    have hI3 := (hI0.below b2 hI0.lt b2.size).below bA (Nat.lt_of_lt_of_le hI0.lt b2.size) bA.size
    have hb3 := below_step (below_step hb0 b2) bA
    generalize execE ⟨W, H, S, O, ps⟩ os pl A = E at *
    have HT : Hid (∀ w', Below w.heap.size w w' → Told w (runP ⟨W, H, S, O, ps⟩ os pl A) (.returned (.tuple #[.agg #[.int .i64 0, .int .i64 0, .slice none 0 0], .int .i64 E])) w') := fun w' hb => by
      show Told _ _ _ _
      rw [HRP.out]
      exact told_no ⟨rfl, hb⟩
    obtain ⟨_, c0, c1, c2, f0, f1, f2⟩ := id hI3
    clear HRP hF0 hP0 hI0 bA b2
    go_wp2
    exact bodyPost_ret (v := .tuple #[.agg #[.int .i64 0, .int .i64 0, .slice none 0 0], .int .i64 E]) (by simp [results, Tryz.results20, go_sem, c0, c1, c2]) rfl (HT.out _ (((hb3.setCell (p := ⟨w.heap.size + 1 + 1, 0, none⟩) hw2 _).setCell (p := ⟨w.heap.size + 1 + 1, 1, none⟩) hw2 _).setCell (p := ⟨w.heap.size + 1 + 1, 2, none⟩) hw2 _))
end Go.Proofs.YtaenpgdmiaekcaaGreatDoor
/-
  EXECBEGUN: the law's execBegun answers true.
-/
namespace Go.Proofs.YtaenpgdmiaekcaaGreatDoor
set_option maxRecDepth 100000
open Go.RowKit Im

/-- An image in its box. -/
structure JBox (w : World) (b : Nat) (W H : Int) (v : Value) : Prop where
  lt : b < w.heap.size
  c0 : w.cell? ⟨b, 0, none⟩ = some (.int .i64 W)
  c1 : w.cell? ⟨b, 1, none⟩ = some (.int .i64 H)
  c2 : w.cell? ⟨b, 2, none⟩ = some v
theorem JBox.new (w : World) (W H : Int) (v : Value) : JBox (w.alloc (.cells #[.int .i64 W, .int .i64 H, v] 24)) w.heap.size W H v :=
  ⟨by simp, by simp [go_sem], by simp [go_sem], by simp [go_sem]⟩
theorem JBox.below {w w' : World} {b : Nat} {W H : Int} {v : Value} (h : JBox w b W H v) (hb : Below w.heap.size w w') : JBox w' b W H v :=
  ⟨Nat.lt_of_lt_of_le h.lt hb.size, (hb.cell (p := ⟨b, 0, none⟩) h.lt).trans h.c0, (hb.cell (p := ⟨b, 1, none⟩) h.lt).trans h.c1, (hb.cell (p := ⟨b, 2, none⟩) h.lt).trans h.c2⟩
theorem JBox.set {w : World} {b : Nat} {W H : Int} {v : Value} (h : JBox w b W H v) {p : Addr} (hp : p.block ≠ b) (u : Value) : JBox (w.setCell p u) b W H v := by
  have hn : ∀ o, p ≠ (⟨b, o, none⟩ : Addr) := fun o e => hp (by rw [e])
  exact ⟨by simpa using h.lt, (set_other _ (hn 0)).trans h.c0, (set_other _ (hn 1)).trans h.c1, (set_other _ (hn 2)).trans h.c2⟩
theorem IBox.put {w : World} {b : Nat} (h : IBox w b) (W H : Int) (v : Value) : JBox (((w.setCell ⟨b, 0, none⟩ (.int .i64 W)).setCell ⟨b, 1, none⟩ (.int .i64 H)).setCell ⟨b, 2, none⟩ v) b W H v :=
  ⟨by simpa using h.lt, (set_other _ (by simp)).trans ((set_other _ (by simp)).trans (set_same h.c0)), (set_other _ (by simp)).trans (set_same ((set_other _ (by simp)).trans h.c1)), set_same ((set_other _ (by simp)).trans ((set_other _ (by simp)).trans h.c2))⟩
theorem ar_render : renderP glowF = ⟨0, 4, 2, [9, 109, 209, 309, 10, 110, 210, 310]⟩ := by
  unfold renderP
  rw [if_pos glow_ok, glow_shown]
  exact glow_pic
end Go.Proofs.YtaenpgdmiaekcaaGreatDoor
