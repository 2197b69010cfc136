/- BusyAt, CompM, Compile, LawExec3, DeskN, DeskDraw, FitBegun: joined, in this order. -/
import Derived.Test.YtaenpgdmiaekcaaGreatDoorS26
import Derived.Test.YtaenpgdmiaekcaaGreatDoorS16
import Derived.Test.YtaenpgdmiaekcaaGreatDoorS07
import Derived.Test.YtaenpgdmiaekcaaGreatDoorS25
import Derived.Test.YtaenpgdmiaekcaaGreatDoorS01
import Derived.Test.YtaenpgdmiaekcaaGreatDoorS03
import Derived.Test.YtaenpgdmiaekcaaGreatDoorS19
/-
  BUSYAT: fit.busyAt: what is busy at a step.
-/
namespace Go.Proofs.YtaenpgdmiaekcaaGreatDoor
set_option maxRecDepth 100000
open Go.RowKit Im Go.Maps

/-- What is busy at step t, as far as the first steps tell, the places being pf. -/
def busyF (sp : Nat → Int × Int) (ar pf : Nat → Int) (os : List Int) (t : Nat) : Nat → List Sz
  | 0 => []
  | m + 1 => if (t : Int) ≤ (sp (os.getD m 0).toNat).2 then busyF sp ar pf os t m ++ [(pf (os.getD m 0).toNat, pf (os.getD m 0).toNat + ar (os.getD m 0).toNat - 1)] else busyF sp ar pf os t m
theorem busyF_len (sp : Nat → Int × Int) (ar pf : Nat → Int) (os : List Int) (t : Nat) : ∀ m, (busyF sp ar pf os t m).length ≤ m
  | 0 => Nat.le_refl _
  | m + 1 => by
    have := busyF_len sp ar pf os t m
    unfold busyF
    split
    · rw [List.length_append]; simp; omega
    · omega
theorem busyF_eq {G : Gp} {os qs : List Int} {pf : Nat → Int} {t : Nat} : ∀ {m : Nat}, (∀ j, j < m → pf (os.getD j 0).toNat = qs.getD j 0) → busyF (spanP G os) G.ar pf os t m = busyQ G os qs t m
  | 0, _ => rfl
  | m + 1, h => by
    unfold busyF busyQ
    rw [busyF_eq (m := m) (fun j hj => h j (by omega)), h m (by omega)]
set_option maxHeartbeats 4000000 in
theorem busyAt_any {N : Nat} {os : List Int} {sp : Nat → Int × Int} {pf : Nat → Int} {zs : List Sz} (hos : ∀ o ∈ os, 0 ≤ o ∧ o < N) (hol : os.length ≤ 12) (hzs : ∀ k, k < N → (0 ≤ (zs.getD k Sz.zero).1 ∧ (zs.getD k Sz.zero).1 ≤ 16) ∧ (0 ≤ (zs.getD k Sz.zero).2 ∧ (zs.getD k Sz.zero).2 ≤ 16)) (hpf : ∀ k, k < N → -1 ≤ pf k ∧ pf k ≤ 4097)
    {oa : Option Addr} {olen ocap : Nat} (hcap : olen ≤ ocap) {sb pb : Nat} {za : Option Addr} (zc : Nat) {w : World} {t : Nat} (ht : t < os.length) (hO : Ints 0 w oa olen os) (hS : Sp w sb N sp) (hP : Nm w pb N pf) (hZ : Zs w za N zs) :
    Calls Tryz.prog 41 #[.int .i64 t, .agg #[.slice oa olen ocap, .slice (some ⟨pb, 0, none⟩) N N], .slice (some ⟨sb, 0, none⟩) N N, .slice za N zc] w fun e w' =>
      (∃ v, e = .returned v ∧ OwnsS w.heap.size w' v (busyF sp (fun k => areaZ (zs.getD k Sz.zero)) pf os t t)) ∧ Below w.heap.size w w' := by
  obtain rfl := hO.leng
  obtain ⟨i0, hi, hz0, hz1, hz2⟩ := info_parts Tryz.infoSpan
  have hX0 := PlBox.new w (.slice oa os.length ocap) (.slice (some ⟨pb, 0, none⟩) N N) 48
  have hb0 := below_box (Below.refl w.heap.size w) (.cells #[.slice oa os.length ocap, .slice (some ⟨pb, 0, none⟩) N N] 48)
  obtain ⟨ob, oo, rfl, _⟩ := hO.nth ht
  have htc : (t : Int) ≤ (ocap : Int) := by omega
  have ht0 : (0 : Int) ≤ (t : Int) := by omega
  have HBS : Hid (∀ m, busyF sp (fun k => areaZ (zs.getD k Sz.zero)) pf os t (m + 1) = if (t : Int) ≤ (sp (os.getD m 0).toNat).2 then busyF sp (fun k => areaZ (zs.getD k Sz.zero)) pf os t m ++ [(pf (os.getD m 0).toNat, pf (os.getD m 0).toNat + (zs.getD (os.getD m 0).toNat Sz.zero).1 * (zs.getD (os.getD m 0).toNat Sz.zero).2 - 1)] else busyF sp (fun k => areaZ (zs.getD k Sz.zero)) pf os t m) := fun _ => rfl
  have HBL : Hid (∀ m, (busyF sp (fun k => areaZ (zs.getD k Sz.zero)) pf os t m).length ≤ m) := fun m => busyF_len _ _ _ _ _ m
  have HOS : Hid (_) := hos
  have HZS : Hid (_) := hzs
  have HPF : Hid (_) := hpf
  have HB0 : Hid (OwnsS (w.heap.size + 1) (w.alloc (.cells #[.slice (some ⟨ob, oo, none⟩) os.length ocap, .slice (some ⟨pb, 0, none⟩) N N] 48)) (.slice none 0 0) (busyF sp (fun k => areaZ (zs.getD k Sz.zero)) pf os t 0)) := World.ownsRow_nil _ _ _ _
  generalize busyF sp (fun k => areaZ (zs.getD k Sz.zero)) pf os t = bf at *
  clear hos hzs hpf
  go_enter Tryz.func41, Tryz.ntmps41
  go_wp2
  go_loopw [9, 18] (fun v i wr => ∃ k : Nat, k ≤ t ∧ i = .int .i64 k ∧ OwnsS (w.heap.size + 1) wr v (bf k) ∧ PlBox wr w.heap.size (.slice (some ⟨ob, oo, none⟩) os.length ocap) (.slice (some ⟨pb, 0, none⟩) N N) ∧ Below w.heap.size w wr ∧ w.heap.size + 1 ≤ wr.heap.size) (fun _ i _ => t - (intOf i).toNat)
  case atStart => exact ⟨0, Nat.zero_le _, rfl, HB0.out, hX0, hb0, by simp⟩
  case round =>
    obtain ⟨k, hk, rfl, hown, hX, hbr, hsz⟩ := hrel
    clear hX0 hb0 HB0
    have hbl := HBL.out k
    obtain ⟨va, vc, rfl⟩ := owns_slice hown
    by_cases hlt : k < t
    · obtain ⟨ob', oo', hoe, hox⟩ := (hO.below (Nat.le_refl _) hbr).nth (show k < os.length by omega)
      injection hoe with hoe
      injection hoe with h1 h2
      subst h1 h2
      have hor := HOS.out _ (getD_mem (show k < os.length by omega) 0)
      have HB1 : Hid (_) := HBS.out k
      generalize os.getD k 0 = p at hox hor HB1
      obtain ⟨q, rfl⟩ := Int.eq_ofNat_of_zero_le hor.1
      rw [Int.toNat_natCast] at HB1
      have hql : q < N := by omega
      have hqI : (q : Int) < (N : Int) := by omega
      have hq0 : (0 : Int) ≤ (q : Int) := by omega
      have hkI : (k : Int) < (t : Int) := by omega
      have hk0 : (0 : Int) ≤ (k : Int) := by omega
      have hSr := hS.below hbr hS.lt hbr.size
      have hPr := hP.below hbr hP.lt hbr.size
      obtain ⟨zb, zo, rfl, _, z0, z1⟩ := (hZ.below hbr).nth hql
      have s1 := hSr.c1 q hql
      have p0 := hPr.cells q hql
      have hzb := HZS.out q hql
      have hpb := HPF.out q hql
      obtain ⟨_, x0, x1⟩ := id hX
      generalize (zs.getD q Sz.zero).1 = zx at z0 hzb HB1
      generalize (zs.getD q Sz.zero).2 = zy at z1 hzb HB1
      generalize (sp q).2 = s at s1 HB1
      generalize pf q = pq at p0 hpb HB1
      by_cases hs : (t : Int) ≤ s
      · have HB2 : Hid (_) := HB1.out.trans (if_pos hs)
        have hnu := fun wx => fitNum_any zx zy hzb.1 hzb.2 wx
        have hxy : 0 ≤ zx * zy ∧ zx * zy ≤ 256 := ⟨Int.mul_nonneg hzb.1.1 hzb.2.1, Int.mul_le_mul hzb.1.2 hzb.2.2 hzb.2.1 (by omega)⟩
        generalize zx * zy = ar at hnu hxy HB2
        generalize bf k = L at hown HB2 hbl ⊢
        have hw1 : IntKind.i64.wrap (pq + ar) = pq + ar := by rw [IntKind.wrap_i64]; omega
        have hw2 : IntKind.i64.wrap (pq + ar - 1) = pq + ar - 1 := by rw [IntKind.wrap_i64]; omega
        have bN : Below wr.heap.size wr (wr.alloc (.cells #[.int .i64 zx, .int .i64 zy] 75)) := (Below.refl _ _).alloc (Nat.le_refl _) _
        have hownN : OwnsS (w.heap.size + 1) (wr.alloc (.cells #[.int .i64 zx, .int .i64 zy] 75)) (.slice va L.length vc) L := World.ownsRow.alloc hown _
        have hszN : w.heap.size + 1 ≤ (wr.alloc (.cells #[.int .i64 zx, .int .i64 zy] 75)).heap.size := by simp; omega
        go_wp2_with (first
          | (go_at_call 42; refine (hnu _).mono ?_; rintro e wN ⟨rfl, hwN⟩; have hownN' : OwnsS (w.heap.size + 1) wN (.slice va L.length vc) L := hwN ▸ hownN; have hszN' : w.heap.size + 1 ≤ wN.heap.size := hwN ▸ hszN; have bN' : Below wr.heap.size wr wN := hwN ▸ bN; clear hwN hownN hszN bN)
          | (at_builtin; refine wpList_append_own _ rfl _ _ 84 rfl (w.heap.size + 1) 111 i0 _ 2 16 Tryz.underlying84 hi hz0 hz1 hz2 rfl (by decide) _ _ _ rfl (World.ownsRow.alloc hownN' _) ⟨wN.heap.size, 0, none⟩ 1 1 [.int .i64 pq, .int .i64 (pq + ar - 1)] rfl rfl (cell_two_new _ _ _ _) (by intro u hu; simp at hu; rcases hu with rfl | rfl <;> rfl) (by unfold maxLen; omega) (by omega) (by simp; omega) ?_; intro v' w9 hown9 hgrow9 _))
        have RR := OwnsS.push (z := (pq, pq + ar - 1)) hownN' (Below.refl (w.heap.size + 1) _) hszN' hown9 rfl hgrow9
        have bT : Below (w.heap.size + 1) wr w9 := (bN'.mono hsz).trans RR.2
        go_roundw
        case rel => exact ⟨k + 1, by omega, by go_num, by rw [HB2.out]; exact RR.1, ⟨Nat.lt_of_lt_of_le hX.lt bT.size, (bT.cell (p := ⟨w.heap.size, 0, none⟩) (Nat.lt_succ_self _)).trans x0, (bT.cell (p := ⟨w.heap.size, 1, none⟩) (Nat.lt_succ_self _)).trans x1⟩, hbr.trans (bT.mono (Nat.le_succ _)), Nat.le_trans hsz bT.size⟩
        case measure => simp [intOf]; omega
      · have HB2 : Hid (_) := HB1.out.trans (if_neg hs)
        go_wp2
        go_roundw
        case rel => exact ⟨k + 1, by omega, by go_num, by rw [HB2.out]; exact hown, hX, hbr, hsz⟩
        case measure => simp [intOf]; omega
    · have hke : k = t := by omega
      subst hke
      have HM : Hid (OwnsS w.heap.size wr (.slice va (bf k).length vc) (bf k)) := row_mono hown (Nat.le_succ _)
      go_wp2
      go_ret
      exact ⟨⟨_, rfl, HM.out⟩, hbr⟩
end Go.Proofs.YtaenpgdmiaekcaaGreatDoor
/-
  COMPM: numbers of what is compiled, step by step, beside Place.
-/
namespace Go.Proofs.YtaenpgdmiaekcaaGreatDoor
set_option maxRecDepth 100000

theorem nodup_take {os : List Int} (h : os.Nodup) (n : Nat) : (os.take n).Nodup := h.sublist (List.take_sublist n os)
theorem take_len {os : List Int} {n : Nat} (hn : n ≤ os.length) : (os.take n).length = n := by rw [List.length_take]; omega
theorem take_getD {os : List Int} {j n : Nat} (hj : j < n) : (os.take n).getD j 0 = os.getD j 0 := by
  rw [List.getD_eq_getElem?_getD, List.getD_eq_getElem?_getD, List.getElem?_take, if_pos hj]
theorem step_take {os : List Int} (h : os.Nodup) {n j : Nat} (hn : n ≤ os.length) (hj : j < n) : stepAt (os.take n) (os.getD j 0) = j := by
  have := stepAt_self (nodup_take h n) (show j < (os.take n).length by rw [take_len hn]; exact hj)
  rwa [take_getD hj] at this
theorem plcN_at {G : Gp} {os : List Int} (h : os.Nodup) (hin : ∀ o ∈ os, 0 ≤ o ∧ o < G.N) {z : Nat → Int} {n j : Nat} (hn : n ≤ os.length) (hj : j < n) : plcN G os z n (os.getD j 0).toNat = (qsP G os n).getD j 0 := by
  have ho := hin _ (getD_in (show j < os.length by omega))
  unfold plcN
  rw [Int.toNat_of_nonneg ho.1, step_take h hn hj, if_pos (by omega), Int.toNat_natCast]
theorem plcN_step {G : Gp} {os : List Int} (h : os.Nodup) (hin : ∀ o ∈ os, 0 ≤ o ∧ o < G.N) {z : Nat → Int} {n : Nat} (hn : n < os.length) (k : Nat) : plcN G os z (n + 1) k = if (os.getD n 0).toNat = k then placeR (busyQ G os (qsP G os n) n n) (G.ar (os.getD n 0).toNat) else plcN G os z n k := by
  have ho := hin _ (getD_in hn)
  by_cases e : (os.getD n 0).toNat = k
  · rw [if_pos e, ← e, plcN_at h hin (show n + 1 ≤ os.length by omega) (Nat.lt_succ_self n), qsP_get G os (Nat.lt_succ_self n)]
  · rw [if_neg e]
    have hne : ¬ os.getD n 0 = (k : Int) := fun h' => e (by rw [h', Int.toNat_natCast])
    have es : stepAt (os.take (n + 1)) (k : Int) = stepAt (os.take n) (k : Int) := by
      have hnn := nodup_take h (n + 1)
      have et : os.take (n + 1) = os.take n ++ [os.getD n 0] := by rw [List.take_succ_eq_append_getElem hn, List.getD_eq_getElem?_getD, List.getElem?_eq_getElem hn]; rfl
      rw [et] at hnn ⊢
      have hni : os.getD n 0 ∉ os.take n := fun hm => by
        rw [List.nodup_append] at hnn
        exact hnn.2.2 _ hm _ (by simp) rfl
      rw [stepAt_snoc (k : Int) hni, if_neg hne]
    unfold plcN
    rw [es]
    by_cases h0 : 0 ≤ stepAt (os.take n) (k : Int)
    · rw [if_pos h0, if_pos h0]
      have hb := stepAt_bd (os.take n) (k : Int)
      rw [take_len (by omega)] at hb
      rw [qsP_get G os (show (stepAt (os.take n) (k : Int)).toNat < n + 1 by omega), qsP_get G os (show (stepAt (os.take n) (k : Int)).toNat < n by omega)]
    · rw [if_neg h0, if_neg h0]
theorem cOrd_nodup (G : Gp) : (cOrd G G.N).Nodup := (cOrd_sorted G G.N).imp (fun h => by omega)
theorem comp_busy {G : Gp} {z : Nat → Int} {n : Nat} (hn : n ≤ (cOrd G G.N).length) : busyF (spanP G (cOrd G G.N)) G.ar (plcN G (cOrd G G.N) z n) (cOrd G G.N) n n = busyQ G (cOrd G G.N) (qsP G (cOrd G G.N) n) n n :=
  busyF_eq (fun _ hj => plcN_at (cOrd_nodup G) (cOrd_in G) hn hj)
theorem comp_top {G : Gp} (hG : G.Right) : arTo G (cOrd G G.N) (cOrd G G.N).length ≤ 3072 := by
  have h2 := arTo_bd hG (cOrd_in G) (n := (cOrd G G.N).length) (Nat.le_refl _)
  have h3 := cOrd_len G G.N
  have h4 := hG.hN
  omega
theorem plc_bd {G : Gp} (hG : G.Right) {z : Nat → Int} (hz : ∀ k, -1 ≤ z k ∧ z k ≤ 0) {n : Nat} (hn : n ≤ (cOrd G G.N).length) (k : Nat) : -1 ≤ plcN G (cOrd G G.N) z n k ∧ plcN G (cOrd G G.N) z n k ≤ 3072 := by
  unfold plcN
  by_cases h0 : 0 ≤ stepAt ((cOrd G G.N).take n) (k : Int)
  · rw [if_pos h0]
    have hb := stepAt_bd ((cOrd G G.N).take n) (k : Int)
    rw [take_len hn] at hb
    have h1 := qs_bd hG (cOrd_in G) hn (show (stepAt ((cOrd G G.N).take n) (k : Int)).toNat < n by omega)
    have ho := (cOrd_in G) _ (getD_in (show (stepAt ((cOrd G G.N).take n) (k : Int)).toNat < (cOrd G G.N).length by omega))
    have h5 := hG.ar ((cOrd G G.N).getD (stepAt ((cOrd G G.N).take n) (k : Int)).toNat 0).toNat (by omega)
    have := comp_top hG
    omega
  · rw [if_neg h0]
    have := hz k
    omega
theorem comp_place {G : Gp} (hG : G.Right) {n : Nat} (hn : n < (cOrd G G.N).length) : placeE (busyQ G (cOrd G G.N) (qsP G (cOrd G G.N) n) n n) (G.ar ((cOrd G G.N).getD n 0).toNat) = 0 := by
  have hN := hG.hN
  have hl := cOrd_len G G.N
  have hbl := busyQ_len G (cOrd G G.N) (qsP G (cOrd G G.N) n) n n
  have ho := (cOrd_in G) _ (getD_in hn)
  have ha := hG.ar ((cOrd G G.N).getD n 0).toNat (by omega)
  have htop := comp_top hG
  refine placeE_ok (by omega) (by omega) ((allTo_iff _ _).2 fun i hi => ?_)
  obtain ⟨j, hj, _, e⟩ := busyQ_mem.1 (getD_mem hi Sz.zero)
  have hq := qs_bd hG (cOrd_in G) (show n ≤ (cOrd G G.N).length by omega) hj
  have ho' := (cOrd_in G) _ (getD_in (show j < (cOrd G G.N).length by omega))
  have ha' := hG.ar ((cOrd G G.N).getD j 0).toNat (by omega)
  unfold okSpan
  rw [e]
  simp only [Bool.and_eq_true, decide_eq_true_eq]
  omega
theorem comp_placeP {G : Gp} (hG : G.Right) {n : Nat} (hn : n < (cOrd G G.N).length) : placeP (busyQ G (cOrd G G.N) (qsP G (cOrd G G.N) n) n n) (G.ar ((cOrd G G.N).getD n 0).toNat) = placeR (busyQ G (cOrd G G.N) (qsP G (cOrd G G.N) n) n n) (G.ar ((cOrd G G.N).getD n 0).toNat) := by
  unfold placeP; rw [if_pos (comp_place hG hn)]
theorem plc_zero {G : Gp} {os : List Int} {z : Nat → Int} (k : Nat) : plcN G os z 0 k = z k := by unfold plcN; rw [if_neg (by simp [stepAt])]
theorem plc_done {G : Gp} {z : Nat → Int} (hz : ∀ k, k < G.N → ¬ G.kept k = true → z k = -1) {k : Nat} (hk : k < G.N) : plcN G (cOrd G G.N) z (cOrd G G.N).length k = (cPl G).getD k 0 := by
  unfold cPl
  rw [getD_map_range _ hk, plcN_end, plcN_end]
  by_cases h0 : 0 ≤ stepAt (cOrd G G.N) (k : Int)
  · rw [if_pos h0, if_pos h0]
  · rw [if_neg h0, if_neg h0]
    exact hz k hk (fun hK => h0 (stepAt_mem.2 ((cOrd_mem G k G.N).2 ⟨by omega, by omega, by rw [Int.toNat_natCast]; exact hK⟩)))
theorem comp_ord {G : Gp} (hG : G.Right) (hC : Closed G) {z : Nat → Int} (hz0 : ∀ k, k < G.N → ¬ G.kept k = true → z k = -1) (hz1 : ∀ k, k < G.N → G.kept k = true → z k = 0) : Ord G (cOrd G G.N) ((List.range G.N).map z) := by
  refine cOrd_ord hG hC (by simp) (fun k hk hK => ?_) (fun k hk hK => ?_)
  · rw [getD_map_range _ hk, hz1 k hk hK]; omega
  · rw [getD_map_range _ hk, hz0 k hk hK]
end Go.Proofs.YtaenpgdmiaekcaaGreatDoor
/-
  COMPILE: fit.Compile.
-/
namespace Go.Proofs.YtaenpgdmiaekcaaGreatDoor
set_option maxRecDepth 100000
open Go.RowKit Im Go.Maps

theorem Sp.other {w : World} {b n : Nat} {g : Nat → Int × Int} (h : Sp w b n g) {p : Addr} (hp : p.block ≠ b) (u : Value) : Sp (w.setCell p u) b n g :=
  ⟨by simpa using h.lt, fun j hj => (set_other _ (fun e => hp (by rw [e]))).trans (h.c0 j hj), fun j hj => (set_other _ (fun e => hp (by rw [e]))).trans (h.c1 j hj), fun o => by simpa using h.froz o⟩
theorem owns_cap {base e size n : Nat} {w : World} {a : Option Addr} {cap : Nat} {xs : List Value} (h : w.ownsRow base e size (.slice a n cap) n xs) : n ≤ cap := by
  rcases h.2 with ⟨hv, rfl⟩ | ⟨g, c, cur, hv, _, _, hc, _⟩
  · exact Nat.zero_le _
  · injection hv with _ _ h3; omega
/-- What fit.Compile tells. -/
def ToldComp (w : World) (f : Fr) (e : Ending) (w' : World) : Prop :=
  ((frameE f = 0 ∧ ∃ v pb, e = .returned (.tuple #[.agg #[v, .slice (some ⟨pb, 0, none⟩) f.ps.length f.ps.length], .int .i64 0]) ∧ w.heap.size ≤ pb ∧ Owns (pb + 1) w' v (cOrd (gpOf f) f.ps.length) ∧ Nm w' pb f.ps.length (fun k => (cPl (gpOf f)).getD k 0)) ∨
   (frameE f ≠ 0 ∧ e = .returned (.tuple #[.agg #[.slice none 0 0, .slice none 0 0], .int .i64 (frameE f)]))) ∧ Below w.heap.size w w'
set_option maxHeartbeats 2000000 in
theorem compile_err (W H S O : Int) (a : Option Addr) (len cap : Nat) (ps : List Ps) (w : World) (hp : Passes w a len ps) (hE : frameE ⟨W, H, S, O, ps⟩ ≠ 0) :
    Calls Tryz.prog 18 #[.agg #[.int .i64 W, .int .i64 H, .int .i64 S, .int .i64 O, .slice a len cap]] w (ToldComp w ⟨W, H, S, O, ps⟩) := by
  have hb0 := below_box (below_box (Below.refl w.heap.size w) (.cells #[.int .i64 W, .int .i64 H, .int .i64 S, .int .i64 O, .slice a len cap] 35)) (.cells #[.slice none 0 0, .slice none 0 0] 48)
  have hR0 := WBox.new (w.alloc (.cells #[.int .i64 W, .int .i64 H, .int .i64 S, .int .i64 O, .slice a len cap] 35)) (.slice none 0 0) (.slice none 0 0) 48
  rw [World.size_alloc] at hR0
  have hke := kept_any W H S O a len cap ps _ (hp.below hb0)
  have HE : Hid (_) := hE
  go_enter Tryz.func18, Tryz.ntmps18
  go_wp2_with fail
  refine hke.mono ?_
  clear hke
  rintro e w1 ⟨⟨h0, _⟩ | ⟨_, rfl⟩, b1⟩
  · exact absurd h0 hE
  have hR1 := hR0.below b1 hR0.lt b1.size
  have hb1 := below_step hb0 b1
  obtain ⟨_, r0, r1, fr⟩ := id hR1
  have fr0 := fr 0
  have fr1 := fr 1
  obtain ⟨_, d0, d1, _⟩ := (hR1.put0 (.slice none 0 0)).put1 (.slice none 0 0)
  have hb2 := (hb1.setCell (p := ⟨w.heap.size + 1, 0, none⟩) (Nat.le_succ _) (.slice none 0 0)).setCell (p := ⟨w.heap.size + 1, 1, none⟩) (Nat.le_succ _) (.slice none 0 0)
  have HB : Hid (_) := hb2
  clear hb2
  go_wp2
  exact bodyPost_ret (v := .tuple #[.agg #[.slice none 0 0, .slice none 0 0], .int .i64 (frameE ⟨W, H, S, O, ps⟩)]) (by simp [results, Tryz.results18, go_sem, d0, d1]) rfl ⟨.inr ⟨HE.out, rfl⟩, HB.out⟩
/-- What is compiled, step by step: the places P, what each step is given R. -/
structure Comp (f : Fr) (z : Nat → Int) (os : List Int) (sp : Nat → Int × Int) (zs : List Sz) (P : Nat → Nat → Int) (R : Nat → Int) : Prop where
  p0 : ∀ k, P 0 k = z k
  pe : ∀ k, k < f.ps.length → P os.length k = (cPl (gpOf f)).getD k 0
  step : ∀ t, t < os.length → ∀ k, P (t + 1) k = if (os.getD t 0).toNat = k then R t else P t k
  busyE : ∀ t, t < os.length → placeE (busyF sp (fun k => areaZ (zs.getD k Sz.zero)) (P t) os t t) (areaZ (zs.getD (os.getD t 0).toNat Sz.zero)) = 0
  busyP : ∀ t, t < os.length → placeP (busyF sp (fun k => areaZ (zs.getD k Sz.zero)) (P t) os t t) (areaZ (zs.getD (os.getD t 0).toNat Sz.zero)) = R t
  pb : ∀ t, t ≤ os.length → ∀ k, -1 ≤ P t k ∧ P t k ≤ 4097
  blen : ∀ t, t < os.length → (busyF sp (fun k => areaZ (zs.getD k Sz.zero)) (P t) os t t).length ≤ 12
  inN : ∀ o ∈ os, 0 ≤ o ∧ o < f.ps.length
  ol : os.length ≤ 12
  sz : ∀ k, k < f.ps.length → (0 ≤ (zs.getD k Sz.zero).1 ∧ (zs.getD k Sz.zero).1 ≤ 16) ∧ (0 ≤ (zs.getD k Sz.zero).2 ∧ (zs.getD k Sz.zero).2 ≤ 16)
theorem comp_any {f : Fr} (hE : frameE f = 0) {z : Nat → Int} (hz : ∀ k, -1 ≤ z k ∧ z k ≤ 0) (hz0 : ∀ k, k < f.ps.length → ¬ (gpOf f).kept k = true → z k = -1) :
    ∃ P R, Comp f z (cOrd (gpOf f) f.ps.length) (spanP (gpOf f) (cOrd (gpOf f) f.ps.length)) (szs f f.ps.length) P R := by
  have hG := gp_right hE
  have hN12 : f.ps.length ≤ 12 := hG.hN.2
  have hl := cOrd_len (gpOf f) f.ps.length
  obtain ⟨hb, hf, hs⟩ := frameE_zero hE
  refine ⟨plcN (gpOf f) (cOrd (gpOf f) f.ps.length) z, fun t => placeR (busyQ (gpOf f) (cOrd (gpOf f) f.ps.length) (qsP (gpOf f) (cOrd (gpOf f) f.ps.length) t) t t) ((gpOf f).ar ((cOrd (gpOf f) f.ps.length).getD t 0).toNat), fun k => plc_zero k, fun k hk => plc_done (G := gpOf f) hz0 hk, fun t ht k => plcN_step (G := gpOf f) (cOrd_nodup _) (cOrd_in _) ht k, fun t ht => ?_, fun t ht => ?_, fun t ht k => ?_, fun t ht => ?_, cOrd_in (gpOf f), by omega, fun k hk => ?_⟩
  · have h1 := comp_busy (G := gpOf f) (z := z) (show t ≤ _ from Nat.le_of_lt ht)
    have h2 := comp_place hG ht
    rw [← h1] at h2
    exact h2
  · have h1 := comp_busy (G := gpOf f) (z := z) (show t ≤ _ from Nat.le_of_lt ht)
    have h2 := comp_placeP hG ht
    rw [← h1] at h2
    exact h2.trans (by rw [h1]; rfl)
  · have := plc_bd hG hz ht k; exact ⟨this.1, Int.le_trans this.2 (by decide)⟩
  · exact Nat.le_trans (busyF_len _ _ _ _ _ _) (by omega)
  · have := szs_bd hb hf _ (getD_mem (show k < (szs f f.ps.length).length by rw [szs_length]; exact hk) Sz.zero)
    obtain ⟨h1, h2⟩ := this
    exact ⟨⟨by omega, by omega⟩, ⟨by omega, by omega⟩⟩
set_option maxHeartbeats 4000000 in
theorem compile_ok (W H S O : Int) (a : Option Addr) (len cap : Nat) (ps : List Ps) (w : World) (hp : Passes w a len ps) (hE : frameE ⟨W, H, S, O, ps⟩ = 0) :
    Calls Tryz.prog 18 #[.agg #[.int .i64 W, .int .i64 H, .int .i64 S, .int .i64 O, .slice a len cap]] w (ToldComp w ⟨W, H, S, O, ps⟩) := by
  have hb0 := below_box (below_box (Below.refl w.heap.size w) (.cells #[.int .i64 W, .int .i64 H, .int .i64 S, .int .i64 O, .slice a len cap] 35)) (.cells #[.slice none 0 0, .slice none 0 0] 48)
  have hR0 := WBox.new (w.alloc (.cells #[.int .i64 W, .int .i64 H, .int .i64 S, .int .i64 O, .slice a len cap] 35)) (.slice none 0 0) (.slice none 0 0) 48
  have hF0 := (FBox.new w W H S O a len cap).alloc (.cells #[.slice none 0 0, .slice none 0 0] 48)
  rw [World.size_alloc] at hR0
  have hke := kept_any W H S O a len cap ps _ (hp.below hb0)
  have hG := gp_right hE
  have hC : Closed (gpOf ⟨W, H, S, O, ps⟩) := gp_closed hE
  have hN12 : ps.length ≤ 12 := hG.hN.2
  have HE : Hid (_) := hE
  go_enter Tryz.func18, Tryz.ntmps18
  go_wp2_with fail
  refine hke.mono ?_
  clear hke
  rintro e w1 ⟨⟨_, b, rfl, hbb, hBl⟩ | ⟨h0, _⟩, b1⟩
  rotate_left
  · exact absurd hE h0
  have hb1 := below_step hb0 b1
  have hF1 := hF0.below b1
  have hR1 := hR0.below b1 hR0.lt b1.size
  have hsz := sizes_any W H S O a len cap ps _ (hp.below hb1)
  obtain ⟨_, g0, g1, g2, g3, g4⟩ := id hF1
  dsimp only at hBl ⊢
  go_wp2_with fail
  refine hsz.mono ?_
  clear hsz
  rintro e w2 ⟨⟨v2, rfl, hZ⟩, b2⟩
  rw [hE, if_pos rfl] at hZ
  obtain ⟨za, zc, rfl, hZs⟩ := hZ.zs (by rw [szs_length]; omega)
  rw [szs_length] at hZs ⊢
  have hb2 := below_step hb1 b2
  have hF2 := hF1.below b2
  have hR2 := hR1.below b2 hR1.lt b2.size
  have hB2 := hBl.below b2 hBl.lt b2.size
  have hun := unplaced_any (G := gpOf ⟨W, H, S, O, ps⟩) hN12 hB2 ps.length
  have hp2 := hp.below hb2
  have hs2 : w.heap.size + 2 ≤ w2.heap.size := by have h1 := b1.size; have h2 := b2.size; rw [World.size_alloc, World.size_alloc] at h1; omega
  clear g0 g1 g2 g3 g4 hF0 hF1 hR0 hR1 hb0 hb1 b1 b2 hBl hZ hB2 hp
  obtain ⟨_, g0, g1, g2, g3, g4⟩ := id hF2
  go_wp2_with fail
  refine hun.mono ?_
  clear hun
  rintro e w3 ⟨⟨v3, pb, rfl, hpb, hpl, hO3, hN3⟩, b3⟩
  obtain ⟨P, R, hCm⟩ := comp_any hE (z := fun j => if (gpOf ⟨W, H, S, O, ps⟩).kept j = true then 0 else -1) (fun k => by split <;> omega) (fun k _ h => if_neg h)
  have hOrd : planE ⟨W, H, S, O, ps⟩ (cOrd (gpOf ⟨W, H, S, O, ps⟩) ps.length) ((List.range ps.length).map fun j => if (gpOf ⟨W, H, S, O, ps⟩).kept j = true then 0 else -1) = 0 := by
    have ho : ordB (gpOf ⟨W, H, S, O, ps⟩) (cOrd (gpOf ⟨W, H, S, O, ps⟩) ps.length) ((List.range ps.length).map fun j => if (gpOf ⟨W, H, S, O, ps⟩).kept j = true then 0 else -1) = true := ord_iff.2 (comp_ord hG hC (fun k _ h => if_neg h) (fun k _ h => if_pos h))
    unfold planE
    rw [if_pos hE, if_pos ho]
  obtain ⟨oa, oc, rfl⟩ := owns_slice hO3
  have hoc := owns_cap hO3
  have hN3' : Nm w3 pb ps.length (P 0) := hN3.congr (fun k _ => hCm.p0 k)
  have hL3 := hN3.ints (by omega)
  have HOE : Hid (∀ w', Owns (pb + 1) w' (.slice oa (cOrd (gpOf ⟨W, H, S, O, ps⟩) ps.length).length oc) (cOrd (gpOf ⟨W, H, S, O, ps⟩) ps.length) → Nm w' pb ps.length (P (cOrd (gpOf ⟨W, H, S, O, ps⟩) ps.length).length) → Below w.heap.size w w' → ToldComp w ⟨W, H, S, O, ps⟩ (.returned (.tuple #[.agg #[.slice oa (cOrd (gpOf ⟨W, H, S, O, ps⟩) ps.length).length oc, .slice (some ⟨pb, 0, none⟩) ps.length ps.length], .int .i64 0])) w') :=
    fun w' h1 h2 h3 => ⟨.inl ⟨hE, _, pb, rfl, by omega, h1, h2.congr (fun k hk => (hCm.pe k hk).symm)⟩, h3⟩
  clear hN3 hC hG hE HE
  generalize ((List.range ps.length).map fun j => if (gpOf ⟨W, H, S, O, ps⟩).kept j = true then 0 else -1) = zl at hOrd hL3
  have hspn := fun wx hp oa hO hL => spans_any W H S O a len cap ps wx hp oa (cOrd (gpOf ⟨W, H, S, O, ps⟩) ps.length).length oc (some ⟨pb, 0, none⟩) ps.length ps.length (cOrd (gpOf ⟨W, H, S, O, ps⟩) ps.length) zl hO hL
  rw [hOrd] at hspn
  generalize spanP (gpOf ⟨W, H, S, O, ps⟩) (cOrd (gpOf ⟨W, H, S, O, ps⟩) ps.length) = sp at hCm hspn
  generalize szs ⟨W, H, S, O, ps⟩ ps.length = zs at hCm hZs
  generalize cOrd (gpOf ⟨W, H, S, O, ps⟩) ps.length = os at *
  have hol := hCm.ol
  obtain ⟨oa', oc', hoe, hI3⟩ := hO3.ints (by omega)
  injection hoe with e1 _ e2
  subst e1 e2
  have bA : Below w3.heap.size w3 (w3.alloc (.cells #[.slice oa os.length oc, .slice (some ⟨pb, 0, none⟩) ps.length ps.length] 48)) := (Below.refl _ _).alloc (Nat.le_refl _) _
  have hX4 := WBox.new w3 (.slice oa os.length oc) (.slice (some ⟨pb, 0, none⟩) ps.length ps.length) 48
  have b4 := below_step b3 bA
  have hO4 := hO3.below bA (Nat.le_refl _)
  have hN4 := hN3'.below bA hN3'.lt bA.size
  have hs4 : (w3.alloc (.cells #[.slice oa os.length oc, .slice (some ⟨pb, 0, none⟩) ps.length ps.length] 48)).heap.size = w3.heap.size + 1 := by simp
  have hF4 := (hF2.below b3).below bA
  have hs4' := hspn _ (hp2.below b4) oa ((hI3.below (Nat.le_refl _) bA).mono (Nat.zero_le _)) (hL3.below (Nat.le_refl _) bA)
  have hF3 := hF2.below b3
  clear g0 g1 g2 g3 g4 hF2 hspn hp2
  obtain ⟨_, g0, g1, g2, g3, g4⟩ := id hF3
  dsimp only
  go_wp2_with fail
  refine hs4'.mono ?_
  clear hs4'
  rintro e w5 ⟨⟨_, sb, rfl, hsb, hSp⟩ | ⟨h0, _⟩, b5⟩
  rotate_left
  · exact absurd rfl h0
  rw [hs4] at hsb
  have hX5 := hX4.below b5 hX4.lt b5.size
  have hO5 := hO4.below b5 (Nat.le_refl _)
  have hN5 := hN4.below b5 hN4.lt b5.size
  have B5 := below_step b4 b5
  have hq5 : w3.heap.size + 1 ≤ w5.heap.size := by rw [← hs4]; exact b5.size
  clear g0 g1 g2 g3 g4 hF3 hF4 hX4 hO4 hN4 bA b4 hs4 b5 b3 hO3 hN3' hI3 hL3 hOrd zl
  generalize w3.heap.size = q at *
  obtain ⟨_, x0, x1, _⟩ := id hX5
  dsimp only
  go_wp2
  clear x0 x1
  have HCM : Hid (_) := hCm
  clear hCm
  go_loopw [46] (fun i wr => ∃ t : Nat, t ≤ os.length ∧ i = .int .i64 t ∧ WBox wr q (.slice oa os.length oc) (.slice (some ⟨pb, 0, none⟩) ps.length ps.length) ∧ Owns (pb + 1) wr (.slice oa os.length oc) os ∧ Nm wr pb ps.length (P t) ∧ Sp wr sb ps.length sp ∧ Below w2.heap.size w2 wr) (fun i _ => os.length - (intOf i).toNat)
  case atStart => exact ⟨0, Nat.zero_le _, rfl, hX5, hO5, hN5, hSp, B5⟩
  case round =>
    obtain ⟨t, ht, rfl, hX, hO, hN, hS, hB⟩ := hrel
    clear hX5 hO5 hN5 hSp B5
    by_cases hlt : t < os.length
    · obtain ⟨oa', oc', hoe, hI⟩ := hO.ints (by omega)
      injection hoe with e1 _ e2
      subst e1 e2
      obtain ⟨ob, oo, rfl, hox⟩ := hI.nth hlt
      have hor : 0 ≤ os.getD t 0 ∧ os.getD t 0 < (ps.length : Int) := HCM.out.inN _ (getD_mem hlt 0)
      have HST : Hid (_) := HCM.out.step t hlt
      have HBE : Hid (_) := HCM.out.busyE t hlt
      have HBP : Hid (_) := HCM.out.busyP t hlt
      have HBL : Hid (_) := HCM.out.blen t hlt
      have hZr := hZs.below hB
      have hbu := fun wx (h : Below wr.heap.size wr wx) => busyAt_any (N := ps.length) (sp := sp) (pf := P t) (zs := zs) HCM.out.inN hol HCM.out.sz (fun k _ => HCM.out.pb t ht k) hoc zc hlt ((hI.mono (Nat.zero_le _)).below (Nat.le_refl _) h) (hS.below h hS.lt h.size) (hN.below h hN.lt h.size) (hZr.below h)
      generalize os.getD t 0 = p at *
      obtain ⟨k, rfl⟩ := Int.eq_ofNat_of_zero_le hor.1
      rw [Int.toNat_natCast] at HST HBE HBP
      have hkl : k < ps.length := by omega
      have hkI : (k : Int) < (ps.length : Int) := by omega
      have hk0 : (0 : Int) ≤ (k : Int) := by omega
      have htI : (t : Int) < (os.length : Int) := by omega
      have ht0 : (0 : Int) ≤ (t : Int) := by omega
      obtain ⟨zb, zo, rfl, hzl, z0, z1⟩ := hZr.nth hkl
      have hzb := HCM.out.sz k hkl
      have hpla := fun wx (ra : Option Addr) (rc : Nat) (h : Zs wx ra (busyF sp (fun k => areaZ (zs.getD k Sz.zero)) (P t) os t t).length (busyF sp (fun k => areaZ (zs.getD k Sz.zero)) (P t) os t t)) => place_any rc h (areaZ (zs.getD k Sz.zero))
      unfold ToldPl at hpla
      rw [HBE.out, HBP.out] at hpla
      generalize busyF sp (fun k => areaZ (zs.getD k Sz.zero)) (P t) os t t = L at *
      have hnu := fun wx => fitNum_any (zs.getD k Sz.zero).1 (zs.getD k Sz.zero).2 hzb.1 hzb.2 wx
      have har : (zs.getD k Sz.zero).1 * (zs.getD k Sz.zero).2 = areaZ (zs.getD k Sz.zero) := rfl
      rw [har] at hnu
      generalize areaZ (zs.getD k Sz.zero) = ar at *
      generalize (zs.getD k Sz.zero).1 = zx at *
      generalize (zs.getD k Sz.zero).2 = zy at *
      obtain ⟨_, x0, x1, _⟩ := id hX
      have held : ∀ wx, Below wr.heap.size wr wx → wx.cell? ⟨q, 0, none⟩ = some (.slice (some ⟨ob, oo, none⟩) os.length oc) ∧ wx.cell? ⟨q, 1, none⟩ = some (.slice (some ⟨pb, 0, none⟩) ps.length ps.length) ∧ wx.cell? ⟨zb, zo + k * 2, none⟩ = some (.int .i64 zx) ∧ wx.cell? ⟨zb, zo + k * 2 + 1, none⟩ = some (.int .i64 zy) := fun wx h =>
        ⟨(h.cell (p := ⟨q, 0, none⟩) hX.lt).trans x0, (h.cell (p := ⟨q, 1, none⟩) hX.lt).trans x1, (h.cell (p := ⟨zb, zo + k * 2, none⟩) hzl).trans z0, (h.cell (p := ⟨zb, zo + k * 2 + 1, none⟩) hzl).trans z1⟩
      have hr0 := Below.refl wr.heap.size wr
      have hd := hr0.drew
      have hbL : L.length ≤ 4096 := Nat.le_trans HBL.out (by decide)
      clear HBE HBP har
      go_upto_region 14 with fail
      go_region_held3 (fun wx => wx.cell? ⟨q, 0, none⟩ = some (.slice (some ⟨ob, oo, none⟩) os.length oc) ∧ wx.cell? ⟨q, 1, none⟩ = some (.slice (some ⟨pb, 0, none⟩) ps.length ps.length) ∧ wx.cell? ⟨zb, zo + k * 2, none⟩ = some (.int .i64 zx) ∧ wx.cell? ⟨zb, zo + k * 2 + 1, none⟩ = some (.int .i64 zy))
        (first | exact held _ hr0 | exact held _ hd | exact held _ (by assumption) | exact held _ (Below.drew (by assumption)))
        (first
          | (go_at_call 41; refine (hbu _ (by first | exact hd | assumption)).mono ?_; rintro e wA ⟨⟨vA, rfl, hoA⟩, bA⟩; obtain ⟨ra, rc, rfl, hZA⟩ := OwnsS.zs hoA hbL; first | (have bAA : Below wr.heap.size wr wA := below_step hd bA) | (have bAA : Below wr.heap.size wr wA := below_step bB bA))
          | (go_at_call 42; refine (hnu _).mono ?_; rintro e wB ⟨rfl, hwB⟩; first | (have bB : Below wr.heap.size wr wB := by rw [hwB]; exact below_box hd _) | (have bBA : Below wA.heap.size wA wB := (by rw [hwB]; exact below_box (Below.refl _ _) _); have bBB : Below wr.heap.size wr wB := below_step bAA bBA; replace hZA := hZA.below bBA); clear hwB)
          | (go_at_call 40; refine (hpla _ _ _ (by first | exact hZA)).mono ?_; rintro e wP ⟨rfl, bP⟩; first | (have bPP : Below wr.heap.size wr wP := below_step bBB bP) | (have bPP : Below wr.heap.size wr wP := below_step bAA bP)))
      all_goals
        have hXP := hX.below bPP hX.lt bPP.size
        have hNP := hN.below bPP hN.lt bPP.size
        have hSP := hS.below bPP hS.lt bPP.size
        have hOP := hO.below bPP (Nat.le_refl _)
        have hBP := below_step hB bPP
        clear x0 x1 z0 z1 held hX hN hS hO hB hbu hnu hpla hoA bA bP bBA hZA
        obtain ⟨_, x0, x1, _⟩ := id hXP
        have p0 := hNP.cells k hkl
        have pf := hNP.froz k
        have hN9 : Nm (wP.setCell ⟨pb, k, none⟩ (.int .i64 (R t))) pb ps.length (P (t + 1)) := hNP.put k (R t) hkl (fun j _ => HST.out j)
        have hX9 := hXP.other (p := ⟨pb, k, none⟩) (show pb ≠ q by omega) (.int .i64 (R t))
        have hS9 := hSP.other (p := ⟨pb, k, none⟩) (show pb ≠ sb by omega) (.int .i64 (R t))
        have hO9 : Owns (pb + 1) _ _ os := ownsRow_setCell_below hOP (a := ⟨pb, k, none⟩) (Nat.lt_succ_self _) (.int .i64 (R t))
        have hB9 := hBP.setCell (p := ⟨pb, k, none⟩) hpb (.int .i64 (R t))
        have HN9 : Hid (_) := hN9
        clear hN9 hXP hSP hOP hBP hNP HST
        go_wp2
        go_roundw
        case rel => exact ⟨t + 1, by omega, by go_num, hX9, hO9, HN9.out, hS9, hB9⟩
        case measure => simp [intOf]; omega
    · have hte : t = os.length := by omega
      subst hte
      have hRr := hR2.below hB hR2.lt hB.size
      obtain ⟨_, x0, x1, _⟩ := id hX
      obtain ⟨_, r0, r1, fr⟩ := id hRr
      have fr0 := fr 0
      have fr1 := fr 1
      obtain ⟨_, d0, d1, _⟩ := (hRr.put0 (.slice oa os.length oc)).put1 (.slice (some ⟨pb, 0, none⟩) ps.length ps.length)
      have hpn : w.heap.size + 1 ≠ pb := by omega
      have T1 : Owns (pb + 1) _ _ os := ownsRow_setCell_below (ownsRow_setCell_below hO (a := ⟨w.heap.size + 1, 0, none⟩) (by show w.heap.size + 1 < pb + 1; omega) (.slice oa os.length oc)) (a := ⟨w.heap.size + 1, 1, none⟩) (by show w.heap.size + 1 < pb + 1; omega) (.slice (some ⟨pb, 0, none⟩) ps.length ps.length)
      have T2 := (hN.other (p := ⟨w.heap.size + 1, 0, none⟩) hpn (.slice oa os.length oc)).other (p := ⟨w.heap.size + 1, 1, none⟩) hpn (.slice (some ⟨pb, 0, none⟩) ps.length ps.length)
      have T3 := ((below_step hb2 hB).setCell (p := ⟨w.heap.size + 1, 0, none⟩) (Nat.le_succ _) (.slice oa os.length oc)).setCell (p := ⟨w.heap.size + 1, 1, none⟩) (Nat.le_succ _) (.slice (some ⟨pb, 0, none⟩) ps.length ps.length)
      have HT1 : Hid (_) := T1
      have HT2 : Hid (_) := T2
      have HT3 : Hid (_) := T3
      clear T1 T2 T3 hX hO hN hS hB hRr
      go_wp2
      exact bodyPost_ret (v := .tuple #[.agg #[.slice oa os.length oc, .slice (some ⟨pb, 0, none⟩) ps.length ps.length], .int .i64 0]) (by simp [results, Tryz.results18, go_sem, d0, d1]) rfl (HOE.out _ HT1.out HT2.out HT3.out)
theorem compile_any (W H S O : Int) (a : Option Addr) (len cap : Nat) (ps : List Ps) (w : World) (hp : Passes w a len ps) :
    Calls Tryz.prog 18 #[.agg #[.int .i64 W, .int .i64 H, .int .i64 S, .int .i64 O, .slice a len cap]] w (ToldComp w ⟨W, H, S, O, ps⟩) := by
  by_cases hE : frameE ⟨W, H, S, O, ps⟩ = 0
  · exact compile_ok W H S O a len cap ps w hp hE
  · exact compile_err W H S O a len cap ps w hp hE
end Go.Proofs.YtaenpgdmiaekcaaGreatDoor
/-
  LAWEXEC3: the law ExecSame.
-/
namespace Go.Proofs.YtaenpgdmiaekcaaGreatDoor
set_option maxRecDepth 100000
open Go.RowKit Im Go.Maps

theorem nm_list {w : World} {b n : Nat} {l : List Int} (h : Nm w b n (fun k => l.getD k 0)) (hl : l.length = n) (hn : n ≤ 4096) : Ints 0 w (some ⟨b, 0, none⟩) n l :=
  ⟨hl, by omega, .inr ⟨b, 0, rfl, Nat.zero_le _, h.lt, fun j hj => by rw [Nat.zero_add]; exact h.cells j hj⟩⟩
/-- The plan that is compiled. -/
abbrev cOs (f : Fr) : List Int := cOrd (gpOf f) f.ps.length
abbrev cPs (f : Fr) : List Int := cPl (gpOf f)
theorem comp_plan {f : Fr} (hE : frameE f = 0) : planE f (cOs f) (cPs f) = 0 ∧ (cPs f).length = f.ps.length := by
  have hG := gp_right hE
  have hC : Closed (gpOf f) := gp_closed hE
  have hO : Ord (gpOf f) (cOs f) (cPs f) := cPl_ord hG hC
  exact ⟨by unfold planE; rw [if_pos hE, if_pos (ord_iff.2 hO)], hO.len⟩
theorem runP_same {f : Fr} {os pl A : List Int} (h : execE f os pl A = 0) : runP f os pl A = renderP f := by
  obtain ⟨hC, hA⟩ := exec_zero h
  unfold runP
  rw [if_pos h, run_same (fit_of hC hA)]
theorem renderP_E (f : Fr) : (renderP f).E = frameE f := by
  unfold renderP
  by_cases h : frameE f = 0
  · rw [if_pos h, h]
    obtain ⟨hb, hfirst, hs⟩ := frameE_zero h
    have hl : shownP f < f.ps.length := (wrt_bd f.ps f.ps.length f.O).2
    exact (pics_right hb hfirst (shownP f).toNat (by omega)).1
  · rw [if_neg h]; rfl
theorem own_room {base : Nat} {w : World} {a : Option Addr} {n c : Nat} {A : List Int} (h : Owns base w (.slice a n c) A) : n ≤ c := by
  obtain ⟨h1, h2⟩ := h
  rcases h2 with ⟨e, _⟩ | ⟨g, cap, cur, e, _, _, hc, _⟩
  · injection e with _ e2 e3
    omega
  · injection e with _ e2 e3
    omega
end Go.Proofs.YtaenpgdmiaekcaaGreatDoor
/-
  DESKN: numbers: what desk.Draw answers.
-/
namespace Go.Proofs.YtaenpgdmiaekcaaGreatDoor
set_option maxRecDepth 100000
open Go.RowKit Im Go.Maps

/-- The frame of a text. -/
noncomputable abbrev dF (s : ByteArray) : Fr := rdF (numsOf s)
/-- The room that its plan takes. -/
noncomputable def dPeak (s : ByteArray) : Int := peakP (dF s) (cOs (dF s)) (cPs (dF s))
/-- What Draw answers. -/
noncomputable def drawE (s : ByteArray) (room : Int) : Int :=
  if 2048 < s.size then 2 else if ¬ rdE (numsOf s) = 0 then 1 else if room < 0 ∨ 4096 < room then 3 else if room < dPeak s then 7 else 0
noncomputable def drawS (s : ByteArray) (room : Int) : ByteArray := if drawE s room = 0 then textS (renderP (dF s)).W (renderP (dF s)).H (renderP (dF s)).ps else ByteArray.empty
theorem rdE_zero {r : List Int} (h : rdE r = 0) : frameE (rdF r) = 0 := by
  by_cases hok : readOk r
  · unfold rdF; rw [if_pos hok]; exact hok.2
  · unfold rdE at h; rw [if_neg hok] at h; cases h
theorem rdE_one {r : List Int} (h : ¬ rdE r = 0) : rdE r = 1 := by
  by_cases hok : readOk r
  · exact absurd (by unfold rdE; rw [if_pos hok]) h
  · unfold rdE; rw [if_neg hok]
theorem render_fine {f : Fr} (h : frameE f = 0) : fineB (renderP f).W (renderP f).H (renderP f).ps = true := by
  unfold renderP
  rw [if_pos h]
  obtain ⟨hb, hfirst, _⟩ := frameE_zero h
  have hl : shownP f < f.ps.length := (wrt_bd f.ps f.ps.length f.O).2
  exact (pics_right hb hfirst (shownP f).toNat (by omega)).2.1
theorem draw_not {s : ByteArray} {room : Int} (h : ¬ drawE s room = 0) : drawS s room = ByteArray.empty := by unfold drawS; rw [if_neg h]
theorem zeros_fit {f : Fr} (hE : frameE f = 0) {n : Nat} (hn : n ≤ 4096) (hk : peakP f (cOs f) (cPs f) ≤ n) : execE f (cOs f) (cPs f) (List.replicate n 0) = 0 := by
  have hG := gp_right hE
  have hC : Closed (gpOf f) := gp_closed hE
  have hO : Ord (gpOf f) (cOs f) (cPs f) := cPl_ord hG hC
  obtain ⟨hp, _⟩ := comp_plan hE
  have hcl : clearP f (cOs f) (cPs f) = true := (clearT_iff hO _ _).2 (comp_clear hG hC)
  have e1 : peakP f (cOs f) (cPs f) = peakT (cOs f) (lieP (gpOf f) (cOs f) (cPs f)) (cOs f).length := by unfold peakP; rw [if_pos hp]
  have hl : (List.replicate n (0 : Int)).length = n := List.length_replicate
  have hc : checkP f (cOs f) (cPs f) (List.replicate n (0 : Int)).length = 0 := by
    rw [hl, check_fits ⟨by omega, by omega⟩ hp, if_pos ⟨by rw [← e1]; omega, hcl⟩]
  unfold execE
  rw [if_pos hc, if_pos]
  unfold fineA
  rw [List.all_eq_true]
  intro x hx
  rw [List.eq_of_mem_replicate hx]
  decide
/-- What Draw draws, of a frame that is read. -/
def DrawnAs (F : Fr) (room : Nat) (w : World) (e : Ending) (w' : World) : Prop :=
  (e = .returned (.tuple #[.string ByteArray.empty, .int .i64 7]) ∧ (room : Int) < peakP F (cOs F) (cPs F) ∨ e = .returned (.tuple #[.string (textS (renderP F).W (renderP F).H (renderP F).ps), .int .i64 0]) ∧ ¬ (room : Int) < peakP F (cOs F) (cPs F)) ∧ Below w.heap.size w w'
end Go.Proofs.YtaenpgdmiaekcaaGreatDoor
/-
  DESKDRAW: desk.Draw.
-/
namespace Go.Proofs.YtaenpgdmiaekcaaGreatDoor
set_option maxRecDepth 100000
open Go.RowKit Im Go.Maps

/-- Errors ahead of Compile. -/
theorem draw_early (s : ByteArray) (room : Int) (w : World) (h : 2048 < s.size ∨ ¬ rdE (numsOf s) = 0 ∨ room < 0 ∨ 4096 < room) :
    Calls Tryz.prog 8 #[.string s, .int .i64 room] w fun e w' => e = .returned (.tuple #[.string (drawS s room), .int .i64 (drawE s room)]) ∧ Below w.heap.size w w' := by
  by_cases hbig : 2048 < s.size
  · have hE : drawE s room = 2 := by unfold drawE; rw [if_pos hbig]
    rw [draw_not (by rw [hE]; decide), hE]
    have hrd := read_big hbig w
    clear h hE hbig
    go_enter Tryz.func8, Tryz.ntmps8
    go_wp2_with fail
    refine hrd.mono ?_
    rintro e w1 ⟨xa, xc, rfl, hP1, b1⟩
    dsimp only at hP1 ⊢
    have hb2 := below_box b1 (.cells #[.int .i64 0, .int .i64 0, .int .i64 0, .int .i64 0, .slice xa ([] : List Ps).length xc] 35)
    simp only [List.length_nil] at hb2 ⊢
    go_wp2
    go_ret2
    exact ⟨rfl, hb2⟩
  · have hrd := read_x (numsOf_bytes s) (by rw [numsOf_len]; omega) w
    rw [numsOf_str] at hrd
    by_cases hok : rdE (numsOf s) = 0
    · have hr : room < 0 ∨ 4096 < room := by
        rcases h with h | h | h
        · exact absurd h hbig
        · exact absurd hok h
        · exact h
      have hE : drawE s room = 3 := by unfold drawE; rw [if_neg hbig, if_neg (fun h => h hok), if_pos hr]
      rw [draw_not (by rw [hE]; decide), hE]
      rw [hok] at hrd
      clear h hE hbig hok
      generalize rdF (numsOf s) = F at *
      obtain ⟨FW, FH, FS, FO, Fp⟩ := F
      go_enter Tryz.func8, Tryz.ntmps8
      go_wp2_with fail
      refine hrd.mono ?_
      rintro e w1 ⟨xa, xc, rfl, hP1, b1⟩
      dsimp only at hP1 ⊢
      have hb2 := below_box b1 (.cells #[.int .i64 FW, .int .i64 FH, .int .i64 FS, .int .i64 FO, .slice xa Fp.length xc] 35)
      by_cases h0 : room < 0
      · go_wp2
        go_ret2
        exact ⟨rfl, hb2⟩
      · have h1 : 4096 < room := by omega
        go_wp2
        go_ret2
        exact ⟨rfl, hb2⟩
    · have hE : drawE s room = 1 := by unfold drawE; rw [if_neg hbig, if_pos hok]
      rw [draw_not (by rw [hE]; decide), hE]
      rw [rdE_one hok] at hrd
      clear h hE hbig hok
      generalize rdF (numsOf s) = F at *
      obtain ⟨FW, FH, FS, FO, Fp⟩ := F
      go_enter Tryz.func8, Tryz.ntmps8
      go_wp2_with fail
      refine hrd.mono ?_
      rintro e w1 ⟨xa, xc, rfl, hP1, b1⟩
      dsimp only at hP1 ⊢
      have hb2 := below_box b1 (.cells #[.int .i64 FW, .int .i64 FH, .int .i64 FS, .int .i64 FO, .slice xa Fp.length xc] 35)
      go_wp2
      go_ret2
      exact ⟨rfl, hb2⟩
theorem zeros_made (w : World) (n : Nat) (hn : n ≤ 4096) : Ints 0 (w.alloc (.cells (madeCells #[.int .i64 0] n) 3)) (some ⟨w.heap.size, 0, none⟩) n (List.replicate n 0) := by
  refine ⟨List.length_replicate, by omega, .inr ⟨w.heap.size, 0, rfl, Nat.zero_le _, by simp, fun j hj => ?_⟩⟩
  rw [Nat.zero_add, World.cell?_alloc_new, List.getD_eq_getElem?_getD, List.getElem?_replicate, if_pos hj]
  simp [madeCells, hj, Nat.mod_one]
set_option maxHeartbeats 8000000 in
theorem draw_frame (s : ByteArray) (W H S O : Int) (ps : List Ps) (room : Nat) (w : World) (hrd : Calls Tryz.prog 11 #[.string s] w (ToldX w ⟨W, H, S, O, ps⟩ (.int .i64 0))) (hE : frameE ⟨W, H, S, O, ps⟩ = 0) (hr : room ≤ 4096) (hp : Pow w) :
    Calls Tryz.prog 8 #[.string s, .int .i64 room] w (DrawnAs ⟨W, H, S, O, ps⟩ room w) := by
  obtain ⟨i0, hi, hz0, hz1, hz2⟩ := info_parts Tryz.info3
  have hmk : ∀ wx : World, (Instr.makeSlice 22 (.int .i64 room) (.int .i64 room)).run Tryz.prog wx = .ok (.slice (some ⟨wx.heap.size, 0, none⟩) room room) (wx.alloc (.cells (madeCells #[.int .i64 0] room) 3)) := fun wx => run_make_row (P := Tryz.prog) 22 3 i0 (.int .i64 0) Tryz.underlying22 hi hz0 hz1 rfl .i64 .i64 room (by rw [hz2]; omega) (by omega) wx
  obtain ⟨hpl, hcl⟩ := comp_plan hE
  have HZ : Hid (peakP ⟨W, H, S, O, ps⟩ (cOs ⟨W, H, S, O, ps⟩) (cPs ⟨W, H, S, O, ps⟩) ≤ room → execE ⟨W, H, S, O, ps⟩ (cOs ⟨W, H, S, O, ps⟩) (cPs ⟨W, H, S, O, ps⟩) (List.replicate room 0) = 0) := fun h => zeros_fit hE hr h
  have h12 : ps.length ≤ 12 := by
    obtain ⟨hb, _, _⟩ := frameE_zero hE
    exact (boundsE_zero hb).2.2.2.2.2
  have hol : (cOs ⟨W, H, S, O, ps⟩).length ≤ 4096 := by
    have h1 : (cOs ⟨W, H, S, O, ps⟩).length ≤ ps.length := ((planE_zero hpl).2).olen
    omega
  have HF : Hid (_) := render_fine hE
  go_enter Tryz.func8, Tryz.ntmps8
  go_wp2_with fail
  refine hrd.mono ?_
  clear hrd
  rintro e w1 ⟨a, cap, rfl, hP1, b1⟩
  dsimp only at hP1 ⊢
  have hF2 := FBox.new w1 W H S O a ps.length cap
  have bA := (Below.refl w1.heap.size w1).alloc (Nat.le_refl _) (.cells #[.int .i64 W, .int .i64 H, .int .i64 S, .int .i64 O, .slice a ps.length cap] 35)
  have hP2 := hP1.below bA
  have hb2 := below_step b1 bA
  have hco := compile_any W H S O a ps.length cap ps _ hP2
  obtain ⟨_, g0, g1, g2, g3, g4⟩ := id hF2
  clear hP1 bA b1
  go_wp2_with fail
  generalize w1.alloc (.cells #[.int .i64 W, .int .i64 H, .int .i64 S, .int .i64 O, .slice a ps.length cap] 35) = w2 at *
  refine hco.mono ?_
  clear hco g0 g1 g2 g3 g4
  rintro e w3 ⟨⟨_, v, pb, rfl, hpb, hOv, hNm⟩ | ⟨h0, _⟩, b3⟩
  case inr => exact absurd hE h0
  case inl =>
    have hOv' : Owns (pb + 1) w3 v (cOs ⟨W, H, S, O, ps⟩) := hOv
    clear hOv
    obtain ⟨qa, qc, hv, hIq⟩ := hOv'.ints (by omega)
    subst hv
    have hqc := own_room hOv'
    have hIp : Ints 0 w3 (some ⟨pb, 0, none⟩) ps.length (cPs ⟨W, H, S, O, ps⟩) := nm_list hNm hcl (by show ps.length ≤ _; omega)
    have hB3 := PlBox.new w3 (.slice qa (cOs ⟨W, H, S, O, ps⟩).length qc) (.slice (some ⟨pb, 0, none⟩) ps.length ps.length) 48
    have bC := (Below.refl w3.heap.size w3).alloc (Nat.le_refl _) (.cells #[.slice qa (cOs ⟨W, H, S, O, ps⟩).length qc, .slice (some ⟨pb, 0, none⟩) ps.length ps.length] 48)
    have b24 := below_step b3 bC
    have hb4 := below_step hb2 b24
    have hIq4 := (hIq.mono (Nat.zero_le _)).below (Nat.le_refl _) bC
    have hIp4 := hIp.below (Nat.le_refl _) bC
    have hF4 := hF2.below b24
    have hP4 := hP2.below b24
    have hpk := planPeak_any W H S O a ps.length cap ps _ hP4 qa _ qc (some ⟨pb, 0, none⟩) ps.length ps.length _ _ hIq4 hIp4
    rw [hpl] at hpk
    have hru := fun wx (h : Below (w3.alloc (.cells #[.slice qa (cOs ⟨W, H, S, O, ps⟩).length qc, .slice (some ⟨pb, 0, none⟩) ps.length ps.length] 48)).heap.size (w3.alloc (.cells #[.slice qa (cOs ⟨W, H, S, O, ps⟩).length qc, .slice (some ⟨pb, 0, none⟩) ps.length ps.length] 48)) wx) aa hA => run_any W H S O a ps.length cap ps wx (hP4.below h) qa _ qc (some ⟨pb, 0, none⟩) ps.length ps.length _ _ (hIq4.below (Nat.le_refl _) h) (hIp4.below (Nat.le_refl _) h) hqc aa room room (List.replicate room 0) hA
    have hbPk := fun h => runP_same (HZ.out h)
    clear hOv' hNm hIq hIp hF2 bC hcl hP4 hP2 hb2
    unfold DrawnAs
    generalize hpe : peakP ⟨W, H, S, O, ps⟩ (cOs ⟨W, H, S, O, ps⟩) (cPs ⟨W, H, S, O, ps⟩) = pk at *
    obtain ⟨_, g0, g1, g2, g3, g4⟩ := id hF4
    obtain ⟨_, q0, q1⟩ := id hB3
    dsimp only
    go_wp2_with fail
    generalize w3.alloc (.cells #[.slice qa (cOs ⟨W, H, S, O, ps⟩).length qc, .slice (some ⟨pb, 0, none⟩) ps.length ps.length] 48) = w4 at *
    refine hpk.mono ?_
    clear hpk g0 g1 g2 g3 g4 q0 q1
    rintro e w5 ⟨rfl, b5⟩
    have hb5 := below_step hb4 b5
    by_cases hfull : (room : Int) < pk
    · clear hru hbPk HZ HF hF4 hB3 hIq4 hIp4 hmk
      go_wp2
      go_ret2
      exact ⟨.inl ⟨rfl, by rw [hpe]; exact hfull⟩, hb5⟩
    · have hRS := hbPk (by omega)
      rw [hRS] at hru
      have hfi := HF.out
      have HE0 : Hid ((renderP ⟨W, H, S, O, ps⟩).E = 0) := (renderP_E _).trans hE
      generalize hRd : renderP ⟨W, H, S, O, ps⟩ = R at *
      have HRd : Hid (_) := hRd
      clear hRd
      have hF5 := hF4.below b5
      have hB5 := hB3.below b5
      obtain ⟨_, g0, g1, g2, g3, g4⟩ := id hF5
      obtain ⟨_, q0, q1⟩ := id hB5
      clear hbPk HZ HF hF4 hIq4 hIp4 hRS hqc hol h12 hpl
      have HPE : Hid (_) := hpe
      clear hpe
      go_upto_region 14 with fail
      have hA := fun X (hX : Below w5.heap.size w5 X) aa hI => hru X (below_step b5 hX) aa hI
      have bM := (Below.refl w5.heap.size w5).alloc (Nat.le_refl _) (.cells (madeCells #[.int .i64 0] room) 3)
      have bB := (Below.refl w5.heap.size w5).alloc (Nat.le_refl _) (.cells #[.int .i64 0, .int .i64 0, .slice none 0 0] 24)
      have hc1 := hA _ bM.drew (some ⟨w5.heap.size, 0, none⟩) ((zeros_made w5 room hr).below (Nat.le_refl _) (Below.refl _ _).drew)
      have hc2 := hA _ (below_box bM (.cells #[.int .i64 0, .int .i64 0, .slice none 0 0] 24)).drew (some ⟨w5.heap.size, 0, none⟩) ((zeros_made w5 room hr).below (Nat.le_refl _) ((Below.refl _ _).alloc (Nat.le_refl _) _).drew)
      have hc3 := hA _ (below_box bB (.cells (madeCells #[.int .i64 0] room) 3)).drew (some ⟨(w5.alloc (.cells #[.int .i64 0, .int .i64 0, .slice none 0 0] 24)).heap.size, 0, none⟩) ((zeros_made (w5.alloc (.cells #[.int .i64 0, .int .i64 0, .slice none 0 0] 24)) room hr).below (Nat.le_refl _) (Below.refl _ _).drew)
      rw [World.size_alloc] at hc3
      have hI2 := IBox.new (w5.alloc (.cells (madeCells #[.int .i64 0] room) 3))
      have hI3 := IBox.new w5
      rw [World.size_alloc] at hI2
      have hI2d := hI2.below ((Below.refl ((w5.alloc (.cells (madeCells #[.int .i64 0] room) 3)).alloc (.cells #[.int .i64 0, .int .i64 0, .slice none 0 0] 24)).heap.size _).drew) hI2.lt (Nat.le_refl _)
      have hI3d := (hI3.below ((Below.refl _ _).alloc (Nat.le_refl _) (.cells (madeCells #[.int .i64 0] room) 3)).drew hI3.lt (by show _ ≤ (World.alloc _ _).heap.size; simp))
      have held : ∀ wx, Below w5.heap.size w5 wx → (wx.cell? ⟨w1.heap.size, 0, none⟩ = some (.int .i64 W) ∧ wx.cell? ⟨w1.heap.size, 1, none⟩ = some (.int .i64 H) ∧ wx.cell? ⟨w1.heap.size, 2, none⟩ = some (.int .i64 S) ∧ wx.cell? ⟨w1.heap.size, 3, none⟩ = some (.int .i64 O) ∧ wx.cell? ⟨w1.heap.size, 4, none⟩ = some (.slice a ps.length cap)) ∧ wx.cell? ⟨w3.heap.size, 0, none⟩ = some (.slice qa (cOs ⟨W, H, S, O, ps⟩).length qc) ∧ wx.cell? ⟨w3.heap.size, 1, none⟩ = some (.slice (some ⟨pb, 0, none⟩) ps.length ps.length) := fun wx h => by
        obtain ⟨_, g0, g1, g2, g3, g4⟩ := hF5.below h
        obtain ⟨_, q0, q1⟩ := hB5.below h
        exact ⟨⟨g0, g1, g2, g3, g4⟩, q0, q1⟩
      have b0x := (Below.refl w5.heap.size w5).drew
      have bBx := bB.drew
      have b1x := bM.drew
      have b2x := (below_box bM (.cells #[.int .i64 0, .int .i64 0, .slice none 0 0] 24)).drew
      have b3x := (below_box bB (.cells (madeCells #[.int .i64 0] room) 3)).drew
      clear hA hru hI2 hI3 bM bB
      go_cut [7, 10] from 45 to 52 (fun s7 s10 wx => s7 = .int .i64 0 ∧ ∃ ib ia ic, s10 = .pointer (some ⟨ib, 0, none⟩) ∧ JBox wx ib R.W R.H (.slice ia R.ps.length ic) ∧ Ints 0 wx ia R.ps.length R.ps ∧ Below w5.heap.size w5 wx)
      case first =>
        go_region_held3 (fun wx => (wx.cell? ⟨w1.heap.size, 0, none⟩ = some (.int .i64 W) ∧ wx.cell? ⟨w1.heap.size, 1, none⟩ = some (.int .i64 H) ∧ wx.cell? ⟨w1.heap.size, 2, none⟩ = some (.int .i64 S) ∧ wx.cell? ⟨w1.heap.size, 3, none⟩ = some (.int .i64 O) ∧ wx.cell? ⟨w1.heap.size, 4, none⟩ = some (.slice a ps.length cap)) ∧ wx.cell? ⟨w3.heap.size, 0, none⟩ = some (.slice qa (cOs ⟨W, H, S, O, ps⟩).length qc) ∧ wx.cell? ⟨w3.heap.size, 1, none⟩ = some (.slice (some ⟨pb, 0, none⟩) ps.length ps.length))
          ((refine held _ ?_; first | exact b0x | exact b1x | exact bBx | exact b2x | exact b3x | exact hb6 | exact below_box hb6 _ | exact ((hb6.setCell (by simp) _).setCell (by simp) _).setCell (by simp) _))
          (first
            | (go_at_call 20; (with_reducible refine hc3.mono ?_); rintro e w6 ⟨ia, ic, rfl, hI6, b6⟩; have hb6 := below_step b3x b6; have hB6 := hI3d.below b6 hI3d.lt b6.size; have hbl := hI3d.lt; obtain ⟨_, z0, z1, z2, y0, y1, y2⟩ := id hB6)
            | (go_at_call 20; (with_reducible refine hc2.mono ?_); rintro e w6 ⟨ia, ic, rfl, hI6, b6⟩; have hb6 := below_step b2x b6; have hB6 := hI2d.below b6 hI2d.lt b6.size; have hbl := hI2d.lt; obtain ⟨_, z0, z1, z2, y0, y1, y2⟩ := id hB6)
            | (go_at_call 20; (with_reducible refine hc1.mono ?_); rintro e w6 ⟨ia, ic, rfl, hI6, b6⟩; have hb6 := below_step b1x b6))
        all_goals (go_wp2_with fail; go_meet)
        all_goals first
          | exact ⟨by rw [HE0.out], w6.heap.size, ia, ic, rfl, JBox.new w6 R.W R.H (.slice ia R.ps.length ic), (hI6.mono (Nat.zero_le _)).alloc _, below_box hb6 _⟩
          | exact ⟨by rw [HE0.out], w5.heap.size + 1, ia, ic, rfl, hB6.put _ _ _, (((hI6.setCell (p := ⟨w5.heap.size + 1, 0, none⟩) hbl _).setCell (p := ⟨w5.heap.size + 1, 1, none⟩) hbl _).setCell (p := ⟨w5.heap.size + 1, 2, none⟩) hbl _).mono (Nat.zero_le _), ((hb6.setCell (p := ⟨w5.heap.size + 1, 0, none⟩) (Nat.le_succ _) _).setCell (p := ⟨w5.heap.size + 1, 1, none⟩) (Nat.le_succ _) _).setCell (p := ⟨w5.heap.size + 1, 2, none⟩) (Nat.le_succ _) _⟩
          | exact ⟨by rw [HE0.out], w5.heap.size, ia, ic, rfl, hB6.put _ _ _, (((hI6.setCell (p := ⟨w5.heap.size, 0, none⟩) hbl _).setCell (p := ⟨w5.heap.size, 1, none⟩) hbl _).setCell (p := ⟨w5.heap.size, 2, none⟩) hbl _).mono (Nat.zero_le _), ((hb6.setCell (p := ⟨w5.heap.size, 0, none⟩) (Nat.le_refl _) _).setCell (p := ⟨w5.heap.size, 1, none⟩) (Nat.le_refl _) _).setCell (p := ⟨w5.heap.size, 2, none⟩) (Nat.le_refl _) _⟩
      case rest =>
        obtain ⟨rfl, ib, ia, ic, rfl, hJ, hI, bx⟩ := hcut
        have hbx := below_step hb5 bx
        have hsh := show_any R.W R.H ia R.ps.length ic R.ps wc hI (hp.below hbx)
        rw [if_pos hfi] at hsh
        obtain ⟨_, x0, x1, x2⟩ := id hJ
        have HPK : Hid (¬ (room : Int) < pk) := by show ¬ _; omega
        clear hc1 hc2 hc3 hI2d hI3d held b0x b1x bBx b2x b3x g0 g1 g2 g3 g4 q0 q1 hF5 hB5 hB3 hmk hfull
        go_wp2_with fail
        refine hsh.mono ?_
        clear hsh x0 x1 x2
        rintro e w7 ⟨rfl, b7⟩
        go_wp2
        go_ret2
        exact ⟨.inr ⟨by rw [HRd.out]; rfl, by rw [HPE.out]; have := HPK.out; omega⟩, below_step hbx b7⟩
theorem draw_same {s : ByteArray} {room : Nat} (hs : ¬ 2048 < s.size) (hok : rdE (numsOf s) = 0) (hr : room ≤ 4096) {w : World} {e : Ending} {w' : World} (h : DrawnAs (dF s) room w e w') :
    e = .returned (.tuple #[.string (drawS s room), .int .i64 (drawE s room)]) ∧ Below w.heap.size w w' := by
  have hE : drawE s room = if (room : Int) < dPeak s then 7 else 0 := by
    unfold drawE
    rw [if_neg hs, if_neg (fun h => h hok), if_neg (by omega)]
  obtain ⟨⟨rfl, hk⟩ | ⟨rfl, hk⟩, hb⟩ := h
  · have h7 : drawE s room = 7 := by rw [hE, if_pos (show (room : Int) < dPeak s from hk)]
    rw [draw_not (by rw [h7]; decide), h7]
    exact ⟨rfl, hb⟩
  · have h0 : drawE s room = 0 := by rw [hE, if_neg (show ¬ (room : Int) < dPeak s from hk)]
    have hS : drawS s room = textS (renderP (dF s)).W (renderP (dF s)).H (renderP (dF s)).ps := by unfold drawS; rw [if_pos h0]
    rw [h0, hS]
    exact ⟨rfl, hb⟩
theorem deskDraw_any (s : ByteArray) (room : Int) (w : World) (hp : Pow w) :
    Calls Tryz.prog 8 #[.string s, .int .i64 room] w fun e w' => e = .returned (.tuple #[.string (drawS s room), .int .i64 (drawE s room)]) ∧ Below w.heap.size w w' := by
  by_cases h : 2048 < s.size ∨ ¬ rdE (numsOf s) = 0 ∨ room < 0 ∨ 4096 < room
  · exact draw_early s room w h
  · have hs : ¬ 2048 < s.size := fun h1 => h (.inl h1)
    have hok : rdE (numsOf s) = 0 := Classical.byContradiction fun h1 => h (.inr (.inl h1))
    have hr0 : ¬ (room < 0 ∨ 4096 < room) := fun h1 => h (.inr (.inr h1))
    obtain ⟨n, rfl⟩ : ∃ n : Nat, room = n := ⟨room.toNat, by omega⟩
    have hn : n ≤ 4096 := by omega
    have hrd := read_x (numsOf_bytes s) (by rw [numsOf_len]; omega) w
    rw [numsOf_str, hok] at hrd
    exact (draw_frame s (dF s).W (dF s).H (dF s).S (dF s).O (dF s).ps n w hrd (rdE_zero hok) hn hp).mono fun _ _ h => draw_same hs hok hn h
end Go.Proofs.YtaenpgdmiaekcaaGreatDoor
/-
  FITBEGUN: the reference's SamePlans; what the laws of fitting begin with comes out true.
-/
namespace Go.Proofs.YtaenpgdmiaekcaaGreatDoor
set_option maxRecDepth 100000
open Go.RowKit Im Go.Maps

theorem f_ord : cOrd (gpOf glowF) 5 = [0, 3, 4] := by decide
theorem f_pl : cPl (gpOf glowF) = [0, -1, -1, 8, 16] := by decide
theorem Nm.list {w : World} {b n : Nat} {l : List Int} (h : Nm w b n (fun k => l.getD k 0)) (hl : l.length = n) (hn : n ≤ 4096) : Ints 0 w (some ⟨b, 0, none⟩) n l :=
  ⟨hl, by omega, .inr ⟨b, 0, rfl, Nat.zero_le _, h.lt, fun j hj => by rw [Nat.zero_add]; exact h.cells j hj⟩⟩
end Go.Proofs.YtaenpgdmiaekcaaGreatDoor
