/- BusyAt, CompM, Compile, LawExec3, OpenL: joined, in this order. -/
import Derived.Test.YtifokbkhcaajnaaGreatS23
import Derived.Test.YtifokbkhcaajnaaGreatS16
import Derived.Test.YtifokbkhcaajnaaGreatS12
import Derived.Test.YtifokbkhcaajnaaGreatS21
import Derived.Test.YtifokbkhcaajnaaGreatS02
import Derived.Test.YtifokbkhcaajnaaGreatS19
import Derived.Test.YtifokbkhcaajnaaGreatS03
import Derived.Deep.Slices
/-
  BUSYAT: fit.busyAt: what is busy at a step.
-/
namespace Go.Proofs.YtifokbkhcaajnaaGreat
set_option maxRecDepth 100000
open Go.RowKit Im Go.Maps

/-- What is busy at step t, as far as the first steps tell, the places being pf. -/
def busyF (sp : Nat → Int × Int) (ar pf : Nat → Int) (os : List Int) (t : Nat) : Nat → List Sz
  | 0 => []
  | m + 1 => if (t : Int) ≤ (sp (os.getD m 0).toNat).2 then busyF sp ar pf os t m ++ [(pf (os.getD m 0).toNat, pf (os.getD m 0).toNat + ar (os.getD m 0).toNat - 1)] else busyF sp ar pf os t m
theorem busyF_len (sp : Nat → Int × Int) (ar pf : Nat → Int) (os : List Int) (t : Nat) : ∀ m, (busyF sp ar pf os t m).length ≤ m
  | 0 => Nat.le_refl _
  | m + 1 => by
    have := busyF_len sp ar pf os t m
    unfold busyF
    split
    · rw [List.length_append]; simp; omega
    · omega
theorem busyF_eq {G : Gp} {os qs : List Int} {pf : Nat → Int} {t : Nat} : ∀ {m : Nat}, (∀ j, j < m → pf (os.getD j 0).toNat = qs.getD j 0) → busyF (spanP G os) G.ar pf os t m = busyQ G os qs t m
  | 0, _ => rfl
  | m + 1, h => by
    unfold busyF busyQ
    rw [busyF_eq (m := m) (fun j hj => h j (by omega)), h m (by omega)]
set_option maxHeartbeats 4000000 in
theorem busyAt_any {N : Nat} {os : List Int} {sp : Nat → Int × Int} {pf : Nat → Int} {zs : List Sz} (hos : ∀ o ∈ os, 0 ≤ o ∧ o < N) (hol : os.length ≤ 12) (hzs : ∀ k, k < N → (0 ≤ (zs.getD k Sz.zero).1 ∧ (zs.getD k Sz.zero).1 ≤ 16) ∧ (0 ≤ (zs.getD k Sz.zero).2 ∧ (zs.getD k Sz.zero).2 ≤ 16)) (hpf : ∀ k, k < N → -1 ≤ pf k ∧ pf k ≤ 4097)
    {oa : Option Addr} {olen ocap : Nat} (hcap : olen ≤ ocap) {sb pb : Nat} {za : Option Addr} (zc : Nat) {w : World} {t : Nat} (ht : t < os.length) (hO : Ints 0 w oa olen os) (hS : Sp w sb N sp) (hP : Nm w pb N pf) (hZ : Zs w za N zs) :
    Calls Tryz.prog 38 #[.int .i64 t, .agg #[.slice oa olen ocap, .slice (some ⟨pb, 0, none⟩) N N], .slice (some ⟨sb, 0, none⟩) N N, .slice za N zc] w fun e w' =>
      (∃ v, e = .returned v ∧ OwnsS w.heap.size w' v (busyF sp (fun k => areaZ (zs.getD k Sz.zero)) pf os t t)) ∧ Below w.heap.size w w' := by
  obtain rfl := hO.leng
  obtain ⟨i0, hi, hz0, hz1, hz2⟩ := info_parts Tryz.infoSpan
  have hX0 := PlBox.new w (.slice oa os.length ocap) (.slice (some ⟨pb, 0, none⟩) N N) 27
  have hb0 := below_box (Below.refl w.heap.size w) (.cells #[.slice oa os.length ocap, .slice (some ⟨pb, 0, none⟩) N N] 27)
  obtain ⟨ob, oo, rfl, _⟩ := hO.nth ht
  have htc : (t : Int) ≤ (ocap : Int) := by omega
  have ht0 : (0 : Int) ≤ (t : Int) := by omega
  have HBS : Hid (∀ m, busyF sp (fun k => areaZ (zs.getD k Sz.zero)) pf os t (m + 1) = if (t : Int) ≤ (sp (os.getD m 0).toNat).2 then busyF sp (fun k => areaZ (zs.getD k Sz.zero)) pf os t m ++ [(pf (os.getD m 0).toNat, pf (os.getD m 0).toNat + (zs.getD (os.getD m 0).toNat Sz.zero).1 * (zs.getD (os.getD m 0).toNat Sz.zero).2 - 1)] else busyF sp (fun k => areaZ (zs.getD k Sz.zero)) pf os t m) := fun _ => rfl
  have HBL : Hid (∀ m, (busyF sp (fun k => areaZ (zs.getD k Sz.zero)) pf os t m).length ≤ m) := fun m => busyF_len _ _ _ _ _ m
  have HOS : Hid (_) := hos
  have HZS : Hid (_) := hzs
  have HPF : Hid (_) := hpf
  have HB0 : Hid (OwnsS (w.heap.size + 1) (w.alloc (.cells #[.slice (some ⟨ob, oo, none⟩) os.length ocap, .slice (some ⟨pb, 0, none⟩) N N] 27)) (.slice none 0 0) (busyF sp (fun k => areaZ (zs.getD k Sz.zero)) pf os t 0)) := World.ownsRow_nil _ _ _ _
  generalize busyF sp (fun k => areaZ (zs.getD k Sz.zero)) pf os t = bf at *
  clear hos hzs hpf
  go_enter Tryz.func38, Tryz.ntmps38
  go_wp2
  go_loopw [9, 18] (fun v i wr => ∃ k : Nat, k ≤ t ∧ i = .int .i64 k ∧ OwnsS (w.heap.size + 1) wr v (bf k) ∧ PlBox wr w.heap.size (.slice (some ⟨ob, oo, none⟩) os.length ocap) (.slice (some ⟨pb, 0, none⟩) N N) ∧ Below w.heap.size w wr ∧ w.heap.size + 1 ≤ wr.heap.size) (fun _ i _ => t - (intOf i).toNat)
  case atStart => exact ⟨0, Nat.zero_le _, rfl, HB0.out, hX0, hb0, by simp⟩
  case round =>
    obtain ⟨k, hk, rfl, hown, hX, hbr, hsz⟩ := hrel
    clear hX0 hb0 HB0
    have hbl := HBL.out k
    obtain ⟨va, vc, rfl⟩ := owns_slice hown
    by_cases hlt : k < t
    · obtain ⟨ob', oo', hoe, hox⟩ := (hO.below (Nat.le_refl _) hbr).nth (show k < os.length by omega)
      injection hoe with hoe
      injection hoe with h1 h2
      subst h1 h2
      have hor := HOS.out _ (getD_mem (show k < os.length by omega) 0)
      have HB1 : Hid (_) := HBS.out k
      generalize os.getD k 0 = p at hox hor HB1
      obtain ⟨q, rfl⟩ := Int.eq_ofNat_of_zero_le hor.1
      rw [Int.toNat_natCast] at HB1
      have hql : q < N := by omega
      have hqI : (q : Int) < (N : Int) := by omega
      have hq0 : (0 : Int) ≤ (q : Int) := by omega
      have hkI : (k : Int) < (t : Int) := by omega
      have hk0 : (0 : Int) ≤ (k : Int) := by omega
      have hSr := hS.below hbr hS.lt hbr.size
      have hPr := hP.below hbr hP.lt hbr.size
      obtain ⟨zb, zo, rfl, _, z0, z1⟩ := (hZ.below hbr).nth hql
      have s1 := hSr.c1 q hql
      have p0 := hPr.cells q hql
      have hzb := HZS.out q hql
      have hpb := HPF.out q hql
      obtain ⟨_, x0, x1⟩ := id hX
      generalize (zs.getD q Sz.zero).1 = zx at z0 hzb HB1
      generalize (zs.getD q Sz.zero).2 = zy at z1 hzb HB1
      generalize (sp q).2 = s at s1 HB1
      generalize pf q = pq at p0 hpb HB1
      by_cases hs : (t : Int) ≤ s
      · have HB2 : Hid (_) := HB1.out.trans (if_pos hs)
        have hnu := fun wx => fitNum_any zx zy hzb.1 hzb.2 wx
        have hxy : 0 ≤ zx * zy ∧ zx * zy ≤ 256 := ⟨Int.mul_nonneg hzb.1.1 hzb.2.1, Int.mul_le_mul hzb.1.2 hzb.2.2 hzb.2.1 (by omega)⟩
        generalize zx * zy = ar at hnu hxy HB2
        generalize bf k = L at hown HB2 hbl ⊢
        have hw1 : IntKind.i64.wrap (pq + ar) = pq + ar := by rw [IntKind.wrap_i64]; omega
        have hw2 : IntKind.i64.wrap (pq + ar - 1) = pq + ar - 1 := by rw [IntKind.wrap_i64]; omega
        have bN : Below wr.heap.size wr (wr.alloc (.cells #[.int .i64 zx, .int .i64 zy] 63)) := (Below.refl _ _).alloc (Nat.le_refl _) _
        have hownN : OwnsS (w.heap.size + 1) (wr.alloc (.cells #[.int .i64 zx, .int .i64 zy] 63)) (.slice va L.length vc) L := World.ownsRow.alloc hown _
        have hszN : w.heap.size + 1 ≤ (wr.alloc (.cells #[.int .i64 zx, .int .i64 zy] 63)).heap.size := by simp; omega
        go_wp2_with (first
          | (go_at_call 39; refine (hnu _).mono ?_; rintro e wN ⟨rfl, hwN⟩; have hownN' : OwnsS (w.heap.size + 1) wN (.slice va L.length vc) L := hwN ▸ hownN; have hszN' : w.heap.size + 1 ≤ wN.heap.size := hwN ▸ hszN; have bN' : Below wr.heap.size wr wN := hwN ▸ bN; clear hwN hownN hszN bN)
          | (at_builtin; refine wpList_append_own _ rfl _ _ 83 rfl (w.heap.size + 1) 131 i0 _ 2 16 Tryz.underlying83 hi hz0 hz1 hz2 rfl (by decide) _ _ _ rfl (World.ownsRow.alloc hownN' _) ⟨wN.heap.size, 0, none⟩ 1 1 [.int .i64 pq, .int .i64 (pq + ar - 1)] rfl rfl (cell_two_new _ _ _ _) (by intro u hu; simp at hu; rcases hu with rfl | rfl <;> rfl) (by unfold maxLen; omega) (by omega) (by simp; omega) ?_; intro v' w9 hown9 hgrow9 _))
        have RR := OwnsS.push (z := (pq, pq + ar - 1)) hownN' (Below.refl (w.heap.size + 1) _) hszN' hown9 rfl hgrow9
        have bT : Below (w.heap.size + 1) wr w9 := (bN'.mono hsz).trans RR.2
        go_roundw
        case rel => exact ⟨k + 1, by omega, by go_num, by rw [HB2.out]; exact RR.1, ⟨Nat.lt_of_lt_of_le hX.lt bT.size, (bT.cell (p := ⟨w.heap.size, 0, none⟩) (Nat.lt_succ_self _)).trans x0, (bT.cell (p := ⟨w.heap.size, 1, none⟩) (Nat.lt_succ_self _)).trans x1⟩, hbr.trans (bT.mono (Nat.le_succ _)), Nat.le_trans hsz bT.size⟩
        case measure => simp [intOf]; omega
      · have HB2 : Hid (_) := HB1.out.trans (if_neg hs)
        go_wp2
        go_roundw
        case rel => exact ⟨k + 1, by omega, by go_num, by rw [HB2.out]; exact hown, hX, hbr, hsz⟩
        case measure => simp [intOf]; omega
    · have hke : k = t := by omega
      subst hke
      have HM : Hid (OwnsS w.heap.size wr (.slice va (bf k).length vc) (bf k)) := row_mono hown (Nat.le_succ _)
      go_wp2
      go_ret
      exact ⟨⟨_, rfl, HM.out⟩, hbr⟩
end Go.Proofs.YtifokbkhcaajnaaGreat
/-
  COMPM: numbers of what is compiled, step by step, beside Place.
-/
namespace Go.Proofs.YtifokbkhcaajnaaGreat
set_option maxRecDepth 100000

theorem nodup_take {os : List Int} (h : os.Nodup) (n : Nat) : (os.take n).Nodup := h.sublist (List.take_sublist n os)
theorem take_len {os : List Int} {n : Nat} (hn : n ≤ os.length) : (os.take n).length = n := by rw [List.length_take]; omega
theorem take_getD {os : List Int} {j n : Nat} (hj : j < n) : (os.take n).getD j 0 = os.getD j 0 := by
  rw [List.getD_eq_getElem?_getD, List.getD_eq_getElem?_getD, List.getElem?_take, if_pos hj]
theorem step_take {os : List Int} (h : os.Nodup) {n j : Nat} (hn : n ≤ os.length) (hj : j < n) : stepAt (os.take n) (os.getD j 0) = j := by
  have := stepAt_self (nodup_take h n) (show j < (os.take n).length by rw [take_len hn]; exact hj)
  rwa [take_getD hj] at this
theorem plcN_at {G : Gp} {os : List Int} (h : os.Nodup) (hin : ∀ o ∈ os, 0 ≤ o ∧ o < G.N) {z : Nat → Int} {n j : Nat} (hn : n ≤ os.length) (hj : j < n) : plcN G os z n (os.getD j 0).toNat = (qsP G os n).getD j 0 := by
  have ho := hin _ (getD_in (show j < os.length by omega))
  unfold plcN
  rw [Int.toNat_of_nonneg ho.1, step_take h hn hj, if_pos (by omega), Int.toNat_natCast]
theorem plcN_step {G : Gp} {os : List Int} (h : os.Nodup) (hin : ∀ o ∈ os, 0 ≤ o ∧ o < G.N) {z : Nat → Int} {n : Nat} (hn : n < os.length) (k : Nat) : plcN G os z (n + 1) k = if (os.getD n 0).toNat = k then placeR (busyQ G os (qsP G os n) n n) (G.ar (os.getD n 0).toNat) else plcN G os z n k := by
  have ho := hin _ (getD_in hn)
  by_cases e : (os.getD n 0).toNat = k
  · rw [if_pos e, ← e, plcN_at h hin (show n + 1 ≤ os.length by omega) (Nat.lt_succ_self n), qsP_get G os (Nat.lt_succ_self n)]
  · rw [if_neg e]
    have hne : ¬ os.getD n 0 = (k : Int) := fun h' => e (by rw [h', Int.toNat_natCast])
    have es : stepAt (os.take (n + 1)) (k : Int) = stepAt (os.take n) (k : Int) := by
      have hnn := nodup_take h (n + 1)
      have et : os.take (n + 1) = os.take n ++ [os.getD n 0] := by rw [List.take_succ_eq_append_getElem hn, List.getD_eq_getElem?_getD, List.getElem?_eq_getElem hn]; rfl
      rw [et] at hnn ⊢
      have hni : os.getD n 0 ∉ os.take n := fun hm => by
        rw [List.nodup_append] at hnn
        exact hnn.2.2 _ hm _ (by simp) rfl
      rw [stepAt_snoc (k : Int) hni, if_neg hne]
    unfold plcN
    rw [es]
    by_cases h0 : 0 ≤ stepAt (os.take n) (k : Int)
    · rw [if_pos h0, if_pos h0]
      have hb := stepAt_bd (os.take n) (k : Int)
      rw [take_len (by omega)] at hb
      rw [qsP_get G os (show (stepAt (os.take n) (k : Int)).toNat < n + 1 by omega), qsP_get G os (show (stepAt (os.take n) (k : Int)).toNat < n by omega)]
    · rw [if_neg h0, if_neg h0]
theorem cOrd_nodup (G : Gp) : (cOrd G G.N).Nodup := (cOrd_sorted G G.N).imp (fun h => by omega)
theorem comp_busy {G : Gp} {z : Nat → Int} {n : Nat} (hn : n ≤ (cOrd G G.N).length) : busyF (spanP G (cOrd G G.N)) G.ar (plcN G (cOrd G G.N) z n) (cOrd G G.N) n n = busyQ G (cOrd G G.N) (qsP G (cOrd G G.N) n) n n :=
  busyF_eq (fun _ hj => plcN_at (cOrd_nodup G) (cOrd_in G) hn hj)
theorem comp_top {G : Gp} (hG : G.Right) : arTo G (cOrd G G.N) (cOrd G G.N).length ≤ 3072 := by
  have h2 := arTo_bd hG (cOrd_in G) (n := (cOrd G G.N).length) (Nat.le_refl _)
  have h3 := cOrd_len G G.N
  have h4 := hG.hN
  omega
theorem plc_bd {G : Gp} (hG : G.Right) {z : Nat → Int} (hz : ∀ k, -1 ≤ z k ∧ z k ≤ 0) {n : Nat} (hn : n ≤ (cOrd G G.N).length) (k : Nat) : -1 ≤ plcN G (cOrd G G.N) z n k ∧ plcN G (cOrd G G.N) z n k ≤ 3072 := by
  unfold plcN
  by_cases h0 : 0 ≤ stepAt ((cOrd G G.N).take n) (k : Int)
  · rw [if_pos h0]
    have hb := stepAt_bd ((cOrd G G.N).take n) (k : Int)
    rw [take_len hn] at hb
    have h1 := qs_bd hG (cOrd_in G) hn (show (stepAt ((cOrd G G.N).take n) (k : Int)).toNat < n by omega)
    have ho := (cOrd_in G) _ (getD_in (show (stepAt ((cOrd G G.N).take n) (k : Int)).toNat < (cOrd G G.N).length by omega))
    have h5 := hG.ar ((cOrd G G.N).getD (stepAt ((cOrd G G.N).take n) (k : Int)).toNat 0).toNat (by omega)
    have := comp_top hG
    omega
  · rw [if_neg h0]
    have := hz k
    omega
theorem comp_place {G : Gp} (hG : G.Right) {n : Nat} (hn : n < (cOrd G G.N).length) : placeE (busyQ G (cOrd G G.N) (qsP G (cOrd G G.N) n) n n) (G.ar ((cOrd G G.N).getD n 0).toNat) = 0 := by
  have hN := hG.hN
  have hl := cOrd_len G G.N
  have hbl := busyQ_len G (cOrd G G.N) (qsP G (cOrd G G.N) n) n n
  have ho := (cOrd_in G) _ (getD_in hn)
  have ha := hG.ar ((cOrd G G.N).getD n 0).toNat (by omega)
  have htop := comp_top hG
  refine placeE_ok (by omega) (by omega) ((allTo_iff _ _).2 fun i hi => ?_)
  obtain ⟨j, hj, _, e⟩ := busyQ_mem.1 (getD_mem hi Sz.zero)
  have hq := qs_bd hG (cOrd_in G) (show n ≤ (cOrd G G.N).length by omega) hj
  have ho' := (cOrd_in G) _ (getD_in (show j < (cOrd G G.N).length by omega))
  have ha' := hG.ar ((cOrd G G.N).getD j 0).toNat (by omega)
  unfold okSpan
  rw [e]
  simp only [Bool.and_eq_true, decide_eq_true_eq]
  omega
theorem comp_placeP {G : Gp} (hG : G.Right) {n : Nat} (hn : n < (cOrd G G.N).length) : placeP (busyQ G (cOrd G G.N) (qsP G (cOrd G G.N) n) n n) (G.ar ((cOrd G G.N).getD n 0).toNat) = placeR (busyQ G (cOrd G G.N) (qsP G (cOrd G G.N) n) n n) (G.ar ((cOrd G G.N).getD n 0).toNat) := by
  unfold placeP; rw [if_pos (comp_place hG hn)]
theorem plc_zero {G : Gp} {os : List Int} {z : Nat → Int} (k : Nat) : plcN G os z 0 k = z k := by unfold plcN; rw [if_neg (by simp [stepAt])]
theorem plc_done {G : Gp} {z : Nat → Int} (hz : ∀ k, k < G.N → ¬ G.kept k = true → z k = -1) {k : Nat} (hk : k < G.N) : plcN G (cOrd G G.N) z (cOrd G G.N).length k = (cPl G).getD k 0 := by
  unfold cPl
  rw [getD_map_range _ hk, plcN_end, plcN_end]
  by_cases h0 : 0 ≤ stepAt (cOrd G G.N) (k : Int)
  · rw [if_pos h0, if_pos h0]
  · rw [if_neg h0, if_neg h0]
    exact hz k hk (fun hK => h0 (stepAt_mem.2 ((cOrd_mem G k G.N).2 ⟨by omega, by omega, by rw [Int.toNat_natCast]; exact hK⟩)))
theorem comp_ord {G : Gp} (hG : G.Right) (hC : Closed G) {z : Nat → Int} (hz0 : ∀ k, k < G.N → ¬ G.kept k = true → z k = -1) (hz1 : ∀ k, k < G.N → G.kept k = true → z k = 0) : Ord G (cOrd G G.N) ((List.range G.N).map z) := by
  refine cOrd_ord hG hC (by simp) (fun k hk hK => ?_) (fun k hk hK => ?_)
  · rw [getD_map_range _ hk, hz1 k hk hK]; omega
  · rw [getD_map_range _ hk, hz0 k hk hK]
end Go.Proofs.YtifokbkhcaajnaaGreat
/-
  COMPILE: fit.Compile.
-/
namespace Go.Proofs.YtifokbkhcaajnaaGreat
set_option maxRecDepth 100000
open Go.RowKit Im Go.Maps

theorem Sp.other {w : World} {b n : Nat} {g : Nat → Int × Int} (h : Sp w b n g) {p : Addr} (hp : p.block ≠ b) (u : Value) : Sp (w.setCell p u) b n g :=
  ⟨by simpa using h.lt, fun j hj => (set_other _ (fun e => hp (by rw [e]))).trans (h.c0 j hj), fun j hj => (set_other _ (fun e => hp (by rw [e]))).trans (h.c1 j hj), fun o => by simpa using h.froz o⟩
theorem owns_cap {base e size n : Nat} {w : World} {a : Option Addr} {cap : Nat} {xs : List Value} (h : w.ownsRow base e size (.slice a n cap) n xs) : n ≤ cap := by
  rcases h.2 with ⟨hv, rfl⟩ | ⟨g, c, cur, hv, _, _, hc, _⟩
  · exact Nat.zero_le _
  · injection hv with _ _ h3; omega
/-- What fit.Compile tells. -/
def ToldComp (w : World) (f : Fr) (e : Ending) (w' : World) : Prop :=
  ((frameE f = 0 ∧ ∃ v pb, e = .returned (.tuple #[.agg #[v, .slice (some ⟨pb, 0, none⟩) f.ps.length f.ps.length], .int .i64 0]) ∧ w.heap.size ≤ pb ∧ Owns (pb + 1) w' v (cOrd (gpOf f) f.ps.length) ∧ Nm w' pb f.ps.length (fun k => (cPl (gpOf f)).getD k 0)) ∨
   (frameE f ≠ 0 ∧ e = .returned (.tuple #[.agg #[.slice none 0 0, .slice none 0 0], .int .i64 (frameE f)]))) ∧ Below w.heap.size w w'
set_option maxHeartbeats 2000000 in
theorem compile_err (W H S O : Int) (a : Option Addr) (len cap : Nat) (ps : List Ps) (w : World) (hp : Passes w a len ps) (hE : frameE ⟨W, H, S, O, ps⟩ ≠ 0) :
    Calls Tryz.prog 15 #[.agg #[.int .i64 W, .int .i64 H, .int .i64 S, .int .i64 O, .slice a len cap]] w (ToldComp w ⟨W, H, S, O, ps⟩) := by
  have hb0 := below_box (below_box (Below.refl w.heap.size w) (.cells #[.int .i64 W, .int .i64 H, .int .i64 S, .int .i64 O, .slice a len cap] 24)) (.cells #[.slice none 0 0, .slice none 0 0] 27)
  have hR0 := WBox.new (w.alloc (.cells #[.int .i64 W, .int .i64 H, .int .i64 S, .int .i64 O, .slice a len cap] 24)) (.slice none 0 0) (.slice none 0 0) 27
  rw [World.size_alloc] at hR0
  have hke := kept_any W H S O a len cap ps _ (hp.below hb0)
  have HE : Hid (_) := hE
  go_enter Tryz.func15, Tryz.ntmps15
  go_wp2_with fail
  refine hke.mono ?_
  clear hke
  rintro e w1 ⟨⟨h0, _⟩ | ⟨_, rfl⟩, b1⟩
  · exact absurd h0 hE
  have hR1 := hR0.below b1 hR0.lt b1.size
  have hb1 := below_step hb0 b1
  obtain ⟨_, r0, r1, fr⟩ := id hR1
  have fr0 := fr 0
  have fr1 := fr 1
  obtain ⟨_, d0, d1, _⟩ := (hR1.put0 (.slice none 0 0)).put1 (.slice none 0 0)
  have hb2 := (hb1.setCell (p := ⟨w.heap.size + 1, 0, none⟩) (Nat.le_succ _) (.slice none 0 0)).setCell (p := ⟨w.heap.size + 1, 1, none⟩) (Nat.le_succ _) (.slice none 0 0)
  have HB : Hid (_) := hb2
  clear hb2
  go_wp2
  exact bodyPost_ret (v := .tuple #[.agg #[.slice none 0 0, .slice none 0 0], .int .i64 (frameE ⟨W, H, S, O, ps⟩)]) (by simp [results, Tryz.results15, go_sem, d0, d1]) rfl ⟨.inr ⟨HE.out, rfl⟩, HB.out⟩
/-- What is compiled, step by step: the places P, what each step is given R. -/
structure Comp (f : Fr) (z : Nat → Int) (os : List Int) (sp : Nat → Int × Int) (zs : List Sz) (P : Nat → Nat → Int) (R : Nat → Int) : Prop where
  p0 : ∀ k, P 0 k = z k
  pe : ∀ k, k < f.ps.length → P os.length k = (cPl (gpOf f)).getD k 0
  step : ∀ t, t < os.length → ∀ k, P (t + 1) k = if (os.getD t 0).toNat = k then R t else P t k
  busyE : ∀ t, t < os.length → placeE (busyF sp (fun k => areaZ (zs.getD k Sz.zero)) (P t) os t t) (areaZ (zs.getD (os.getD t 0).toNat Sz.zero)) = 0
  busyP : ∀ t, t < os.length → placeP (busyF sp (fun k => areaZ (zs.getD k Sz.zero)) (P t) os t t) (areaZ (zs.getD (os.getD t 0).toNat Sz.zero)) = R t
  pb : ∀ t, t ≤ os.length → ∀ k, -1 ≤ P t k ∧ P t k ≤ 4097
  blen : ∀ t, t < os.length → (busyF sp (fun k => areaZ (zs.getD k Sz.zero)) (P t) os t t).length ≤ 12
  inN : ∀ o ∈ os, 0 ≤ o ∧ o < f.ps.length
  ol : os.length ≤ 12
  sz : ∀ k, k < f.ps.length → (0 ≤ (zs.getD k Sz.zero).1 ∧ (zs.getD k Sz.zero).1 ≤ 16) ∧ (0 ≤ (zs.getD k Sz.zero).2 ∧ (zs.getD k Sz.zero).2 ≤ 16)
theorem comp_any {f : Fr} (hE : frameE f = 0) {z : Nat → Int} (hz : ∀ k, -1 ≤ z k ∧ z k ≤ 0) (hz0 : ∀ k, k < f.ps.length → ¬ (gpOf f).kept k = true → z k = -1) :
    ∃ P R, Comp f z (cOrd (gpOf f) f.ps.length) (spanP (gpOf f) (cOrd (gpOf f) f.ps.length)) (szs f f.ps.length) P R := by
  have hG := gp_right hE
  have hN12 : f.ps.length ≤ 12 := hG.hN.2
  have hl := cOrd_len (gpOf f) f.ps.length
  obtain ⟨hb, hf, hs⟩ := frameE_zero hE
  refine ⟨plcN (gpOf f) (cOrd (gpOf f) f.ps.length) z, fun t => placeR (busyQ (gpOf f) (cOrd (gpOf f) f.ps.length) (qsP (gpOf f) (cOrd (gpOf f) f.ps.length) t) t t) ((gpOf f).ar ((cOrd (gpOf f) f.ps.length).getD t 0).toNat), fun k => plc_zero k, fun k hk => plc_done (G := gpOf f) hz0 hk, fun t ht k => plcN_step (G := gpOf f) (cOrd_nodup _) (cOrd_in _) ht k, fun t ht => ?_, fun t ht => ?_, fun t ht k => ?_, fun t ht => ?_, cOrd_in (gpOf f), by omega, fun k hk => ?_⟩
  · have h1 := comp_busy (G := gpOf f) (z := z) (show t ≤ _ from Nat.le_of_lt ht)
    have h2 := comp_place hG ht
    rw [← h1] at h2
    exact h2
  · have h1 := comp_busy (G := gpOf f) (z := z) (show t ≤ _ from Nat.le_of_lt ht)
    have h2 := comp_placeP hG ht
    rw [← h1] at h2
    exact h2.trans (by rw [h1]; rfl)
  · have := plc_bd hG hz ht k; exact ⟨this.1, Int.le_trans this.2 (by decide)⟩
  · exact Nat.le_trans (busyF_len _ _ _ _ _ _) (by omega)
  · have := szs_bd hb hf _ (getD_mem (show k < (szs f f.ps.length).length by rw [szs_length]; exact hk) Sz.zero)
    obtain ⟨h1, h2⟩ := this
    exact ⟨⟨by omega, by omega⟩, ⟨by omega, by omega⟩⟩
set_option maxHeartbeats 4000000 in
theorem compile_ok (W H S O : Int) (a : Option Addr) (len cap : Nat) (ps : List Ps) (w : World) (hp : Passes w a len ps) (hE : frameE ⟨W, H, S, O, ps⟩ = 0) :
    Calls Tryz.prog 15 #[.agg #[.int .i64 W, .int .i64 H, .int .i64 S, .int .i64 O, .slice a len cap]] w (ToldComp w ⟨W, H, S, O, ps⟩) := by
  have hb0 := below_box (below_box (Below.refl w.heap.size w) (.cells #[.int .i64 W, .int .i64 H, .int .i64 S, .int .i64 O, .slice a len cap] 24)) (.cells #[.slice none 0 0, .slice none 0 0] 27)
  have hR0 := WBox.new (w.alloc (.cells #[.int .i64 W, .int .i64 H, .int .i64 S, .int .i64 O, .slice a len cap] 24)) (.slice none 0 0) (.slice none 0 0) 27
  have hF0 := (FBox.new w W H S O a len cap).alloc (.cells #[.slice none 0 0, .slice none 0 0] 27)
  rw [World.size_alloc] at hR0
  have hke := kept_any W H S O a len cap ps _ (hp.below hb0)
  have hG := gp_right hE
  have hC : Closed (gpOf ⟨W, H, S, O, ps⟩) := gp_closed hE
  have hN12 : ps.length ≤ 12 := hG.hN.2
  have HE : Hid (_) := hE
  go_enter Tryz.func15, Tryz.ntmps15
  go_wp2_with fail
  refine hke.mono ?_
  clear hke
  rintro e w1 ⟨⟨_, b, rfl, hbb, hBl⟩ | ⟨h0, _⟩, b1⟩
  rotate_left
  · exact absurd hE h0
  have hb1 := below_step hb0 b1
  have hF1 := hF0.below b1
  have hR1 := hR0.below b1 hR0.lt b1.size
  have hsz := sizes_any W H S O a len cap ps _ (hp.below hb1)
  obtain ⟨_, g0, g1, g2, g3, g4⟩ := id hF1
  dsimp only at hBl ⊢
  go_wp2_with fail
  refine hsz.mono ?_
  clear hsz
  rintro e w2 ⟨⟨v2, rfl, hZ⟩, b2⟩
  rw [hE, if_pos rfl] at hZ
  obtain ⟨za, zc, rfl, hZs⟩ := hZ.zs (by rw [szs_length]; omega)
  rw [szs_length] at hZs ⊢
  have hb2 := below_step hb1 b2
  have hF2 := hF1.below b2
  have hR2 := hR1.below b2 hR1.lt b2.size
  have hB2 := hBl.below b2 hBl.lt b2.size
  have hun := unplaced_any (G := gpOf ⟨W, H, S, O, ps⟩) hN12 hB2 ps.length
  have hp2 := hp.below hb2
  have hs2 : w.heap.size + 2 ≤ w2.heap.size := by have h1 := b1.size; have h2 := b2.size; rw [World.size_alloc, World.size_alloc] at h1; omega
  clear g0 g1 g2 g3 g4 hF0 hF1 hR0 hR1 hb0 hb1 b1 b2 hBl hZ hB2 hp
  obtain ⟨_, g0, g1, g2, g3, g4⟩ := id hF2
  go_wp2_with fail
  refine hun.mono ?_
  clear hun
  rintro e w3 ⟨⟨v3, pb, rfl, hpb, hpl, hO3, hN3⟩, b3⟩
  obtain ⟨P, R, hCm⟩ := comp_any hE (z := fun j => if (gpOf ⟨W, H, S, O, ps⟩).kept j = true then 0 else -1) (fun k => by split <;> omega) (fun k _ h => if_neg h)
  have hOrd : planE ⟨W, H, S, O, ps⟩ (cOrd (gpOf ⟨W, H, S, O, ps⟩) ps.length) ((List.range ps.length).map fun j => if (gpOf ⟨W, H, S, O, ps⟩).kept j = true then 0 else -1) = 0 := by
    have ho : ordB (gpOf ⟨W, H, S, O, ps⟩) (cOrd (gpOf ⟨W, H, S, O, ps⟩) ps.length) ((List.range ps.length).map fun j => if (gpOf ⟨W, H, S, O, ps⟩).kept j = true then 0 else -1) = true := ord_iff.2 (comp_ord hG hC (fun k _ h => if_neg h) (fun k _ h => if_pos h))
    unfold planE
    rw [if_pos hE, if_pos ho]
  obtain ⟨oa, oc, rfl⟩ := owns_slice hO3
  have hoc := owns_cap hO3
  have hN3' : Nm w3 pb ps.length (P 0) := hN3.congr (fun k _ => hCm.p0 k)
  have hL3 := hN3.ints (by omega)
  have HOE : Hid (∀ w', Owns (pb + 1) w' (.slice oa (cOrd (gpOf ⟨W, H, S, O, ps⟩) ps.length).length oc) (cOrd (gpOf ⟨W, H, S, O, ps⟩) ps.length) → Nm w' pb ps.length (P (cOrd (gpOf ⟨W, H, S, O, ps⟩) ps.length).length) → Below w.heap.size w w' → ToldComp w ⟨W, H, S, O, ps⟩ (.returned (.tuple #[.agg #[.slice oa (cOrd (gpOf ⟨W, H, S, O, ps⟩) ps.length).length oc, .slice (some ⟨pb, 0, none⟩) ps.length ps.length], .int .i64 0])) w') :=
    fun w' h1 h2 h3 => ⟨.inl ⟨hE, _, pb, rfl, by omega, h1, h2.congr (fun k hk => (hCm.pe k hk).symm)⟩, h3⟩
  clear hN3 hC hG hE HE
  generalize ((List.range ps.length).map fun j => if (gpOf ⟨W, H, S, O, ps⟩).kept j = true then 0 else -1) = zl at hOrd hL3
  have hspn := fun wx hp oa hO hL => spans_any W H S O a len cap ps wx hp oa (cOrd (gpOf ⟨W, H, S, O, ps⟩) ps.length).length oc (some ⟨pb, 0, none⟩) ps.length ps.length (cOrd (gpOf ⟨W, H, S, O, ps⟩) ps.length) zl hO hL
  rw [hOrd] at hspn
  generalize spanP (gpOf ⟨W, H, S, O, ps⟩) (cOrd (gpOf ⟨W, H, S, O, ps⟩) ps.length) = sp at hCm hspn
  generalize szs ⟨W, H, S, O, ps⟩ ps.length = zs at hCm hZs
  generalize cOrd (gpOf ⟨W, H, S, O, ps⟩) ps.length = os at *
  have hol := hCm.ol
  obtain ⟨oa', oc', hoe, hI3⟩ := hO3.ints (by omega)
  injection hoe with e1 _ e2
  subst e1 e2
  have bA : Below w3.heap.size w3 (w3.alloc (.cells #[.slice oa os.length oc, .slice (some ⟨pb, 0, none⟩) ps.length ps.length] 27)) := (Below.refl _ _).alloc (Nat.le_refl _) _
  have hX4 := WBox.new w3 (.slice oa os.length oc) (.slice (some ⟨pb, 0, none⟩) ps.length ps.length) 27
  have b4 := below_step b3 bA
  have hO4 := hO3.below bA (Nat.le_refl _)
  have hN4 := hN3'.below bA hN3'.lt bA.size
  have hs4 : (w3.alloc (.cells #[.slice oa os.length oc, .slice (some ⟨pb, 0, none⟩) ps.length ps.length] 27)).heap.size = w3.heap.size + 1 := by simp
  have hF4 := (hF2.below b3).below bA
  have hs4' := hspn _ (hp2.below b4) oa ((hI3.below (Nat.le_refl _) bA).mono (Nat.zero_le _)) (hL3.below (Nat.le_refl _) bA)
  have hF3 := hF2.below b3
  clear g0 g1 g2 g3 g4 hF2 hspn hp2
  obtain ⟨_, g0, g1, g2, g3, g4⟩ := id hF3
  dsimp only
  go_wp2_with fail
  refine hs4'.mono ?_
  clear hs4'
  rintro e w5 ⟨⟨_, sb, rfl, hsb, hSp⟩ | ⟨h0, _⟩, b5⟩
  rotate_left
  · exact absurd rfl h0
  rw [hs4] at hsb
  have hX5 := hX4.below b5 hX4.lt b5.size
  have hO5 := hO4.below b5 (Nat.le_refl _)
  have hN5 := hN4.below b5 hN4.lt b5.size
  have B5 := below_step b4 b5
  have hq5 : w3.heap.size + 1 ≤ w5.heap.size := by rw [← hs4]; exact b5.size
  clear g0 g1 g2 g3 g4 hF3 hF4 hX4 hO4 hN4 bA b4 hs4 b5 b3 hO3 hN3' hI3 hL3 hOrd zl
  generalize w3.heap.size = q at *
  obtain ⟨_, x0, x1, _⟩ := id hX5
  dsimp only
  go_wp2
  clear x0 x1
  have HCM : Hid (_) := hCm
  clear hCm
  go_loopw [46] (fun i wr => ∃ t : Nat, t ≤ os.length ∧ i = .int .i64 t ∧ WBox wr q (.slice oa os.length oc) (.slice (some ⟨pb, 0, none⟩) ps.length ps.length) ∧ Owns (pb + 1) wr (.slice oa os.length oc) os ∧ Nm wr pb ps.length (P t) ∧ Sp wr sb ps.length sp ∧ Below w2.heap.size w2 wr) (fun i _ => os.length - (intOf i).toNat)
  case atStart => exact ⟨0, Nat.zero_le _, rfl, hX5, hO5, hN5, hSp, B5⟩
  case round =>
    obtain ⟨t, ht, rfl, hX, hO, hN, hS, hB⟩ := hrel
    clear hX5 hO5 hN5 hSp B5
    by_cases hlt : t < os.length
    · obtain ⟨oa', oc', hoe, hI⟩ := hO.ints (by omega)
      injection hoe with e1 _ e2
      subst e1 e2
      obtain ⟨ob, oo, rfl, hox⟩ := hI.nth hlt
      have hor : 0 ≤ os.getD t 0 ∧ os.getD t 0 < (ps.length : Int) := HCM.out.inN _ (getD_mem hlt 0)
      have HST : Hid (_) := HCM.out.step t hlt
      have HBE : Hid (_) := HCM.out.busyE t hlt
      have HBP : Hid (_) := HCM.out.busyP t hlt
      have HBL : Hid (_) := HCM.out.blen t hlt
      have hZr := hZs.below hB
      have hbu := fun wx (h : Below wr.heap.size wr wx) => busyAt_any (N := ps.length) (sp := sp) (pf := P t) (zs := zs) HCM.out.inN hol HCM.out.sz (fun k _ => HCM.out.pb t ht k) hoc zc hlt ((hI.mono (Nat.zero_le _)).below (Nat.le_refl _) h) (hS.below h hS.lt h.size) (hN.below h hN.lt h.size) (hZr.below h)
      generalize os.getD t 0 = p at *
      obtain ⟨k, rfl⟩ := Int.eq_ofNat_of_zero_le hor.1
      rw [Int.toNat_natCast] at HST HBE HBP
      have hkl : k < ps.length := by omega
      have hkI : (k : Int) < (ps.length : Int) := by omega
      have hk0 : (0 : Int) ≤ (k : Int) := by omega
      have htI : (t : Int) < (os.length : Int) := by omega
      have ht0 : (0 : Int) ≤ (t : Int) := by omega
      obtain ⟨zb, zo, rfl, hzl, z0, z1⟩ := hZr.nth hkl
      have hzb := HCM.out.sz k hkl
      have hpla := fun wx (ra : Option Addr) (rc : Nat) (h : Zs wx ra (busyF sp (fun k => areaZ (zs.getD k Sz.zero)) (P t) os t t).length (busyF sp (fun k => areaZ (zs.getD k Sz.zero)) (P t) os t t)) => place_any rc h (areaZ (zs.getD k Sz.zero))
      unfold ToldPl at hpla
      rw [HBE.out, HBP.out] at hpla
      generalize busyF sp (fun k => areaZ (zs.getD k Sz.zero)) (P t) os t t = L at *
      have hnu := fun wx => fitNum_any (zs.getD k Sz.zero).1 (zs.getD k Sz.zero).2 hzb.1 hzb.2 wx
      have har : (zs.getD k Sz.zero).1 * (zs.getD k Sz.zero).2 = areaZ (zs.getD k Sz.zero) := rfl
      rw [har] at hnu
      generalize areaZ (zs.getD k Sz.zero) = ar at *
      generalize (zs.getD k Sz.zero).1 = zx at *
      generalize (zs.getD k Sz.zero).2 = zy at *
      obtain ⟨_, x0, x1, _⟩ := id hX
      have held : ∀ wx, Below wr.heap.size wr wx → wx.cell? ⟨q, 0, none⟩ = some (.slice (some ⟨ob, oo, none⟩) os.length oc) ∧ wx.cell? ⟨q, 1, none⟩ = some (.slice (some ⟨pb, 0, none⟩) ps.length ps.length) ∧ wx.cell? ⟨zb, zo + k * 2, none⟩ = some (.int .i64 zx) ∧ wx.cell? ⟨zb, zo + k * 2 + 1, none⟩ = some (.int .i64 zy) := fun wx h =>
        ⟨(h.cell (p := ⟨q, 0, none⟩) hX.lt).trans x0, (h.cell (p := ⟨q, 1, none⟩) hX.lt).trans x1, (h.cell (p := ⟨zb, zo + k * 2, none⟩) hzl).trans z0, (h.cell (p := ⟨zb, zo + k * 2 + 1, none⟩) hzl).trans z1⟩
      have hr0 := Below.refl wr.heap.size wr
      have hd := hr0.drew
      have hbL : L.length ≤ 4096 := Nat.le_trans HBL.out (by decide)
      clear HBE HBP har
      go_upto_region 14 with fail
      go_region_held3 (fun wx => wx.cell? ⟨q, 0, none⟩ = some (.slice (some ⟨ob, oo, none⟩) os.length oc) ∧ wx.cell? ⟨q, 1, none⟩ = some (.slice (some ⟨pb, 0, none⟩) ps.length ps.length) ∧ wx.cell? ⟨zb, zo + k * 2, none⟩ = some (.int .i64 zx) ∧ wx.cell? ⟨zb, zo + k * 2 + 1, none⟩ = some (.int .i64 zy))
        (first | exact held _ hr0 | exact held _ hd | exact held _ (by assumption) | exact held _ (Below.drew (by assumption)))
        (first
          | (go_at_call 38; refine (hbu _ (by first | exact hd | assumption)).mono ?_; rintro e wA ⟨⟨vA, rfl, hoA⟩, bA⟩; obtain ⟨ra, rc, rfl, hZA⟩ := OwnsS.zs hoA hbL; first | (have bAA : Below wr.heap.size wr wA := below_step hd bA) | (have bAA : Below wr.heap.size wr wA := below_step bB bA))
          | (go_at_call 39; refine (hnu _).mono ?_; rintro e wB ⟨rfl, hwB⟩; first | (have bB : Below wr.heap.size wr wB := by rw [hwB]; exact below_box hd _) | (have bBA : Below wA.heap.size wA wB := (by rw [hwB]; exact below_box (Below.refl _ _) _); have bBB : Below wr.heap.size wr wB := below_step bAA bBA; replace hZA := hZA.below bBA); clear hwB)
          | (go_at_call 37; refine (hpla _ _ _ (by first | exact hZA)).mono ?_; rintro e wP ⟨rfl, bP⟩; first | (have bPP : Below wr.heap.size wr wP := below_step bBB bP) | (have bPP : Below wr.heap.size wr wP := below_step bAA bP)))
      all_goals
        have hXP := hX.below bPP hX.lt bPP.size
        have hNP := hN.below bPP hN.lt bPP.size
        have hSP := hS.below bPP hS.lt bPP.size
        have hOP := hO.below bPP (Nat.le_refl _)
        have hBP := below_step hB bPP
        clear x0 x1 z0 z1 held hX hN hS hO hB hbu hnu hpla hoA bA bP bBA hZA
        obtain ⟨_, x0, x1, _⟩ := id hXP
        have p0 := hNP.cells k hkl
        have pf := hNP.froz k
        have hN9 : Nm (wP.setCell ⟨pb, k, none⟩ (.int .i64 (R t))) pb ps.length (P (t + 1)) := hNP.put k (R t) hkl (fun j _ => HST.out j)
        have hX9 := hXP.other (p := ⟨pb, k, none⟩) (show pb ≠ q by omega) (.int .i64 (R t))
        have hS9 := hSP.other (p := ⟨pb, k, none⟩) (show pb ≠ sb by omega) (.int .i64 (R t))
        have hO9 : Owns (pb + 1) _ _ os := ownsRow_setCell_below hOP (a := ⟨pb, k, none⟩) (Nat.lt_succ_self _) (.int .i64 (R t))
        have hB9 := hBP.setCell (p := ⟨pb, k, none⟩) hpb (.int .i64 (R t))
        have HN9 : Hid (_) := hN9
        clear hN9 hXP hSP hOP hBP hNP HST
        go_wp2
        go_roundw
        case rel => exact ⟨t + 1, by omega, by go_num, hX9, hO9, HN9.out, hS9, hB9⟩
        case measure => simp [intOf]; omega
    · have hte : t = os.length := by omega
      subst hte
      have hRr := hR2.below hB hR2.lt hB.size
      obtain ⟨_, x0, x1, _⟩ := id hX
      obtain ⟨_, r0, r1, fr⟩ := id hRr
      have fr0 := fr 0
      have fr1 := fr 1
      obtain ⟨_, d0, d1, _⟩ := (hRr.put0 (.slice oa os.length oc)).put1 (.slice (some ⟨pb, 0, none⟩) ps.length ps.length)
      have hpn : w.heap.size + 1 ≠ pb := by omega
      have T1 : Owns (pb + 1) _ _ os := ownsRow_setCell_below (ownsRow_setCell_below hO (a := ⟨w.heap.size + 1, 0, none⟩) (by show w.heap.size + 1 < pb + 1; omega) (.slice oa os.length oc)) (a := ⟨w.heap.size + 1, 1, none⟩) (by show w.heap.size + 1 < pb + 1; omega) (.slice (some ⟨pb, 0, none⟩) ps.length ps.length)
      have T2 := (hN.other (p := ⟨w.heap.size + 1, 0, none⟩) hpn (.slice oa os.length oc)).other (p := ⟨w.heap.size + 1, 1, none⟩) hpn (.slice (some ⟨pb, 0, none⟩) ps.length ps.length)
      have T3 := ((below_step hb2 hB).setCell (p := ⟨w.heap.size + 1, 0, none⟩) (Nat.le_succ _) (.slice oa os.length oc)).setCell (p := ⟨w.heap.size + 1, 1, none⟩) (Nat.le_succ _) (.slice (some ⟨pb, 0, none⟩) ps.length ps.length)
      have HT1 : Hid (_) := T1
      have HT2 : Hid (_) := T2
      have HT3 : Hid (_) := T3
      clear T1 T2 T3 hX hO hN hS hB hRr
      go_wp2
      exact bodyPost_ret (v := .tuple #[.agg #[.slice oa os.length oc, .slice (some ⟨pb, 0, none⟩) ps.length ps.length], .int .i64 0]) (by simp [results, Tryz.results15, go_sem, d0, d1]) rfl (HOE.out _ HT1.out HT2.out HT3.out)
theorem compile_any (W H S O : Int) (a : Option Addr) (len cap : Nat) (ps : List Ps) (w : World) (hp : Passes w a len ps) :
    Calls Tryz.prog 15 #[.agg #[.int .i64 W, .int .i64 H, .int .i64 S, .int .i64 O, .slice a len cap]] w (ToldComp w ⟨W, H, S, O, ps⟩) := by
  by_cases hE : frameE ⟨W, H, S, O, ps⟩ = 0
  · exact compile_ok W H S O a len cap ps w hp hE
  · exact compile_err W H S O a len cap ps w hp hE
end Go.Proofs.YtifokbkhcaajnaaGreat
/-
  LAWEXEC3: the law ExecSame.
-/
namespace Go.Proofs.YtifokbkhcaajnaaGreat
set_option maxRecDepth 100000
open Go.RowKit Im Go.Maps

theorem nm_list {w : World} {b n : Nat} {l : List Int} (h : Nm w b n (fun k => l.getD k 0)) (hl : l.length = n) (hn : n ≤ 4096) : Ints 0 w (some ⟨b, 0, none⟩) n l :=
  ⟨hl, by omega, .inr ⟨b, 0, rfl, Nat.zero_le _, h.lt, fun j hj => by rw [Nat.zero_add]; exact h.cells j hj⟩⟩
/-- The plan that is compiled. -/
abbrev cOs (f : Fr) : List Int := cOrd (gpOf f) f.ps.length
abbrev cPs (f : Fr) : List Int := cPl (gpOf f)
theorem comp_plan {f : Fr} (hE : frameE f = 0) : planE f (cOs f) (cPs f) = 0 ∧ (cPs f).length = f.ps.length := by
  have hG := gp_right hE
  have hC : Closed (gpOf f) := gp_closed hE
  have hO : Ord (gpOf f) (cOs f) (cPs f) := cPl_ord hG hC
  exact ⟨by unfold planE; rw [if_pos hE, if_pos (ord_iff.2 hO)], hO.len⟩
/-- It fits in any arena that is as great as its peak. -/
theorem comp_fits {f : Fr} (hE : frameE f = 0) (A : List Int) : execE f (cOs f) (cPs f) A = 0 ∨ (A.length : Int) < peakP f (cOs f) (cPs f) ∨ execE f (cOs f) (cPs f) A = 3 := by
  have hG := gp_right hE
  have hC : Closed (gpOf f) := gp_closed hE
  have hO : Ord (gpOf f) (cOs f) (cPs f) := cPl_ord hG hC
  obtain ⟨hp, _⟩ := comp_plan hE
  have hcl : clearP f (cOs f) (cPs f) = true := (clearT_iff hO _ _).2 (comp_clear hG hC)
  have e1 : peakP f (cOs f) (cPs f) = peakT (cOs f) (lieP (gpOf f) (cOs f) (cPs f)) (cOs f).length := by unfold peakP; rw [if_pos hp]
  by_cases h1 : (A.length : Int) < peakP f (cOs f) (cPs f)
  · exact .inr (.inl h1)
  · by_cases h2 : (A.length : Int) ≤ 4096
    · have hc : checkP f (cOs f) (cPs f) A.length = 0 := by
        rw [check_fits ⟨by omega, h2⟩ hp, if_pos ⟨by rw [← e1]; omega, hcl⟩]
      unfold execE
      rw [if_pos hc]
      by_cases hf : fineA A = true
      · rw [if_pos hf]; exact .inl rfl
      · rw [if_neg hf]; exact .inr (.inr rfl)
    · have hc : checkP f (cOs f) (cPs f) A.length = 3 := check_room hE (fun h => h2 h.2)
      unfold execE
      rw [if_neg (by rw [hc]; decide), hc]
      exact .inr (.inr rfl)
theorem runP_same {f : Fr} {os pl A : List Int} (h : execE f os pl A = 0) : runP f os pl A = renderP f := by
  obtain ⟨hC, hA⟩ := exec_zero h
  unfold runP
  rw [if_pos h, run_same (fit_of hC hA)]
theorem runP_err {f : Fr} {os pl A : List Int} : (runP f os pl A).E = execE f os pl A := by
  unfold runP
  by_cases h : execE f os pl A = 0
  · rw [if_pos h, h]; rfl
  · rw [if_neg h]; rfl
theorem renderP_E (f : Fr) : (renderP f).E = frameE f := by
  unfold renderP
  by_cases h : frameE f = 0
  · rw [if_pos h, h]
    obtain ⟨hb, hfirst, hs⟩ := frameE_zero h
    have hl : shownP f < f.ps.length := (wrt_bd f.ps f.ps.length f.O).2
    exact (pics_right hb hfirst (shownP f).toNat (by omega)).1
  · rw [if_neg h]; rfl
theorem own_room {base : Nat} {w : World} {a : Option Addr} {n c : Nat} {A : List Int} (h : Owns base w (.slice a n c) A) : n ≤ c := by
  obtain ⟨h1, h2⟩ := h
  rcases h2 with ⟨e, _⟩ | ⟨g, cap, cur, e, _, _, hc, _⟩
  · injection e with _ e2 e3
    omega
  · injection e with _ e2 e3
    omega
set_option maxHeartbeats 16000000 in
theorem execSame_any (W H S O : Int) (a : Option Addr) (len cap : Nat) (ps : List Ps) (oa : Option Addr) (olen ocap : Nat) (os : List Int) (pa : Option Addr) (plen pcap : Nat) (pl : List Int) (aa : Option Addr) (alen ac : Nat) (A : List Int) (w : World) (hp : Passes w a len ps) (hO : Ints 0 w oa olen os) (hcap : olen ≤ ocap) (hL : Ints 0 w pa plen pl) (_hac : alen ≤ ac) (hA : Ints 0 w aa alen A) :
    Calls Tryz.prog 5 #[.agg #[.int .i64 W, .int .i64 H, .int .i64 S, .int .i64 O, .slice a len cap], .agg #[.slice oa olen ocap, .slice pa plen pcap], .slice aa alen ac] w fun e w' => e = .returned (.bool true) ∧ Below w.heap.size w w' := by
  obtain rfl := hA.leng
  obtain rfl := hO.leng
  obtain rfl := hp.leng
  obtain ⟨hb0, hF0, hP0⟩ := boxes2 w W H S O a ps.length cap (.slice oa os.length ocap) (.slice pa plen pcap)
  have hre := render_any W H S O a ps.length cap ps _ (hp.below hb0)
  have hrE := renderP_E ⟨W, H, S, O, ps⟩
  have hru := fun wx (h : Below w.heap.size w wx) => run_any W H S O a ps.length cap ps wx (hp.below h) oa os.length ocap pa plen pcap os pl (hO.below (Nat.le_refl _) h) (hL.below (Nat.le_refl _) h) hcap aa A.length ac A (hA.below (Nat.le_refl _) h)
  have HSM : Hid (execE ⟨W, H, S, O, ps⟩ os pl A = 0 → runP ⟨W, H, S, O, ps⟩ os pl A = renderP ⟨W, H, S, O, ps⟩) := fun h => runP_same h
  have HSE : Hid ((runP ⟨W, H, S, O, ps⟩ os pl A).E = execE ⟨W, H, S, O, ps⟩ os pl A) := runP_err
  have HSM2 : Hid (execE ⟨W, H, S, O, ps⟩ (cOs ⟨W, H, S, O, ps⟩) (cPs ⟨W, H, S, O, ps⟩) A = 0 → runP ⟨W, H, S, O, ps⟩ (cOs ⟨W, H, S, O, ps⟩) (cPs ⟨W, H, S, O, ps⟩) A = renderP ⟨W, H, S, O, ps⟩) := fun h => runP_same h
  have HSE2 : Hid ((runP ⟨W, H, S, O, ps⟩ (cOs ⟨W, H, S, O, ps⟩) (cPs ⟨W, H, S, O, ps⟩) A).E = execE ⟨W, H, S, O, ps⟩ (cOs ⟨W, H, S, O, ps⟩) (cPs ⟨W, H, S, O, ps⟩) A) := runP_err
  have hco := fun wx (h : Below w.heap.size w wx) => compile_any W H S O a ps.length cap ps wx (hp.below h)
  have HRU2 : Hid (∀ wx, Below w.heap.size w wx → ∀ (qa : Option Addr) (qc : Nat) (ra : Option Addr) (rc : Nat), Ints 0 wx qa (cOs ⟨W, H, S, O, ps⟩).length (cOs ⟨W, H, S, O, ps⟩) → Ints 0 wx ra ps.length (cPs ⟨W, H, S, O, ps⟩) → (cOs ⟨W, H, S, O, ps⟩).length ≤ qc → Calls Tryz.prog 11 #[.agg #[.int .i64 W, .int .i64 H, .int .i64 S, .int .i64 O, .slice a ps.length cap], .agg #[.slice qa (cOs ⟨W, H, S, O, ps⟩).length qc, .slice ra ps.length rc], .slice aa A.length ac] wx (Told wx (runP ⟨W, H, S, O, ps⟩ (cOs ⟨W, H, S, O, ps⟩) (cPs ⟨W, H, S, O, ps⟩) A))) := fun wx h qa qc ra rc h1 h2 h3 => run_any W H S O a ps.length cap ps wx (hp.below h) qa _ qc ra ps.length rc _ _ h1 h2 h3 aa A.length ac A (hA.below (Nat.le_refl _) h)
  have HPK : Hid (∀ wx, Below w.heap.size w wx → ∀ (qa : Option Addr) (qc : Nat) (ra : Option Addr) (rc : Nat), Ints 0 wx qa (cOs ⟨W, H, S, O, ps⟩).length (cOs ⟨W, H, S, O, ps⟩) → Ints 0 wx ra ps.length (cPs ⟨W, H, S, O, ps⟩) → Calls Tryz.prog 16 #[.agg #[.int .i64 W, .int .i64 H, .int .i64 S, .int .i64 O, .slice a ps.length cap], .agg #[.slice qa (cOs ⟨W, H, S, O, ps⟩).length qc, .slice ra ps.length rc]] wx fun e w' => e = .returned (.tuple #[.int .i64 (peakP ⟨W, H, S, O, ps⟩ (cOs ⟨W, H, S, O, ps⟩) (cPs ⟨W, H, S, O, ps⟩)), .int .i64 (planE ⟨W, H, S, O, ps⟩ (cOs ⟨W, H, S, O, ps⟩) (cPs ⟨W, H, S, O, ps⟩))]) ∧ Below wx.heap.size wx w') := fun wx h qa qc ra rc h1 h2 => planPeak_any W H S O a ps.length cap ps wx (hp.below h) qa _ qc ra ps.length rc _ _ h1 h2
  have HCP : Hid (frameE ⟨W, H, S, O, ps⟩ = 0 → planE ⟨W, H, S, O, ps⟩ (cOs ⟨W, H, S, O, ps⟩) (cPs ⟨W, H, S, O, ps⟩) = 0 ∧ (cPs ⟨W, H, S, O, ps⟩).length = ps.length) := fun h => comp_plan h
  have HCF : Hid (frameE ⟨W, H, S, O, ps⟩ = 0 → execE ⟨W, H, S, O, ps⟩ (cOs ⟨W, H, S, O, ps⟩) (cPs ⟨W, H, S, O, ps⟩) A = 0 ∨ (A.length : Int) < peakP ⟨W, H, S, O, ps⟩ (cOs ⟨W, H, S, O, ps⟩) (cPs ⟨W, H, S, O, ps⟩) ∨ execE ⟨W, H, S, O, ps⟩ (cOs ⟨W, H, S, O, ps⟩) (cPs ⟨W, H, S, O, ps⟩) A = 3) := fun h => comp_fits h A
  generalize renderP ⟨W, H, S, O, ps⟩ = R at *
  go_enter Tryz.func5, Tryz.ntmps5
  obtain ⟨_, g0, g1, g2, g3, g4⟩ := id hF0
  go_wp2_with fail
  generalize (w.alloc (.cells #[.int .i64 W, .int .i64 H, .int .i64 S, .int .i64 O, .slice a ps.length cap] 24)).alloc (.cells #[.slice oa os.length ocap, .slice pa plen pcap] 27) = w1 at *
  refine hre.mono ?_
  clear hre g0 g1 g2 g3 g4
  rintro e w2 ⟨ia, ic, rfl, hI2, b2⟩
  have hJ2 := JBox.new w2 R.W R.H (.slice ia R.ps.length ic)
  have bA := (Below.refl w2.heap.size w2).alloc (Nat.le_refl _) (.cells #[.int .i64 R.W, .int .i64 R.H, .slice ia R.ps.length ic] 37)
  have hI3 := (hI2.mono (Nat.zero_le _)).below (Nat.le_refl _) bA
  have b13 := below_step b2 bA
  have hb3 := below_step hb0 b13
  have hF3 := hF0.below b13
  have hP3 := hP0.below b13
  rw [hrE]
  by_cases hE : frameE ⟨W, H, S, O, ps⟩ = 0
  · rw [hE]
    have hr1 := hru _ hb3
    obtain ⟨_, g0, g1, g2, g3, g4⟩ := id hF3
    obtain ⟨_, e0, e1⟩ := id hP3
    clear hI2 hF0 hP0 hru
    go_wp2_with fail
    generalize w2.alloc (.cells #[.int .i64 R.W, .int .i64 R.H, .slice ia R.ps.length ic] 37) = w3 at *
    refine hr1.mono ?_
    clear hr1 g0 g1 g2 g3 g4 e0 e1
    rintro e w4 ⟨ja, jc, rfl, hI4, b4⟩
    have hrE1 := HSE.out
    generalize hr : runP ⟨W, H, S, O, ps⟩ os pl A = r at *
    have hJ4 := JBox.new w4 r.W r.H (.slice ja r.ps.length jc)
    have bB := (Below.refl w4.heap.size w4).alloc (Nat.le_refl _) (.cells #[.int .i64 r.W, .int .i64 r.H, .slice ja r.ps.length jc] 37)
    have hI5 := (hI4.mono (Nat.zero_le _)).below (Nat.le_refl _) bB
    have b35 := below_step b4 bB
    have hb5 := below_step hb3 b35
    have hJR5 := hJ2.below b35
    have hIR5 := hI3.below (Nat.le_refl _) b35
    have hF5 := hF3.below b35
    rw [hrE1]
    have hwl2 : w2.heap.size < w4.heap.size := Nat.lt_of_lt_of_le hJ2.lt b4.size
    have HHR : Hid (_) := hr
    clear hr hI4 hI3 hJ2 hF3 hP3
    by_cases hX : execE ⟨W, H, S, O, ps⟩ os pl A = 0
    case' pos =>
      obtain rfl : r = R := HSM.out hX
      have hsi := sameImages_any r.W r.H r.W r.H jc ic hI5 hIR5
      rw [decide_eq_true ⟨rfl, rfl, rfl⟩] at hsi
      rw [hX]
      clear hX HHR HSM hrE1
      obtain ⟨_, x0, x1, x2⟩ := id hJ4
      obtain ⟨_, y0, y1, y2⟩ := id hJR5
      go_wp2_with fail
      generalize w4.alloc (.cells #[.int .i64 r.W, .int .i64 r.H, .slice ja r.ps.length jc] 37) = w5 at *
      refine hsi.mono ?_
      clear hsi x0 x1 x2 y0 y1 y2
      rintro e w6 ⟨rfl, b6⟩
      have hb6 := below_step hb5 b6
      have hJR6 := hJR5.below b6
      have hIR6 := hIR5.below (Nat.le_refl _) b6
      have hF6 := hF5.below b6
      have hcc := hco w6 hb6
      obtain ⟨_, g0, g1, g2, g3, g4⟩ := id hF6
      clear hJR5 hIR5 hF5 hI5 hJ4 hb5
      go_wp2_with fail
    case' neg =>
      have hb6 := hb5
      have hJR6 := hJR5
      have hIR6 := hIR5
      have hF6 := hF5
      have hcc := hco _ hb6
      obtain ⟨_, g0, g1, g2, g3, g4⟩ := id hF6
      clear hJR5 hIR5 hF5 hI5 hJ4 hb5 HHR HSM hrE1
      go_wp2_with fail
      generalize w4.alloc (.cells #[.int .i64 r.W, .int .i64 r.H, .slice ja r.ps.length jc] 37) = w6 at *
    all_goals
      refine hcc.mono ?_
      clear hcc g0 g1 g2 g3 g4 hco
      rintro e w7 ⟨⟨_, v, pb, rfl, hpb, hOv, hNm⟩ | ⟨h0, _⟩, b7⟩
      case' inr => exact absurd hE h0
      case inl =>
        obtain ⟨hpl, hcl⟩ := HCP.out hE
        have h12 : ps.length ≤ 12 := by
          obtain ⟨hb, _, _⟩ := frameE_zero hE
          exact (boundsE_zero hb).2.2.2.2.2
        have hol : (cOs ⟨W, H, S, O, ps⟩).length ≤ 4096 := by
          have h1 : (cOs ⟨W, H, S, O, ps⟩).length ≤ ps.length := ((planE_zero hpl).2).olen
          omega
        have hOv' : Owns (pb + 1) w7 v (cOs ⟨W, H, S, O, ps⟩) := hOv
        clear hOv
        obtain ⟨qa, qc, hv, hIq⟩ := hOv'.ints (by omega)
        subst hv
        have hqc := own_room hOv'
        have hIp : Ints 0 w7 (some ⟨pb, 0, none⟩) ps.length (cPs ⟨W, H, S, O, ps⟩) := nm_list hNm hcl (by show ps.length ≤ _; omega)
        have hNo : (cOs ⟨W, H, S, O, ps⟩) = cOrd (gpOf ⟨W, H, S, O, ps⟩) ps.length := rfl
        have hB7 := PlBox.new w7 (.slice qa (cOs ⟨W, H, S, O, ps⟩).length qc) (.slice (some ⟨pb, 0, none⟩) ps.length ps.length) 27
        have bC := (Below.refl w7.heap.size w7).alloc (Nat.le_refl _) (.cells #[.slice qa (cOs ⟨W, H, S, O, ps⟩).length qc, .slice (some ⟨pb, 0, none⟩) ps.length ps.length] 27)
        have b68 := below_step b7 bC
        have hb8 := below_step hb6 b68
        have hIq8 := (hIq.mono (Nat.zero_le _)).below (Nat.le_refl _) bC
        have hIp8 := hIp.below (Nat.le_refl _) bC
        have hJR8 := hJR6.below b68
        have hIR8 := hIR6.below (Nat.le_refl _) b68
        have hF8 := hF6.below b68
        have hr2 := HRU2.out _ hb8 qa qc (some ⟨pb, 0, none⟩) ps.length hIq8 hIp8 hqc
        have hE2 := HSE2.out
        have hCF := HCF.out hE
        have HC : Hid (_) := hCF
        obtain ⟨_, g0, g1, g2, g3, g4⟩ := id hF8
        obtain ⟨_, q0, q1⟩ := id hB7
        clear hOv' hNm hIq hIp hF6 hJR6 hIR6 hCF hcl hNo
        generalize cOs ⟨W, H, S, O, ps⟩ = qs at *
        generalize cPs ⟨W, H, S, O, ps⟩ = qp at *
        dsimp only
        go_wp2_with fail
        generalize w7.alloc (.cells #[.slice qa qs.length qc, .slice (some ⟨pb, 0, none⟩) ps.length ps.length] 27) = w8 at *
        refine hr2.mono ?_
        clear hr2 g0 g1 g2 g3 g4 q0 q1
        rintro e w9 ⟨ka, kc, rfl, hI9, b9⟩
        generalize hrr : runP ⟨W, H, S, O, ps⟩ qs qp A = r2 at *
        have HHR2 : Hid (_) := hrr
        clear hrr
        have hJ9 := JBox.new w9 r2.W r2.H (.slice ka r2.ps.length kc)
        have bD := (Below.refl w9.heap.size w9).alloc (Nat.le_refl _) (.cells #[.int .i64 r2.W, .int .i64 r2.H, .slice ka r2.ps.length kc] 37)
        have b8A := below_step b9 bD
        have hbA := below_step hb8 b8A
        have hIA := (hI9.mono (Nat.zero_le _)).below (Nat.le_refl _) bD
        have hJRA := hJR8.below b8A
        have hIRA := hIR8.below (Nat.le_refl _) b8A
        have hpk := HPK.out _ hbA qa qc (some ⟨pb, 0, none⟩) ps.length (hIq8.below (Nat.le_refl _) b8A) (hIp8.below (Nat.le_refl _) b8A)
        obtain ⟨_, g0, g1, g2, g3, g4⟩ := hF8.below b8A
        obtain ⟨_, q0, q1⟩ := hB7.below b8A
        rw [hpl] at hpk
        rw [hE2]
        clear hI9 hJR8 hIR8 hF8 hIq8 hIp8 hB7 HPK HRU2 HSE2
        go_wp2_with fail
        generalize w9.alloc (.cells #[.int .i64 r2.W, .int .i64 r2.H, .slice ka r2.ps.length kc] 37) = wA at *
        refine hpk.mono ?_
        clear hpk g0 g1 g2 g3 g4 q0 q1
        rintro e wB ⟨rfl, bE⟩
        have hbB := below_step hbA bE
        have hJB := hJ9.below bE
        have hIB := hIA.below (Nat.le_refl _) bE
        have hJRB := hJRA.below bE
        have hIRB := hIRA.below (Nat.le_refl _) bE
        clear hJ9 hIA hJRA hIRA
        by_cases hY : execE ⟨W, H, S, O, ps⟩ qs qp A = 0
        · obtain rfl : r2 = _ := HSM2.out hY
          have hsi := fun wx (h : Below wB.heap.size wB wx) => sameImages_any r2.W r2.H r2.W r2.H kc ic (hIB.below (Nat.le_refl _) h) (hIRB.below (Nat.le_refl _) h)
          rw [decide_eq_true ⟨rfl, rfl, rfl⟩] at hsi
          rw [hY]
          clear hY HC HSM2 HHR2 hE2
          go_wp2_with fail
          refine (execBegun_any _).mono ?_
          rintro e wC ⟨rfl, bF⟩
          have hbC := below_step hbB bF
          obtain ⟨_, x0, x1, x2⟩ := hJB.below bF
          obtain ⟨_, y0, y1, y2⟩ := hJRB.below bF
          have hs1 := hsi wC bF
          clear hsi hJB hJRB hIB hIRB
          go_wp2_with fail
          refine hs1.mono ?_
          clear hs1
          rintro e wD ⟨rfl, bG⟩
          have hbD := below_step hbC bG
          go_wp2
          go_ret
          exact ⟨rfl, hbD⟩
        · have hcase := HC.out
          generalize execE ⟨W, H, S, O, ps⟩ qs qp A = EE at *
          generalize peakP ⟨W, H, S, O, ps⟩ qs qp = pk at *
          clear HC HSM2 HHR2 hE2 hJB hJRB hIB hIRB
          by_cases hpA : (A.length : Int) < pk
          · clear hcase
            go_wp2_with fail
            refine (execBegun_any _).mono ?_
            rintro e wC ⟨rfl, bF⟩
            have hbC := below_step hbB bF
            go_wp2
            go_ret
            exact ⟨rfl, hbC⟩
          · have hE3 : EE = 3 := by
              rcases hcase with h | h | h
              · exact absurd h hY
              · exact absurd h hpA
              · exact h
            subst hE3
            clear hcase
            go_wp2_with fail
            refine (execBegun_any _).mono ?_
            rintro e wC ⟨rfl, bF⟩
            have hbC := below_step hbB bF
            go_wp2
            go_ret
            exact ⟨rfl, hbC⟩
  · generalize frameE ⟨W, H, S, O, ps⟩ = E at *
    clear hI2 hru hco HRU2 HPK HCP HCF HSM HSE HSM2 HSE2
    go_wp2_with fail
    refine (execBegun_any _).mono ?_
    rintro e w5 ⟨rfl, b5⟩
    have hb5 := below_step hb3 b5
    go_wp2
    go_ret
    exact ⟨rfl, hb5⟩
end Go.Proofs.YtifokbkhcaajnaaGreat
/-
  OPENL: how a list of lights that comes in as an argument is read.
-/
namespace Go.Proofs.YtifokbkhcaajnaaGreat
set_option maxRecDepth 100000
open Go.ChangeShapes Go.WideShapes Go.ChangeAt Go.RowKit Go.Joins Go.Deep

instance : Inhabited Lt := ⟨Lt.zero⟩
theorem cellsLight : Tryz.prog.cellsOf 176 = 4 := by kernel_rfl
theorem list4 {cs : List Value} (h : cs.length = 4) : ∃ c0 c1 c2 c3, cs = [c0, c1, c2, c3] := by
  match cs, h with
  | [c0, c1, c2, c3], _ => exact ⟨c0, c1, c2, c3, rfl⟩
/-- A light's four cells, read. -/
theorem light_cells {H : Type} {enc : TypeId × Value → H} {W : World} {n : Nat} {cs : List Value} {y : DataW H × List MemPlace} (h : DataW.trod enc Tryz.prog W 0 (fun _ => true) true n 176 cs = some y) :
    ∃ l : Lt, cs = [.int .i64 l.X, .int .i64 l.Y, .int .i64 l.R, .int .i64 l.P] := by
  obtain ⟨y0, y1, y2, y3, n, _, hl, h0, h1, h2, h3⟩ := trod_struct4 Tryz.underlying176 h
  rw [cellsLight] at hl
  obtain ⟨c0, c1, c2, c3, rfl⟩ := list4 hl
  simp only [cellsInt] at h0 h1 h2 h3
  obtain ⟨x0, e0, _, _⟩ := DataW.trod_int Tryz.underlying3 h0
  obtain ⟨x1, e1, _, _⟩ := DataW.trod_int Tryz.underlying3 h1
  obtain ⟨x2, e2, _, _⟩ := DataW.trod_int Tryz.underlying3 h2
  obtain ⟨x3, e3, _, _⟩ := DataW.trod_int Tryz.underlying3 h3
  simp at e0 e1 e2 e3
  subst e0 e1 e2 e3
  exact ⟨⟨x0, x1, x2, x3⟩, rfl⟩
/-- A list of lights that came in. -/
theorem lights_in {H : Type} {enc : TypeId × Value → H} {W : World} {b0 : Nat} {v : Value} {d : DataW H} {p : List MemPlace} (hv : Value.okWide Tryz.prog W .any b0 65 v) (h : DataW.Trod enc Tryz.prog W 0 (fun _ => true) true 65 v d p) :
    ∃ a len cap ls, v = .slice a len cap ∧ Lights W a len ls := by
  obtain ⟨a0, len, cap, rfl⟩ := okWide_slice Tryz.underlying65 hv
  obtain ⟨n, hn⟩ := h
  have hcs : (Value.slice a0 len cap).cells.toList = [.slice a0 len cap] := rfl
  rw [hcs] at hn
  rcases open_slice Tryz.underlying65 hn with ⟨e, _⟩ | ⟨x, l, c, m, n', D, Pl, e, _, hl, hm, hmm, _, hx⟩
  · simp at e
    obtain ⟨rfl, rfl, rfl⟩ := e
    exact ⟨none, 0, 0, [], rfl, rfl, by omega, .inl rfl⟩
  · simp at e
    obtain ⟨rfl, rfl, rfl⟩ := e
    simp at hmm
    subst hmm
    rw [cellsLight] at hx
    have each : ∀ i, i < m → ∃ lt : Lt, ∀ j, j < 4 → W.cell? (x.add (i * 4) |>.add j) = [Value.int .i64 lt.X, .int .i64 lt.Y, .int .i64 lt.R, .int .i64 lt.P][j]? := fun i hi => by
      obtain ⟨cs', h1, h2⟩ := hx i hi
      obtain ⟨lt, rfl⟩ := light_cells h2
      exact ⟨lt, (World.cells?_some h1).2.2⟩
    obtain ⟨L, hL⟩ := choose_lt each
    unfold maxLen at hm
    refine ⟨some x, len, m, (List.range len).map L, rfl, by simp, by omega, ?_⟩
    by_cases h0 : len = 0
    · subst h0; exact .inl rfl
    · right
      have h00 := hL 0 (by omega) 0 (by omega)
      obtain ⟨b, off, spot⟩ := x
      have hspot : spot = none := by simpa [Addr.add] using World.cell?_spot (h00.trans rfl)
      subst hspot
      refine ⟨b, off, rfl, ?_, fun j hj => ?_⟩
      · have := World.block_lt_of_cell? W _ (h00.trans rfl)
        simpa [Addr.add] using this
      · have g : ((List.range len).map L).getD j Lt.zero = L j := by simp [List.getD_eq_getElem?_getD, hj]
        rw [g]
        have q := hL j (by omega)
        simp only [addr_add] at q
        exact ⟨q 0 (by omega), q 1 (by omega), q 2 (by omega), q 3 (by omega)⟩
end Go.Proofs.YtifokbkhcaajnaaGreat
