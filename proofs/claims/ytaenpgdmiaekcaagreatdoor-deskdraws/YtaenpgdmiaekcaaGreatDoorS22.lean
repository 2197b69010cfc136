/- Lies, Peak, Clash, NeedMath: joined, in this order. -/
import Derived.Test.YtaenpgdmiaekcaaGreatDoorS21
import Derived.Deep.RegionHeld3
import Derived.BigQuiet
import Derived.Test.YtaenpgdmiaekcaaGreatDoorS16
/-
  LIES: plan.liesOf.
-/
namespace Go.Proofs.YtaenpgdmiaekcaaGreatDoor
set_option maxRecDepth 100000
open Go.RowKit Im Go.Maps

def areaZ (z : Sz) : Int := z.1 * z.2
def lieQ (os pl : List Int) (zs : List Sz) (k : Nat) : Int × Int := if 0 ≤ stepAt os k then (pl.getD k 0, pl.getD k 0 + areaZ (zs.getD k Sz.zero) - 1) else (0, 0)
theorem stepAt_take {os : List Int} {n : Nat} (h : n < os.length) (k : Int) : 0 ≤ stepAt (os.take (n + 1)) k ↔ 0 ≤ stepAt (os.take n) k ∨ os.getD n 0 = k := by
  rw [stepAt_mem, stepAt_mem]; exact mem_take_succ h k
theorem Sp.drew {w : World} {b n : Nat} {g : Nat → Int × Int} (h : Sp w b n g) : Sp w.drew b n g := h.below (Below.refl w.heap.size w).drew h.lt (Nat.le_refl _)
theorem Sp.alloc {w : World} {b n : Nat} {g : Nat → Int × Int} (h : Sp w b n g) (o : Obj) : Sp (w.alloc o) b n g := h.below ((Below.refl w.heap.size w).alloc (Nat.le_refl _) o) h.lt (by simp)
theorem keepZ {w : World} {b off pb i : Nat} {x0 x1 y0 : Value} (hb : b < w.heap.size) (hp : pb < w.heap.size) (e0 : w.cell? ⟨b, off, none⟩ = some x0) (e1 : w.cell? ⟨b, off + 1, none⟩ = some x1) (p0 : w.cell? ⟨pb, i, none⟩ = some y0) (o : Obj) : (w.alloc o).cell? ⟨pb, i, none⟩ = some y0 ∧ (w.alloc o).cell? ⟨b, off, none⟩ = some x0 ∧ (w.alloc o).cell? ⟨b, off + 1, none⟩ = some x1 := by
  have h := (Below.refl w.heap.size w).alloc (Nat.le_refl _) o
  exact ⟨(h.cell (p := ⟨pb, i, none⟩) hp).trans p0, (h.cell (p := ⟨b, off, none⟩) hb).trans e0, (h.cell (p := ⟨b, off + 1, none⟩) hb).trans e1⟩
theorem Ints.nth' {base : Nat} {w : World} {a : Option Addr} {len : Nat} {ps : List Int} (h : Ints base w a len ps) {k : Nat} (hk : k < len) : ∃ b off, a = some ⟨b, off, none⟩ ∧ b < w.heap.size ∧ w.cell? ⟨b, off + k, none⟩ = some (.int .i64 (ps.getD k 0)) := by
  rcases h.cells with e | ⟨b, off, ha, _, hl, hc⟩
  · have := h.leng; subst e; simp at this; omega
  · exact ⟨b, off, ha, hl, hc k hk⟩
theorem area_bd {z : Sz} (h : ZB z) : 1 ≤ areaZ z ∧ areaZ z ≤ 256 := side_mul ((side_iff _).2 h.1) ((side_iff _).2 h.2)
set_option maxHeartbeats 4000000 in
theorem liesOf_any {N : Nat} (hN : N ≤ 12) {os pl : List Int} {zs : List Sz} (hos : ∀ o ∈ os, 0 ≤ o ∧ o < N) (hol : os.length ≤ 12) (hpl : ∀ k : Nat, (k : Int) ∈ os → 0 ≤ pl.getD k 0 ∧ pl.getD k 0 ≤ 4096) (hz : ∀ z ∈ zs, ZB z)
    {a : Option Addr} {len : Nat} (cap : Nat) {base : Nat} {pa : Option Addr} (pcap : Nat) {base' : Nat} {za : Option Addr} (zcap : Nat) {w : World} (hI : Ints base w a len os) (hP : Ints base' w pa N pl) (hZ : Zs w za N zs) :
    Calls Tryz.prog 84 #[.slice a len cap, .slice pa N pcap, .slice za N zcap] w (ToldSp w N (lieQ os pl zs)) := by
  obtain rfl := hI.leng
  obtain ⟨i0, hi, hz0, hz1, hz2⟩ := info_parts Tryz.infoSpan
  have HOS : Hid (_) := hos
  have HPL : Hid (_) := hpl
  have HZB : Hid (_) := hz
  clear hos hpl hz
  go_enter Tryz.func84, Tryz.ntmps84
  go_upto_region 2 with (at_make; refine wpList_make_full _ rfl _ _ 84 rfl w.heap.size 111 i0 (.agg #[.int .i64 0, .int .i64 0]) 2 Tryz.underlying84 hi hz0 hz1 .i64 .i64 _ _ N rfl rfl (by simp) (by simp) (by rw [hz2]; omega) (by unfold maxLen; omega) (Nat.le_refl _) ?_; intro wM hown hgrow)
  have hbM : Below w.heap.size w wM := (Below.refl _ _).grown hgrow (Nat.le_refl _) (fun k hk => by cases hk)
  have hlM := (World.ownsRow.lt (w := wM) hown w.heap.size rfl).2
  have hKM := Sp.made hown hlM
  clear hown hgrow
  go_wp2
  go_loopw [17] (fun i wr => ∃ n : Nat, n ≤ os.length ∧ i = .int .i64 n ∧ Sp wr w.heap.size N (fun j => if 0 ≤ stepAt (os.take n) j then (pl.getD j 0, pl.getD j 0 + areaZ (zs.getD j Sz.zero) - 1) else (0, 0)) ∧ Below w.heap.size w wr) (fun i _ => os.length - (intOf i).toNat)
  case atStart => exact ⟨0, Nat.zero_le _, rfl, hKM.congr (fun j _ => by simp [stepAt]), hbM⟩
  case round =>
    obtain ⟨n, hn, rfl, hSp, hb⟩ := hrel
    clear hKM hbM hlM
    by_cases hlt : n < os.length
    · obtain ⟨ob, oo, rfl, hox⟩ := (hI.below (Nat.le_refl _) hb).nth hlt
      have hor := HOS.out _ (getD_mem hlt 0)
      have hom := getD_mem (l := os) hlt 0
      have HST : Hid (∀ k, 0 ≤ stepAt (os.take (n + 1)) k ↔ 0 ≤ stepAt (os.take n) k ∨ os.getD n 0 = k) := fun k => stepAt_take hlt k
      generalize os.getD n 0 = p at hox hor hom HST
      obtain ⟨q, rfl⟩ := Int.eq_ofNat_of_zero_le hor.1
      have hql : q < N := by omega
      have hqI : (q : Int) < (N : Int) := by omega
      have hpb := HPL.out q hom
      obtain ⟨pb, po, rfl, hpl, hpx⟩ := (hP.below (Nat.le_refl _) hb).nth' hql
      obtain ⟨zb, zo, rfl, hzl, z0, z1⟩ := (hZ.below hb).nth hql
      have hzb := HZB.out _ (getD_mem (l := zs) (k := q) (by rw [hZ.leng]; exact hql) Sz.zero)
      have hab := area_bd hzb
      obtain ⟨x0, d0⟩ : ∃ v, wr.cell? ⟨w.heap.size, q * 2, none⟩ = some v := ⟨_, hSp.c0 q hql⟩
      obtain ⟨x1, d1⟩ : ∃ v, wr.cell? ⟨w.heap.size, q * 2 + 1, none⟩ = some v := ⟨_, hSp.c1 q hql⟩
      have f0 := hSp.froz (q * 2)
      have f1 := hSp.froz (q * 2 + 1)
      have HS9 : Hid (Sp ((wr.setCell ⟨w.heap.size, q * 2, none⟩ (.int .i64 (pl.getD q 0))).setCell ⟨w.heap.size, q * 2 + 1, none⟩ (.int .i64 (pl.getD q 0 + areaZ (zs.getD q Sz.zero) - 1))) w.heap.size N (fun j => if 0 ≤ stepAt (os.take (n + 1)) j then (pl.getD j 0, pl.getD j 0 + areaZ (zs.getD j Sz.zero) - 1) else (0, 0))) := hSp.put q _ _ hql (fun j hj => by
        by_cases e : q = j
        · subst e; rw [if_pos rfl, if_pos ((HST.out _).2 (.inr rfl))]
        · rw [if_neg e]
          have hne : ¬ (q : Int) = (j : Int) := by omega
          by_cases h : 0 ≤ stepAt (os.take n) j
          · rw [if_pos h, if_pos ((HST.out _).2 (.inl h))]
          · rw [if_neg h, if_neg (fun h' => ((HST.out _).1 h').elim h hne)])
      have hb9 := (hb.setCell (p := ⟨w.heap.size, q * 2, none⟩) (Nat.le_refl _) (.int .i64 (pl.getD q 0))).setCell (p := ⟨w.heap.size, q * 2 + 1, none⟩) (Nat.le_refl _) (.int .i64 (pl.getD q 0 + areaZ (zs.getD q Sz.zero) - 1))
      have hsl := hSp.lt
      clear hSp
      generalize pl.getD q 0 = P at hpx hpb HS9 hb9
      unfold areaZ at hab HS9 hb9
      generalize zs.getD q Sz.zero = z at z0 z1 hzb hab HS9 hb9
      obtain ⟨zw, zh⟩ := z
      obtain ⟨⟨hw1, hw2⟩, hh1, hh2⟩ := hzb
      dsimp only at z0 z1 hab HS9 hb9 hw1 hw2 hh1 hh2
      have hk9 := keepZ hzl hpl z0 z1 hpx
      have hw1 : IntKind.i64.wrap (zw * zh) = zw * zh := by rw [IntKind.wrap_i64]; omega
      have hw2 : IntKind.i64.wrap (P + zw * zh) = P + zw * zh := by rw [IntKind.wrap_i64]; omega
      have hw3 : IntKind.i64.wrap (P + zw * zh - 1) = P + zw * zh - 1 := by rw [IntKind.wrap_i64]; omega
      go_wp2
      go_region_held3 (fun w' => w'.cell? ⟨pb, po + q, none⟩ = some (.int .i64 P) ∧ w'.cell? ⟨zb, zo + q * 2, none⟩ = some (.int .i64 zw) ∧ w'.cell? ⟨zb, zo + q * 2 + 1, none⟩ = some (.int .i64 zh))
        (first | exact ⟨hpx, z0, z1⟩ | exact hk9 _)
        (fail)
      go_wp2
      go_roundw
      case rel => exact ⟨n + 1, by omega, by go_num, (HS9.out.alloc _).drew, (below_box hb9 _).drew⟩
      case measure => simp [intOf]; omega
    · have hne : n = os.length := by omega
      subst hne
      rw [List.take_length] at hSp
      go_wp2
      go_ret
      exact ⟨⟨_, rfl, Nat.le_refl _, hSp⟩, hb⟩
end Go.Proofs.YtaenpgdmiaekcaaGreatDoor
/-
  PEAK: plan.layout's peak and floor.
-/
namespace Go.Proofs.YtaenpgdmiaekcaaGreatDoor
set_option maxRecDepth 100000
open Go.RowKit Im Go.Maps

/-- Three values in a box. -/
structure Box3 (w : World) (b : Nat) (v0 v1 v2 : Value) : Prop where
  lt : b < w.heap.size
  c0 : w.cell? ⟨b, 0, none⟩ = some v0
  c1 : w.cell? ⟨b, 1, none⟩ = some v1
  c2 : w.cell? ⟨b, 2, none⟩ = some v2
theorem Box3.below {w w' : World} {b : Nat} {v0 v1 v2 : Value} (h : Box3 w b v0 v1 v2) (hb : Below w.heap.size w w') : Box3 w' b v0 v1 v2 :=
  ⟨Nat.lt_of_lt_of_le h.lt hb.size, (hb.cell (p := ⟨b, 0, none⟩) h.lt).trans h.c0, (hb.cell (p := ⟨b, 1, none⟩) h.lt).trans h.c1, (hb.cell (p := ⟨b, 2, none⟩) h.lt).trans h.c2⟩
theorem Box3.new (w : World) (v0 v1 v2 : Value) (t : TypeId) : Box3 (w.alloc (.cells #[v0, v1, v2] t)) w.heap.size v0 v1 v2 :=
  ⟨by simp, by simp [go_sem], by simp [go_sem], by simp [go_sem]⟩
theorem peakT_bd {os : List Int} {lie : Nat → Int × Int} {N : Nat} (hos : ∀ o ∈ os, 0 ≤ o ∧ o < N) (hl : ∀ k, k < N → (lie k).2 ≤ 4352) : ∀ {n : Nat}, n ≤ os.length → 0 ≤ peakT os lie n ∧ peakT os lie n ≤ 4353
  | 0, _ => by simp [peakT]
  | n + 1, hn => by
    have ih := peakT_bd hos hl (n := n) (by omega)
    have ho := hos _ (getD_in (show n < os.length by omega))
    have := hl (os.getD n 0).toNat (by omega)
    unfold peakT
    omega
theorem max_if (a b : Int) : max a b = if a < b then b else a := by split <;> omega
set_option maxHeartbeats 1000000 in
theorem peak_nil (w : World) : Calls Tryz.prog 44 #[.agg #[.slice none 0 0, .slice none 0 0, .slice none 0 0]] w fun e w' => e = .returned (.int .i64 0) ∧ Below w.heap.size w w' := by
  go_enter Tryz.func44, Tryz.ntmps44
  go_wp2
  refine wp_loop_rounds 1 ?_
  rw [rounds_succ]
  go_wp2
  go_ret
  exact ⟨rfl, below_box (Below.refl _ _) _⟩
set_option maxHeartbeats 1000000 in
theorem peak_any {N : Nat} {os : List Int} {lie : Nat → Int × Int} (hos : ∀ o ∈ os, 0 ≤ o ∧ o < N) (hol : os.length ≤ 12) (hlie : ∀ k, k < N → 0 ≤ (lie k).2 ∧ (lie k).2 ≤ 4352) {a : Option Addr} {len : Nat} (cap : Nat) {base : Nat} (v1 : Value) {lb : Nat} {w : World} (hI : Ints base w a len os) (hS : Sp w lb N lie) :
    Calls Tryz.prog 44 #[.agg #[.slice a len cap, v1, .slice (some ⟨lb, 0, none⟩) N N]] w fun e w' => e = .returned (.int .i64 (peakT os lie os.length)) ∧ Below w.heap.size w w' := by
  obtain rfl := hI.leng
  have hB := Box3.new w (.slice a os.length cap) v1 (.slice (some ⟨lb, 0, none⟩) N N) 91
  have hb0 := below_box (Below.refl w.heap.size w) (.cells #[.slice a os.length cap, v1, .slice (some ⟨lb, 0, none⟩) N N] 91)
  have hI0 := hI.below (Nat.le_refl _) hb0
  have hS0 := hS.below hb0 hS.lt hb0.size
  have HPB : Hid (∀ n, n ≤ os.length → 0 ≤ peakT os lie n ∧ peakT os lie n ≤ 4353) := fun n hn => peakT_bd hos (fun k hk => (hlie k hk).2) hn
  have HOS : Hid (_) := hos
  have HLI : Hid (_) := hlie
  have HPS : Hid (∀ n, peakT os lie (n + 1) = if peakT os lie n < (lie (os.getD n 0).toNat).2 + 1 then (lie (os.getD n 0).toNat).2 + 1 else peakT os lie n) := fun n => max_if _ _
  clear hos hlie hS hI
  go_enter Tryz.func44, Tryz.ntmps44
  go_wp2
  generalize w.alloc (.cells #[.slice a os.length cap, v1, .slice (some ⟨lb, 0, none⟩) N N] 91) = W0 at *
  obtain ⟨_, g0, g1, g2⟩ := id hB
  go_loop [3, 9] (fun m i => ∃ n : Nat, n ≤ os.length ∧ i = .int .i64 n ∧ m = .int .i64 (peakT os lie n)) (fun _ i => os.length - (intOf i).toNat)
  case atStart => exact ⟨0, Nat.zero_le _, rfl, rfl⟩
  case round =>
    obtain ⟨n, hn, rfl, rfl⟩ := hrel
    by_cases hlt : n < os.length
    · obtain ⟨ob, oo, rfl, hox⟩ := hI0.nth hlt
      have hor := HOS.out _ (getD_mem hlt 0)
      have hpb := HPB.out n hn
      have HP1 := HPS.out n
      generalize os.getD n 0 = p at hox hor HP1
      obtain ⟨q, rfl⟩ := Int.eq_ofNat_of_zero_le hor.1
      rw [Int.toNat_natCast] at HP1
      have hql : q < N := by omega
      have hqI : (q : Int) < (N : Int) := by omega
      have hq0 : (0 : Int) ≤ (q : Int) := by omega
      have d1 := hS0.c1 q hql
      have hlb := HLI.out q hql
      generalize (lie q).2 = x at d1 hlb HP1
      generalize peakT os lie n = y at hpb HP1
      have HP2 : Hid (_) := HP1
      clear HP1
      by_cases hc : y < x + 1
      · go_wp2
        go_round
        case rel => exact ⟨n + 1, by omega, by go_num, by rw [HP2.out, if_pos hc]⟩
        case measure => simp [intOf]; omega
      · go_wp2
        go_round
        case rel => exact ⟨n + 1, by omega, by go_num, by rw [HP2.out, if_neg hc]⟩
        case measure => simp [intOf]; omega
    · have hne : n = os.length := by omega
      subst hne
      go_wp2
      go_ret
      exact ⟨rfl, hb0⟩
theorem meet_any (a b c d : Int) (w : World) : Calls Tryz.prog 171 #[.agg #[.int .i64 a, .int .i64 b], .agg #[.int .i64 c, .int .i64 d]] w fun e w' => e = .returned (.bool (meetB (a, b) (c, d))) ∧ Below w.heap.size w w' := by
  by_cases h1 : a ≤ d
  · by_cases h2 : c ≤ b
    · go_enter Tryz.func171, Tryz.ntmps171
      go_wp2
      go_ret
      exact ⟨by simp [meetB, h1, h2], below_box (below_box (Below.refl _ _) _) _⟩
    · go_enter Tryz.func171, Tryz.ntmps171
      go_wp2
      go_ret
      exact ⟨by simp [meetB, h1, h2], below_box (below_box (Below.refl _ _) _) _⟩
  · go_enter Tryz.func171, Tryz.ntmps171
    go_wp2
    go_ret
    exact ⟨by simp [meetB]; omega, below_box (below_box (Below.refl _ _) _) _⟩
end Go.Proofs.YtaenpgdmiaekcaaGreatDoor
/-
  CLASH: plan.layout's clash.
-/
namespace Go.Proofs.YtaenpgdmiaekcaaGreatDoor
set_option maxRecDepth 100000
open Go.RowKit Im Go.Maps

theorem Ints.take {base : Nat} {w : World} {a : Option Addr} {len : Nat} {ps : List Int} (h : Ints base w a len ps) {n : Nat} (hn : n ≤ len) : Ints base w a n (ps.take n) := by
  have hl := h.leng
  refine ⟨by rw [List.length_take]; omega, by have := h.big; omega, ?_⟩
  rcases h.cells with e | ⟨b, off, ha, h0, hb, hc⟩
  · subst e; exact .inl (by simp)
  · refine .inr ⟨b, off, ha, h0, hb, fun j hj => ?_⟩
    rw [hc j (by omega), List.getD_eq_getElem?_getD, List.getD_eq_getElem?_getD, List.getElem?_take_of_lt hj]
set_option maxHeartbeats 8000000 in
theorem clash_any {N : Nat} {os : List Int} {span lie : Nat → Int × Int} (hos : ∀ o ∈ os, 0 ≤ o ∧ o < N) (hol : os.length ≤ 12) {a : Option Addr} {len : Nat} (cap : Nat) (hcap : len ≤ cap) {base : Nat} {sb lb : Nat} {w : World} (hI : Ints base w a len os) (hP : Sp w sb N span) (hS : Sp w lb N lie) :
    Calls Tryz.prog 129 #[.agg #[.slice a len cap, .slice (some ⟨sb, 0, none⟩) N N, .slice (some ⟨lb, 0, none⟩) N N]] w fun e w' => e = .returned (.bool (!clearT os span lie os.length)) ∧ Below w.heap.size w w' := by
  obtain rfl := hI.leng
  have hB := Box3.new w (.slice a os.length cap) (.slice (some ⟨sb, 0, none⟩) N N) (.slice (some ⟨lb, 0, none⟩) N N) 91
  have hb0 := below_box (Below.refl w.heap.size w) (.cells #[.slice a os.length cap, .slice (some ⟨sb, 0, none⟩) N N, .slice (some ⟨lb, 0, none⟩) N N] 91)
  have hI0 := hI.below (Nat.le_refl _) hb0
  have hS0 := hS.below hb0 hS.lt hb0.size
  have hP0 := hP.below hb0 hP.lt hb0.size
  have HOS : Hid (_) := hos
  clear hos hS hI hP
  go_enter Tryz.func129, Tryz.ntmps129
  go_wp2
  generalize w.alloc (.cells #[.slice a os.length cap, .slice (some ⟨sb, 0, none⟩) N N, .slice (some ⟨lb, 0, none⟩) N N] 91) = W0 at *
  go_loopw [10] (fun i wr => ∃ n : Nat, n ≤ os.length ∧ i = .int .i64 n ∧ clearT os span lie n = true ∧ Below W0.heap.size W0 wr) (fun i _ => os.length - (intOf i).toNat)
  case atStart => exact ⟨0, Nat.zero_le _, rfl, rfl, Below.refl _ _⟩
  case round =>
    obtain ⟨n, hn, rfl, hcl, hbr⟩ := hrel
    by_cases hlt : n < os.length
    · obtain ⟨ob, oo, rfl, hox⟩ := (hI0.below (Nat.le_refl _) hbr).nth hlt
      obtain ⟨_, g0, g1, g2⟩ := hB.below hbr
      have hor := HOS.out _ (getD_mem hlt 0)
      have HA : Hid (allTo (apartT os span lie n) n = true → clearT os span lie (n + 1) = true) := fun h => allTo_succ hcl h
      have HF : Hid (allTo (apartT os span lie n) n = false → clearT os span lie os.length = false) := fun h => allTo_not hlt h
      have HP1 : Hid (∀ j, apartT os span lie n j = !(meetB (span (os.getD n 0).toNat) (span (os.getD j 0).toNat) && meetB (lie (os.getD n 0).toNat) (lie (os.getD j 0).toNat))) := fun _ => rfl
      generalize os.getD n 0 = p at hox hor HP1
      obtain ⟨q, rfl⟩ := Int.eq_ofNat_of_zero_le hor.1
      rw [Int.toNat_natCast] at HP1
      have hql : q < N := by omega
      have hqI : (q : Int) < (N : Int) := by omega
      have hq0 : (0 : Int) ≤ (q : Int) := by omega
      have hn0 : (0 : Int) ≤ (n : Int) := by omega
      have hnc : (n : Int) ≤ (cap : Int) := by omega
      clear hcl
      go_wp2
      go_loopw [20] (fun i ws => ∃ m : Nat, m ≤ n ∧ i = .int .i64 m ∧ allTo (apartT os span lie n) m = true ∧ Below W0.heap.size W0 ws) (fun i _ => n - (intOf i).toNat)
      case atStart => exact ⟨0, Nat.zero_le _, rfl, rfl, hbr⟩
      case round =>
        obtain ⟨m, hm, rfl, hal, hbs⟩ := hrel
        clear g0 g1 g2 hox hbr
        by_cases hlm : m < n
        · obtain ⟨_, g0, g1, g2⟩ := hB.below hbs
          obtain ⟨ob', oo', he, hox⟩ := (hI0.below (Nat.le_refl _) hbs).nth (show m < os.length by omega)
          injection he with he
          injection he with he1 he2
          subst he1 he2
          have hor2 := HOS.out _ (getD_mem (show m < os.length by omega) 0)
          have HA1 : Hid (apartT os span lie n m = true → allTo (apartT os span lie n) (m + 1) = true) := fun h => allTo_succ hal h
          have HF1 : Hid (apartT os span lie n m = false → allTo (apartT os span lie n) n = false) := fun h => allTo_not hlm h
          have HP2 := HP1.out m
          generalize os.getD m 0 = p at hox hor2 HP2
          obtain ⟨z, rfl⟩ := Int.eq_ofNat_of_zero_le hor2.1
          rw [Int.toNat_natCast] at HP2
          have hzl : z < N := by omega
          have hzI : (z : Int) < (N : Int) := by omega
          have hz0 : (0 : Int) ≤ (z : Int) := by omega
          have hPr := hP0.below hbs hP0.lt hbs.size
          have hSr := hS0.below hbs hS0.lt hbs.size
          have a0 := hPr.c0 q hql
          have a1 := hPr.c1 q hql
          have c0 := hPr.c0 z hzl
          have c1 := hPr.c1 z hzl
          have e0 := hSr.c0 q hql
          have e1 := hSr.c1 q hql
          have f0 := hSr.c0 z hzl
          have f1 := hSr.c1 z hzl
          have lsb := hPr.lt
          have llb := hSr.lt
          have lwb := (hB.below hbs).lt
          obtain ⟨r1, hr1⟩ : ∃ r, r = meetB (span q) (span z) := ⟨_, rfl⟩
          obtain ⟨r2, hr2⟩ : ∃ r, r = meetB (lie q) (lie z) := ⟨_, rfl⟩
          have hme := fun wx => meet_any (span q).1 (span q).2 (span z).1 (span z).2 wx
          have hme2 := fun wx => meet_any (lie q).1 (lie q).2 (lie z).1 (lie z).2 wx
          rw [show meetB ((span q).1, (span q).2) ((span z).1, (span z).2) = r1 from hr1.symm] at hme
          rw [show meetB ((lie q).1, (lie q).2) ((lie z).1, (lie z).2) = r2 from hr2.symm] at hme2
          rw [← hr1, ← hr2] at HP2
          have HP3 : Hid (_) := HP2
          clear hr1 hr2 hPr hSr HP2 hal
          generalize (span q).1 = s1 at a0 hme
          generalize (span q).2 = s2 at a1 hme
          generalize (span z).1 = t1 at c0 hme
          generalize (span z).2 = t2 at c1 hme
          generalize (lie q).1 = x1 at e0 hme2
          generalize (lie q).2 = x2 at e1 hme2
          generalize (lie z).1 = y1 at f0 hme2
          generalize (lie z).2 = y2 at f1 hme2
          cases r1 with
          | false =>
            clear e0 e1 f0 f1 hme2
            have kp : ∀ w', Below wr.heap.size wr w' → Below wr.heap.size wr w' ∧ w'.cell? ⟨w.heap.size, 1, none⟩ = some (.slice (some ⟨sb, 0, none⟩) N N) ∧ w'.cell? ⟨sb, q * 2, none⟩ = some (.int .i64 s1) ∧ w'.cell? ⟨sb, q * 2 + 1, none⟩ = some (.int .i64 s2) ∧ w'.cell? ⟨sb, z * 2, none⟩ = some (.int .i64 t1) ∧ w'.cell? ⟨sb, z * 2 + 1, none⟩ = some (.int .i64 t2) := fun w' h => ⟨h, (h.cell (p := ⟨w.heap.size, 1, none⟩) lwb).trans g1, (h.cell (p := ⟨sb, q * 2, none⟩) lsb).trans a0, (h.cell (p := ⟨sb, q * 2 + 1, none⟩) lsb).trans a1, (h.cell (p := ⟨sb, z * 2, none⟩) lsb).trans c0, (h.cell (p := ⟨sb, z * 2 + 1, none⟩) lsb).trans c1⟩
            go_wp2
            refine wp_region_held_drew (S := (fun w' => Below wr.heap.size wr w' ∧ w'.cell? ⟨w.heap.size, 1, none⟩ = some (.slice (some ⟨sb, 0, none⟩) N N) ∧ w'.cell? ⟨sb, q * 2, none⟩ = some (.int .i64 s1) ∧ w'.cell? ⟨sb, q * 2 + 1, none⟩ = some (.int .i64 s2) ∧ w'.cell? ⟨sb, z * 2, none⟩ = some (.int .i64 t1) ∧ w'.cell? ⟨sb, z * 2 + 1, none⟩ = some (.int .i64 t2))) (by kernel_rfl) (kp _ (Below.refl _ _).drew) (fun hHeld => ?_)
            refine wpAnyH_take (i := 0) (oi := { dst := some 24, op := Go.Op.fieldAddr 91 (Go.Operand.tmp 1) 1, type := 0, pos := "layout.go:99", after := #[], guard := none }) (v := .pointer (some ⟨w.heap.size, 1, none⟩)) rfl (by kernel_rfl) (by kernel_rfl) (by kernel_rfl) (fun _ _ _ h => h) (Or.inl ⟨by rfl, fun wz hSw => ?_⟩) hHeld ?_
            · obtain ⟨_, r0, r1, r2, r3, r4⟩ := hSw
              go_simp
            simp only [Act.put, List.setIfInBounds_toArray, List.set_cons_zero, List.set_cons_succ]
            refine wpAnyH_take (i := 1) (oi := { dst := some 25, op := Go.Op.load 84 (Go.Operand.tmp 24), type := 84, pos := "layout.go:99", after := #[{ on := 0, ground := Go.Ground.data }], guard := none }) (v := .slice (some ⟨sb, 0, none⟩) N N) rfl (by kernel_rfl) (by kernel_rfl) (by kernel_rfl) (fun _ _ _ h => h) (Or.inl ⟨by rfl, fun wz hSw => ?_⟩) hHeld ?_
            · obtain ⟨_, r0, r1, r2, r3, r4⟩ := hSw
              go_simp
            simp only [Act.put, List.setIfInBounds_toArray, List.set_cons_zero, List.set_cons_succ]
            refine wpAnyH_take (i := 2) (oi := { dst := some 26, op := Go.Op.move (Go.Operand.tmp 4), type := 3, pos := "layout.go:99", after := #[], guard := none }) (v := .int .i64 q) rfl (by kernel_rfl) (by kernel_rfl) (by kernel_rfl) (fun _ _ _ h => h) (Or.inl ⟨by rfl, fun wz hSw => ?_⟩) hHeld ?_
            · obtain ⟨_, r0, r1, r2, r3, r4⟩ := hSw
              go_simp
            simp only [Act.put, List.setIfInBounds_toArray, List.set_cons_zero, List.set_cons_succ]
            refine wpAnyH_take (i := 3) (oi := { dst := some 27, op := Go.Op.indexAddr 84 (Go.Operand.tmp 25) (Go.Operand.tmp 26), type := 0, pos := "layout.go:99", after := #[{ on := 1, ground := Go.Ground.data }, { on := 2, ground := Go.Ground.data }], guard := none }) (v := .pointer (some ⟨sb, q * 2, none⟩)) rfl (by kernel_rfl) (by kernel_rfl) (by kernel_rfl) (fun _ _ _ h => h) (Or.inl ⟨by rfl, fun wz hSw => ?_⟩) hHeld ?_
            · obtain ⟨_, r0, r1, r2, r3, r4⟩ := hSw
              go_simp
            simp only [Act.put, List.setIfInBounds_toArray, List.set_cons_zero, List.set_cons_succ]
            refine wpAnyH_take (i := 4) (oi := { dst := some 28, op := Go.Op.load 111 (Go.Operand.tmp 27), type := 111, pos := "layout.go:99", after := #[{ on := 3, ground := Go.Ground.data }], guard := none }) (v := .agg #[.int .i64 s1, .int .i64 s2]) rfl (by kernel_rfl) (by kernel_rfl) (by kernel_rfl) (fun _ _ _ h => h) (Or.inl ⟨by rfl, fun wz hSw => ?_⟩) hHeld ?_
            · obtain ⟨_, r0, r1, r2, r3, r4⟩ := hSw
              go_simp
            simp only [Act.put, List.setIfInBounds_toArray, List.set_cons_zero, List.set_cons_succ]
            refine wpAnyH_take (i := 5) (oi := { dst := some 29, op := Go.Op.fieldAddr 91 (Go.Operand.tmp 1) 1, type := 0, pos := "layout.go:99", after := #[], guard := none }) (v := .pointer (some ⟨w.heap.size, 1, none⟩)) rfl (by kernel_rfl) (by kernel_rfl) (by kernel_rfl) (fun _ _ _ h => h) (Or.inl ⟨by rfl, fun wz hSw => ?_⟩) hHeld ?_
            · obtain ⟨_, r0, r1, r2, r3, r4⟩ := hSw
              go_simp
            simp only [Act.put, List.setIfInBounds_toArray, List.set_cons_zero, List.set_cons_succ]
            refine wpAnyH_take (i := 6) (oi := { dst := some 30, op := Go.Op.load 84 (Go.Operand.tmp 29), type := 84, pos := "layout.go:99", after := #[{ on := 5, ground := Go.Ground.data }], guard := none }) (v := .slice (some ⟨sb, 0, none⟩) N N) rfl (by kernel_rfl) (by kernel_rfl) (by kernel_rfl) (fun _ _ _ h => h) (Or.inl ⟨by rfl, fun wz hSw => ?_⟩) hHeld ?_
            · obtain ⟨_, r0, r1, r2, r3, r4⟩ := hSw
              go_simp
            simp only [Act.put, List.setIfInBounds_toArray, List.set_cons_zero, List.set_cons_succ]
            refine wpAnyH_take (i := 7) (oi := { dst := some 31, op := Go.Op.move (Go.Operand.tmp 6), type := 3, pos := "layout.go:99", after := #[], guard := none }) (v := .int .i64 z) rfl (by kernel_rfl) (by kernel_rfl) (by kernel_rfl) (fun _ _ _ h => h) (Or.inl ⟨by rfl, fun wz hSw => ?_⟩) hHeld ?_
            · obtain ⟨_, r0, r1, r2, r3, r4⟩ := hSw
              go_simp
            simp only [Act.put, List.setIfInBounds_toArray, List.set_cons_zero, List.set_cons_succ]
            refine wpAnyH_take (i := 8) (oi := { dst := some 32, op := Go.Op.indexAddr 84 (Go.Operand.tmp 30) (Go.Operand.tmp 31), type := 0, pos := "layout.go:99", after := #[{ on := 6, ground := Go.Ground.data }, { on := 7, ground := Go.Ground.data }], guard := none }) (v := .pointer (some ⟨sb, z * 2, none⟩)) rfl (by kernel_rfl) (by kernel_rfl) (by kernel_rfl) (fun _ _ _ h => h) (Or.inl ⟨by rfl, fun wz hSw => ?_⟩) hHeld ?_
            · obtain ⟨_, r0, r1, r2, r3, r4⟩ := hSw
              go_simp
            simp only [Act.put, List.setIfInBounds_toArray, List.set_cons_zero, List.set_cons_succ]
            refine wpAnyH_take (i := 9) (oi := { dst := some 33, op := Go.Op.load 111 (Go.Operand.tmp 32), type := 111, pos := "layout.go:99", after := #[{ on := 8, ground := Go.Ground.data }], guard := none }) (v := .agg #[.int .i64 t1, .int .i64 t2]) rfl (by kernel_rfl) (by kernel_rfl) (by kernel_rfl) (fun _ _ _ h => h) (Or.inl ⟨by rfl, fun wz hSw => ?_⟩) hHeld ?_
            · obtain ⟨_, r0, r1, r2, r3, r4⟩ := hSw
              go_simp
            simp only [Act.put, List.setIfInBounds_toArray, List.set_cons_zero, List.set_cons_succ]
            refine wpAnyH_ready (rs := [10]) (by kernel_rfl) (by simp) ?_
            refine AllReadyH.cons (o := { dst := some 34, op := Go.Op.call { callee := Go.Callee.value (Go.Operand.func 171), args := #[Go.Operand.tmp 28, Go.Operand.tmp 33], argTypes := #[111, 111] }, type := 4, pos := "layout.go:99", after := #[{ on := 4, ground := Go.Ground.data }, { on := 9, ground := Go.Ground.data }], guard := none }) rfl (fun K hK => ?_) AllReadyH.nil
            rw [if_pos (by rfl)]
            go_simp
            go_at_call 171
            refine (hme _).mono ?_
            rintro e w2 ⟨rfl, b2⟩
            go_simp
            have b3 : Below wr.heap.size wr w2 := ((Below.refl wr.heap.size wr).drew).trans b2
            have hk := kp w2 b3
            refine hK.out _ _ hk (fun hHeld2 => ?_)
            clear hK K
            refine wpAnyH_take (i := 11) (oi := { dst := some 35, op := Go.Op.move (Go.Operand.tmp 34), type := 4, pos := "layout.go:99", after := #[{ on := 10, ground := Go.Ground.data }, { on := 10, ground := Go.Ground.chain }], guard := none }) (v := .bool false) rfl (by kernel_rfl) (by kernel_rfl) (by kernel_rfl) (fun _ _ _ h => h) (Or.inl ⟨by rfl, fun wz hSw => ?_⟩) hHeld2 ?_
            · obtain ⟨_, r0, r1, r2, r3, r4⟩ := hSw
              go_simp
            simp only [Act.put, List.setIfInBounds_toArray, List.set_cons_zero, List.set_cons_succ]
            refine wpAnyH_take (i := 12) (oi := { dst := some 36, op := Go.Op.fieldAddr 91 (Go.Operand.tmp 1) 2, type := 0, pos := "layout.go:99", after := #[{ on := 11, ground := Go.Ground.guard }], guard := some (11, true) }) (v := undef) rfl (by kernel_rfl) (by kernel_rfl) (by kernel_rfl) (fun _ _ _ h => h) (Or.inr ⟨by rfl, rfl⟩) hHeld2 ?_
            simp only [Act.put, List.setIfInBounds_toArray, List.set_cons_zero, List.set_cons_succ]
            refine wpAnyH_take (i := 13) (oi := { dst := some 37, op := Go.Op.load 84 (Go.Operand.tmp 36), type := 84, pos := "layout.go:99", after := #[{ on := 12, ground := Go.Ground.data }, { on := 11, ground := Go.Ground.guard }], guard := some (11, true) }) (v := undef) rfl (by kernel_rfl) (by kernel_rfl) (by kernel_rfl) (fun _ _ _ h => h) (Or.inr ⟨by rfl, rfl⟩) hHeld2 ?_
            simp only [Act.put, List.setIfInBounds_toArray, List.set_cons_zero, List.set_cons_succ]
            refine wpAnyH_take (i := 14) (oi := { dst := some 38, op := Go.Op.move (Go.Operand.tmp 4), type := 3, pos := "layout.go:99", after := #[{ on := 11, ground := Go.Ground.guard }], guard := some (11, true) }) (v := undef) rfl (by kernel_rfl) (by kernel_rfl) (by kernel_rfl) (fun _ _ _ h => h) (Or.inr ⟨by rfl, rfl⟩) hHeld2 ?_
            simp only [Act.put, List.setIfInBounds_toArray, List.set_cons_zero, List.set_cons_succ]
            refine wpAnyH_take (i := 15) (oi := { dst := some 39, op := Go.Op.indexAddr 84 (Go.Operand.tmp 37) (Go.Operand.tmp 38), type := 0, pos := "layout.go:99", after := #[{ on := 13, ground := Go.Ground.data }, { on := 14, ground := Go.Ground.data }, { on := 11, ground := Go.Ground.guard }], guard := some (11, true) }) (v := undef) rfl (by kernel_rfl) (by kernel_rfl) (by kernel_rfl) (fun _ _ _ h => h) (Or.inr ⟨by rfl, rfl⟩) hHeld2 ?_
            simp only [Act.put, List.setIfInBounds_toArray, List.set_cons_zero, List.set_cons_succ]
            refine wpAnyH_take (i := 16) (oi := { dst := some 40, op := Go.Op.load 111 (Go.Operand.tmp 39), type := 111, pos := "layout.go:99", after := #[{ on := 15, ground := Go.Ground.data }, { on := 11, ground := Go.Ground.guard }], guard := some (11, true) }) (v := undef) rfl (by kernel_rfl) (by kernel_rfl) (by kernel_rfl) (fun _ _ _ h => h) (Or.inr ⟨by rfl, rfl⟩) hHeld2 ?_
            simp only [Act.put, List.setIfInBounds_toArray, List.set_cons_zero, List.set_cons_succ]
            refine wpAnyH_take (i := 17) (oi := { dst := some 41, op := Go.Op.fieldAddr 91 (Go.Operand.tmp 1) 2, type := 0, pos := "layout.go:99", after := #[{ on := 11, ground := Go.Ground.guard }], guard := some (11, true) }) (v := undef) rfl (by kernel_rfl) (by kernel_rfl) (by kernel_rfl) (fun _ _ _ h => h) (Or.inr ⟨by rfl, rfl⟩) hHeld2 ?_
            simp only [Act.put, List.setIfInBounds_toArray, List.set_cons_zero, List.set_cons_succ]
            refine wpAnyH_take (i := 18) (oi := { dst := some 42, op := Go.Op.load 84 (Go.Operand.tmp 41), type := 84, pos := "layout.go:99", after := #[{ on := 17, ground := Go.Ground.data }, { on := 11, ground := Go.Ground.guard }], guard := some (11, true) }) (v := undef) rfl (by kernel_rfl) (by kernel_rfl) (by kernel_rfl) (fun _ _ _ h => h) (Or.inr ⟨by rfl, rfl⟩) hHeld2 ?_
            simp only [Act.put, List.setIfInBounds_toArray, List.set_cons_zero, List.set_cons_succ]
            refine wpAnyH_take (i := 19) (oi := { dst := some 43, op := Go.Op.move (Go.Operand.tmp 6), type := 3, pos := "layout.go:99", after := #[{ on := 11, ground := Go.Ground.guard }], guard := some (11, true) }) (v := undef) rfl (by kernel_rfl) (by kernel_rfl) (by kernel_rfl) (fun _ _ _ h => h) (Or.inr ⟨by rfl, rfl⟩) hHeld2 ?_
            simp only [Act.put, List.setIfInBounds_toArray, List.set_cons_zero, List.set_cons_succ]
            refine wpAnyH_take (i := 20) (oi := { dst := some 44, op := Go.Op.indexAddr 84 (Go.Operand.tmp 42) (Go.Operand.tmp 43), type := 0, pos := "layout.go:99", after := #[{ on := 18, ground := Go.Ground.data }, { on := 19, ground := Go.Ground.data }, { on := 11, ground := Go.Ground.guard }], guard := some (11, true) }) (v := undef) rfl (by kernel_rfl) (by kernel_rfl) (by kernel_rfl) (fun _ _ _ h => h) (Or.inr ⟨by rfl, rfl⟩) hHeld2 ?_
            simp only [Act.put, List.setIfInBounds_toArray, List.set_cons_zero, List.set_cons_succ]
            refine wpAnyH_take (i := 21) (oi := { dst := some 45, op := Go.Op.load 111 (Go.Operand.tmp 44), type := 111, pos := "layout.go:99", after := #[{ on := 20, ground := Go.Ground.data }, { on := 11, ground := Go.Ground.guard }], guard := some (11, true) }) (v := undef) rfl (by kernel_rfl) (by kernel_rfl) (by kernel_rfl) (fun _ _ _ h => h) (Or.inr ⟨by rfl, rfl⟩) hHeld2 ?_
            simp only [Act.put, List.setIfInBounds_toArray, List.set_cons_zero, List.set_cons_succ]
            refine wpAnyH_take (i := 22) (oi := { dst := some 46, op := Go.Op.call { callee := Go.Callee.value (Go.Operand.func 171), args := #[Go.Operand.tmp 40, Go.Operand.tmp 45], argTypes := #[111, 111] }, type := 4, pos := "layout.go:99", after := #[{ on := 16, ground := Go.Ground.data }, { on := 21, ground := Go.Ground.data }, { on := 11, ground := Go.Ground.chain }, { on := 11, ground := Go.Ground.guard }], guard := some (11, true) }) (v := undef) rfl (by kernel_rfl) (by kernel_rfl) (by kernel_rfl) (fun _ _ _ h => h) (Or.inr ⟨by rfl, rfl⟩) hHeld2 ?_
            simp only [Act.put, List.setIfInBounds_toArray, List.set_cons_zero, List.set_cons_succ]
            refine wpAnyH_take (i := 23) (oi := { dst := some 47, op := Go.Op.pick (Go.Operand.tmp 35) (Go.Operand.tmp 46) (Go.Operand.const (Go.Value.bool false)), type := 4, pos := "layout.go:99", after := #[{ on := 11, ground := Go.Ground.data }, { on := 22, ground := Go.Ground.data }], guard := none }) (v := .bool false) rfl (by kernel_rfl) (by kernel_rfl) (by kernel_rfl) (fun _ _ _ h => h) (Or.inl ⟨by rfl, fun wz hSw => ?_⟩) hHeld2 ?_
            · obtain ⟨_, r0, r1, r2, r3, r4⟩ := hSw
              go_simp
            simp only [Act.put, List.setIfInBounds_toArray, List.set_cons_zero, List.set_cons_succ]
            refine wpAnyH_done (by kernel_rfl) ?_ _
            go_wp2
            go_roundw
            case rel => exact ⟨m + 1, by omega, by go_num, HA1.out (by rw [HP3.out]; rfl), hbs.trans (b3.mono hbs.size)⟩
            case measure => simp [intOf]; omega
          | true =>
            have kp : ∀ w', Below wr.heap.size wr w' → Below wr.heap.size wr w' ∧ w'.cell? ⟨w.heap.size, 1, none⟩ = some (.slice (some ⟨sb, 0, none⟩) N N) ∧ w'.cell? ⟨sb, q * 2, none⟩ = some (.int .i64 s1) ∧ w'.cell? ⟨sb, q * 2 + 1, none⟩ = some (.int .i64 s2) ∧ w'.cell? ⟨sb, z * 2, none⟩ = some (.int .i64 t1) ∧ w'.cell? ⟨sb, z * 2 + 1, none⟩ = some (.int .i64 t2) ∧ w'.cell? ⟨w.heap.size, 2, none⟩ = some (.slice (some ⟨lb, 0, none⟩) N N) ∧ w'.cell? ⟨lb, q * 2, none⟩ = some (.int .i64 x1) ∧ w'.cell? ⟨lb, q * 2 + 1, none⟩ = some (.int .i64 x2) ∧ w'.cell? ⟨lb, z * 2, none⟩ = some (.int .i64 y1) ∧ w'.cell? ⟨lb, z * 2 + 1, none⟩ = some (.int .i64 y2) := fun w' h => ⟨h, (h.cell (p := ⟨w.heap.size, 1, none⟩) lwb).trans g1, (h.cell (p := ⟨sb, q * 2, none⟩) lsb).trans a0, (h.cell (p := ⟨sb, q * 2 + 1, none⟩) lsb).trans a1, (h.cell (p := ⟨sb, z * 2, none⟩) lsb).trans c0, (h.cell (p := ⟨sb, z * 2 + 1, none⟩) lsb).trans c1, (h.cell (p := ⟨w.heap.size, 2, none⟩) lwb).trans g2, (h.cell (p := ⟨lb, q * 2, none⟩) llb).trans e0, (h.cell (p := ⟨lb, q * 2 + 1, none⟩) llb).trans e1, (h.cell (p := ⟨lb, z * 2, none⟩) llb).trans f0, (h.cell (p := ⟨lb, z * 2 + 1, none⟩) llb).trans f1⟩
            have hd := (Below.refl wr.heap.size wr).drew
            cases r2 with
            | false =>
              go_wp2
              go_region_held3 (fun w' => Below wr.heap.size wr w' ∧ w'.cell? ⟨w.heap.size, 1, none⟩ = some (.slice (some ⟨sb, 0, none⟩) N N) ∧ w'.cell? ⟨sb, q * 2, none⟩ = some (.int .i64 s1) ∧ w'.cell? ⟨sb, q * 2 + 1, none⟩ = some (.int .i64 s2) ∧ w'.cell? ⟨sb, z * 2, none⟩ = some (.int .i64 t1) ∧ w'.cell? ⟨sb, z * 2 + 1, none⟩ = some (.int .i64 t2) ∧ w'.cell? ⟨w.heap.size, 2, none⟩ = some (.slice (some ⟨lb, 0, none⟩) N N) ∧ w'.cell? ⟨lb, q * 2, none⟩ = some (.int .i64 x1) ∧ w'.cell? ⟨lb, q * 2 + 1, none⟩ = some (.int .i64 x2) ∧ w'.cell? ⟨lb, z * 2, none⟩ = some (.int .i64 y1) ∧ w'.cell? ⟨lb, z * 2 + 1, none⟩ = some (.int .i64 y2))
                (first | exact kp _ hd | exact kp _ (hd.trans b2) | exact kp _ (below_step (hd.trans b2) b3))
                (first | (go_at_call 171; (with_reducible refine (hme _).mono ?_); rintro e w2 ⟨rfl, b2⟩) | (go_at_call 171; (with_reducible refine (hme2 _).mono ?_); rintro e w3 ⟨rfl, b3⟩))
              go_wp2
              go_roundw
              case rel => exact ⟨m + 1, by omega, by go_num, HA1.out (by rw [HP3.out]; rfl), hbs.trans ((below_step (hd.trans b2) b3).mono hbs.size)⟩
              case measure => simp [intOf]; omega
            | true =>
              go_wp2
              go_region_held3 (fun w' => Below wr.heap.size wr w' ∧ w'.cell? ⟨w.heap.size, 1, none⟩ = some (.slice (some ⟨sb, 0, none⟩) N N) ∧ w'.cell? ⟨sb, q * 2, none⟩ = some (.int .i64 s1) ∧ w'.cell? ⟨sb, q * 2 + 1, none⟩ = some (.int .i64 s2) ∧ w'.cell? ⟨sb, z * 2, none⟩ = some (.int .i64 t1) ∧ w'.cell? ⟨sb, z * 2 + 1, none⟩ = some (.int .i64 t2) ∧ w'.cell? ⟨w.heap.size, 2, none⟩ = some (.slice (some ⟨lb, 0, none⟩) N N) ∧ w'.cell? ⟨lb, q * 2, none⟩ = some (.int .i64 x1) ∧ w'.cell? ⟨lb, q * 2 + 1, none⟩ = some (.int .i64 x2) ∧ w'.cell? ⟨lb, z * 2, none⟩ = some (.int .i64 y1) ∧ w'.cell? ⟨lb, z * 2 + 1, none⟩ = some (.int .i64 y2))
                (first | exact kp _ hd | exact kp _ (hd.trans b2) | exact kp _ (below_step (hd.trans b2) b3))
                (first | (go_at_call 171; (with_reducible refine (hme _).mono ?_); rintro e w2 ⟨rfl, b2⟩) | (go_at_call 171; (with_reducible refine (hme2 _).mono ?_); rintro e w3 ⟨rfl, b3⟩))
              go_wp2
              go_ret
              exact ⟨by rw [HF.out (HF1.out (by rw [HP3.out]; rfl))]; rfl, below_step hb0 (hbs.trans ((below_step (hd.trans b2) b3).mono hbs.size))⟩
        · have hme : m = n := by omega
          subst hme
          go_wp2
          go_roundw
          case rel => exact ⟨m + 1, by omega, by go_num, HA.out hal, hbs⟩
          case measure => simp [intOf]; omega
    · have hne : n = os.length := by omega
      subst hne
      go_wp2
      go_ret
      exact ⟨by rw [hcl]; rfl, below_step hb0 hbr⟩
end Go.Proofs.YtaenpgdmiaekcaaGreatDoor
/-
  NEEDMATH: numbers and lists alone: which passes are needed, and that what is shown does not hang on the others.
-/
namespace Go.Proofs.YtaenpgdmiaekcaaGreatDoor
set_option maxRecDepth 100000
open Go.RowKit Im

/-- Each pass takes what earlier ones made. -/
def SrcOk (ps : List Ps) (n : Nat) : Prop := ∀ m, m < n → ∀ i ∈ srcOf ps m, 0 ≤ i ∧ i < m
theorem srcOk_of {f : Fr} (hE : frameE f = 0) : SrcOk f.ps f.ps.length := fun m hm => by
  obtain ⟨_, hfirst, _⟩ := frameE_zero hE
  have hfk := firstE_down f hfirst (k := m) (by omega)
  have hpE : passE f m = 0 := (firstE_at f hfk).symm.trans (firstE_down f hfirst (k := m + 1) (by omega))
  exact src_bd (passE_zero hpE).2.1
theorem keptG_succ (ps : List Ps) (n : Nat) (last : Int) (k j : Nat) : keptG ps n last (k + 1) j = if keptG ps n last k (n - 1 - k) = true then markG (keptG ps n last k) (srcOf ps (n - 1 - k)) j else keptG ps n last k j := rfl
theorem keptG_up1 {ps : List Ps} {n : Nat} {last : Int} {k j : Nat} (h : keptG ps n last k j = true) : keptG ps n last (k + 1) j = true := by
  rw [keptG_succ]
  split
  · unfold markG; rw [h]; rfl
  · exact h
theorem keptG_up {ps : List Ps} {n : Nat} {last : Int} {k j : Nat} (h : keptG ps n last k j = true) (d : Nat) : keptG ps n last (k + d) j = true := by
  induction d with
  | zero => exact h
  | succ d ih => exact keptG_up1 ih
theorem keptG_le {ps : List Ps} {n : Nat} {last : Int} {k k' j : Nat} (h : keptG ps n last k j = true) (hk : k ≤ k') : keptG ps n last k' j = true := by
  obtain ⟨d, rfl⟩ : ∃ d, k' = k + d := ⟨k' - k, by omega⟩
  exact keptG_up h d
/-- The mark of a pass is settled when it is asked. -/
theorem keptG_stays {ps : List Ps} {n : Nat} {last : Int} (hs : SrcOk ps n) {k j : Nat} (hk : k < n) (hj : n - 1 - k ≤ j) : keptG ps n last (k + 1) j = keptG ps n last k j := by
  rw [keptG_succ]
  split
  · unfold markG
    have : (srcOf ps (n - 1 - k)).any (fun i => decide (i = (j : Int))) = false := by
      rw [List.any_eq_false]
      intro i hi
      have := hs (n - 1 - k) (by omega) i hi
      simp
      omega
    rw [this, Bool.or_false]
  · rfl
theorem keptG_final {ps : List Ps} {n : Nat} {last : Int} (hs : SrcOk ps n) {m : Nat} (hm : m < n) : ∀ d, n - 1 - m + d ≤ n → keptG ps n last (n - 1 - m + d) m = keptG ps n last (n - 1 - m) m
  | 0, _ => rfl
  | d + 1, h => by
    rw [← keptG_final hs hm d (by omega), ← Nat.add_assoc]
    exact keptG_stays hs (by omega) (by omega)
theorem kept_when {ps : List Ps} {n : Nat} {last : Int} (hs : SrcOk ps n) {m : Nat} (hm : m < n) : keptG ps n last n m = keptG ps n last (n - 1 - m) m := by
  have := keptG_final (last := last) hs hm (m + 1) (by omega)
  rwa [show n - 1 - m + (m + 1) = n by omega] at this
/-- What is shown is kept. -/
theorem kept_shown {ps : List Ps} {n N : Nat} : keptG ps n N n N = true := keptG_le (k := 0) (by show decide _ = true; simp) (Nat.zero_le _)
/-- What a kept pass takes is kept. -/
theorem kept_src {ps : List Ps} {n : Nat} {last : Int} (hs : SrcOk ps n) {m : Nat} (hm : m < n) (h : keptG ps n last n m = true) {i : Nat} (hi : (i : Int) ∈ srcOf ps m) : keptG ps n last n i = true := by
  rw [kept_when hs hm] at h
  refine keptG_le (k := n - 1 - m + 1) ?_ (by omega)
  rw [keptG_succ, show n - 1 - (n - 1 - m) = m by omega, if_pos h]
  unfold markG
  have : (srcOf ps m).any (fun x => decide (x = (i : Int))) = true := by
    rw [List.any_eq_true]
    exact ⟨_, hi, by simp⟩
  rw [this, Bool.or_true]
end Go.Proofs.YtaenpgdmiaekcaaGreatDoor
