/- Peak, Clash, Behind: joined, in this order. -/
import Derived.Test.YtfpkiimlaepnhabM07
import Derived.BigQuiet
import Derived.Test.YtfpkiimlaepnhabM05
import Derived.RangeFuncNested
import Derived.RangeFuncBound
import Derived.RangeFuncCalls
import Derived.RangeFuncLeaves
import Derived.Shelf.Abstract
import Derived.Shelf.RegionOpen
import Derived.OwnWalkIn
import Derived.TacticsInMore
import Derived.LoopNIn
import Derived.LoopIn
/-
  PEAK: plan.layout's peak and floor.
-/
namespace Go.Proofs.Ytfpkiimlaepnhab
set_option maxRecDepth 100000
open Go.RowKit Im Go.Maps

/-- Three values in a box. -/
structure Box3 (w : World) (b : Nat) (v0 v1 v2 : Value) : Prop where
  lt : b < w.heap.size
  c0 : w.cell? ⟨b, 0, none⟩ = some v0
  c1 : w.cell? ⟨b, 1, none⟩ = some v1
  c2 : w.cell? ⟨b, 2, none⟩ = some v2
theorem Box3.below {w w' : World} {b : Nat} {v0 v1 v2 : Value} (h : Box3 w b v0 v1 v2) (hb : Below w.heap.size w w') : Box3 w' b v0 v1 v2 :=
  ⟨Nat.lt_of_lt_of_le h.lt hb.size, (hb.cell (p := ⟨b, 0, none⟩) h.lt).trans h.c0, (hb.cell (p := ⟨b, 1, none⟩) h.lt).trans h.c1, (hb.cell (p := ⟨b, 2, none⟩) h.lt).trans h.c2⟩
theorem Box3.new (w : World) (v0 v1 v2 : Value) (t : TypeId) : Box3 (w.alloc (.cells #[v0, v1, v2] t)) w.heap.size v0 v1 v2 :=
  ⟨by simp, by simp [go_sem], by simp [go_sem], by simp [go_sem]⟩
theorem peakT_bd {os : List Int} {lie : Nat → Int × Int} {N : Nat} (hos : ∀ o ∈ os, 0 ≤ o ∧ o < N) (hl : ∀ k, k < N → (lie k).2 ≤ 4352) : ∀ {n : Nat}, n ≤ os.length → 0 ≤ peakT os lie n ∧ peakT os lie n ≤ 4353
  | 0, _ => by simp [peakT]
  | n + 1, hn => by
    have ih := peakT_bd hos hl (n := n) (by omega)
    have ho := hos _ (getD_in (show n < os.length by omega))
    have := hl (os.getD n 0).toNat (by omega)
    unfold peakT
    omega
theorem max_if (a b : Int) : max a b = if a < b then b else a := by split <;> omega
set_option maxHeartbeats 1000000 in
theorem peak_nil (w : World) : Calls Try.prog 40 #[.agg #[.slice none 0 0, .slice none 0 0, .slice none 0 0]] w fun e w' => e = .returned (.int .i64 0) ∧ Below w.heap.size w w' := by
  go_enter Try.func40, Try.ntmps40
  go_wp2
  refine wp_loop_rounds 1 ?_
  rw [rounds_succ]
  go_wp2
  go_ret
  exact ⟨rfl, below_box (Below.refl _ _) _⟩
set_option maxHeartbeats 1000000 in
theorem floor_nil (w : World) : Calls Try.prog 45 #[.agg #[.slice none 0 0, .slice none 0 0, .slice none 0 0]] w fun e w' => e = .returned (.int .i64 0) ∧ Below w.heap.size w w' := by
  go_enter Try.func45, Try.ntmps45
  go_wp2
  refine wp_loop_rounds 1 ?_
  rw [rounds_succ]
  go_wp2
  go_ret
  exact ⟨rfl, below_box (Below.refl _ _) _⟩
set_option maxHeartbeats 1000000 in
theorem peak_any {N : Nat} {os : List Int} {lie : Nat → Int × Int} (hos : ∀ o ∈ os, 0 ≤ o ∧ o < N) (hol : os.length ≤ 12) (hlie : ∀ k, k < N → 0 ≤ (lie k).2 ∧ (lie k).2 ≤ 4352) {a : Option Addr} {len : Nat} (cap : Nat) {base : Nat} (v1 : Value) {lb : Nat} {w : World} (hI : Ints base w a len os) (hS : Sp w lb N lie) :
    Calls Try.prog 40 #[.agg #[.slice a len cap, v1, .slice (some ⟨lb, 0, none⟩) N N]] w fun e w' => e = .returned (.int .i64 (peakT os lie os.length)) ∧ Below w.heap.size w w' := by
  obtain rfl := hI.leng
  have hB := Box3.new w (.slice a os.length cap) v1 (.slice (some ⟨lb, 0, none⟩) N N) 70
  have hb0 := below_box (Below.refl w.heap.size w) (.cells #[.slice a os.length cap, v1, .slice (some ⟨lb, 0, none⟩) N N] 70)
  have hI0 := hI.below (Nat.le_refl _) hb0
  have hS0 := hS.below hb0 hS.lt hb0.size
  have HPB : Hid (∀ n, n ≤ os.length → 0 ≤ peakT os lie n ∧ peakT os lie n ≤ 4353) := fun n hn => peakT_bd hos (fun k hk => (hlie k hk).2) hn
  have HOS : Hid (_) := hos
  have HLI : Hid (_) := hlie
  have HPS : Hid (∀ n, peakT os lie (n + 1) = if peakT os lie n < (lie (os.getD n 0).toNat).2 + 1 then (lie (os.getD n 0).toNat).2 + 1 else peakT os lie n) := fun n => max_if _ _
  clear hos hlie hS hI
  go_enter Try.func40, Try.ntmps40
  go_wp2
  generalize w.alloc (.cells #[.slice a os.length cap, v1, .slice (some ⟨lb, 0, none⟩) N N] 70) = W0 at *
  obtain ⟨_, g0, g1, g2⟩ := id hB
  go_loop [3, 9] (fun m i => ∃ n : Nat, n ≤ os.length ∧ i = .int .i64 n ∧ m = .int .i64 (peakT os lie n)) (fun _ i => os.length - (intOf i).toNat)
  case atStart => exact ⟨0, Nat.zero_le _, rfl, rfl⟩
  case round =>
    obtain ⟨n, hn, rfl, rfl⟩ := hrel
    by_cases hlt : n < os.length
    · obtain ⟨ob, oo, rfl, hox⟩ := hI0.nth hlt
      have hor := HOS.out _ (getD_mem hlt 0)
      have hpb := HPB.out n hn
      have HP1 := HPS.out n
      generalize os.getD n 0 = p at hox hor HP1
      obtain ⟨q, rfl⟩ := Int.eq_ofNat_of_zero_le hor.1
      rw [Int.toNat_natCast] at HP1
      have hql : q < N := by omega
      have hqI : (q : Int) < (N : Int) := by omega
      have hq0 : (0 : Int) ≤ (q : Int) := by omega
      have d1 := hS0.c1 q hql
      have hlb := HLI.out q hql
      generalize (lie q).2 = x at d1 hlb HP1
      generalize peakT os lie n = y at hpb HP1
      have HP2 : Hid (_) := HP1
      clear HP1
      by_cases hc : y < x + 1
      · go_wp2
        go_round
        case rel => exact ⟨n + 1, by omega, by go_num, by rw [HP2.out, if_pos hc]⟩
        case measure => simp [intOf]; omega
      · go_wp2
        go_round
        case rel => exact ⟨n + 1, by omega, by go_num, by rw [HP2.out, if_neg hc]⟩
        case measure => simp [intOf]; omega
    · have hne : n = os.length := by omega
      subst hne
      go_wp2
      go_ret
      exact ⟨rfl, hb0⟩
theorem meet_any (a b c d : Int) (w : World) : Calls Try.prog 76 #[.agg #[.int .i64 a, .int .i64 b], .agg #[.int .i64 c, .int .i64 d]] w fun e w' => e = .returned (.bool (meetB (a, b) (c, d))) ∧ Below w.heap.size w w' := by
  by_cases h1 : a ≤ d
  · by_cases h2 : c ≤ b
    · go_enter Try.func76, Try.ntmps76
      go_wp2
      go_ret
      exact ⟨by simp [meetB, h1, h2], below_box (below_box (Below.refl _ _) _) _⟩
    · go_enter Try.func76, Try.ntmps76
      go_wp2
      go_ret
      exact ⟨by simp [meetB, h1, h2], below_box (below_box (Below.refl _ _) _) _⟩
  · go_enter Try.func76, Try.ntmps76
    go_wp2
    go_ret
    exact ⟨by simp [meetB]; omega, below_box (below_box (Below.refl _ _) _) _⟩
theorem sumT_bd' {os : List Int} {span lie : Nat → Int × Int} {N : Nat} (hos : ∀ o ∈ os, 0 ≤ o ∧ o < N) (hl : ∀ k, k < N → (lie k).1 ≤ (lie k).2 ∧ (lie k).2 ≤ (lie k).1 + 255) (i : Int) : ∀ {n : Nat}, n ≤ os.length → 0 ≤ sumT os span lie i n ∧ sumT os span lie i n ≤ 256 * n
  | 0, _ => by simp [sumT]
  | n + 1, hn => by
    have ih := sumT_bd' (span := span) hos hl i (n := n) (by omega)
    have ho := hos _ (getD_in (show n < os.length by omega))
    have := hl (os.getD n 0).toNat (by omega)
    unfold sumT
    split <;> omega
theorem floorT_bd' {os : List Int} {span lie : Nat → Int × Int} {N : Nat} (hos : ∀ o ∈ os, 0 ≤ o ∧ o < N) (hol : os.length ≤ 12) (hl : ∀ k, k < N → (lie k).1 ≤ (lie k).2 ∧ (lie k).2 ≤ (lie k).1 + 255) : ∀ (n : Nat), 0 ≤ floorT os span lie n ∧ floorT os span lie n ≤ 3072
  | 0 => by simp [floorT]
  | n + 1 => by
    have ih := floorT_bd' (span := span) hos hol hl n
    have := sumT_bd' (span := span) hos hl n (Nat.le_refl os.length)
    unfold floorT
    omega
set_option maxHeartbeats 2000000 in
theorem floor_any {N : Nat} {os : List Int} {span lie : Nat → Int × Int} (hos : ∀ o ∈ os, 0 ≤ o ∧ o < N) (hol : os.length ≤ 12) (hlie : ∀ k, k < N → (0 ≤ (lie k).1 ∧ (lie k).2 ≤ 4352) ∧ (lie k).1 ≤ (lie k).2 ∧ (lie k).2 ≤ (lie k).1 + 255) {a : Option Addr} {len : Nat} (cap : Nat) {base : Nat} {sb lb : Nat} {w : World} (hI : Ints base w a len os) (hP : Sp w sb N span) (hS : Sp w lb N lie) :
    Calls Try.prog 45 #[.agg #[.slice a len cap, .slice (some ⟨sb, 0, none⟩) N N, .slice (some ⟨lb, 0, none⟩) N N]] w fun e w' => e = .returned (.int .i64 (floorT os span lie os.length)) ∧ Below w.heap.size w w' := by
  obtain rfl := hI.leng
  have hB := Box3.new w (.slice a os.length cap) (.slice (some ⟨sb, 0, none⟩) N N) (.slice (some ⟨lb, 0, none⟩) N N) 70
  have hb0 := below_box (Below.refl w.heap.size w) (.cells #[.slice a os.length cap, .slice (some ⟨sb, 0, none⟩) N N, .slice (some ⟨lb, 0, none⟩) N N] 70)
  have hI0 := hI.below (Nat.le_refl _) hb0
  have hS0 := hS.below hb0 hS.lt hb0.size
  have hP0 := hP.below hb0 hP.lt hb0.size
  have HFB : Hid (∀ n, 0 ≤ floorT os span lie n ∧ floorT os span lie n ≤ 3072) := fun n => floorT_bd' hos hol (fun k hk => (hlie k hk).2) n
  have HSB : Hid (∀ (i : Int) n, n ≤ os.length → 0 ≤ sumT os span lie i n ∧ sumT os span lie i n ≤ 256 * n) := fun i n hn => sumT_bd' hos (fun k hk => (hlie k hk).2) i hn
  have HOS : Hid (_) := hos
  have HLI : Hid (_) := hlie
  have HFS : Hid (∀ n : Nat, floorT os span lie (n + 1) = if floorT os span lie n < sumT os span lie n os.length then sumT os span lie n os.length else floorT os span lie n) := fun n => max_if _ _
  have HSS : Hid (∀ (i : Int) n, sumT os span lie i (n + 1) = if meetB (span (os.getD n 0).toNat) (i, i) = true then sumT os span lie i n + ((lie (os.getD n 0).toNat).2 - (lie (os.getD n 0).toNat).1 + 1) else sumT os span lie i n) := fun i n => rfl
  clear hos hlie hS hI hP
  go_enter Try.func45, Try.ntmps45
  go_wp2
  generalize w.alloc (.cells #[.slice a os.length cap, .slice (some ⟨sb, 0, none⟩) N N, .slice (some ⟨lb, 0, none⟩) N N] 70) = W0 at *
  go_loopw [3, 11] (fun m i wr => ∃ n : Nat, n ≤ os.length ∧ i = .int .i64 n ∧ m = .int .i64 (floorT os span lie n) ∧ Below W0.heap.size W0 wr) (fun _ i _ => os.length - (intOf i).toNat)
  case atStart => exact ⟨0, Nat.zero_le _, rfl, rfl, Below.refl _ _⟩
  case round =>
    obtain ⟨n, hn, rfl, rfl, hbr⟩ := hrel
    by_cases hlt : n < os.length
    · obtain ⟨_, g0, g1, g2⟩ := hB.below hbr
      have hfb := HFB.out n
      have HF1 : Hid (_) := HFS.out n
      have HS1 : Hid (∀ m, sumT os span lie n (m + 1) = if meetB (span (os.getD m 0).toNat) ((n : Int), (n : Int)) = true then sumT os span lie n m + ((lie (os.getD m 0).toNat).2 - (lie (os.getD m 0).toNat).1 + 1) else sumT os span lie n m) := fun m => HSS.out n m
      have HB1 : Hid (_) := HSB.out n
      generalize floorT os span lie n = F at hfb HF1
      go_wp2
      go_loopw [5, 17] (fun s i ws => ∃ m : Nat, m ≤ os.length ∧ i = .int .i64 m ∧ s = .int .i64 (sumT os span lie n m) ∧ Below W0.heap.size W0 ws) (fun _ i _ => os.length - (intOf i).toNat)
      case atStart => exact ⟨0, Nat.zero_le _, rfl, rfl, hbr⟩
      case round =>
        obtain ⟨m, hm, rfl, rfl, hbs⟩ := hrel
        clear g0 g1 g2 hbr
        by_cases hlm : m < os.length
        · obtain ⟨_, g0, g1, g2⟩ := hB.below hbs
          obtain ⟨ob, oo, rfl, hox⟩ := (hI0.below (Nat.le_refl _) hbs).nth hlm
          have hor := HOS.out _ (getD_mem hlm 0)
          have hsb := HB1.out m hm
          have HM1 := HS1.out m
          generalize os.getD m 0 = p at hox hor HM1
          obtain ⟨q, rfl⟩ := Int.eq_ofNat_of_zero_le hor.1
          rw [Int.toNat_natCast] at HM1
          have hql : q < N := by omega
          have hqI : (q : Int) < (N : Int) := by omega
          have hq0 : (0 : Int) ≤ (q : Int) := by omega
          have hPr := hP0.below hbs hP0.lt hbs.size
          have hSr := hS0.below hbs hS0.lt hbs.size
          have p0 := hPr.c0 q hql
          have p1 := hPr.c1 q hql
          have hme := fun wx => meet_any (span q).1 (span q).2 n n wx
          have hlb := HLI.out q hql
          have HSq : Hid (Sp wr lb N lie) := hSr
          have hlt2 := hSr.lt
          have hB2 := hB.below hbs
          obtain ⟨r, hr⟩ : ∃ r, r = meetB (span q) ((n : Int), (n : Int)) := ⟨_, rfl⟩
          have hr' : meetB ((span q).1, (span q).2) ((n : Int), (n : Int)) = r := hr.symm
          rw [hr'] at hme
          rw [← hr] at HM1
          have HM2 : Hid (_) := HM1
          clear hr hr' hPr hSr HM1
          generalize (span q).1 = s1 at p0 hme
          generalize (span q).2 = s2 at p1 hme
          generalize sumT os span lie n m = S0 at hsb HM2
          cases r with
          | false =>
            go_wp2_with (go_at_call 76; refine (hme _).mono ?_; rintro e w2 ⟨rfl, b2⟩)
            go_roundw
            case rel => exact ⟨m + 1, by omega, by go_num, by rw [HM2.out, if_neg (by decide)], hbs.trans (b2.mono hbs.size)⟩
            case measure => simp [intOf]; omega
          | true =>
            go_wp2_with (go_at_call 76; refine (hme _).mono ?_; rintro e w2 ⟨rfl, b2⟩; have q0 := (HSq.out.below b2 hlt2 b2.size).c0 q hql; have q1 := (HSq.out.below b2 hlt2 b2.size).c1 q hql; obtain ⟨_, k0, k1, k2⟩ := hB2.below b2)
            generalize (lie q).1 = l1 at q0 hlb HM2
            generalize (lie q).2 = l2 at q1 hlb HM2
            have hw1 : IntKind.i64.wrap (l2 - l1) = l2 - l1 := by rw [IntKind.wrap_i64]; omega
            have hw2 : IntKind.i64.wrap (l2 - l1 + 1) = l2 - l1 + 1 := by rw [IntKind.wrap_i64]; omega
            have hw3 : IntKind.i64.wrap (S0 + (l2 - l1 + 1)) = S0 + (l2 - l1 + 1) := by rw [IntKind.wrap_i64]; omega
            go_region_held3 (fun w' => w'.cell? ⟨w.heap.size, 2, none⟩ = some (.slice (some ⟨lb, 0, none⟩) N N) ∧ w'.cell? ⟨lb, q * 2, none⟩ = some (.int .i64 l1) ∧ w'.cell? ⟨lb, q * 2 + 1, none⟩ = some (.int .i64 l2))
              (exact ⟨k2, q0, q1⟩)
              (fail)
            all_goals go_wp2
            all_goals go_roundw
            case rel => exact ⟨m + 1, by omega, by go_num, by rw [HM2.out, if_pos trivial]; try rw [hw1, hw2, hw3], (hbs.trans (b2.mono hbs.size)).drew⟩
            case measure => simp [intOf]; omega
        · have hme : m = os.length := by omega
          subst hme
          have hsb := HB1.out os.length (Nat.le_refl _)
          generalize sumT os span lie n os.length = S0 at hsb HF1
          by_cases hc : F < S0
          · go_wp2
            go_roundw
            case rel => exact ⟨n + 1, by omega, by go_num, by rw [HF1.out, if_pos hc], hbs⟩
            case measure => simp [intOf]; omega
          · go_wp2
            go_roundw
            case rel => exact ⟨n + 1, by omega, by go_num, by rw [HF1.out, if_neg hc], hbs⟩
            case measure => simp [intOf]; omega
    · have hne : n = os.length := by omega
      subst hne
      go_wp2
      go_ret
      exact ⟨rfl, below_step hb0 hbr⟩
end Go.Proofs.Ytfpkiimlaepnhab
/-
  CLASH: plan.layout's clash.
-/
namespace Go.Proofs.Ytfpkiimlaepnhab
set_option maxRecDepth 100000
open Go.RowKit Im Go.Maps

theorem Ints.take {base : Nat} {w : World} {a : Option Addr} {len : Nat} {ps : List Int} (h : Ints base w a len ps) {n : Nat} (hn : n ≤ len) : Ints base w a n (ps.take n) := by
  have hl := h.leng
  refine ⟨by rw [List.length_take]; omega, by have := h.big; omega, ?_⟩
  rcases h.cells with e | ⟨b, off, ha, h0, hb, hc⟩
  · subst e; exact .inl (by simp)
  · refine .inr ⟨b, off, ha, h0, hb, fun j hj => ?_⟩
    rw [hc j (by omega), List.getD_eq_getElem?_getD, List.getD_eq_getElem?_getD, List.getElem?_take_of_lt hj]
theorem getD_take {l : List Int} {n m : Nat} (h : m < n) : (l.take n).getD m 0 = l.getD m 0 := by
  rw [List.getD_eq_getElem?_getD, List.getD_eq_getElem?_getD, List.getElem?_take_of_lt h]
set_option maxHeartbeats 8000000 in
theorem clash_any {N : Nat} {os : List Int} {span lie : Nat → Int × Int} (hos : ∀ o ∈ os, 0 ≤ o ∧ o < N) (hol : os.length ≤ 12) {a : Option Addr} {len : Nat} (cap : Nat) (hcap : len ≤ cap) {base : Nat} {sb lb : Nat} {w : World} (hI : Ints base w a len os) (hP : Sp w sb N span) (hS : Sp w lb N lie) :
    Calls Try.prog 41 #[.agg #[.slice a len cap, .slice (some ⟨sb, 0, none⟩) N N, .slice (some ⟨lb, 0, none⟩) N N]] w fun e w' => e = .returned (.bool (!clearT os span lie os.length)) ∧ Below w.heap.size w w' := by
  obtain rfl := hI.leng
  have hB := Box3.new w (.slice a os.length cap) (.slice (some ⟨sb, 0, none⟩) N N) (.slice (some ⟨lb, 0, none⟩) N N) 70
  have hb0 := below_box (Below.refl w.heap.size w) (.cells #[.slice a os.length cap, .slice (some ⟨sb, 0, none⟩) N N, .slice (some ⟨lb, 0, none⟩) N N] 70)
  have hI0 := hI.below (Nat.le_refl _) hb0
  have hS0 := hS.below hb0 hS.lt hb0.size
  have hP0 := hP.below hb0 hP.lt hb0.size
  have HOS : Hid (_) := hos
  clear hos hS hI hP
  go_enter Try.func41, Try.ntmps41
  go_wp2
  generalize w.alloc (.cells #[.slice a os.length cap, .slice (some ⟨sb, 0, none⟩) N N, .slice (some ⟨lb, 0, none⟩) N N] 70) = W0 at *
  go_loopw [10] (fun i wr => ∃ n : Nat, n ≤ os.length ∧ i = .int .i64 n ∧ clearT os span lie n = true ∧ Below W0.heap.size W0 wr) (fun i _ => os.length - (intOf i).toNat)
  case atStart => exact ⟨0, Nat.zero_le _, rfl, rfl, Below.refl _ _⟩
  case round =>
    obtain ⟨n, hn, rfl, hcl, hbr⟩ := hrel
    by_cases hlt : n < os.length
    · obtain ⟨ob, oo, rfl, hox⟩ := (hI0.below (Nat.le_refl _) hbr).nth hlt
      obtain ⟨_, g0, g1, g2⟩ := hB.below hbr
      have hor := HOS.out _ (getD_mem hlt 0)
      have HA : Hid (allTo (apartT os span lie n) n = true → clearT os span lie (n + 1) = true) := fun h => allTo_succ hcl h
      have HF : Hid (allTo (apartT os span lie n) n = false → clearT os span lie os.length = false) := fun h => allTo_not hlt h
      have HP1 : Hid (∀ j, apartT os span lie n j = !(meetB (span (os.getD n 0).toNat) (span (os.getD j 0).toNat) && meetB (lie (os.getD n 0).toNat) (lie (os.getD j 0).toNat))) := fun _ => rfl
      generalize os.getD n 0 = p at hox hor HP1
      obtain ⟨q, rfl⟩ := Int.eq_ofNat_of_zero_le hor.1
      rw [Int.toNat_natCast] at HP1
      have hql : q < N := by omega
      have hqI : (q : Int) < (N : Int) := by omega
      have hq0 : (0 : Int) ≤ (q : Int) := by omega
      have hn0 : (0 : Int) ≤ (n : Int) := by omega
      have hnc : (n : Int) ≤ (cap : Int) := by omega
      clear hcl
      go_wp2
      go_loopw [20] (fun i ws => ∃ m : Nat, m ≤ n ∧ i = .int .i64 m ∧ allTo (apartT os span lie n) m = true ∧ Below W0.heap.size W0 ws) (fun i _ => n - (intOf i).toNat)
      case atStart => exact ⟨0, Nat.zero_le _, rfl, rfl, hbr⟩
      case round =>
        obtain ⟨m, hm, rfl, hal, hbs⟩ := hrel
        clear g0 g1 g2 hox hbr
        by_cases hlm : m < n
        · obtain ⟨_, g0, g1, g2⟩ := hB.below hbs
          obtain ⟨ob', oo', he, hox⟩ := (hI0.below (Nat.le_refl _) hbs).nth (show m < os.length by omega)
          injection he with he
          injection he with he1 he2
          subst he1 he2
          have hor2 := HOS.out _ (getD_mem (show m < os.length by omega) 0)
          have HA1 : Hid (apartT os span lie n m = true → allTo (apartT os span lie n) (m + 1) = true) := fun h => allTo_succ hal h
          have HF1 : Hid (apartT os span lie n m = false → allTo (apartT os span lie n) n = false) := fun h => allTo_not hlm h
          have HP2 := HP1.out m
          generalize os.getD m 0 = p at hox hor2 HP2
          obtain ⟨z, rfl⟩ := Int.eq_ofNat_of_zero_le hor2.1
          rw [Int.toNat_natCast] at HP2
          have hzl : z < N := by omega
          have hzI : (z : Int) < (N : Int) := by omega
          have hz0 : (0 : Int) ≤ (z : Int) := by omega
          have hPr := hP0.below hbs hP0.lt hbs.size
          have hSr := hS0.below hbs hS0.lt hbs.size
          have a0 := hPr.c0 q hql
          have a1 := hPr.c1 q hql
          have c0 := hPr.c0 z hzl
          have c1 := hPr.c1 z hzl
          have e0 := hSr.c0 q hql
          have e1 := hSr.c1 q hql
          have f0 := hSr.c0 z hzl
          have f1 := hSr.c1 z hzl
          have lsb := hPr.lt
          have llb := hSr.lt
          have lwb := (hB.below hbs).lt
          obtain ⟨r1, hr1⟩ : ∃ r, r = meetB (span q) (span z) := ⟨_, rfl⟩
          obtain ⟨r2, hr2⟩ : ∃ r, r = meetB (lie q) (lie z) := ⟨_, rfl⟩
          have hme := fun wx => meet_any (span q).1 (span q).2 (span z).1 (span z).2 wx
          have hme2 := fun wx => meet_any (lie q).1 (lie q).2 (lie z).1 (lie z).2 wx
          rw [show meetB ((span q).1, (span q).2) ((span z).1, (span z).2) = r1 from hr1.symm] at hme
          rw [show meetB ((lie q).1, (lie q).2) ((lie z).1, (lie z).2) = r2 from hr2.symm] at hme2
          rw [← hr1, ← hr2] at HP2
          have HP3 : Hid (_) := HP2
          clear hr1 hr2 hPr hSr HP2 hal
          generalize (span q).1 = s1 at a0 hme
          generalize (span q).2 = s2 at a1 hme
          generalize (span z).1 = t1 at c0 hme
          generalize (span z).2 = t2 at c1 hme
          generalize (lie q).1 = x1 at e0 hme2
          generalize (lie q).2 = x2 at e1 hme2
          generalize (lie z).1 = y1 at f0 hme2
          generalize (lie z).2 = y2 at f1 hme2
          cases r1 with
          | false =>
            clear e0 e1 f0 f1 hme2
            have kp : ∀ w', Below wr.heap.size wr w' → Below wr.heap.size wr w' ∧ w'.cell? ⟨w.heap.size, 1, none⟩ = some (.slice (some ⟨sb, 0, none⟩) N N) ∧ w'.cell? ⟨sb, q * 2, none⟩ = some (.int .i64 s1) ∧ w'.cell? ⟨sb, q * 2 + 1, none⟩ = some (.int .i64 s2) ∧ w'.cell? ⟨sb, z * 2, none⟩ = some (.int .i64 t1) ∧ w'.cell? ⟨sb, z * 2 + 1, none⟩ = some (.int .i64 t2) := fun w' h => ⟨h, (h.cell (p := ⟨w.heap.size, 1, none⟩) lwb).trans g1, (h.cell (p := ⟨sb, q * 2, none⟩) lsb).trans a0, (h.cell (p := ⟨sb, q * 2 + 1, none⟩) lsb).trans a1, (h.cell (p := ⟨sb, z * 2, none⟩) lsb).trans c0, (h.cell (p := ⟨sb, z * 2 + 1, none⟩) lsb).trans c1⟩
            go_wp2
            refine wp_region_held_drew (S := (fun w' => Below wr.heap.size wr w' ∧ w'.cell? ⟨w.heap.size, 1, none⟩ = some (.slice (some ⟨sb, 0, none⟩) N N) ∧ w'.cell? ⟨sb, q * 2, none⟩ = some (.int .i64 s1) ∧ w'.cell? ⟨sb, q * 2 + 1, none⟩ = some (.int .i64 s2) ∧ w'.cell? ⟨sb, z * 2, none⟩ = some (.int .i64 t1) ∧ w'.cell? ⟨sb, z * 2 + 1, none⟩ = some (.int .i64 t2))) (by kernel_rfl) (kp _ (Below.refl _ _).drew) (fun hHeld => ?_)
            refine wpAnyH_take (i := 0) (oi := { dst := some 24, op := Go.Op.fieldAddr 70 (Go.Operand.tmp 1) 1, type := 0, pos := "layout.go:99", after := #[], guard := none }) (v := .pointer (some ⟨w.heap.size, 1, none⟩)) rfl (by kernel_rfl) (by kernel_rfl) (by kernel_rfl) (fun _ _ _ h => h) (Or.inl ⟨by rfl, fun wz hSw => ?_⟩) hHeld ?_
            · obtain ⟨_, r0, r1, r2, r3, r4⟩ := hSw
              go_simp
            simp only [Act.put, List.setIfInBounds_toArray, List.set_cons_zero, List.set_cons_succ]
            refine wpAnyH_take (i := 1) (oi := { dst := some 25, op := Go.Op.load 32 (Go.Operand.tmp 24), type := 32, pos := "layout.go:99", after := #[{ on := 0, ground := Go.Ground.data }], guard := none }) (v := .slice (some ⟨sb, 0, none⟩) N N) rfl (by kernel_rfl) (by kernel_rfl) (by kernel_rfl) (fun _ _ _ h => h) (Or.inl ⟨by rfl, fun wz hSw => ?_⟩) hHeld ?_
            · obtain ⟨_, r0, r1, r2, r3, r4⟩ := hSw
              go_simp
            simp only [Act.put, List.setIfInBounds_toArray, List.set_cons_zero, List.set_cons_succ]
            refine wpAnyH_take (i := 2) (oi := { dst := some 26, op := Go.Op.move (Go.Operand.tmp 4), type := 3, pos := "layout.go:99", after := #[], guard := none }) (v := .int .i64 q) rfl (by kernel_rfl) (by kernel_rfl) (by kernel_rfl) (fun _ _ _ h => h) (Or.inl ⟨by rfl, fun wz hSw => ?_⟩) hHeld ?_
            · obtain ⟨_, r0, r1, r2, r3, r4⟩ := hSw
              go_simp
            simp only [Act.put, List.setIfInBounds_toArray, List.set_cons_zero, List.set_cons_succ]
            refine wpAnyH_take (i := 3) (oi := { dst := some 27, op := Go.Op.indexAddr 32 (Go.Operand.tmp 25) (Go.Operand.tmp 26), type := 0, pos := "layout.go:99", after := #[{ on := 1, ground := Go.Ground.data }, { on := 2, ground := Go.Ground.data }], guard := none }) (v := .pointer (some ⟨sb, q * 2, none⟩)) rfl (by kernel_rfl) (by kernel_rfl) (by kernel_rfl) (fun _ _ _ h => h) (Or.inl ⟨by rfl, fun wz hSw => ?_⟩) hHeld ?_
            · obtain ⟨_, r0, r1, r2, r3, r4⟩ := hSw
              go_simp
            simp only [Act.put, List.setIfInBounds_toArray, List.set_cons_zero, List.set_cons_succ]
            refine wpAnyH_take (i := 4) (oi := { dst := some 28, op := Go.Op.load 41 (Go.Operand.tmp 27), type := 41, pos := "layout.go:99", after := #[{ on := 3, ground := Go.Ground.data }], guard := none }) (v := .agg #[.int .i64 s1, .int .i64 s2]) rfl (by kernel_rfl) (by kernel_rfl) (by kernel_rfl) (fun _ _ _ h => h) (Or.inl ⟨by rfl, fun wz hSw => ?_⟩) hHeld ?_
            · obtain ⟨_, r0, r1, r2, r3, r4⟩ := hSw
              go_simp
            simp only [Act.put, List.setIfInBounds_toArray, List.set_cons_zero, List.set_cons_succ]
            refine wpAnyH_take (i := 5) (oi := { dst := some 29, op := Go.Op.fieldAddr 70 (Go.Operand.tmp 1) 1, type := 0, pos := "layout.go:99", after := #[], guard := none }) (v := .pointer (some ⟨w.heap.size, 1, none⟩)) rfl (by kernel_rfl) (by kernel_rfl) (by kernel_rfl) (fun _ _ _ h => h) (Or.inl ⟨by rfl, fun wz hSw => ?_⟩) hHeld ?_
            · obtain ⟨_, r0, r1, r2, r3, r4⟩ := hSw
              go_simp
            simp only [Act.put, List.setIfInBounds_toArray, List.set_cons_zero, List.set_cons_succ]
            refine wpAnyH_take (i := 6) (oi := { dst := some 30, op := Go.Op.load 32 (Go.Operand.tmp 29), type := 32, pos := "layout.go:99", after := #[{ on := 5, ground := Go.Ground.data }], guard := none }) (v := .slice (some ⟨sb, 0, none⟩) N N) rfl (by kernel_rfl) (by kernel_rfl) (by kernel_rfl) (fun _ _ _ h => h) (Or.inl ⟨by rfl, fun wz hSw => ?_⟩) hHeld ?_
            · obtain ⟨_, r0, r1, r2, r3, r4⟩ := hSw
              go_simp
            simp only [Act.put, List.setIfInBounds_toArray, List.set_cons_zero, List.set_cons_succ]
            refine wpAnyH_take (i := 7) (oi := { dst := some 31, op := Go.Op.move (Go.Operand.tmp 6), type := 3, pos := "layout.go:99", after := #[], guard := none }) (v := .int .i64 z) rfl (by kernel_rfl) (by kernel_rfl) (by kernel_rfl) (fun _ _ _ h => h) (Or.inl ⟨by rfl, fun wz hSw => ?_⟩) hHeld ?_
            · obtain ⟨_, r0, r1, r2, r3, r4⟩ := hSw
              go_simp
            simp only [Act.put, List.setIfInBounds_toArray, List.set_cons_zero, List.set_cons_succ]
            refine wpAnyH_take (i := 8) (oi := { dst := some 32, op := Go.Op.indexAddr 32 (Go.Operand.tmp 30) (Go.Operand.tmp 31), type := 0, pos := "layout.go:99", after := #[{ on := 6, ground := Go.Ground.data }, { on := 7, ground := Go.Ground.data }], guard := none }) (v := .pointer (some ⟨sb, z * 2, none⟩)) rfl (by kernel_rfl) (by kernel_rfl) (by kernel_rfl) (fun _ _ _ h => h) (Or.inl ⟨by rfl, fun wz hSw => ?_⟩) hHeld ?_
            · obtain ⟨_, r0, r1, r2, r3, r4⟩ := hSw
              go_simp
            simp only [Act.put, List.setIfInBounds_toArray, List.set_cons_zero, List.set_cons_succ]
            refine wpAnyH_take (i := 9) (oi := { dst := some 33, op := Go.Op.load 41 (Go.Operand.tmp 32), type := 41, pos := "layout.go:99", after := #[{ on := 8, ground := Go.Ground.data }], guard := none }) (v := .agg #[.int .i64 t1, .int .i64 t2]) rfl (by kernel_rfl) (by kernel_rfl) (by kernel_rfl) (fun _ _ _ h => h) (Or.inl ⟨by rfl, fun wz hSw => ?_⟩) hHeld ?_
            · obtain ⟨_, r0, r1, r2, r3, r4⟩ := hSw
              go_simp
            simp only [Act.put, List.setIfInBounds_toArray, List.set_cons_zero, List.set_cons_succ]
            refine wpAnyH_ready (rs := [10]) (by kernel_rfl) (by simp) ?_
            refine AllReadyH.cons (o := { dst := some 34, op := Go.Op.call { callee := Go.Callee.value (Go.Operand.func 76), args := #[Go.Operand.tmp 28, Go.Operand.tmp 33], argTypes := #[41, 41] }, type := 4, pos := "layout.go:99", after := #[{ on := 4, ground := Go.Ground.data }, { on := 9, ground := Go.Ground.data }], guard := none }) rfl (fun K hK => ?_) AllReadyH.nil
            rw [if_pos (by rfl)]
            go_simp
            go_at_call 76
            refine (hme _).mono ?_
            rintro e w2 ⟨rfl, b2⟩
            go_simp
            have b3 : Below wr.heap.size wr w2 := ((Below.refl wr.heap.size wr).drew).trans b2
            have hk := kp w2 b3
            refine hK.out _ _ hk (fun hHeld2 => ?_)
            clear hK K
            refine wpAnyH_take (i := 11) (oi := { dst := some 35, op := Go.Op.move (Go.Operand.tmp 34), type := 4, pos := "layout.go:99", after := #[{ on := 10, ground := Go.Ground.data }, { on := 10, ground := Go.Ground.chain }], guard := none }) (v := .bool false) rfl (by kernel_rfl) (by kernel_rfl) (by kernel_rfl) (fun _ _ _ h => h) (Or.inl ⟨by rfl, fun wz hSw => ?_⟩) hHeld2 ?_
            · obtain ⟨_, r0, r1, r2, r3, r4⟩ := hSw
              go_simp
            simp only [Act.put, List.setIfInBounds_toArray, List.set_cons_zero, List.set_cons_succ]
            refine wpAnyH_take (i := 12) (oi := { dst := some 36, op := Go.Op.fieldAddr 70 (Go.Operand.tmp 1) 2, type := 0, pos := "layout.go:99", after := #[{ on := 11, ground := Go.Ground.guard }], guard := some (11, true) }) (v := undef) rfl (by kernel_rfl) (by kernel_rfl) (by kernel_rfl) (fun _ _ _ h => h) (Or.inr ⟨by rfl, rfl⟩) hHeld2 ?_
            simp only [Act.put, List.setIfInBounds_toArray, List.set_cons_zero, List.set_cons_succ]
            refine wpAnyH_take (i := 13) (oi := { dst := some 37, op := Go.Op.load 32 (Go.Operand.tmp 36), type := 32, pos := "layout.go:99", after := #[{ on := 12, ground := Go.Ground.data }, { on := 11, ground := Go.Ground.guard }], guard := some (11, true) }) (v := undef) rfl (by kernel_rfl) (by kernel_rfl) (by kernel_rfl) (fun _ _ _ h => h) (Or.inr ⟨by rfl, rfl⟩) hHeld2 ?_
            simp only [Act.put, List.setIfInBounds_toArray, List.set_cons_zero, List.set_cons_succ]
            refine wpAnyH_take (i := 14) (oi := { dst := some 38, op := Go.Op.move (Go.Operand.tmp 4), type := 3, pos := "layout.go:99", after := #[{ on := 11, ground := Go.Ground.guard }], guard := some (11, true) }) (v := undef) rfl (by kernel_rfl) (by kernel_rfl) (by kernel_rfl) (fun _ _ _ h => h) (Or.inr ⟨by rfl, rfl⟩) hHeld2 ?_
            simp only [Act.put, List.setIfInBounds_toArray, List.set_cons_zero, List.set_cons_succ]
            refine wpAnyH_take (i := 15) (oi := { dst := some 39, op := Go.Op.indexAddr 32 (Go.Operand.tmp 37) (Go.Operand.tmp 38), type := 0, pos := "layout.go:99", after := #[{ on := 13, ground := Go.Ground.data }, { on := 14, ground := Go.Ground.data }, { on := 11, ground := Go.Ground.guard }], guard := some (11, true) }) (v := undef) rfl (by kernel_rfl) (by kernel_rfl) (by kernel_rfl) (fun _ _ _ h => h) (Or.inr ⟨by rfl, rfl⟩) hHeld2 ?_
            simp only [Act.put, List.setIfInBounds_toArray, List.set_cons_zero, List.set_cons_succ]
            refine wpAnyH_take (i := 16) (oi := { dst := some 40, op := Go.Op.load 41 (Go.Operand.tmp 39), type := 41, pos := "layout.go:99", after := #[{ on := 15, ground := Go.Ground.data }, { on := 11, ground := Go.Ground.guard }], guard := some (11, true) }) (v := undef) rfl (by kernel_rfl) (by kernel_rfl) (by kernel_rfl) (fun _ _ _ h => h) (Or.inr ⟨by rfl, rfl⟩) hHeld2 ?_
            simp only [Act.put, List.setIfInBounds_toArray, List.set_cons_zero, List.set_cons_succ]
            refine wpAnyH_take (i := 17) (oi := { dst := some 41, op := Go.Op.fieldAddr 70 (Go.Operand.tmp 1) 2, type := 0, pos := "layout.go:99", after := #[{ on := 11, ground := Go.Ground.guard }], guard := some (11, true) }) (v := undef) rfl (by kernel_rfl) (by kernel_rfl) (by kernel_rfl) (fun _ _ _ h => h) (Or.inr ⟨by rfl, rfl⟩) hHeld2 ?_
            simp only [Act.put, List.setIfInBounds_toArray, List.set_cons_zero, List.set_cons_succ]
            refine wpAnyH_take (i := 18) (oi := { dst := some 42, op := Go.Op.load 32 (Go.Operand.tmp 41), type := 32, pos := "layout.go:99", after := #[{ on := 17, ground := Go.Ground.data }, { on := 11, ground := Go.Ground.guard }], guard := some (11, true) }) (v := undef) rfl (by kernel_rfl) (by kernel_rfl) (by kernel_rfl) (fun _ _ _ h => h) (Or.inr ⟨by rfl, rfl⟩) hHeld2 ?_
            simp only [Act.put, List.setIfInBounds_toArray, List.set_cons_zero, List.set_cons_succ]
            refine wpAnyH_take (i := 19) (oi := { dst := some 43, op := Go.Op.move (Go.Operand.tmp 6), type := 3, pos := "layout.go:99", after := #[{ on := 11, ground := Go.Ground.guard }], guard := some (11, true) }) (v := undef) rfl (by kernel_rfl) (by kernel_rfl) (by kernel_rfl) (fun _ _ _ h => h) (Or.inr ⟨by rfl, rfl⟩) hHeld2 ?_
            simp only [Act.put, List.setIfInBounds_toArray, List.set_cons_zero, List.set_cons_succ]
            refine wpAnyH_take (i := 20) (oi := { dst := some 44, op := Go.Op.indexAddr 32 (Go.Operand.tmp 42) (Go.Operand.tmp 43), type := 0, pos := "layout.go:99", after := #[{ on := 18, ground := Go.Ground.data }, { on := 19, ground := Go.Ground.data }, { on := 11, ground := Go.Ground.guard }], guard := some (11, true) }) (v := undef) rfl (by kernel_rfl) (by kernel_rfl) (by kernel_rfl) (fun _ _ _ h => h) (Or.inr ⟨by rfl, rfl⟩) hHeld2 ?_
            simp only [Act.put, List.setIfInBounds_toArray, List.set_cons_zero, List.set_cons_succ]
            refine wpAnyH_take (i := 21) (oi := { dst := some 45, op := Go.Op.load 41 (Go.Operand.tmp 44), type := 41, pos := "layout.go:99", after := #[{ on := 20, ground := Go.Ground.data }, { on := 11, ground := Go.Ground.guard }], guard := some (11, true) }) (v := undef) rfl (by kernel_rfl) (by kernel_rfl) (by kernel_rfl) (fun _ _ _ h => h) (Or.inr ⟨by rfl, rfl⟩) hHeld2 ?_
            simp only [Act.put, List.setIfInBounds_toArray, List.set_cons_zero, List.set_cons_succ]
            refine wpAnyH_take (i := 22) (oi := { dst := some 46, op := Go.Op.call { callee := Go.Callee.value (Go.Operand.func 76), args := #[Go.Operand.tmp 40, Go.Operand.tmp 45], argTypes := #[41, 41] }, type := 4, pos := "layout.go:99", after := #[{ on := 16, ground := Go.Ground.data }, { on := 21, ground := Go.Ground.data }, { on := 11, ground := Go.Ground.chain }, { on := 11, ground := Go.Ground.guard }], guard := some (11, true) }) (v := undef) rfl (by kernel_rfl) (by kernel_rfl) (by kernel_rfl) (fun _ _ _ h => h) (Or.inr ⟨by rfl, rfl⟩) hHeld2 ?_
            simp only [Act.put, List.setIfInBounds_toArray, List.set_cons_zero, List.set_cons_succ]
            refine wpAnyH_take (i := 23) (oi := { dst := some 47, op := Go.Op.pick (Go.Operand.tmp 35) (Go.Operand.tmp 46) (Go.Operand.const (Go.Value.bool false)), type := 4, pos := "layout.go:99", after := #[{ on := 11, ground := Go.Ground.data }, { on := 22, ground := Go.Ground.data }], guard := none }) (v := .bool false) rfl (by kernel_rfl) (by kernel_rfl) (by kernel_rfl) (fun _ _ _ h => h) (Or.inl ⟨by rfl, fun wz hSw => ?_⟩) hHeld2 ?_
            · obtain ⟨_, r0, r1, r2, r3, r4⟩ := hSw
              go_simp
            simp only [Act.put, List.setIfInBounds_toArray, List.set_cons_zero, List.set_cons_succ]
            refine wpAnyH_done (by kernel_rfl) ?_ _
            go_wp2
            go_roundw
            case rel => exact ⟨m + 1, by omega, by go_num, HA1.out (by rw [HP3.out]; rfl), hbs.trans (b3.mono hbs.size)⟩
            case measure => simp [intOf]; omega
          | true =>
            have kp : ∀ w', Below wr.heap.size wr w' → Below wr.heap.size wr w' ∧ w'.cell? ⟨w.heap.size, 1, none⟩ = some (.slice (some ⟨sb, 0, none⟩) N N) ∧ w'.cell? ⟨sb, q * 2, none⟩ = some (.int .i64 s1) ∧ w'.cell? ⟨sb, q * 2 + 1, none⟩ = some (.int .i64 s2) ∧ w'.cell? ⟨sb, z * 2, none⟩ = some (.int .i64 t1) ∧ w'.cell? ⟨sb, z * 2 + 1, none⟩ = some (.int .i64 t2) ∧ w'.cell? ⟨w.heap.size, 2, none⟩ = some (.slice (some ⟨lb, 0, none⟩) N N) ∧ w'.cell? ⟨lb, q * 2, none⟩ = some (.int .i64 x1) ∧ w'.cell? ⟨lb, q * 2 + 1, none⟩ = some (.int .i64 x2) ∧ w'.cell? ⟨lb, z * 2, none⟩ = some (.int .i64 y1) ∧ w'.cell? ⟨lb, z * 2 + 1, none⟩ = some (.int .i64 y2) := fun w' h => ⟨h, (h.cell (p := ⟨w.heap.size, 1, none⟩) lwb).trans g1, (h.cell (p := ⟨sb, q * 2, none⟩) lsb).trans a0, (h.cell (p := ⟨sb, q * 2 + 1, none⟩) lsb).trans a1, (h.cell (p := ⟨sb, z * 2, none⟩) lsb).trans c0, (h.cell (p := ⟨sb, z * 2 + 1, none⟩) lsb).trans c1, (h.cell (p := ⟨w.heap.size, 2, none⟩) lwb).trans g2, (h.cell (p := ⟨lb, q * 2, none⟩) llb).trans e0, (h.cell (p := ⟨lb, q * 2 + 1, none⟩) llb).trans e1, (h.cell (p := ⟨lb, z * 2, none⟩) llb).trans f0, (h.cell (p := ⟨lb, z * 2 + 1, none⟩) llb).trans f1⟩
            have hd := (Below.refl wr.heap.size wr).drew
            cases r2 with
            | false =>
              go_wp2
              go_region_held3 (fun w' => Below wr.heap.size wr w' ∧ w'.cell? ⟨w.heap.size, 1, none⟩ = some (.slice (some ⟨sb, 0, none⟩) N N) ∧ w'.cell? ⟨sb, q * 2, none⟩ = some (.int .i64 s1) ∧ w'.cell? ⟨sb, q * 2 + 1, none⟩ = some (.int .i64 s2) ∧ w'.cell? ⟨sb, z * 2, none⟩ = some (.int .i64 t1) ∧ w'.cell? ⟨sb, z * 2 + 1, none⟩ = some (.int .i64 t2) ∧ w'.cell? ⟨w.heap.size, 2, none⟩ = some (.slice (some ⟨lb, 0, none⟩) N N) ∧ w'.cell? ⟨lb, q * 2, none⟩ = some (.int .i64 x1) ∧ w'.cell? ⟨lb, q * 2 + 1, none⟩ = some (.int .i64 x2) ∧ w'.cell? ⟨lb, z * 2, none⟩ = some (.int .i64 y1) ∧ w'.cell? ⟨lb, z * 2 + 1, none⟩ = some (.int .i64 y2))
                (first | exact kp _ hd | exact kp _ (hd.trans b2) | exact kp _ (below_step (hd.trans b2) b3))
                (first | (go_at_call 76; (with_reducible refine (hme _).mono ?_); rintro e w2 ⟨rfl, b2⟩) | (go_at_call 76; (with_reducible refine (hme2 _).mono ?_); rintro e w3 ⟨rfl, b3⟩))
              go_wp2
              go_roundw
              case rel => exact ⟨m + 1, by omega, by go_num, HA1.out (by rw [HP3.out]; rfl), hbs.trans ((below_step (hd.trans b2) b3).mono hbs.size)⟩
              case measure => simp [intOf]; omega
            | true =>
              go_wp2
              go_region_held3 (fun w' => Below wr.heap.size wr w' ∧ w'.cell? ⟨w.heap.size, 1, none⟩ = some (.slice (some ⟨sb, 0, none⟩) N N) ∧ w'.cell? ⟨sb, q * 2, none⟩ = some (.int .i64 s1) ∧ w'.cell? ⟨sb, q * 2 + 1, none⟩ = some (.int .i64 s2) ∧ w'.cell? ⟨sb, z * 2, none⟩ = some (.int .i64 t1) ∧ w'.cell? ⟨sb, z * 2 + 1, none⟩ = some (.int .i64 t2) ∧ w'.cell? ⟨w.heap.size, 2, none⟩ = some (.slice (some ⟨lb, 0, none⟩) N N) ∧ w'.cell? ⟨lb, q * 2, none⟩ = some (.int .i64 x1) ∧ w'.cell? ⟨lb, q * 2 + 1, none⟩ = some (.int .i64 x2) ∧ w'.cell? ⟨lb, z * 2, none⟩ = some (.int .i64 y1) ∧ w'.cell? ⟨lb, z * 2 + 1, none⟩ = some (.int .i64 y2))
                (first | exact kp _ hd | exact kp _ (hd.trans b2) | exact kp _ (below_step (hd.trans b2) b3))
                (first | (go_at_call 76; (with_reducible refine (hme _).mono ?_); rintro e w2 ⟨rfl, b2⟩) | (go_at_call 76; (with_reducible refine (hme2 _).mono ?_); rintro e w3 ⟨rfl, b3⟩))
              go_wp2
              go_ret
              exact ⟨by rw [HF.out (HF1.out (by rw [HP3.out]; rfl))]; rfl, below_step hb0 (hbs.trans ((below_step (hd.trans b2) b3).mono hbs.size))⟩
        · have hme : m = n := by omega
          subst hme
          go_wp2
          go_roundw
          case rel => exact ⟨m + 1, by omega, by go_num, HA.out hal, hbs⟩
          case measure => simp [intOf]; omega
    · have hne : n = os.length := by omega
      subst hne
      go_wp2
      go_ret
      exact ⟨by rw [hcl]; rfl, below_step hb0 hbr⟩
end Go.Proofs.Ytfpkiimlaepnhab
/-
  BEHIND: need.fromBehind: the passes, the last one first.
-/
namespace Go.Proofs.Ytfpkiimlaepnhab
set_option maxRecDepth 100000
open Go.RowKit Im Go.Shelf
attribute [local go_sem] Oper.semAt_some

/-- A pass's fields, as values. -/
structure Pv where
  Op : Int
  To : Int
  A : Int
  B : Int
  K : Int
  la : Option Addr
  ll : Nat
  lc : Nat
abbrev Pv.val (p : Pv) : Value := .agg #[.int .i64 p.Op, .int .i64 p.To, .int .i64 p.A, .int .i64 p.B, .int .i64 p.K, .slice p.la p.ll p.lc]
/-- A pass, with its number. -/
abbrev Pe (len : Nat) := { x : Nat × Pv // x.1 < len }
abbrev peV {len : Nat} (x : Pe len) : Array Value := #[.int .i64 (x.1.1 : Int), x.1.2.val]
/-- What comes as number j, from behind. -/
def bh (len : Nat) (hl : 0 < len) (pv : Nat → Pv) (j : Nat) : Pe len := ⟨(len - 1 - j, pv (len - 1 - j)), by omega⟩
def bhs (len : Nat) (hl : 0 < len) (pv : Nat → Pv) (k : Nat) : List (Pe len) := (List.range k).map (bh len hl pv)
theorem bhs_succ (len : Nat) (hl : 0 < len) (pv : Nat → Pv) (k : Nat) : bhs len hl pv (k + 1) = bhs len hl pv k ++ [bh len hl pv k] := by simp [bhs, List.range_succ]
theorem bhs_length (len : Nat) (hl : 0 < len) (pv : Nat → Pv) (k : Nat) : (bhs len hl pv k).length = k := by simp [bhs]
/-- The passes' cells, in the block b. -/
def PvAt (W : World) (b off len : Nat) (pv : Nat → Pv) : Prop := ∀ j, j < len → W.cell? ⟨b, off + j * 6, none⟩ = some (.int .i64 (pv j).Op) ∧ W.cell? ⟨b, off + j * 6 + 1, none⟩ = some (.int .i64 (pv j).To) ∧ W.cell? ⟨b, off + j * 6 + 2, none⟩ = some (.int .i64 (pv j).A) ∧ W.cell? ⟨b, off + j * 6 + 3, none⟩ = some (.int .i64 (pv j).B) ∧ W.cell? ⟨b, off + j * 6 + 4, none⟩ = some (.int .i64 (pv j).K) ∧ W.cell? ⟨b, off + j * 6 + 5, none⟩ = some (.slice (pv j).la (pv j).ll (pv j).lc)
theorem PvAt.below {W W' : World} {b off len n₀ : Nat} {pv : Nat → Pv} (h : PvAt W b off len pv) (hb : Below n₀ W W') (hl : b < n₀) : PvAt W' b off len pv := fun j hj => by
  obtain ⟨c0, c1, c2, c3, c4, c5⟩ := h j hj
  exact ⟨(hb.cell (p := ⟨b, off + j * 6, none⟩) hl).trans c0, (hb.cell (p := ⟨b, off + j * 6 + 1, none⟩) hl).trans c1, (hb.cell (p := ⟨b, off + j * 6 + 2, none⟩) hl).trans c2, (hb.cell (p := ⟨b, off + j * 6 + 3, none⟩) hl).trans c3, (hb.cell (p := ⟨b, off + j * 6 + 4, none⟩) hl).trans c4, (hb.cell (p := ⟨b, off + j * 6 + 5, none⟩) hl).trans c5⟩
/-- What a round keeps: what lay below n₀, and the iterator's own box. -/
def KpB (n₀ Bs : Nat) (A B : World) : Prop := Below n₀ A B ∧ B.cell? ⟨Bs, 0, none⟩ = A.cell? ⟨Bs, 0, none⟩
set_option maxHeartbeats 2000000 in
theorem behind1_in (n : Nat) (hn : 1 ≤ n) (l Bs n₀ b off len cap : Nat) (hl : 0 < len) (h12 : len ≤ 12) (pv : Nat → Pv) (hb : b < n₀) (J Jx : List (Pe len) → World → Prop)
    (hY : ∀ pre x W, J pre W → pre.length < len → YieldAt Fence.wide (n - 1) Try.prog l (peV x) W fun e W' =>
      (e = .returned (.bool true) ∧ J (pre ++ [x]) W' ∧ KpB n₀ Bs W W') ∨ (e = .returned (.bool false) ∧ Jx (pre ++ [x]) W'))
    (W : World) (hBs : W.cell? ⟨Bs, 0, none⟩ = some (.slice (some ⟨b, off, none⟩) len cap)) (hc : PvAt W b off len pv) (h0 : J [] W) :
    CallsIn Fence.wide n Try.prog 107 #[.func (.yield l) #[] #[], .pointer (some ⟨Bs, 0, none⟩)] W fun e W' => (∃ v, e = .returned v) ∧
      ((∃ ys, ys = bhs len hl pv len ∧ J ys W') ∨ (∃ pre, (∃ k, k < len ∧ pre = bhs len hl pv (k + 1)) ∧ Jx pre W')) := by
  have hw0 : IntKind.i64.wrap ((len : Int) - 1) = (len : Int) - 1 := by rw [IntKind.wrap_i64]; omega
  refine callsIn_of_wp Try.func107 rfl trivial ?_ rfl
  simp only [Try.ntmps107, List.size_toArray, List.length_cons, List.length_nil, Nat.reduceAdd, Nat.reduceSub, Array.replicate_succ, Array.replicate_zero, List.push_toArray, List.append_toArray, List.nil_append, List.cons_append]
  gi_wp2
  gi_loopw [3] (fun i wr => ∃ k : Nat, k ≤ len ∧ i = .int .i64 ((len : Int) - 1 - k) ∧ J (bhs len hl pv k) wr ∧ KpB n₀ Bs W wr) (fun i _ => (intOf i + 1).toNat)
  case atStart => exact ⟨0, Nat.zero_le _, by simp, h0, Below.refl _ _, rfl⟩
  case round =>
    obtain ⟨k, hk, rfl, hJs, hnx, hnb⟩ := hrel
    have hbx := hnb.trans hBs
    by_cases hlt : k < len
    · obtain ⟨m, hm⟩ : ∃ m : Nat, m = len - 1 - k := ⟨_, rfl⟩
      have hmi : (len : Int) - 1 - k = (m : Int) := by omega
      obtain ⟨c0, c1, c2, c3, c4, c5⟩ := (hc.below hnx hb) m (by omega)
      obtain ⟨fn, tmps, assign, body, hy, hR⟩ := hY _ (bh len hl pv k) wr hJs (by rw [bhs_length]; exact hlt)
      have hbk : (bh len hl pv k).1 = (m, pv m) := by unfold bh; rw [hm]
      unfold peV at hy
      rw [hbk] at hy
      dsimp only at hy
      rw [hmi]
      have hml : (m : Int) < (len : Int) := by omega
      have hw1 : IntKind.i64.wrap ((m : Int) - 1) = (m : Int) - 1 := by rw [IntKind.wrap_i64]; omega
      have HMN : Hid ((m : Int) - 1 = (len : Int) - 1 - ((k + 1 : Nat) : Int)) := by show _ = _; omega
      generalize pv m = p at c0 c1 c2 c3 c4 c5 hy
      clear hm hmi hbk hbx
      have hbx := hnb.trans hBs
      gi_wp2
      refine hR.mono ?_
      rintro e W3 (⟨rfl, hJ3, hk3⟩ | ⟨rfl, hJx3⟩)
      · gi_wp2
        go_roundw
        case rel => exact ⟨k + 1, by omega, by rw [HMN.out], by rw [bhs_succ]; exact hJ3, hnx.trans hk3.1, hk3.2.trans hnb⟩
        case measure => show ((m : Int) - 1 + 1).toNat < ((m : Int) + 1).toNat; omega
      · gi_wp2
        refine bodyPost_ret (results_none rfl _ _ _) rfl ?_
        exact ⟨⟨_, rfl⟩, .inr ⟨_, ⟨k, hlt, (bhs_succ _ _ _ _).symm⟩, hJx3⟩⟩
    · obtain rfl : k = len := by omega
      have hz : (k : Int) - 1 - k = -1 := by omega
      rw [hz]
      gi_wp2
      go_end0
      exact ⟨⟨_, rfl⟩, .inl ⟨_, rfl, hJs⟩⟩
/-- need.fromBehind's value goes through the passes, the last one first. -/
theorem behind_stops (n : Nat) (hn : 1 ≤ n) (Bs n₀ b off len cap : Nat) (hl : 0 < len) (h12 : len ≤ 12) (pv : Nat → Pv) (hb : b < n₀) (w : World) (hBs : Bs < w.heap.size) (hn₀ : n₀ ≤ w.heap.size)
    (hc : w.cell? ⟨Bs, 0, none⟩ = some (.slice (some ⟨b, off, none⟩) len cap)) (hI : PvAt w b off len pv) :
    SeqStopsK Fence.wide n Try.prog 107 #[.pointer (some ⟨Bs, 0, none⟩)] (peV (len := len)) (KpB n₀ Bs) (fun ys => ys = bhs len hl pv len) (fun pre => ∃ k, k < len ∧ pre = bhs len hl pv (k + 1)) len w := fun l J Jx W hW _ _ hY h0 =>
  behind1_in n hn l Bs n₀ b off len cap hl h12 pv hb J Jx hY W ((hW.cell (p := ⟨Bs, 0, none⟩) hBs).trans hc) (hI.below (hW.mono hn₀) hb) h0
set_option maxHeartbeats 1000000 in
/-- need.fromBehind. -/
theorem fromBehind_any (a : Option Addr) (len cap : Nat) (w : World) :
    Calls Try.prog 82 #[.slice a len cap] w fun e w' => e = .returned (.func (.func 107) #[] #[.pointer (some ⟨w.heap.size, 0, none⟩)]) ∧ w.alloc (.cells #[.slice a len cap] 22) = w' := by
  have hmf : ∀ (fn : Fn) (first cap : Array Value) (w : World), (Instr.makeFunc fn first cap).run Try.prog w = .ok (.func fn first cap) w := fun _ _ _ _ => rfl
  go_enter Try.func82, Try.ntmps82
  go_wp2
  go_ret
  exact ⟨rfl, rfl⟩
theorem KpB.t {n₀ Bs : Nat} {A B C : World} (h : KpB n₀ Bs A B) (k : KpB n₀ Bs B C) : KpB n₀ Bs A C := ⟨h.1.trans k.1, k.2.trans h.2⟩
theorem KpB.b {n₀ Bs : Nat} {w : World} (hn : n₀ ≤ w.heap.size) (hB : Bs < w.heap.size) (W : World) (l : Nat) (o o' : Obj) (hl : w.heap.size ≤ l) (h : W.heap[l]? = some o) (h1 : o.isCells = false) (h2 : o.isWalk = false) : KpB n₀ Bs W (W.putObj l o') :=
  ⟨belowK_b hn W l o o' hl h h1 h2, (belowK_b (n₀ := w.heap.size) (Nat.le_refl _) W l o o' hl h h1 h2).cell (p := ⟨Bs, 0, none⟩) hB⟩
/-- The passes in memory, each with its fields' values. -/
theorem Passes.pv {w : World} {a : Option Addr} {len : Nat} {ps : List Ps} (h : Passes w a len ps) (hl : 0 < len) : ∃ b off pv, a = some ⟨b, off, none⟩ ∧ b < w.heap.size ∧ PvAt w b off len pv ∧ ∀ j, j < len → (pv j).Op = (ps.getD j Ps.zero).Op ∧ (pv j).To = (ps.getD j Ps.zero).To ∧ (pv j).A = (ps.getD j Ps.zero).A ∧ (pv j).B = (ps.getD j Ps.zero).B ∧ (pv j).K = (ps.getD j Ps.zero).K ∧ Lights w (pv j).la (pv j).ll (ps.getD j Ps.zero).ls := by
  rcases h.cells with e | ⟨b, off, ha, hb, hc⟩
  · have := h.leng; subst e; simp at this; omega
  · have hx : ∀ j, ∃ p : Pv, j < len → (w.cell? ⟨b, off + j * 6, none⟩ = some (.int .i64 p.Op) ∧ w.cell? ⟨b, off + j * 6 + 1, none⟩ = some (.int .i64 p.To) ∧ w.cell? ⟨b, off + j * 6 + 2, none⟩ = some (.int .i64 p.A) ∧ w.cell? ⟨b, off + j * 6 + 3, none⟩ = some (.int .i64 p.B) ∧ w.cell? ⟨b, off + j * 6 + 4, none⟩ = some (.int .i64 p.K) ∧ w.cell? ⟨b, off + j * 6 + 5, none⟩ = some (.slice p.la p.ll p.lc)) ∧ (p.Op = (ps.getD j Ps.zero).Op ∧ p.To = (ps.getD j Ps.zero).To ∧ p.A = (ps.getD j Ps.zero).A ∧ p.B = (ps.getD j Ps.zero).B ∧ p.K = (ps.getD j Ps.zero).K ∧ Lights w p.la p.ll (ps.getD j Ps.zero).ls) := by
      intro j
      by_cases hj : j < len
      · obtain ⟨la, ll, lc, c0, c1, c2, c3, c4, c5, hL⟩ := hc j hj
        exact ⟨⟨_, _, _, _, _, la, ll, lc⟩, fun _ => ⟨⟨c0, c1, c2, c3, c4, c5⟩, rfl, rfl, rfl, rfl, rfl, hL⟩⟩
      · exact ⟨⟨0, 0, 0, 0, 0, none, 0, 0⟩, fun h => absurd h hj⟩
    obtain ⟨pv, hpv⟩ := Classical.axiomOfChoice hx
    exact ⟨b, off, pv, ha, hb, fun j hj => (hpv j hj).1, fun j hj => (hpv j hj).2⟩
end Go.Proofs.Ytfpkiimlaepnhab
