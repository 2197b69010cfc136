/- Clash, Behind, Last: joined, in this order. -/
import Derived.Test.YtihliofhhjjeaaaGreatM14
import Derived.Test.YtihliofhhjjeaaaGreatM11
import Derived.RangeFuncNested
import Derived.RangeFuncBound
import Derived.RangeFuncCalls
import Derived.RangeFuncLeaves
import Derived.Shelf.Abstract
import Derived.Shelf.RegionOpen
import Derived.OwnWalkIn
import Derived.TacticsInMore
import Derived.LoopNIn
import Derived.LoopIn
import Derived.Test.YtihliofhhjjeaaaGreatM12
set_option maxRecDepth 100000
namespace Go.Proofs.YtihliofhhjjeaaaGreat
open Go.RowKit Im Go.Maps
theorem Ints.take {base : Nat} {w : World} {a : Option Addr} {len : Nat} {ps : List Int} (h : Ints base w a len ps) {n : Nat} (hn : n ≤ len) : Ints base w a n (ps.take n) := by
  have hl := h.leng
  refine ⟨by rw [List.length_take]; omega, by have := h.big; omega, ?_, fun h0 => (h.free h0).imp (fun e => by rw [e]; simp) fun hf b off ha j hj => hf b off ha j (by omega)⟩
  rcases h.cells with e | ⟨b, off, ha, h0, hb, hc⟩
  · subst e; exact .inl (by simp)
  · refine .inr ⟨b, off, ha, h0, hb, fun j hj => ?_⟩
    rw [hc j (by omega), List.getD_eq_getElem?_getD, List.getD_eq_getElem?_getD, List.getElem?_take_of_lt hj]
set_option maxHeartbeats 8000000 in
theorem clash_any {N : Nat} {os : List Int} {span lie : Nat → Int × Int} (hos : ∀ o ∈ os, 0 ≤ o ∧ o < N) (hol : os.length ≤ 12) {a : Option Addr} {len : Nat} (cap : Nat) (hcap : len ≤ cap) {base : Nat} {sb lb : Nat} {w : World} (hI : Ints base w a len os) (hP : Sp w sb N span) (hS : Sp w lb N lie) :
    Calls Tryz.prog 89 #[.agg #[.slice a len cap, .slice (some ⟨sb, 0, none⟩) N N, .slice (some ⟨lb, 0, none⟩) N N]] w fun e w' => e = .returned (.bool (!clearT os span lie os.length)) ∧ Below w.heap.size w w' := by
  obtain rfl := hI.leng
  have hB := Box3.new w (.slice a os.length cap) (.slice (some ⟨sb, 0, none⟩) N N) (.slice (some ⟨lb, 0, none⟩) N N) 115
  have hb0 := below_box (Below.refl w.heap.size w) (.cells #[.slice a os.length cap, .slice (some ⟨sb, 0, none⟩) N N, .slice (some ⟨lb, 0, none⟩) N N] 115)
  have hI0 := hI.below (Nat.le_refl _) hb0
  have hS0 := hS.below hb0 hS.lt hb0.size
  have hP0 := hP.below hb0 hP.lt hb0.size
  have HOS : Hid (_) := hos
  clear hos hS hI hP
  go_enter Tryz.func89, Tryz.ntmps89
  go_wp2
  generalize w.alloc (.cells #[.slice a os.length cap, .slice (some ⟨sb, 0, none⟩) N N, .slice (some ⟨lb, 0, none⟩) N N] 115) = W0 at *
  go_loopw [10] (fun i wr => ∃ n : Nat, n ≤ os.length ∧ i = .int .i64 n ∧ clearT os span lie n = true ∧ Below W0.heap.size W0 wr) (fun i _ => os.length - (intOf i).toNat)
  case atStart => exact ⟨0, Nat.zero_le _, rfl, rfl, Below.refl _ _⟩
  case round =>
    obtain ⟨n, hn, rfl, hcl, hbr⟩ := hrel
    by_cases hlt : n < os.length
    · obtain ⟨ob, oo, rfl, hox⟩ := (hI0.below (Nat.le_refl _) hbr).nth hlt
      obtain ⟨_, g0, g1, g2⟩ := hB.below hbr
      have hor := HOS.out _ (getD_mem hlt 0)
      have HA : Hid (allTo (apartT os span lie n) n = true → clearT os span lie (n + 1) = true) := fun h => allTo_succ hcl h
      have HF : Hid (allTo (apartT os span lie n) n = false → clearT os span lie os.length = false) := fun h => allTo_not hlt h
      have HP1 : Hid (∀ j, apartT os span lie n j = !(meetB (span (os.getD n 0).toNat) (span (os.getD j 0).toNat) && meetB (lie (os.getD n 0).toNat) (lie (os.getD j 0).toNat))) := fun _ => rfl
      generalize os.getD n 0 = p at hox hor HP1
      obtain ⟨q, rfl⟩ := Int.eq_ofNat_of_zero_le hor.1
      rw [Int.toNat_natCast] at HP1
      have hql : q < N := by omega
      have hqI : (q : Int) < (N : Int) := by omega
      have hq0 : (0 : Int) ≤ (q : Int) := by omega
      have hn0 : (0 : Int) ≤ (n : Int) := by omega
      have hnc : (n : Int) ≤ (cap : Int) := by omega
      clear hcl
      go_wp2
      go_loopw [20] (fun i ws => ∃ m : Nat, m ≤ n ∧ i = .int .i64 m ∧ allTo (apartT os span lie n) m = true ∧ Below W0.heap.size W0 ws) (fun i _ => n - (intOf i).toNat)
      case atStart => exact ⟨0, Nat.zero_le _, rfl, rfl, hbr⟩
      case round =>
        obtain ⟨m, hm, rfl, hal, hbs⟩ := hrel
        clear g0 g1 g2 hox hbr
        by_cases hlm : m < n
        · obtain ⟨_, g0, g1, g2⟩ := hB.below hbs
          obtain ⟨ob', oo', he, hox⟩ := (hI0.below (Nat.le_refl _) hbs).nth (show m < os.length by omega)
          injection he with he
          injection he with he1 he2
          subst he1 he2
          have hor2 := HOS.out _ (getD_mem (show m < os.length by omega) 0)
          have HA1 : Hid (apartT os span lie n m = true → allTo (apartT os span lie n) (m + 1) = true) := fun h => allTo_succ hal h
          have HF1 : Hid (apartT os span lie n m = false → allTo (apartT os span lie n) n = false) := fun h => allTo_not hlm h
          have HP2 := HP1.out m
          generalize os.getD m 0 = p at hox hor2 HP2
          obtain ⟨z, rfl⟩ := Int.eq_ofNat_of_zero_le hor2.1
          rw [Int.toNat_natCast] at HP2
          have hzl : z < N := by omega
          have hzI : (z : Int) < (N : Int) := by omega
          have hz0 : (0 : Int) ≤ (z : Int) := by omega
          have hPr := hP0.below hbs hP0.lt hbs.size
          have hSr := hS0.below hbs hS0.lt hbs.size
          have a0 := hPr.c0 q hql
          have a1 := hPr.c1 q hql
          have c0 := hPr.c0 z hzl
          have c1 := hPr.c1 z hzl
          have e0 := hSr.c0 q hql
          have e1 := hSr.c1 q hql
          have f0 := hSr.c0 z hzl
          have f1 := hSr.c1 z hzl
          have lsb := hPr.lt
          have llb := hSr.lt
          have lwb := (hB.below hbs).lt
          obtain ⟨r1, hr1⟩ : ∃ r, r = meetB (span q) (span z) := ⟨_, rfl⟩
          obtain ⟨r2, hr2⟩ : ∃ r, r = meetB (lie q) (lie z) := ⟨_, rfl⟩
          have hme := fun wx => meet_any (span q).1 (span q).2 (span z).1 (span z).2 wx
          have hme2 := fun wx => meet_any (lie q).1 (lie q).2 (lie z).1 (lie z).2 wx
          rw [show meetB ((span q).1, (span q).2) ((span z).1, (span z).2) = r1 from hr1.symm] at hme
          rw [show meetB ((lie q).1, (lie q).2) ((lie z).1, (lie z).2) = r2 from hr2.symm] at hme2
          rw [← hr1, ← hr2] at HP2
          have HP3 : Hid (_) := HP2
          clear hr1 hr2 hPr hSr HP2 hal
          generalize (span q).1 = s1 at a0 hme
          generalize (span q).2 = s2 at a1 hme
          generalize (span z).1 = t1 at c0 hme
          generalize (span z).2 = t2 at c1 hme
          generalize (lie q).1 = x1 at e0 hme2
          generalize (lie q).2 = x2 at e1 hme2
          generalize (lie z).1 = y1 at f0 hme2
          generalize (lie z).2 = y2 at f1 hme2
          cases r1 with
          | false =>
            clear e0 e1 f0 f1 hme2
            have kp : ∀ w', Below wr.heap.size wr w' → Below wr.heap.size wr w' ∧ w'.cell? ⟨w.heap.size, 1, none⟩ = some (.slice (some ⟨sb, 0, none⟩) N N) ∧ w'.cell? ⟨sb, q * 2, none⟩ = some (.int .i64 s1) ∧ w'.cell? ⟨sb, q * 2 + 1, none⟩ = some (.int .i64 s2) ∧ w'.cell? ⟨sb, z * 2, none⟩ = some (.int .i64 t1) ∧ w'.cell? ⟨sb, z * 2 + 1, none⟩ = some (.int .i64 t2) := fun w' h => ⟨h, (h.cell (p := ⟨w.heap.size, 1, none⟩) lwb).trans g1, (h.cell (p := ⟨sb, q * 2, none⟩) lsb).trans a0, (h.cell (p := ⟨sb, q * 2 + 1, none⟩) lsb).trans a1, (h.cell (p := ⟨sb, z * 2, none⟩) lsb).trans c0, (h.cell (p := ⟨sb, z * 2 + 1, none⟩) lsb).trans c1⟩
            go_wp2
            refine wp_region_held_drew (S := (fun w' => Below wr.heap.size wr w' ∧ w'.cell? ⟨w.heap.size, 1, none⟩ = some (.slice (some ⟨sb, 0, none⟩) N N) ∧ w'.cell? ⟨sb, q * 2, none⟩ = some (.int .i64 s1) ∧ w'.cell? ⟨sb, q * 2 + 1, none⟩ = some (.int .i64 s2) ∧ w'.cell? ⟨sb, z * 2, none⟩ = some (.int .i64 t1) ∧ w'.cell? ⟨sb, z * 2 + 1, none⟩ = some (.int .i64 t2))) (by kernel_rfl) (kp _ (Below.refl _ _).drew) (fun hHeld => ?_)
            refine wpAnyH_take (i := 0) (oi := { dst := some 24, op := Go.Op.fieldAddr 115 (Go.Operand.tmp 1) 1, type := 0, pos := "layout.go:99", after := #[], guard := none }) (v := .pointer (some ⟨w.heap.size, 1, none⟩)) rfl (by kernel_rfl) (by kernel_rfl) (by kernel_rfl) (fun _ _ _ h => h) (Or.inl ⟨by rfl, fun wz hSw => ?_⟩) hHeld ?_
            · obtain ⟨_, r0, r1, r2, r3, r4⟩ := hSw
              go_simp
            simp only [Act.put, List.setIfInBounds_toArray, List.set_cons_zero, List.set_cons_succ]
            refine wpAnyH_take (i := 1) (oi := { dst := some 25, op := Go.Op.load 59 (Go.Operand.tmp 24), type := 59, pos := "layout.go:99", after := #[{ on := 0, ground := Go.Ground.data }], guard := none }) (v := .slice (some ⟨sb, 0, none⟩) N N) rfl (by kernel_rfl) (by kernel_rfl) (by kernel_rfl) (fun _ _ _ h => h) (Or.inl ⟨by rfl, fun wz hSw => ?_⟩) hHeld ?_
            · obtain ⟨_, r0, r1, r2, r3, r4⟩ := hSw
              go_simp
            simp only [Act.put, List.setIfInBounds_toArray, List.set_cons_zero, List.set_cons_succ]
            refine wpAnyH_take (i := 2) (oi := { dst := some 26, op := Go.Op.move (Go.Operand.tmp 4), type := 3, pos := "layout.go:99", after := #[], guard := none }) (v := .int .i64 q) rfl (by kernel_rfl) (by kernel_rfl) (by kernel_rfl) (fun _ _ _ h => h) (Or.inl ⟨by rfl, fun wz hSw => ?_⟩) hHeld ?_
            · obtain ⟨_, r0, r1, r2, r3, r4⟩ := hSw
              go_simp
            simp only [Act.put, List.setIfInBounds_toArray, List.set_cons_zero, List.set_cons_succ]
            refine wpAnyH_take (i := 3) (oi := { dst := some 27, op := Go.Op.indexAddr 59 (Go.Operand.tmp 25) (Go.Operand.tmp 26), type := 0, pos := "layout.go:99", after := #[{ on := 1, ground := Go.Ground.data }, { on := 2, ground := Go.Ground.data }], guard := none }) (v := .pointer (some ⟨sb, q * 2, none⟩)) rfl (by kernel_rfl) (by kernel_rfl) (by kernel_rfl) (fun _ _ _ h => h) (Or.inl ⟨by rfl, fun wz hSw => ?_⟩) hHeld ?_
            · obtain ⟨_, r0, r1, r2, r3, r4⟩ := hSw
              go_simp
            simp only [Act.put, List.setIfInBounds_toArray, List.set_cons_zero, List.set_cons_succ]
            refine wpAnyH_take (i := 4) (oi := { dst := some 28, op := Go.Op.load 58 (Go.Operand.tmp 27), type := 58, pos := "layout.go:99", after := #[{ on := 3, ground := Go.Ground.data }], guard := none }) (v := .agg #[.int .i64 s1, .int .i64 s2]) rfl (by kernel_rfl) (by kernel_rfl) (by kernel_rfl) (fun _ _ _ h => h) (Or.inl ⟨by rfl, fun wz hSw => ?_⟩) hHeld ?_
            · obtain ⟨_, r0, r1, r2, r3, r4⟩ := hSw
              go_simp
            simp only [Act.put, List.setIfInBounds_toArray, List.set_cons_zero, List.set_cons_succ]
            refine wpAnyH_take (i := 5) (oi := { dst := some 29, op := Go.Op.fieldAddr 115 (Go.Operand.tmp 1) 1, type := 0, pos := "layout.go:99", after := #[], guard := none }) (v := .pointer (some ⟨w.heap.size, 1, none⟩)) rfl (by kernel_rfl) (by kernel_rfl) (by kernel_rfl) (fun _ _ _ h => h) (Or.inl ⟨by rfl, fun wz hSw => ?_⟩) hHeld ?_
            · obtain ⟨_, r0, r1, r2, r3, r4⟩ := hSw
              go_simp
            simp only [Act.put, List.setIfInBounds_toArray, List.set_cons_zero, List.set_cons_succ]
            refine wpAnyH_take (i := 6) (oi := { dst := some 30, op := Go.Op.load 59 (Go.Operand.tmp 29), type := 59, pos := "layout.go:99", after := #[{ on := 5, ground := Go.Ground.data }], guard := none }) (v := .slice (some ⟨sb, 0, none⟩) N N) rfl (by kernel_rfl) (by kernel_rfl) (by kernel_rfl) (fun _ _ _ h => h) (Or.inl ⟨by rfl, fun wz hSw => ?_⟩) hHeld ?_
            · obtain ⟨_, r0, r1, r2, r3, r4⟩ := hSw
              go_simp
            simp only [Act.put, List.setIfInBounds_toArray, List.set_cons_zero, List.set_cons_succ]
            refine wpAnyH_take (i := 7) (oi := { dst := some 31, op := Go.Op.move (Go.Operand.tmp 6), type := 3, pos := "layout.go:99", after := #[], guard := none }) (v := .int .i64 z) rfl (by kernel_rfl) (by kernel_rfl) (by kernel_rfl) (fun _ _ _ h => h) (Or.inl ⟨by rfl, fun wz hSw => ?_⟩) hHeld ?_
            · obtain ⟨_, r0, r1, r2, r3, r4⟩ := hSw
              go_simp
            simp only [Act.put, List.setIfInBounds_toArray, List.set_cons_zero, List.set_cons_succ]
            refine wpAnyH_take (i := 8) (oi := { dst := some 32, op := Go.Op.indexAddr 59 (Go.Operand.tmp 30) (Go.Operand.tmp 31), type := 0, pos := "layout.go:99", after := #[{ on := 6, ground := Go.Ground.data }, { on := 7, ground := Go.Ground.data }], guard := none }) (v := .pointer (some ⟨sb, z * 2, none⟩)) rfl (by kernel_rfl) (by kernel_rfl) (by kernel_rfl) (fun _ _ _ h => h) (Or.inl ⟨by rfl, fun wz hSw => ?_⟩) hHeld ?_
            · obtain ⟨_, r0, r1, r2, r3, r4⟩ := hSw
              go_simp
            simp only [Act.put, List.setIfInBounds_toArray, List.set_cons_zero, List.set_cons_succ]
            refine wpAnyH_take (i := 9) (oi := { dst := some 33, op := Go.Op.load 58 (Go.Operand.tmp 32), type := 58, pos := "layout.go:99", after := #[{ on := 8, ground := Go.Ground.data }], guard := none }) (v := .agg #[.int .i64 t1, .int .i64 t2]) rfl (by kernel_rfl) (by kernel_rfl) (by kernel_rfl) (fun _ _ _ h => h) (Or.inl ⟨by rfl, fun wz hSw => ?_⟩) hHeld ?_
            · obtain ⟨_, r0, r1, r2, r3, r4⟩ := hSw
              go_simp
            simp only [Act.put, List.setIfInBounds_toArray, List.set_cons_zero, List.set_cons_succ]
            refine wpAnyH_ready (rs := [10]) (by kernel_rfl) (by simp) ?_
            refine AllReadyH.cons (o := { dst := some 34, op := Go.Op.call { callee := Go.Callee.value (Go.Operand.func 136), args := #[Go.Operand.tmp 28, Go.Operand.tmp 33], argTypes := #[58, 58] }, type := 4, pos := "layout.go:99", after := #[{ on := 4, ground := Go.Ground.data }, { on := 9, ground := Go.Ground.data }], guard := none }) rfl (fun K hK => ?_) AllReadyH.nil
            rw [if_pos (by rfl)]
            go_simp
            go_at_call 136
            refine (hme _).mono ?_
            rintro e w2 ⟨rfl, b2⟩
            go_simp
            have b3 : Below wr.heap.size wr w2 := ((Below.refl wr.heap.size wr).drew).trans b2
            have hk := kp w2 b3
            refine hK.out _ _ hk (fun hHeld2 => ?_)
            clear hK K
            refine wpAnyH_take (i := 11) (oi := { dst := some 35, op := Go.Op.move (Go.Operand.tmp 34), type := 4, pos := "layout.go:99", after := #[{ on := 10, ground := Go.Ground.data }, { on := 10, ground := Go.Ground.chain }], guard := none }) (v := .bool false) rfl (by kernel_rfl) (by kernel_rfl) (by kernel_rfl) (fun _ _ _ h => h) (Or.inl ⟨by rfl, fun wz hSw => ?_⟩) hHeld2 ?_
            · obtain ⟨_, r0, r1, r2, r3, r4⟩ := hSw
              go_simp
            simp only [Act.put, List.setIfInBounds_toArray, List.set_cons_zero, List.set_cons_succ]
            refine wpAnyH_take (i := 12) (oi := { dst := some 36, op := Go.Op.fieldAddr 115 (Go.Operand.tmp 1) 2, type := 0, pos := "layout.go:99", after := #[{ on := 11, ground := Go.Ground.guard }], guard := some (11, true) }) (v := undef) rfl (by kernel_rfl) (by kernel_rfl) (by kernel_rfl) (fun _ _ _ h => h) (Or.inr ⟨by rfl, rfl⟩) hHeld2 ?_
            simp only [Act.put, List.setIfInBounds_toArray, List.set_cons_zero, List.set_cons_succ]
            refine wpAnyH_take (i := 13) (oi := { dst := some 37, op := Go.Op.load 59 (Go.Operand.tmp 36), type := 59, pos := "layout.go:99", after := #[{ on := 12, ground := Go.Ground.data }, { on := 11, ground := Go.Ground.guard }], guard := some (11, true) }) (v := undef) rfl (by kernel_rfl) (by kernel_rfl) (by kernel_rfl) (fun _ _ _ h => h) (Or.inr ⟨by rfl, rfl⟩) hHeld2 ?_
            simp only [Act.put, List.setIfInBounds_toArray, List.set_cons_zero, List.set_cons_succ]
            refine wpAnyH_take (i := 14) (oi := { dst := some 38, op := Go.Op.move (Go.Operand.tmp 4), type := 3, pos := "layout.go:99", after := #[{ on := 11, ground := Go.Ground.guard }], guard := some (11, true) }) (v := undef) rfl (by kernel_rfl) (by kernel_rfl) (by kernel_rfl) (fun _ _ _ h => h) (Or.inr ⟨by rfl, rfl⟩) hHeld2 ?_
            simp only [Act.put, List.setIfInBounds_toArray, List.set_cons_zero, List.set_cons_succ]
            refine wpAnyH_take (i := 15) (oi := { dst := some 39, op := Go.Op.indexAddr 59 (Go.Operand.tmp 37) (Go.Operand.tmp 38), type := 0, pos := "layout.go:99", after := #[{ on := 13, ground := Go.Ground.data }, { on := 14, ground := Go.Ground.data }, { on := 11, ground := Go.Ground.guard }], guard := some (11, true) }) (v := undef) rfl (by kernel_rfl) (by kernel_rfl) (by kernel_rfl) (fun _ _ _ h => h) (Or.inr ⟨by rfl, rfl⟩) hHeld2 ?_
            simp only [Act.put, List.setIfInBounds_toArray, List.set_cons_zero, List.set_cons_succ]
            refine wpAnyH_take (i := 16) (oi := { dst := some 40, op := Go.Op.load 58 (Go.Operand.tmp 39), type := 58, pos := "layout.go:99", after := #[{ on := 15, ground := Go.Ground.data }, { on := 11, ground := Go.Ground.guard }], guard := some (11, true) }) (v := undef) rfl (by kernel_rfl) (by kernel_rfl) (by kernel_rfl) (fun _ _ _ h => h) (Or.inr ⟨by rfl, rfl⟩) hHeld2 ?_
            simp only [Act.put, List.setIfInBounds_toArray, List.set_cons_zero, List.set_cons_succ]
            refine wpAnyH_take (i := 17) (oi := { dst := some 41, op := Go.Op.fieldAddr 115 (Go.Operand.tmp 1) 2, type := 0, pos := "layout.go:99", after := #[{ on := 11, ground := Go.Ground.guard }], guard := some (11, true) }) (v := undef) rfl (by kernel_rfl) (by kernel_rfl) (by kernel_rfl) (fun _ _ _ h => h) (Or.inr ⟨by rfl, rfl⟩) hHeld2 ?_
            simp only [Act.put, List.setIfInBounds_toArray, List.set_cons_zero, List.set_cons_succ]
            refine wpAnyH_take (i := 18) (oi := { dst := some 42, op := Go.Op.load 59 (Go.Operand.tmp 41), type := 59, pos := "layout.go:99", after := #[{ on := 17, ground := Go.Ground.data }, { on := 11, ground := Go.Ground.guard }], guard := some (11, true) }) (v := undef) rfl (by kernel_rfl) (by kernel_rfl) (by kernel_rfl) (fun _ _ _ h => h) (Or.inr ⟨by rfl, rfl⟩) hHeld2 ?_
            simp only [Act.put, List.setIfInBounds_toArray, List.set_cons_zero, List.set_cons_succ]
            refine wpAnyH_take (i := 19) (oi := { dst := some 43, op := Go.Op.move (Go.Operand.tmp 6), type := 3, pos := "layout.go:99", after := #[{ on := 11, ground := Go.Ground.guard }], guard := some (11, true) }) (v := undef) rfl (by kernel_rfl) (by kernel_rfl) (by kernel_rfl) (fun _ _ _ h => h) (Or.inr ⟨by rfl, rfl⟩) hHeld2 ?_
            simp only [Act.put, List.setIfInBounds_toArray, List.set_cons_zero, List.set_cons_succ]
            refine wpAnyH_take (i := 20) (oi := { dst := some 44, op := Go.Op.indexAddr 59 (Go.Operand.tmp 42) (Go.Operand.tmp 43), type := 0, pos := "layout.go:99", after := #[{ on := 18, ground := Go.Ground.data }, { on := 19, ground := Go.Ground.data }, { on := 11, ground := Go.Ground.guard }], guard := some (11, true) }) (v := undef) rfl (by kernel_rfl) (by kernel_rfl) (by kernel_rfl) (fun _ _ _ h => h) (Or.inr ⟨by rfl, rfl⟩) hHeld2 ?_
            simp only [Act.put, List.setIfInBounds_toArray, List.set_cons_zero, List.set_cons_succ]
            refine wpAnyH_take (i := 21) (oi := { dst := some 45, op := Go.Op.load 58 (Go.Operand.tmp 44), type := 58, pos := "layout.go:99", after := #[{ on := 20, ground := Go.Ground.data }, { on := 11, ground := Go.Ground.guard }], guard := some (11, true) }) (v := undef) rfl (by kernel_rfl) (by kernel_rfl) (by kernel_rfl) (fun _ _ _ h => h) (Or.inr ⟨by rfl, rfl⟩) hHeld2 ?_
            simp only [Act.put, List.setIfInBounds_toArray, List.set_cons_zero, List.set_cons_succ]
            refine wpAnyH_take (i := 22) (oi := { dst := some 46, op := Go.Op.call { callee := Go.Callee.value (Go.Operand.func 136), args := #[Go.Operand.tmp 40, Go.Operand.tmp 45], argTypes := #[58, 58] }, type := 4, pos := "layout.go:99", after := #[{ on := 16, ground := Go.Ground.data }, { on := 21, ground := Go.Ground.data }, { on := 11, ground := Go.Ground.chain }, { on := 11, ground := Go.Ground.guard }], guard := some (11, true) }) (v := undef) rfl (by kernel_rfl) (by kernel_rfl) (by kernel_rfl) (fun _ _ _ h => h) (Or.inr ⟨by rfl, rfl⟩) hHeld2 ?_
            simp only [Act.put, List.setIfInBounds_toArray, List.set_cons_zero, List.set_cons_succ]
            refine wpAnyH_take (i := 23) (oi := { dst := some 47, op := Go.Op.pick (Go.Operand.tmp 35) (Go.Operand.tmp 46) (Go.Operand.const (Go.Value.bool false)), type := 4, pos := "layout.go:99", after := #[{ on := 11, ground := Go.Ground.data }, { on := 22, ground := Go.Ground.data }], guard := none }) (v := .bool false) rfl (by kernel_rfl) (by kernel_rfl) (by kernel_rfl) (fun _ _ _ h => h) (Or.inl ⟨by rfl, fun wz hSw => ?_⟩) hHeld2 ?_
            · obtain ⟨_, r0, r1, r2, r3, r4⟩ := hSw
              go_simp
            simp only [Act.put, List.setIfInBounds_toArray, List.set_cons_zero, List.set_cons_succ]
            refine wpAnyH_done (by kernel_rfl) ?_ _
            go_wp2
            go_roundw
            case rel => exact ⟨m + 1, by omega, by go_num, HA1.out (by rw [HP3.out]; rfl), hbs.trans (b3.mono hbs.size)⟩
            case measure => simp [intOf]; omega
          | true =>
            have kp : ∀ w', Below wr.heap.size wr w' → Below wr.heap.size wr w' ∧ w'.cell? ⟨w.heap.size, 1, none⟩ = some (.slice (some ⟨sb, 0, none⟩) N N) ∧ w'.cell? ⟨sb, q * 2, none⟩ = some (.int .i64 s1) ∧ w'.cell? ⟨sb, q * 2 + 1, none⟩ = some (.int .i64 s2) ∧ w'.cell? ⟨sb, z * 2, none⟩ = some (.int .i64 t1) ∧ w'.cell? ⟨sb, z * 2 + 1, none⟩ = some (.int .i64 t2) ∧ w'.cell? ⟨w.heap.size, 2, none⟩ = some (.slice (some ⟨lb, 0, none⟩) N N) ∧ w'.cell? ⟨lb, q * 2, none⟩ = some (.int .i64 x1) ∧ w'.cell? ⟨lb, q * 2 + 1, none⟩ = some (.int .i64 x2) ∧ w'.cell? ⟨lb, z * 2, none⟩ = some (.int .i64 y1) ∧ w'.cell? ⟨lb, z * 2 + 1, none⟩ = some (.int .i64 y2) := fun w' h => ⟨h, (h.cell (p := ⟨w.heap.size, 1, none⟩) lwb).trans g1, (h.cell (p := ⟨sb, q * 2, none⟩) lsb).trans a0, (h.cell (p := ⟨sb, q * 2 + 1, none⟩) lsb).trans a1, (h.cell (p := ⟨sb, z * 2, none⟩) lsb).trans c0, (h.cell (p := ⟨sb, z * 2 + 1, none⟩) lsb).trans c1, (h.cell (p := ⟨w.heap.size, 2, none⟩) lwb).trans g2, (h.cell (p := ⟨lb, q * 2, none⟩) llb).trans e0, (h.cell (p := ⟨lb, q * 2 + 1, none⟩) llb).trans e1, (h.cell (p := ⟨lb, z * 2, none⟩) llb).trans f0, (h.cell (p := ⟨lb, z * 2 + 1, none⟩) llb).trans f1⟩
            have hd := (Below.refl wr.heap.size wr).drew
            cases r2 with
            | false =>
              go_wp2
              go_region_held3 (fun w' => Below wr.heap.size wr w' ∧ w'.cell? ⟨w.heap.size, 1, none⟩ = some (.slice (some ⟨sb, 0, none⟩) N N) ∧ w'.cell? ⟨sb, q * 2, none⟩ = some (.int .i64 s1) ∧ w'.cell? ⟨sb, q * 2 + 1, none⟩ = some (.int .i64 s2) ∧ w'.cell? ⟨sb, z * 2, none⟩ = some (.int .i64 t1) ∧ w'.cell? ⟨sb, z * 2 + 1, none⟩ = some (.int .i64 t2) ∧ w'.cell? ⟨w.heap.size, 2, none⟩ = some (.slice (some ⟨lb, 0, none⟩) N N) ∧ w'.cell? ⟨lb, q * 2, none⟩ = some (.int .i64 x1) ∧ w'.cell? ⟨lb, q * 2 + 1, none⟩ = some (.int .i64 x2) ∧ w'.cell? ⟨lb, z * 2, none⟩ = some (.int .i64 y1) ∧ w'.cell? ⟨lb, z * 2 + 1, none⟩ = some (.int .i64 y2))
                (first | exact kp _ hd | exact kp _ (hd.trans b2) | exact kp _ (below_step (hd.trans b2) b3))
                (first | (go_at_call 136; (with_reducible refine (hme _).mono ?_); rintro e w2 ⟨rfl, b2⟩) | (go_at_call 136; (with_reducible refine (hme2 _).mono ?_); rintro e w3 ⟨rfl, b3⟩))
              go_wp2
              go_roundw
              case rel => exact ⟨m + 1, by omega, by go_num, HA1.out (by rw [HP3.out]; rfl), hbs.trans ((below_step (hd.trans b2) b3).mono hbs.size)⟩
              case measure => simp [intOf]; omega
            | true =>
              go_wp2
              go_region_held3 (fun w' => Below wr.heap.size wr w' ∧ w'.cell? ⟨w.heap.size, 1, none⟩ = some (.slice (some ⟨sb, 0, none⟩) N N) ∧ w'.cell? ⟨sb, q * 2, none⟩ = some (.int .i64 s1) ∧ w'.cell? ⟨sb, q * 2 + 1, none⟩ = some (.int .i64 s2) ∧ w'.cell? ⟨sb, z * 2, none⟩ = some (.int .i64 t1) ∧ w'.cell? ⟨sb, z * 2 + 1, none⟩ = some (.int .i64 t2) ∧ w'.cell? ⟨w.heap.size, 2, none⟩ = some (.slice (some ⟨lb, 0, none⟩) N N) ∧ w'.cell? ⟨lb, q * 2, none⟩ = some (.int .i64 x1) ∧ w'.cell? ⟨lb, q * 2 + 1, none⟩ = some (.int .i64 x2) ∧ w'.cell? ⟨lb, z * 2, none⟩ = some (.int .i64 y1) ∧ w'.cell? ⟨lb, z * 2 + 1, none⟩ = some (.int .i64 y2))
                (first | exact kp _ hd | exact kp _ (hd.trans b2) | exact kp _ (below_step (hd.trans b2) b3))
                (first | (go_at_call 136; (with_reducible refine (hme _).mono ?_); rintro e w2 ⟨rfl, b2⟩) | (go_at_call 136; (with_reducible refine (hme2 _).mono ?_); rintro e w3 ⟨rfl, b3⟩))
              go_wp2
              go_ret
              exact ⟨by rw [HF.out (HF1.out (by rw [HP3.out]; rfl))]; rfl, below_step hb0 (hbs.trans ((below_step (hd.trans b2) b3).mono hbs.size))⟩
        · have hme : m = n := by omega
          subst hme
          go_wp2
          go_roundw
          case rel => exact ⟨m + 1, by omega, by go_num, HA.out hal, hbs⟩
          case measure => simp [intOf]; omega
    · have hne : n = os.length := by omega
      subst hne
      go_wp2
      go_ret
      exact ⟨by rw [hcl]; rfl, below_step hb0 hbr⟩
end Go.Proofs.YtihliofhhjjeaaaGreat
namespace Go.Proofs.YtihliofhhjjeaaaGreat
open Go.RowKit Im Go.Shelf
attribute [local go_sem] Oper.semAt_some
structure Pv where
  Op : Int
  To : Int
  A : Int
  B : Int
  K : Int
  la : Option Addr
  ll : Nat
  lc : Nat
abbrev Pv.val (p : Pv) : Value := .agg #[.int .i64 p.Op, .int .i64 p.To, .int .i64 p.A, .int .i64 p.B, .int .i64 p.K, .slice p.la p.ll p.lc]
abbrev Pe (len : Nat) := { x : Nat × Pv // x.1 < len }
abbrev peV {len : Nat} (x : Pe len) : Array Value := #[.int .i64 (x.1.1 : Int), x.1.2.val]
def bh (len : Nat) (hl : 0 < len) (pv : Nat → Pv) (j : Nat) : Pe len := ⟨(len - 1 - j, pv (len - 1 - j)), by omega⟩
def bhs (len : Nat) (hl : 0 < len) (pv : Nat → Pv) (k : Nat) : List (Pe len) := (List.range k).map (bh len hl pv)
theorem bhs_succ (len : Nat) (hl : 0 < len) (pv : Nat → Pv) (k : Nat) : bhs len hl pv (k + 1) = bhs len hl pv k ++ [bh len hl pv k] := by simp [bhs, List.range_succ]
theorem bhs_length (len : Nat) (hl : 0 < len) (pv : Nat → Pv) (k : Nat) : (bhs len hl pv k).length = k := by simp [bhs]
def PvAt (W : World) (b off len : Nat) (pv : Nat → Pv) : Prop := ∀ j, j < len → W.cell? ⟨b, off + j * 6, none⟩ = some (.int .i64 (pv j).Op) ∧ W.cell? ⟨b, off + j * 6 + 1, none⟩ = some (.int .i64 (pv j).To) ∧ W.cell? ⟨b, off + j * 6 + 2, none⟩ = some (.int .i64 (pv j).A) ∧ W.cell? ⟨b, off + j * 6 + 3, none⟩ = some (.int .i64 (pv j).B) ∧ W.cell? ⟨b, off + j * 6 + 4, none⟩ = some (.int .i64 (pv j).K) ∧ W.cell? ⟨b, off + j * 6 + 5, none⟩ = some (.slice (pv j).la (pv j).ll (pv j).lc)
theorem PvAt.below {W W' : World} {b off len n₀ : Nat} {pv : Nat → Pv} (h : PvAt W b off len pv) (hb : Below n₀ W W') (hl : b < n₀) : PvAt W' b off len pv := fun j hj => by
  obtain ⟨c0, c1, c2, c3, c4, c5⟩ := h j hj
  exact ⟨(hb.cell (p := ⟨b, off + j * 6, none⟩) hl).trans c0, (hb.cell (p := ⟨b, off + j * 6 + 1, none⟩) hl).trans c1, (hb.cell (p := ⟨b, off + j * 6 + 2, none⟩) hl).trans c2, (hb.cell (p := ⟨b, off + j * 6 + 3, none⟩) hl).trans c3, (hb.cell (p := ⟨b, off + j * 6 + 4, none⟩) hl).trans c4, (hb.cell (p := ⟨b, off + j * 6 + 5, none⟩) hl).trans c5⟩
def KpB (n₀ Bs : Nat) (A B : World) : Prop := Below n₀ A B ∧ B.cell? ⟨Bs, 0, none⟩ = A.cell? ⟨Bs, 0, none⟩
set_option maxHeartbeats 2000000 in
theorem behind1_in (n : Nat) (hn : 1 ≤ n) (l Bs n₀ b off len cap : Nat) (hl : 0 < len) (h12 : len ≤ 12) (pv : Nat → Pv) (hb : b < n₀) (J Jx : List (Pe len) → World → Prop)
    (hY : ∀ pre x W, J pre W → pre.length < len → YieldAt Fence.wide (n - 1) Tryz.prog l (peV x) W fun e W' =>
      (e = .returned (.bool true) ∧ J (pre ++ [x]) W' ∧ KpB n₀ Bs W W') ∨ (e = .returned (.bool false) ∧ Jx (pre ++ [x]) W'))
    (W : World) (hBs : W.cell? ⟨Bs, 0, none⟩ = some (.slice (some ⟨b, off, none⟩) len cap)) (hc : PvAt W b off len pv) (h0 : J [] W) :
    CallsIn Fence.wide n Tryz.prog 90 #[.func (.yield l) #[] #[], .pointer (some ⟨Bs, 0, none⟩)] W fun e W' => (∃ v, e = .returned v) ∧
      ((∃ ys, ys = bhs len hl pv len ∧ J ys W') ∨ (∃ pre, (∃ k, k < len ∧ pre = bhs len hl pv (k + 1)) ∧ Jx pre W')) := by
  have hw0 : IntKind.i64.wrap ((len : Int) - 1) = (len : Int) - 1 := by rw [IntKind.wrap_i64]; omega
  refine callsIn_of_wp Tryz.func90 rfl trivial ?_ rfl
  simp only [Tryz.ntmps90, List.size_toArray, List.length_cons, List.length_nil, Nat.reduceAdd, Nat.reduceSub, Array.replicate_succ, Array.replicate_zero, List.push_toArray, List.append_toArray, List.nil_append, List.cons_append]
  gi_wp2
  gi_loopw [3] (fun i wr => ∃ k : Nat, k ≤ len ∧ i = .int .i64 ((len : Int) - 1 - k) ∧ J (bhs len hl pv k) wr ∧ KpB n₀ Bs W wr) (fun i _ => (intOf i + 1).toNat)
  case atStart => exact ⟨0, Nat.zero_le _, by simp, h0, Below.refl _ _, rfl⟩
  case round =>
    obtain ⟨k, hk, rfl, hJs, hnx, hnb⟩ := hrel
    have hbx := hnb.trans hBs
    by_cases hlt : k < len
    · obtain ⟨m, hm⟩ : ∃ m : Nat, m = len - 1 - k := ⟨_, rfl⟩
      have hmi : (len : Int) - 1 - k = (m : Int) := by omega
      obtain ⟨c0, c1, c2, c3, c4, c5⟩ := (hc.below hnx hb) m (by omega)
      obtain ⟨fn, tmps, assign, body, hy, hR⟩ := hY _ (bh len hl pv k) wr hJs (by rw [bhs_length]; exact hlt)
      have hbk : (bh len hl pv k).1 = (m, pv m) := by unfold bh; rw [hm]
      unfold peV at hy
      rw [hbk] at hy
      dsimp only at hy
      rw [hmi]
      have hml : (m : Int) < (len : Int) := by omega
      have hw1 : IntKind.i64.wrap ((m : Int) - 1) = (m : Int) - 1 := by rw [IntKind.wrap_i64]; omega
      have HMN : Hid ((m : Int) - 1 = (len : Int) - 1 - ((k + 1 : Nat) : Int)) := by show _ = _; omega
      generalize pv m = p at c0 c1 c2 c3 c4 c5 hy
      clear hm hmi hbk hbx
      have hbx := hnb.trans hBs
      gi_wp2
      refine hR.mono ?_
      rintro e W3 (⟨rfl, hJ3, hk3⟩ | ⟨rfl, hJx3⟩)
      · gi_wp2
        go_roundw
        case rel => exact ⟨k + 1, by omega, by rw [HMN.out], by rw [bhs_succ]; exact hJ3, hnx.trans hk3.1, hk3.2.trans hnb⟩
        case measure => show ((m : Int) - 1 + 1).toNat < ((m : Int) + 1).toNat; omega
      · gi_wp2
        refine bodyPost_ret (results_none rfl _ _ _) rfl ?_
        exact ⟨⟨_, rfl⟩, .inr ⟨_, ⟨k, hlt, (bhs_succ _ _ _ _).symm⟩, hJx3⟩⟩
    · obtain rfl : k = len := by omega
      have hz : (k : Int) - 1 - k = -1 := by omega
      rw [hz]
      gi_wp2
      go_end0
      exact ⟨⟨_, rfl⟩, .inl ⟨_, rfl, hJs⟩⟩
theorem behind_stops (n : Nat) (hn : 1 ≤ n) (Bs n₀ b off len cap : Nat) (hl : 0 < len) (h12 : len ≤ 12) (pv : Nat → Pv) (hb : b < n₀) (w : World) (hBs : Bs < w.heap.size) (hn₀ : n₀ ≤ w.heap.size)
    (hc : w.cell? ⟨Bs, 0, none⟩ = some (.slice (some ⟨b, off, none⟩) len cap)) (hI : PvAt w b off len pv) :
    SeqStopsK Fence.wide n Tryz.prog 90 #[.pointer (some ⟨Bs, 0, none⟩)] (peV (len := len)) (KpB n₀ Bs) (fun ys => ys = bhs len hl pv len) (fun pre => ∃ k, k < len ∧ pre = bhs len hl pv (k + 1)) len w := fun l J Jx W hW _ _ hY h0 =>
  behind1_in n hn l Bs n₀ b off len cap hl h12 pv hb J Jx hY W ((hW.cell (p := ⟨Bs, 0, none⟩) hBs).trans hc) (hI.below (hW.mono hn₀) hb) h0
set_option maxHeartbeats 1000000 in
theorem fromBehind_any (a : Option Addr) (len cap : Nat) (w : World) :
    Calls Tryz.prog 60 #[.slice a len cap] w fun e w' => e = .returned (.func (.func 90) #[] #[.pointer (some ⟨w.heap.size, 0, none⟩)]) ∧ w.alloc (.cells #[.slice a len cap] 22) = w' := by
  have hmf : ∀ (fn : Fn) (first cap : Array Value) (w : World), (Instr.makeFunc fn first cap).run Tryz.prog w = .ok (.func fn first cap) w := fun _ _ _ _ => rfl
  go_enter Tryz.func60, Tryz.ntmps60
  go_wp2
  go_ret
  exact ⟨rfl, rfl⟩
theorem KpB.t {n₀ Bs : Nat} {A B C : World} (h : KpB n₀ Bs A B) (k : KpB n₀ Bs B C) : KpB n₀ Bs A C := ⟨h.1.trans k.1, k.2.trans h.2⟩
theorem KpB.b {n₀ Bs : Nat} {w : World} (hn : n₀ ≤ w.heap.size) (hB : Bs < w.heap.size) (W : World) (l : Nat) (o o' : Obj) (hl : w.heap.size ≤ l) (h : W.heap[l]? = some o) (h1 : o.isCells = false) (h2 : o.isWalk = false) : KpB n₀ Bs W (W.putObj l o') :=
  ⟨belowK_b hn W l o o' hl h h1 h2, (belowK_b (n₀ := w.heap.size) (Nat.le_refl _) W l o o' hl h h1 h2).cell (p := ⟨Bs, 0, none⟩) hB⟩
theorem Passes.pv {w : World} {a : Option Addr} {len : Nat} {ps : List Ps} (h : Passes w a len ps) (hl : 0 < len) : ∃ b off pv, a = some ⟨b, off, none⟩ ∧ b < w.heap.size ∧ PvAt w b off len pv ∧ ∀ j, j < len → (pv j).Op = (ps.getD j Ps.zero).Op ∧ (pv j).To = (ps.getD j Ps.zero).To ∧ (pv j).A = (ps.getD j Ps.zero).A ∧ (pv j).B = (ps.getD j Ps.zero).B ∧ (pv j).K = (ps.getD j Ps.zero).K ∧ Lights w (pv j).la (pv j).ll (ps.getD j Ps.zero).ls := by
  rcases h.cells with e | ⟨b, off, ha, hb, hc⟩
  · have := h.leng; subst e; simp at this; omega
  · have hx : ∀ j, ∃ p : Pv, j < len → (w.cell? ⟨b, off + j * 6, none⟩ = some (.int .i64 p.Op) ∧ w.cell? ⟨b, off + j * 6 + 1, none⟩ = some (.int .i64 p.To) ∧ w.cell? ⟨b, off + j * 6 + 2, none⟩ = some (.int .i64 p.A) ∧ w.cell? ⟨b, off + j * 6 + 3, none⟩ = some (.int .i64 p.B) ∧ w.cell? ⟨b, off + j * 6 + 4, none⟩ = some (.int .i64 p.K) ∧ w.cell? ⟨b, off + j * 6 + 5, none⟩ = some (.slice p.la p.ll p.lc)) ∧ (p.Op = (ps.getD j Ps.zero).Op ∧ p.To = (ps.getD j Ps.zero).To ∧ p.A = (ps.getD j Ps.zero).A ∧ p.B = (ps.getD j Ps.zero).B ∧ p.K = (ps.getD j Ps.zero).K ∧ Lights w p.la p.ll (ps.getD j Ps.zero).ls) := by
      intro j
      by_cases hj : j < len
      · obtain ⟨la, ll, lc, c0, c1, c2, c3, c4, c5, hL⟩ := hc j hj
        exact ⟨⟨_, _, _, _, _, la, ll, lc⟩, fun _ => ⟨⟨c0, c1, c2, c3, c4, c5⟩, rfl, rfl, rfl, rfl, rfl, hL⟩⟩
      · exact ⟨⟨0, 0, 0, 0, 0, none, 0, 0⟩, fun h => absurd h hj⟩
    obtain ⟨pv, hpv⟩ := Classical.axiomOfChoice hx
    exact ⟨b, off, pv, ha, hb, fun j hj => (hpv j hj).1, fun j hj => (hpv j hj).2⟩
end Go.Proofs.YtihliofhhjjeaaaGreat
namespace Go.Proofs.YtihliofhhjjeaaaGreat
open Go.RowKit Im Go.Shelf
attribute [local go_sem] Oper.semAt_some
def ToldLast (w : World) (f : Fr) (e : Ending) (w' : World) : Prop :=
  e = .returned (.tuple #[.int .i64 (if frameE f = 0 then shownP f else 0), .int .i64 (frameE f)]) ∧ Below w.heap.size w w'
theorem boxed_below {W W' : World} {B n₀ : Nat} {t : TypeId} {v : Value} (h : Go.Boxed W B t v) (hb : Below n₀ W W') (hB : B < n₀) : Go.Boxed W' B t v := (hb.block B hB).trans h
set_option maxHeartbeats 1000000 in
theorem last_err (W H S O : Int) (a : Option Addr) (len cap : Nat) (ps : List Ps) (w : World) (hp : Passes w a len ps) (hE : frameE ⟨W, H, S, O, ps⟩ ≠ 0) :
    Calls Tryz.prog 26 #[.agg #[.int .i64 W, .int .i64 H, .int .i64 S, .int .i64 O, .slice a len cap]] w (ToldLast w ⟨W, H, S, O, ps⟩) := by
  have hb0 := below_box (below_box (below_box (Below.refl w.heap.size w) (.cells #[.int .i64 W, .int .i64 H, .int .i64 S, .int .i64 O, .slice a len cap] 24)) (.cells #[.int .i64 0] 3)) (.cells #[.int .i64 0] 32)
  have hch := frameCheck_any W H S O a len cap ps _ (hp.below hb0)
  have bX := (Go.Boxed.new (w.alloc (.cells #[.int .i64 W, .int .i64 H, .int .i64 S, .int .i64 O, .slice a len cap] 24)) 3 (.int .i64 0)).alloc (.cells #[.int .i64 0] 32)
  have bY := Go.Boxed.new ((w.alloc (.cells #[.int .i64 W, .int .i64 H, .int .i64 S, .int .i64 O, .slice a len cap] 24)).alloc (.cells #[.int .i64 0] 3)) 32 (.int .i64 0)
  simp only [World.size_alloc] at bX bY
  go_enter Tryz.func26, Tryz.ntmps26
  go_wp2_with fail
  refine hch.mono ?_
  clear hch
  rintro e w1 ⟨rfl, b1⟩
  have b2 := below_step hb0 b1
  have c2 := boxed_below bX b1 (by simp)
  have c3 := boxed_below bY b1 (by simp)
  have d2 := c2.cell
  have f2 := c2.frozen
  have d3 := c3.cell
  have f3 := c3.frozen
  go_wp2
  refine bodyPost_ret (v := .tuple #[.int .i64 0, .int .i64 (frameE ⟨W, H, S, O, ps⟩)]) (by simp [results, Tryz.results26, go_sem, d2, d3]) rfl ?_
  refine ⟨by rw [if_neg hE], (b2.setCell (p := ⟨w.heap.size + 1, 0, none⟩) (show w.heap.size ≤ w.heap.size + 1 by omega) _).setCell (p := ⟨w.heap.size + 1 + 1, 0, none⟩) (show w.heap.size ≤ w.heap.size + 1 + 1 by omega) _⟩
theorem pbox_own {X Y : World} {row : Option Nat} {b : Nat} {Op To A B K : Int} {la : Option Addr} {ll lc : Nat} (h : PBox X b Op To A B K la ll lc) (hg : X.grownBy Y row) (hr : ∀ r, row = some r → ∃ o : Obj, X.heap[r]? = some o ∧ o.isCells = false) : PBox Y b Op To A B K la ll lc :=
  ⟨Nat.lt_of_lt_of_le h.lt hg.size, cell_kept h.c0 hg hr, cell_kept h.c1 hg hr, cell_kept h.c2 hg hr, cell_kept h.c3 hg hr, cell_kept h.c4 hg hr, cell_kept h.c5 hg hr⟩
theorem wrt_last {ps : List Ps} {O : Int} {n m : Nat} (hm : m < n) (h1 : (ps.getD m Ps.zero).To = O) (h2 : ∀ j, m < j → j < n → (ps.getD j Ps.zero).To ≠ O) : wrt ps n O = m := by
  induction n with
  | zero => omega
  | succ n ih =>
    show (if (ps.getD n Ps.zero).To = O then (n : Int) else wrt ps n O) = m
    by_cases hn : m = n
    · subst hn; rw [if_pos h1]
    · rw [if_neg (h2 n (by omega) (by omega))]
      exact ih (by omega) (fun j h3 h4 => h2 j h3 (by omega))
theorem bhs_mem (len : Nat) (hl : 0 < len) (pv : Nat → Pv) {k m : Nat} (hm : m < len) (hk : len - 1 - m < k) : ∃ x ∈ bhs len hl pv k, x.1 = (m, pv m) := by
  refine ⟨bh len hl pv (len - 1 - m), ?_, ?_⟩
  · unfold bhs; rw [List.mem_map]; exact ⟨len - 1 - m, by simpa using hk, rfl⟩
  · show (len - 1 - (len - 1 - m), pv (len - 1 - (len - 1 - m))) = (m, pv m)
    rw [show len - 1 - (len - 1 - m) = m by omega]
set_option maxHeartbeats 4000000 in
theorem last_ok (W H S O : Int) (a : Option Addr) (len cap : Nat) (ps : List Ps) (w : World) (hp : Passes w a len ps) (hE : frameE ⟨W, H, S, O, ps⟩ = 0) :
    Calls Tryz.prog 26 #[.agg #[.int .i64 W, .int .i64 H, .int .i64 S, .int .i64 O, .slice a len cap]] w (ToldLast w ⟨W, H, S, O, ps⟩) := by
  obtain rfl := hp.leng
  obtain ⟨hbnd, hfirst, hsh⟩ := frameE_zero hE
  obtain ⟨_, _, _, _, hL⟩ := boundsE_zero hbnd
  dsimp only at hL
  have hb0 := below_box (below_box (below_box (Below.refl w.heap.size w) (.cells #[.int .i64 W, .int .i64 H, .int .i64 S, .int .i64 O, .slice a ps.length cap] 24)) (.cells #[.int .i64 0] 3)) (.cells #[.int .i64 0] 32)
  have hch := frameCheck_any W H S O a ps.length cap ps _ (hp.below hb0)
  rw [hE] at hch
  obtain ⟨b, off, pv, rfl, hbl, hpv, heq⟩ := hp.pv (by omega)
  have bX := (Go.Boxed.new (w.alloc (.cells #[.int .i64 W, .int .i64 H, .int .i64 S, .int .i64 O, .slice (some ⟨b, off, none⟩) ps.length cap] 24)) 3 (.int .i64 0)).alloc (.cells #[.int .i64 0] 32)
  have bY := Go.Boxed.new ((w.alloc (.cells #[.int .i64 W, .int .i64 H, .int .i64 S, .int .i64 O, .slice (some ⟨b, off, none⟩) ps.length cap] 24)).alloc (.cells #[.int .i64 0] 3)) 32 (.int .i64 0)
  simp only [World.size_alloc] at bX bY
  have hB := ((FBox.new w W H S O (some ⟨b, off, none⟩) ps.length cap).alloc (.cells #[.int .i64 0] 3)).alloc (.cells #[.int .i64 0] 32)
  refine (callsIn_wide (n := 4)).1 ?_
  refine callsIn_of_wp_marks Tryz.func26 rfl trivial ?_ rfl
  simp only [Tryz.ntmps26, List.size_toArray, List.length_cons, List.length_nil, Nat.reduceAdd, Nat.reduceSub, Array.replicate_succ, Array.replicate_zero, List.push_toArray, List.append_toArray, List.nil_append, List.cons_append]
  gi_wp2_with (first
    | (refine ⟨trivial, ?_⟩; gi_at_call 59; refine (callsIn_wide.2 hch).mono ?_; rintro e w1 ⟨rfl, b1⟩; have hB1 := hB.below b1; have cX := boxed_below bX b1 (by simp); have cY := boxed_below bY b1 (by simp); have hb1 := below_step hb0 b1; obtain ⟨_, g0, g1, g2, g3, g4⟩ := id hB1)
    | (refine ⟨trivial, ?_⟩; gi_at_call 60; refine (callsIn_wide.2 (fromBehind_any _ _ _ _)).mono ?_; rintro e w2 ⟨rfl, rfl⟩))
  have hpos : 0 < ps.length := by omega
  have bI := Go.Boxed.new w1 22 (.slice (some ⟨b, off, none⟩) ps.length cap)
  have hb2 := below_box hb1 (.cells #[.slice (some ⟨b, off, none⟩) ps.length cap] 22)
  have cX2 := cX.alloc (.cells #[.slice (some ⟨b, off, none⟩) ps.length cap] 22)
  have cY2 := cY.alloc (.cells #[.slice (some ⟨b, off, none⟩) ps.length cap] 22)
  have g32 : (w1.alloc (.cells #[.slice (some ⟨b, off, none⟩) ps.length cap] 22)).cell? ⟨w.heap.size, 3, none⟩ = some (.int .i64 O) := (World.cell?_alloc_lt _ _ _ hB1.lt).trans g3
  have hlw : w.heap.size + 1 + 1 < w1.heap.size := cY.lt
  have hls : (w1.alloc (.cells #[.slice (some ⟨b, off, none⟩) ps.length cap] 22)).heap.size = w1.heap.size + 1 := by simp
  have hpv2 := hpv.below hb2 hbl
  clear hch hB hB1 g0 g1 g2 g3 g4 cX cY bX bY hb0 hb1 b1
  generalize w1.alloc (.cells #[.slice (some ⟨b, off, none⟩) ps.length cap] 22) = W0 at *
  have hbb := @boxed_own Unit
  refine wpIn_rangeFunc_ownH rfl (by decide) (gf := 90) (lb := #[.pointer (some ⟨w1.heap.size, 0, none⟩)]) rfl trivial (enters_of Tryz.func90 (by kernel_rfl) rfl)
    (behind_stops 3 (by decide) w1.heap.size w.heap.size b off ps.length cap hpos hL.2 pv hbl W0 (by omega) hb2.size bI.cell hpv2) KpB.t (KpB.b hb2.size (by omega)) (Below.refl _ _) (fun _ => rfl)
    (fun pre W' => ((∀ x ∈ pre, x.1.2.To ≠ O) ∧ W'.cell? ⟨w.heap.size, 3, none⟩ = some (.int .i64 O) ∧ Go.Boxed W' (w.heap.size + 1) 3 (.int .i64 0) ∧ Go.Boxed W' (w.heap.size + 1 + 1) 32 (.int .i64 0) ∧ Go.Boxed W' w1.heap.size 22 (.slice (some ⟨b, off, none⟩) ps.length cap)) ∧ Below w.heap.size w W')
    (fun c pre W' => (c = .ret ∧ ∃ pre' x, pre = pre' ++ [x] ∧ (∀ y ∈ pre', y.1.2.To ≠ O) ∧ x.1.2.To = O ∧ Go.Boxed W' (w.heap.size + 1) 3 (.int .i64 (x.1.1 : Int)) ∧ Go.Boxed W' (w.heap.size + 1 + 1) 32 (.int .i64 0)) ∧ Below w.heap.size w W')
    (fun s A B row hs hg hr => ⟨⟨hs.1.1, cell_kept hs.1.2.1 hg (fun r e => (hr r e).2), hbb _ _ (fun _ => _) () A B row hs.1.2.2.1 hg (fun r e => (hr r e).2), hbb _ _ (fun _ => _) () A B row hs.1.2.2.2.1 hg (fun r e => (hr r e).2), hbb _ _ (fun _ => _) () A B row hs.1.2.2.2.2 hg (fun r e => (hr r e).2)⟩, ownFrom_below (β := Unit) (w₀ := w) (Nat.le_refl _) hb2.size () A B row hs.2 hg hr⟩)
    (fun c s A B row hs hg hr => ⟨⟨hs.1.1, by
      obtain ⟨pre', x, h1, h2, h3, h4, h5⟩ := hs.1.2
      exact ⟨pre', x, h1, h2, h3, hbb _ _ (fun _ => _) () A B row h4 hg (fun r e => (hr r e).2), hbb _ _ (fun _ => _) () A B row h5 hg (fun r e => (hr r e).2)⟩⟩, ownFrom_below (β := Unit) (w₀ := w) (Nat.le_refl _) hb2.size () A B row hs.2 hg hr⟩)
    ⟨⟨(fun x hx => by cases hx), g32, cX2, cY2, bI⟩, hb2⟩
    (fun x a' W' => ∃ Bx, w.heap.size + 1 + 1 < Bx ∧ PBox W' Bx x.1.2.Op x.1.2.To x.1.2.A x.1.2.B x.1.2.K x.1.2.la x.1.2.ll x.1.2.lc ∧ a' = { tmps := #[.agg #[.int .i64 W, .int .i64 H, .int .i64 S, .int .i64 O, .slice (some ⟨b, off, none⟩) ps.length cap], .pointer (some ⟨w.heap.size, 0, none⟩), .pointer (some ⟨w.heap.size + 1, 0, none⟩), .pointer (some ⟨w.heap.size + 1 + 1, 0, none⟩), .int .i64 0, .int .i64 (x.1.1 : Int), .pointer (some ⟨Bx, 0, none⟩), .agg #[.int .i64 W, .int .i64 H, .int .i64 S, .int .i64 O, .slice (some ⟨b, off, none⟩) ps.length cap], .int .i64 0, .int .i64 0, .bool false, undef, .pointer (some ⟨w.heap.size, 4, none⟩), .slice (some ⟨b, off, none⟩) ps.length cap, .func (.func 90) #[] #[.pointer (some ⟨w1.heap.size, 0, none⟩)], .int .i64 (x.1.1 : Int), x.1.2.val, undef, undef, undef, undef, undef, undef], defers := [] })
    (fun x a' _ X Y row hs hg hr => by obtain ⟨Bx, h1, h2, h3⟩ := hs; exact ⟨Bx, h1, pbox_own h2 hg (fun r e => (hr r e).2), h3⟩)
    ?assign ?body ?done ?stop
  case assign =>
    rintro l pre x W' K ⟨⟨h1, h2, h3, h4, h5⟩, hB1⟩ hK
    gi_wp2
    have hx3 := h3.lt
    have hx4 := h4.lt
    exact hK _ _ ((KeepsOthers.alloc _ _).from _) ⟨(Below.refl _ W').alloc hB1.size _, World.cell?_alloc_lt _ _ _ h5.lt⟩ ⟨⟨h1, (World.cell?_alloc_lt _ _ _ (show w.heap.size < W'.heap.size by omega)).trans h2, h3.alloc _, h4.alloc _, h5.alloc _⟩, hB1.alloc hB1.size _⟩ ⟨W'.heap.size, hx4, PBox.new W' _ _ _ _ _ _ _ _, rfl⟩
  case body =>
    rintro l pre x a' W' hl ⟨r, hr⟩ ⟨⟨h1, h2, h3, h4, h5⟩, hB1⟩ ⟨Bx, hBx, hPx, rfl⟩ hlt
    obtain ⟨_, p0, p1, p2, p3, p4, p5⟩ := id hPx
    have f3 := h3.frozen
    have d3 := h3.cell
    have f4 := h4.frozen
    have d4 := h4.cell
    by_cases hTo : x.1.2.To = O
    · have hTo' : (x.1.2.To == O) = true := by simpa using hTo
      have hB2 := (hB1.setCell (p := ⟨w.heap.size + 1, 0, none⟩) (show w.heap.size ≤ w.heap.size + 1 by omega) (.int .i64 (x.1.1 : Int))).setCell (p := ⟨w.heap.size + 1 + 1, 0, none⟩) (show w.heap.size ≤ w.heap.size + 1 + 1 by omega) (.int .i64 0)
      have k3 := (h3.set (.int .i64 (x.1.1 : Int))).other (B' := w.heap.size + 1 + 1) (by omega) (.int .i64 0)
      have k4 := (h4.other (B' := w.heap.size + 1) (by omega) (.int .i64 (x.1.1 : Int))).set (.int .i64 0)
      have HTO : Hid (_) := hTo
      clear hTo
      gi_wp2
      exact ⟨((KeepsOthers.setCell _ _ _).trans (KeepsOthers.setCell _ _ _)).from _, ⟨rfl, pre, x, rfl, h1, HTO.out, k3, k4⟩, hB2⟩
    · have hTo' : (x.1.2.To == O) = false := by simpa using hTo
      have HTO : Hid (_) := hTo
      clear hTo
      gi_wp2
      exact ⟨KeepsFrom.refl _ _, ⟨Below.refl _ _, rfl⟩, ⟨(fun y hy => by rcases List.mem_append.1 hy with h | h; exact h1 y h; rw [List.mem_singleton] at h; subst h; exact HTO.out), h2, h3, h4, h5⟩, hB1⟩
  case done =>
    rintro D ys W' hD rfl ⟨⟨hne, _⟩, _⟩ hK
    exfalso
    have e : shownP ⟨W, H, S, O, ps⟩ = wrt ps ps.length O := rfl
    have hbd := wrt_bd ps ps.length O
    rw [e] at hsh
    have hto := wrt_to ps ps.length O hsh
    obtain ⟨x, hx, hx1⟩ := bhs_mem ps.length hpos pv (k := ps.length) (m := (wrt ps ps.length O).toNat) (by omega) (by omega)
    have := hne x hx
    rw [hx1] at this
    exact this ((heq _ (by omega)).2.1.trans hto)
  case stop =>
    rintro D c pre W' hD ⟨k, hk, rfl⟩ ⟨⟨rfl, pre', x, hpre, hne, hxO, h3, h4⟩, hB2⟩ hK
    gi_wp2
    refine ⟨by simp, .inl ⟨_, _, rfl, run_takeDeferred hK, ?_⟩⟩
    rw [bhs_succ] at hpre
    obtain ⟨e1, e2⟩ := List.append_inj' hpre rfl
    have e3 : bh ps.length hpos pv k = x := by injection e2
    subst e1 e3
    have c3 := cell_kept h3.cell (grownBy_putObj' _ D (.deferred none)) (fun r e => by cases e; exact ⟨_, hK, rfl⟩)
    have c4 := cell_kept h4.cell (grownBy_putObj' _ D (.deferred none)) (fun r e => by cases e; exact ⟨_, hK, rfl⟩)
    have hm : (bh ps.length hpos pv k).1 = (ps.length - 1 - k, pv (ps.length - 1 - k)) := rfl
    rw [hm] at hxO c3
    dsimp only at hxO c3
    have hshow : shownP ⟨W, H, S, O, ps⟩ = ((ps.length - 1 - k : Nat) : Int) := by
      show wrt ps ps.length O = _
      refine wrt_last (by omega) ((heq _ (by omega)).2.1.symm.trans hxO) (fun j h1 h2 => ?_)
      obtain ⟨y, hy, hy1⟩ := bhs_mem ps.length hpos pv (k := k) (m := j) h2 (by omega)
      have := hne y hy
      rw [hy1] at this
      exact fun e => this ((heq j h2).2.1.trans e)
    refine ⟨.tuple #[.int .i64 ((ps.length - 1 - k : Nat) : Int), .int .i64 0], ?_, ⟨by rw [hE, if_pos rfl, hshow], hB2.trans (belowK_b (w := w) (Nat.le_refl _) W' D _ _ (by have := hb2.size; omega) hK rfl rfl)⟩⟩
    simp [results, Tryz.results26, go_sem, c3, c4]
theorem last_any (W H S O : Int) (a : Option Addr) (len cap : Nat) (ps : List Ps) (w : World) (hp : Passes w a len ps) :
    Calls Tryz.prog 26 #[.agg #[.int .i64 W, .int .i64 H, .int .i64 S, .int .i64 O, .slice a len cap]] w (ToldLast w ⟨W, H, S, O, ps⟩) := by
  by_cases hE : frameE ⟨W, H, S, O, ps⟩ = 0
  · exact last_ok W H S O a len cap ps w hp hE
  · exact last_err W H S O a len cap ps w hp hE
end Go.Proofs.YtihliofhhjjeaaaGreat
