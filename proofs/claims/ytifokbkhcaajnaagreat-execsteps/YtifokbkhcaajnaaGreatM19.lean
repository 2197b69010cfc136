/- OrdRef, PassRef2, RefCheck: joined, in this order. -/
import Derived.Test.YtifokbkhcaajnaaGreatM18
import Derived.Test.YtifokbkhcaajnaaGreatM13
import Derived.Test.YtifokbkhcaajnaaGreatM12
import Derived.Test.YtifokbkhcaajnaaGreatM06
import Derived.Test.YtifokbkhcaajnaaGreatM16
import Derived.Deep.RegionHeld3
import Derived.Deep.CutRange
import Derived.BigQuiet
/-
  ORDREF: the reference's InOrder.
-/
namespace Go.Proofs.YtifokbkhcaajnaaGreat
set_option maxRecDepth 100000
open Go.RowKit Im Go.Maps

set_option maxHeartbeats 8000000 in
theorem inOrder_any (W H S O : Int) (a : Option Addr) (len cap : Nat) (ps : List Ps) (w : World) (hp : Passes w a len ps) (oa : Option Addr) (olen ocap : Nat) (pa : Option Addr) (plen pcap : Nat) (os pl : List Int) (hO : Ints 0 w oa olen os) (hL : Ints 0 w pa plen pl) (hE : frameE ⟨W, H, S, O, ps⟩ = 0) :
    Calls Tryz.prog 46 #[.agg #[.int .i64 W, .int .i64 H, .int .i64 S, .int .i64 O, .slice a len cap], .agg #[.slice oa olen ocap, .slice pa plen pcap]] w fun e w' => e = .returned (.bool (refB (gpOf ⟨W, H, S, O, ps⟩) os pl)) ∧ Below w.heap.size w w' := by
  obtain rfl := hp.leng
  obtain rfl := hO.leng
  obtain rfl := hL.leng
  have hR := gp_right hE
  have hN12 : ps.length ≤ 12 := hR.hN.2
  have hN1 : 1 ≤ ps.length := hR.hN.1
  have hbig := hO.big
  have hbig2 := hL.big
  have hb0 := below_box (below_box (Below.refl w.heap.size w) (.cells #[.int .i64 W, .int .i64 H, .int .i64 S, .int .i64 O, .slice a ps.length cap] 24)) (.cells #[.slice oa os.length ocap, .slice pa pl.length pcap] 27)
  have hF0 := (FBox.new w W H S O a ps.length cap).alloc (.cells #[.slice oa os.length ocap, .slice pa pl.length pcap] 27)
  have hP0 := PlBox.new (w.alloc (.cells #[.int .i64 W, .int .i64 H, .int .i64 S, .int .i64 O, .slice a ps.length cap] 24)) (.slice oa os.length ocap) (.slice pa pl.length pcap) 27
  rw [World.size_alloc] at hP0
  have HR : Hid (refB (gpOf ⟨W, H, S, O, ps⟩) os pl = (decide (pl.length = ps.length) && decide (os.length ≤ ps.length) && allTo (refP (srcOf ps) ps.length os) os.length && allTo (refQ (keptG ps ps.length (shownP ⟨W, H, S, O, ps⟩) ps.length) os pl) ps.length)) := rfl
  by_cases hl1 : pl.length = ps.length
  case neg =>
    have hne : ¬ (pl.length : Int) = (ps.length : Int) := by omega
    go_enter Tryz.func46, Tryz.ntmps46
    go_wp2
    go_ret
    exact ⟨by rw [HR.out, decide_eq_false hl1]; rfl, hb0⟩
  by_cases hl2 : os.length ≤ ps.length
  case neg =>
    have hne : (ps.length : Int) < (os.length : Int) := by omega
    rw [hl1] at hb0 ⊢
    go_enter Tryz.func46, Tryz.ntmps46
    go_wp2
    go_ret
    exact ⟨by rw [HR.out, decide_eq_false hl2]; simp, hb0⟩
  rw [decide_eq_true hl1, decide_eq_true hl2] at HR
  have hs2 : ∀ x ∈ srcs ps ps.length, x.length ≤ 2 := by
    intro x hx
    unfold srcs at hx
    rw [List.mem_map] at hx
    obtain ⟨n, _, rfl⟩ := hx
    unfold srcOf
    rw [List.length_map]
    exact takesP_len _
  have hso := fun wx hp => sourcesOfRef_any W H S O a ps.length cap ps wx hp hN12
  have hke := fun wx hp => keptOf_any W H S O a ps.length cap ps wx hp hE
  have HSR : Hid (∀ k, k < ps.length → (srcs ps ps.length).getD k [] = srcOf ps k) := fun k hk => srcs_at ps hk
  have HS2 : Hid (∀ k, k < ps.length → (srcOf ps k).length ≤ 2 ∧ ∀ s ∈ srcOf ps k, 0 ≤ s ∧ s < ps.length) := fun k hk => ⟨by unfold srcOf; rw [List.length_map]; exact takesP_len _, fun s hs => by have := srcOk_of hE k hk s hs; omega⟩
  have hl2' : ¬ (ps.length : Int) < (os.length : Int) := by omega
  have hwn : IntKind.i64.wrap ((ps.length : Int) - 1) = (ps.length : Int) - 1 := by rw [IntKind.wrap_i64]; omega
  have hp0 := hp.below hb0
  have hO0 := hO.below (Nat.le_refl _) hb0
  have hL0 := hL.below (Nat.le_refl _) hb0
  rw [hl1] at hL0 hP0 hb0 hF0 hp0 hO0 ⊢
  clear hp hO hL hR
  go_enter Tryz.func46, Tryz.ntmps46
  go_wp2
  generalize (w.alloc (.cells #[.int .i64 W, .int .i64 H, .int .i64 S, .int .i64 O, .slice a ps.length cap] 24)).alloc (.cells #[.slice oa os.length ocap, .slice pa ps.length pcap] 27) = W0 at *
  have hd := (Below.refl W0.heap.size W0).drew
  have g5 : ∀ w', Below W0.heap.size W0 w' → w'.cell? ⟨w.heap.size, 0, none⟩ = some (.int .i64 W) ∧ w'.cell? ⟨w.heap.size, 1, none⟩ = some (.int .i64 H) ∧ w'.cell? ⟨w.heap.size, 2, none⟩ = some (.int .i64 S) ∧ w'.cell? ⟨w.heap.size, 3, none⟩ = some (.int .i64 O) ∧ w'.cell? ⟨w.heap.size, 4, none⟩ = some (.slice a ps.length cap) := fun w' h => by
    obtain ⟨_, c0, c1, c2, c3, c4⟩ := hF0.below h
    exact ⟨c0, c1, c2, c3, c4⟩
  go_region_held3 (fun w' => w'.cell? ⟨w.heap.size, 0, none⟩ = some (.int .i64 W) ∧ w'.cell? ⟨w.heap.size, 1, none⟩ = some (.int .i64 H) ∧ w'.cell? ⟨w.heap.size, 2, none⟩ = some (.int .i64 S) ∧ w'.cell? ⟨w.heap.size, 3, none⟩ = some (.int .i64 O) ∧ w'.cell? ⟨w.heap.size, 4, none⟩ = some (.slice a ps.length cap))
    (first | exact g5 _ hd | exact g5 _ B1 | exact g5 _ B2)
    (first
      | (go_at_call 22; (with_reducible refine (hso _ (hp0.below hd)).mono ?_); rintro e w1 ⟨⟨v1, rfl, hLL⟩, b1⟩; have B1 : Below W0.heap.size W0 w1 := hd.trans b1; obtain ⟨sa, sc, rfl, hSs⟩ := hLL.lls hs2)
      | (go_at_call 82; (with_reducible refine (hke _ (hp0.below B1)).mono ?_); rintro e w2 ⟨⟨kb, rfl, hkb, hK⟩, b2⟩; have B2 : Below W0.heap.size W0 w2 := below_step B1 b2))
  rw [srcs_length] at hSs ⊢
  have hS2 := hSs.below b2
  have hO2 := hO0.below (Nat.le_refl _) B2
  have hL2 := hL0.below (Nat.le_refl _) B2
  have hP2 := hP0.below B2
  have hb2 := below_step hb0 B2
  have HRP : Hid (∀ i, refP (srcOf ps) ps.length os i = (decide (0 ≤ os.getD i 0) && decide (os.getD i 0 ≤ (ps.length : Int) - 1) && decide (stepAt os (os.getD i 0) = i) && allTo (refS os i (srcOf ps (os.getD i 0).toNat)) (srcOf ps (os.getD i 0).toNat).length)) := fun _ => rfl
  clear hLL hs2 hso hke g5 hd B1 b1 b2 B2 hSs hp0 hO0 hL0 hP0 hF0 hb0
  go_wp2
  go_loopw [8] (fun i wr => ∃ n : Nat, n ≤ os.length ∧ i = .int .i64 n ∧ allTo (refP (srcOf ps) ps.length os) n = true ∧ Below w2.heap.size w2 wr) (fun i _ => os.length - (intOf i).toNat)
  case atStart => exact ⟨0, Nat.zero_le _, rfl, rfl, Below.refl _ _⟩
  case round =>
    obtain ⟨n, hn, rfl, hall, hbr⟩ := hrel
    obtain ⟨_, h0, h1⟩ := hP2.below hbr
    by_cases hlt : n < os.length
    · obtain ⟨ob, oo, rfl, hox⟩ := (hO2.below (Nat.le_refl _) hbr).nth hlt
      have HA : Hid (refP (srcOf ps) ps.length os n = true → allTo (refP (srcOf ps) ps.length os) (n + 1) = true) := fun h => allTo_succ hall h
      have HF : Hid (refP (srcOf ps) ps.length os n = false → allTo (refP (srcOf ps) ps.length os) os.length = false) := fun h => allTo_not hlt h
      have HP1 : Hid (_) := HRP.out n
      have hso := fun (p : Int) (wx : World) (h : Below wr.heap.size wr wx) => stepOf_any ocap ((hO2.below (Nat.le_refl _) hbr).below (Nat.le_refl _) h) p
      have hnI : (n : Int) < (os.length : Int) := by omega
      have hn0 : (0 : Int) ≤ (n : Int) := by omega
      obtain ⟨x, HXV⟩ : ∃ x, Hid (os.getD n 0 = x) := ⟨_, rfl⟩
      rw [HXV.out] at hox HP1
      clear hall
      have hwi := fun wx => within_any x 0 ((ps.length : Int) - 1) wx
      by_cases hx : 0 ≤ x ∧ x ≤ (ps.length : Int) - 1
      case neg =>
        have e1 : withinB x 0 ((ps.length : Int) - 1) = false := by
          unfold withinB
          by_cases h : 0 ≤ x
          · rw [decide_eq_true h, decide_eq_false (fun h' => hx ⟨h, h'⟩)]; rfl
          · rw [decide_eq_false h]; rfl
        have HX : Hid (refP (srcOf ps) ps.length os n = false) := by
          show _ = _
          rw [HP1.out, show (decide (0 ≤ x) && decide (x ≤ (ps.length : Int) - 1)) = false from e1]; rfl
        rw [e1] at hwi
        clear hx e1
        go_wp2
        refine wp_region_held_drew (S := (fun w' => w'.cell? ⟨w.heap.size + 1, 0, none⟩ = some (.slice (some ⟨ob, oo, none⟩) os.length ocap) ∧ w'.cell? ⟨ob, oo + n, none⟩ = some (.int .i64 x))) (by kernel_rfl) ⟨h0, hox⟩ (fun hHeld => ?_)
        refine wpAnyH_take (i := 0) (oi := { dst := some 39, op := Go.Op.fieldAddr 27 (Go.Operand.tmp 3) 0, type := 0, pos := "plan.go:23", after := #[], guard := none }) (v := .pointer (some ⟨w.heap.size + 1, 0, none⟩)) rfl (by kernel_rfl) (by kernel_rfl) (by kernel_rfl) (fun _ _ _ h => h) (Or.inl ⟨by rfl, fun wz hSw => ?_⟩) hHeld ?_
        · obtain ⟨r0, r1⟩ := hSw
          go_simp
        simp only [Act.put, List.setIfInBounds_toArray, List.set_cons_zero, List.set_cons_succ]
        refine wpAnyH_take (i := 1) (oi := { dst := some 40, op := Go.Op.load 25 (Go.Operand.tmp 39), type := 25, pos := "plan.go:23", after := #[{ on := 0, ground := Go.Ground.data }], guard := none }) (v := .slice (some ⟨ob, oo, none⟩) os.length ocap) rfl (by kernel_rfl) (by kernel_rfl) (by kernel_rfl) (fun _ _ _ h => h) (Or.inl ⟨by rfl, fun wz hSw => ?_⟩) hHeld ?_
        · obtain ⟨r0, r1⟩ := hSw
          go_simp
        simp only [Act.put, List.setIfInBounds_toArray, List.set_cons_zero, List.set_cons_succ]
        refine wpAnyH_take (i := 2) (oi := { dst := some 41, op := Go.Op.move (Go.Operand.tmp 8), type := 3, pos := "plan.go:23", after := #[], guard := none }) (v := .int .i64 n) rfl (by kernel_rfl) (by kernel_rfl) (by kernel_rfl) (fun _ _ _ h => h) (Or.inl ⟨by rfl, fun wz hSw => ?_⟩) hHeld ?_
        · obtain ⟨r0, r1⟩ := hSw
          go_simp
        simp only [Act.put, List.setIfInBounds_toArray, List.set_cons_zero, List.set_cons_succ]
        refine wpAnyH_take (i := 3) (oi := { dst := some 42, op := Go.Op.indexAddr 25 (Go.Operand.tmp 40) (Go.Operand.tmp 41), type := 0, pos := "plan.go:23", after := #[{ on := 1, ground := Go.Ground.data }, { on := 2, ground := Go.Ground.data }], guard := none }) (v := .pointer (some ⟨ob, oo + n, none⟩)) rfl (by kernel_rfl) (by kernel_rfl) (by kernel_rfl) (fun _ _ _ h => h) (Or.inl ⟨by rfl, fun wz hSw => ?_⟩) hHeld ?_
        · obtain ⟨r0, r1⟩ := hSw
          go_simp
        simp only [Act.put, List.setIfInBounds_toArray, List.set_cons_zero, List.set_cons_succ]
        refine wpAnyH_take (i := 4) (oi := { dst := some 43, op := Go.Op.load 3 (Go.Operand.tmp 42), type := 3, pos := "plan.go:23", after := #[{ on := 3, ground := Go.Ground.data }], guard := none }) (v := .int .i64 x) rfl (by kernel_rfl) (by kernel_rfl) (by kernel_rfl) (fun _ _ _ h => h) (Or.inl ⟨by rfl, fun wz hSw => ?_⟩) hHeld ?_
        · obtain ⟨r0, r1⟩ := hSw
          go_simp
        simp only [Act.put, List.setIfInBounds_toArray, List.set_cons_zero, List.set_cons_succ]
        refine wpAnyH_take (i := 5) (oi := { dst := some 44, op := Go.Op.move (Go.Operand.tmp 5), type := 3, pos := "plan.go:23", after := #[], guard := none }) (v := .int .i64 (ps.length)) rfl (by kernel_rfl) (by kernel_rfl) (by kernel_rfl) (fun _ _ _ h => h) (Or.inl ⟨by rfl, fun wz hSw => ?_⟩) hHeld ?_
        · obtain ⟨r0, r1⟩ := hSw
          go_simp
        simp only [Act.put, List.setIfInBounds_toArray, List.set_cons_zero, List.set_cons_succ]
        refine wpAnyH_take (i := 6) (oi := { dst := some 45, op := Go.Op.binOp Go.BinOp.sub 3 (Go.Operand.tmp 44) (Go.Operand.const (Go.Value.int Go.IntKind.i64 1)) 3, type := 3, pos := "plan.go:23", after := #[{ on := 5, ground := Go.Ground.data }], guard := none }) (v := .int .i64 (ps.length - 1)) rfl (by kernel_rfl) (by kernel_rfl) (by kernel_rfl) (fun _ _ _ h => h) (Or.inl ⟨by rfl, fun wz hSw => ?_⟩) hHeld ?_
        · obtain ⟨r0, r1⟩ := hSw
          go_simp
        simp only [Act.put, List.setIfInBounds_toArray, List.set_cons_zero, List.set_cons_succ]
        refine wpAnyH_ready (rs := [7]) (by kernel_rfl) (by simp) ?_
        refine AllReadyH.cons (o := { dst := some 46, op := Go.Op.call { callee := Go.Callee.value (Go.Operand.func 45), args := #[Go.Operand.tmp 43, Go.Operand.const (Go.Value.int Go.IntKind.i64 0), Go.Operand.tmp 45], argTypes := #[3, 3, 3] }, type := 4, pos := "plan.go:23", after := #[{ on := 4, ground := Go.Ground.data }, { on := 6, ground := Go.Ground.data }], guard := none }) rfl (fun K hK => ?_) AllReadyH.nil
        rw [if_pos (by rfl)]
        go_simp
        go_at_call 45
        refine (hwi _).mono ?_
        rintro e w2 ⟨rfl, rfl⟩
        go_simp
        refine hK.out _ _ hHeld (fun hHeld2 => ?_)
        clear hK K
        refine wpAnyH_take (i := 8) (oi := { dst := some 47, op := Go.Op.unOp Go.UnOp.not 4 (Go.Operand.tmp 46), type := 4, pos := "plan.go:23", after := #[{ on := 7, ground := Go.Ground.data }], guard := none }) (v := .bool true) rfl (by kernel_rfl) (by kernel_rfl) (by kernel_rfl) (fun _ _ _ h => h) (Or.inl ⟨by rfl, fun wz hSw => ?_⟩) hHeld2 ?_
        · obtain ⟨r0, r1⟩ := hSw
          go_simp
        simp only [Act.put, List.setIfInBounds_toArray, List.set_cons_zero, List.set_cons_succ]
        refine wpAnyH_take (i := 9) (oi := { dst := some 48, op := Go.Op.move (Go.Operand.tmp 47), type := 4, pos := "plan.go:23", after := #[{ on := 8, ground := Go.Ground.data }, { on := 7, ground := Go.Ground.chain }], guard := none }) (v := .bool true) rfl (by kernel_rfl) (by kernel_rfl) (by kernel_rfl) (fun _ _ _ h => h) (Or.inl ⟨by rfl, fun wz hSw => ?_⟩) hHeld2 ?_
        · obtain ⟨r0, r1⟩ := hSw
          go_simp
        simp only [Act.put, List.setIfInBounds_toArray, List.set_cons_zero, List.set_cons_succ]
        refine wpAnyH_take (i := 10) (oi := { dst := some 49, op := Go.Op.fieldAddr 27 (Go.Operand.tmp 3) 0, type := 0, pos := "plan.go:23", after := #[{ on := 9, ground := Go.Ground.guard }], guard := some (9, false) }) (v := undef) rfl (by kernel_rfl) (by kernel_rfl) (by kernel_rfl) (fun _ _ _ h => h) (Or.inr ⟨by rfl, rfl⟩) hHeld2 ?_
        simp only [Act.put, List.setIfInBounds_toArray, List.set_cons_zero, List.set_cons_succ]
        refine wpAnyH_take (i := 11) (oi := { dst := some 50, op := Go.Op.load 25 (Go.Operand.tmp 49), type := 25, pos := "plan.go:23", after := #[{ on := 10, ground := Go.Ground.data }, { on := 9, ground := Go.Ground.guard }], guard := some (9, false) }) (v := undef) rfl (by kernel_rfl) (by kernel_rfl) (by kernel_rfl) (fun _ _ _ h => h) (Or.inr ⟨by rfl, rfl⟩) hHeld2 ?_
        simp only [Act.put, List.setIfInBounds_toArray, List.set_cons_zero, List.set_cons_succ]
        refine wpAnyH_take (i := 12) (oi := { dst := some 51, op := Go.Op.fieldAddr 27 (Go.Operand.tmp 3) 0, type := 0, pos := "plan.go:23", after := #[{ on := 9, ground := Go.Ground.guard }], guard := some (9, false) }) (v := undef) rfl (by kernel_rfl) (by kernel_rfl) (by kernel_rfl) (fun _ _ _ h => h) (Or.inr ⟨by rfl, rfl⟩) hHeld2 ?_
        simp only [Act.put, List.setIfInBounds_toArray, List.set_cons_zero, List.set_cons_succ]
        refine wpAnyH_take (i := 13) (oi := { dst := some 52, op := Go.Op.load 25 (Go.Operand.tmp 51), type := 25, pos := "plan.go:23", after := #[{ on := 12, ground := Go.Ground.data }, { on := 9, ground := Go.Ground.guard }], guard := some (9, false) }) (v := undef) rfl (by kernel_rfl) (by kernel_rfl) (by kernel_rfl) (fun _ _ _ h => h) (Or.inr ⟨by rfl, rfl⟩) hHeld2 ?_
        simp only [Act.put, List.setIfInBounds_toArray, List.set_cons_zero, List.set_cons_succ]
        refine wpAnyH_take (i := 14) (oi := { dst := some 53, op := Go.Op.move (Go.Operand.tmp 8), type := 3, pos := "plan.go:23", after := #[{ on := 9, ground := Go.Ground.guard }], guard := some (9, false) }) (v := undef) rfl (by kernel_rfl) (by kernel_rfl) (by kernel_rfl) (fun _ _ _ h => h) (Or.inr ⟨by rfl, rfl⟩) hHeld2 ?_
        simp only [Act.put, List.setIfInBounds_toArray, List.set_cons_zero, List.set_cons_succ]
        refine wpAnyH_take (i := 15) (oi := { dst := some 54, op := Go.Op.indexAddr 25 (Go.Operand.tmp 52) (Go.Operand.tmp 53), type := 0, pos := "plan.go:23", after := #[{ on := 13, ground := Go.Ground.data }, { on := 14, ground := Go.Ground.data }, { on := 9, ground := Go.Ground.guard }], guard := some (9, false) }) (v := undef) rfl (by kernel_rfl) (by kernel_rfl) (by kernel_rfl) (fun _ _ _ h => h) (Or.inr ⟨by rfl, rfl⟩) hHeld2 ?_
        simp only [Act.put, List.setIfInBounds_toArray, List.set_cons_zero, List.set_cons_succ]
        refine wpAnyH_take (i := 16) (oi := { dst := some 55, op := Go.Op.load 3 (Go.Operand.tmp 54), type := 3, pos := "plan.go:23", after := #[{ on := 15, ground := Go.Ground.data }, { on := 9, ground := Go.Ground.guard }], guard := some (9, false) }) (v := undef) rfl (by kernel_rfl) (by kernel_rfl) (by kernel_rfl) (fun _ _ _ h => h) (Or.inr ⟨by rfl, rfl⟩) hHeld2 ?_
        simp only [Act.put, List.setIfInBounds_toArray, List.set_cons_zero, List.set_cons_succ]
        refine wpAnyH_take (i := 17) (oi := { dst := some 56, op := Go.Op.call { callee := Go.Callee.value (Go.Operand.func 83), args := #[Go.Operand.tmp 50, Go.Operand.tmp 55], argTypes := #[25, 3] }, type := 3, pos := "plan.go:23", after := #[{ on := 11, ground := Go.Ground.data }, { on := 16, ground := Go.Ground.data }, { on := 9, ground := Go.Ground.chain }, { on := 9, ground := Go.Ground.guard }], guard := some (9, false) }) (v := undef) rfl (by kernel_rfl) (by kernel_rfl) (by kernel_rfl) (fun _ _ _ h => h) (Or.inr ⟨by rfl, rfl⟩) hHeld2 ?_
        simp only [Act.put, List.setIfInBounds_toArray, List.set_cons_zero, List.set_cons_succ]
        refine wpAnyH_take (i := 18) (oi := { dst := some 57, op := Go.Op.move (Go.Operand.tmp 8), type := 3, pos := "plan.go:23", after := #[{ on := 9, ground := Go.Ground.guard }], guard := some (9, false) }) (v := undef) rfl (by kernel_rfl) (by kernel_rfl) (by kernel_rfl) (fun _ _ _ h => h) (Or.inr ⟨by rfl, rfl⟩) hHeld2 ?_
        simp only [Act.put, List.setIfInBounds_toArray, List.set_cons_zero, List.set_cons_succ]
        refine wpAnyH_take (i := 19) (oi := { dst := some 58, op := Go.Op.binOp Go.BinOp.neq 3 (Go.Operand.tmp 56) (Go.Operand.tmp 57) 3, type := 4, pos := "plan.go:23", after := #[{ on := 17, ground := Go.Ground.data }, { on := 18, ground := Go.Ground.data }, { on := 9, ground := Go.Ground.guard }], guard := some (9, false) }) (v := undef) rfl (by kernel_rfl) (by kernel_rfl) (by kernel_rfl) (fun _ _ _ h => h) (Or.inr ⟨by rfl, rfl⟩) hHeld2 ?_
        simp only [Act.put, List.setIfInBounds_toArray, List.set_cons_zero, List.set_cons_succ]
        refine wpAnyH_take (i := 20) (oi := { dst := some 59, op := Go.Op.pick (Go.Operand.tmp 48) (Go.Operand.const (Go.Value.bool true)) (Go.Operand.tmp 58), type := 4, pos := "plan.go:23", after := #[{ on := 9, ground := Go.Ground.data }, { on := 19, ground := Go.Ground.data }], guard := none }) (v := .bool true) rfl (by kernel_rfl) (by kernel_rfl) (by kernel_rfl) (fun _ _ _ h => h) (Or.inl ⟨by rfl, fun wz hSw => ?_⟩) hHeld2 ?_
        · obtain ⟨r0, r1⟩ := hSw
          go_simp
        simp only [Act.put, List.setIfInBounds_toArray, List.set_cons_zero, List.set_cons_succ]
        refine wpAnyH_done (by kernel_rfl) ?_ _
        go_wp2
        go_ret
        exact ⟨by rw [HR.out, HF.out HX.out]; rfl, (below_step hb2 hbr).drew⟩
      obtain ⟨q, rfl⟩ := Int.eq_ofNat_of_zero_le hx.1
      have hql : q < ps.length := by omega
      have hqI : (q : Int) < (ps.length : Int) := by omega
      have hq0 : (0 : Int) ≤ (q : Int) := by omega
      have e1 : withinB (q : Int) 0 ((ps.length : Int) - 1) = true := by unfold withinB; rw [decide_eq_true hx.1, decide_eq_true hx.2]; rfl
      rw [e1] at hwi
      rw [decide_eq_true hx.1, decide_eq_true hx.2, Int.toNat_natCast] at HP1
      have hd := (Below.refl wr.heap.size wr).drew
      have hsq := hso q _ hd
      have hdr := (below_step hb2 hbr).drew
      have hbd := hbr.drew
      clear e1 hx
      generalize hst : stepAt os q = st at hsq HP1
      have hst' := stepAt_bd os q
      rw [hst] at hst'
      clear hst
      by_cases hsn : st = (n : Int)
      case neg =>
        have HX : Hid (refP (srcOf ps) ps.length os n = false) := by show _ = _; rw [HP1.out, decide_eq_false hsn]; rfl
        go_wp2
        go_region_held3 (fun w' => w'.cell? ⟨w.heap.size + 1, 0, none⟩ = some (.slice (some ⟨ob, oo, none⟩) os.length ocap) ∧ w'.cell? ⟨ob, oo + n, none⟩ = some (.int .i64 q))
          (exact ⟨h0, hox⟩)
          (first | (go_at_call 45; refine (hwi _).mono ?_; rintro e w3 ⟨rfl, rfl⟩) | (go_at_call 83; refine hsq.mono ?_; rintro e w3 ⟨rfl, rfl⟩))
        go_wp2
        go_ret
        exact ⟨by rw [HR.out, HF.out HX.out]; rfl, hdr⟩
      subst hsn
      have HX : Hid (refP (srcOf ps) ps.length os n = allTo (refS os n (srcOf ps q)) (srcOf ps q).length) := by show _ = _; rw [HP1.out, decide_eq_true rfl]; rfl
      obtain ⟨sb, so, ua, uc, rfl, hsb, qq, hUI⟩ := hS2.nth hql
      rw [HSR.out q hql] at qq hUI
      obtain ⟨hl2x, hinx⟩ := HS2.out q hql
      have HIN : Hid (_) := hinx
      generalize srcOf ps q = sr at qq hUI hl2x HIN HX
      clear HP1 hinx
      go_wp2
      go_region_held3 (fun w' => w'.cell? ⟨w.heap.size + 1, 0, none⟩ = some (.slice (some ⟨ob, oo, none⟩) os.length ocap) ∧ w'.cell? ⟨ob, oo + n, none⟩ = some (.int .i64 q))
        (exact ⟨h0, hox⟩)
        (first | (go_at_call 45; refine (hwi _).mono ?_; rintro e w3 ⟨rfl, rfl⟩) | (go_at_call 83; refine hsq.mono ?_; rintro e w3 ⟨rfl, rfl⟩))
      go_wp2
      go_loopw [9] (fun i wt => ∃ t : Nat, t ≤ sr.length ∧ i = .int .i64 t ∧ allTo (refS os n sr) t = true ∧ Below w2.heap.size w2 wt) (fun i _ => sr.length - (intOf i).toNat)
      case atStart => exact ⟨0, Nat.zero_le _, rfl, rfl, hbd⟩
      case round =>
        obtain ⟨t, ht, rfl, hallt, hbt⟩ := hrel
        clear h0 h1 hox hsq hwi hbd hdr hd hso hbr
        obtain ⟨_, h0, h1⟩ := hP2.below hbt
        obtain ⟨ob', oo', he, hox⟩ := (hO2.below (Nat.le_refl _) hbt).nth hlt
        injection he with he
        injection he with he1 he2
        subst he1 he2
        have q0 := (hbt.cell (p := ⟨sb, so + q, none⟩) hsb).trans qq
        rw [HXV.out] at hox
        by_cases htl : t < sr.length
        · obtain ⟨bu, ou, rfl, hcx⟩ := (hUI.below (Nat.le_refl _) hbt).nth htl
          have hr := HIN.out _ (getD_mem htl 0)
          have HA2 : Hid (refS os n sr t = true → allTo (refS os n sr) (t + 1) = true) := fun h => allTo_succ hallt h
          have HF2 : Hid (refS os n sr t = false → allTo (refS os n sr) sr.length = false) := fun h => allTo_not htl h
          have HP2 : Hid (refS os n sr t = (decide (0 ≤ stepAt os (sr.getD t 0)) && decide (stepAt os (sr.getD t 0) < (n : Int)))) := rfl
          generalize sr.getD t 0 = m at hcx hr HP2
          have htI : (t : Int) < (sr.length : Int) := by omega
          have ht0 : (0 : Int) ≤ (t : Int) := by omega
          have hsm := stepOf_any ocap ((hO2.below (Nat.le_refl _) hbt).below (Nat.le_refl _) (Below.refl wr.heap.size wr).drew) m
          have hstb := stepAt_bd os m
          generalize stepAt os m = s at hsm HP2 hstb
          have hbd := hbt.drew
          clear hallt
          by_cases hs : 0 ≤ s ∧ s < (n : Int)
          · obtain ⟨hs1, hs2⟩ := hs
            have hs1' : ¬ s < 0 := by omega
            have hs2' : ¬ (n : Int) ≤ s := by omega
            go_wp2
            go_region_held3 (fun w' => w'.cell? ⟨w.heap.size + 1, 0, none⟩ = some (.slice (some ⟨ob, oo, none⟩) os.length ocap) ∧ w'.cell? ⟨ob, oo + n, none⟩ = some (.int .i64 q) ∧ w'.cell? ⟨sb, so + q, none⟩ = some (.slice (some ⟨bu, ou, none⟩) sr.length uc) ∧ w'.cell? ⟨bu, ou + t, none⟩ = some (.int .i64 m))
              (exact ⟨h0, hox, q0, hcx⟩)
              ((go_at_call 83; refine hsm.mono ?_; rintro e w3 ⟨rfl, rfl⟩))
            go_wp2
            go_roundw
            case rel => exact ⟨t + 1, by omega, by go_num, HA2.out (by rw [HP2.out, decide_eq_true hs1, decide_eq_true hs2]; rfl), hbd⟩
            case measure => simp [intOf]; omega
          · have HX2 : Hid (refS os n sr t = false) := by
              show _ = _
              rw [HP2.out]
              by_cases h : 0 ≤ s
              · rw [decide_eq_true h, decide_eq_false (fun h' => hs ⟨h, h'⟩)]; rfl
              · rw [decide_eq_false h]; rfl
            have hbz := below_step hb2 hbd
            by_cases hs1 : s < 0
            · go_wp2
              go_region_held3 (fun w' => w'.cell? ⟨w.heap.size + 1, 0, none⟩ = some (.slice (some ⟨ob, oo, none⟩) os.length ocap) ∧ w'.cell? ⟨ob, oo + n, none⟩ = some (.int .i64 q) ∧ w'.cell? ⟨sb, so + q, none⟩ = some (.slice (some ⟨bu, ou, none⟩) sr.length uc) ∧ w'.cell? ⟨bu, ou + t, none⟩ = some (.int .i64 m))
                (exact ⟨h0, hox, q0, hcx⟩)
                ((go_at_call 83; refine hsm.mono ?_; rintro e w3 ⟨rfl, rfl⟩))
              go_wp2
              go_ret
              exact ⟨by rw [HR.out, HF.out (by rw [HX.out, HF2.out HX2.out])]; rfl, hbz⟩
            · have hs2 : (n : Int) ≤ s := by omega
              clear hs
              go_wp2
              go_region_held3 (fun w' => w'.cell? ⟨w.heap.size + 1, 0, none⟩ = some (.slice (some ⟨ob, oo, none⟩) os.length ocap) ∧ w'.cell? ⟨ob, oo + n, none⟩ = some (.int .i64 q) ∧ w'.cell? ⟨sb, so + q, none⟩ = some (.slice (some ⟨bu, ou, none⟩) sr.length uc) ∧ w'.cell? ⟨bu, ou + t, none⟩ = some (.int .i64 m))
                (exact ⟨h0, hox, q0, hcx⟩)
                ((go_at_call 83; refine hsm.mono ?_; rintro e w3 ⟨rfl, rfl⟩))
              go_wp2
              go_ret
              exact ⟨by rw [HR.out, HF.out (by rw [HX.out, HF2.out HX2.out])]; rfl, hbz⟩
        · have hte : t = sr.length := by omega
          subst hte
          go_wp2
          go_roundw
          case rel => exact ⟨n + 1, by omega, by go_num, HA.out (by rw [HX.out, hallt]), hbt⟩
          case measure => simp [intOf]; omega
    · have hne : n = os.length := by omega
      subst hne
      have HR2 : Hid (refB (gpOf ⟨W, H, S, O, ps⟩) os pl = allTo (refQ (keptG ps ps.length (shownP ⟨W, H, S, O, ps⟩) ps.length) os pl) ps.length) := by show _ = _; rw [HR.out, hall]; rfl
      have hK2 := hK.below hbr hK.lt hbr.size
      have hL3 := hL2.below (Nat.le_refl _) hbr
      have hO3 := hO2.below (Nat.le_refl _) hbr
      have hso := fun (p : Int) => stepOf_any ocap hO3 p
      have hb3 := below_step hb2 hbr
      generalize keptG ps ps.length (shownP ⟨W, H, S, O, ps⟩) ps.length = g at *
      clear hall HR HRP hS2 HSR HS2
      go_wp2
      go_loop [11] (fun i => ∃ k : Nat, k ≤ ps.length ∧ i = .int .i64 k ∧ allTo (refQ g os pl) k = true) (fun i => ps.length - (intOf i).toNat)
      case atStart => exact ⟨0, Nat.zero_le _, rfl, rfl⟩
      case round =>
        obtain ⟨k, hk, rfl, hall⟩ := hrel
        by_cases hlt : k < ps.length
        · obtain ⟨pb, po, rfl, hpx⟩ := hL3.nth hlt
          have hkx := hK2.cells k hlt
          have HA : Hid (refQ g os pl k = true → allTo (refQ g os pl) (k + 1) = true) := fun h => allTo_succ hall h
          have HF : Hid (refQ g os pl k = false → refB (gpOf ⟨W, H, S, O, ps⟩) os pl = false) := fun h => by rw [HR2.out]; exact allTo_not hlt h
          have HP : Hid (refQ g os pl k = !((g k && !decide (0 ≤ stepAt os k)) || (decide (0 ≤ stepAt os k) && !(decide (0 ≤ pl.getD k 0) && decide (pl.getD k 0 ≤ 4096))) || (!decide (0 ≤ stepAt os k) && !decide (pl.getD k 0 = -1)))) := rfl
          have hsk := hso k
          have hkI : (k : Int) < (ps.length : Int) := by omega
          have hk0 : (0 : Int) ≤ (k : Int) := by omega
          have hwi := fun wx => within_any (pl.getD k 0) 0 4096 wx
          unfold withinB at hwi
          generalize pl.getD k 0 = y at hpx HP hwi
          generalize g k = gk at hkx HP
          generalize stepAt os k = st at hsk HP
          generalize hwB : (decide (0 ≤ y) && decide (y ≤ 4096)) = wB at hwi HP
          clear hall hwB
          by_cases hst : 0 ≤ st
          · rw [decide_eq_true hst] at HP
            cases wB <;> cases gk
            all_goals
              go_wp2_with (first | (go_at_call 83; refine hsk.mono ?_; rintro e w3 ⟨rfl, rfl⟩) | (go_at_call 45; refine (hwi _).mono ?_; rintro e w3 ⟨rfl, rfl⟩))
              first
              | (go_round
                 case rel => exact ⟨k + 1, by omega, by go_num, HA.out (by rw [HP.out]; rfl)⟩
                 case measure => simp [intOf]; omega)
              | (go_ret
                 exact ⟨by rw [HF.out (by rw [HP.out]; rfl)]; rfl, hb3⟩)
          · rw [decide_eq_false hst] at HP
            by_cases hy : y = -1
            · subst hy
              cases gk
              all_goals
                go_wp2_with (first | (go_at_call 83; refine hsk.mono ?_; rintro e w3 ⟨rfl, rfl⟩) | (go_at_call 45; refine (hwi _).mono ?_; rintro e w3 ⟨rfl, rfl⟩))
                first
                | (go_round
                   case rel => exact ⟨k + 1, by omega, by go_num, HA.out (by rw [HP.out]; rfl)⟩
                   case measure => simp [intOf]; omega)
                | (go_ret
                   exact ⟨by rw [HF.out (by rw [HP.out]; rfl)]; rfl, hb3⟩)
            · have HY : Hid (refQ g os pl k = false) := by show _ = _; rw [HP.out, decide_eq_false hy]; simp
              cases gk
              all_goals
                go_wp2_with (first | (go_at_call 83; refine hsk.mono ?_; rintro e w3 ⟨rfl, rfl⟩) | (go_at_call 45; refine (hwi _).mono ?_; rintro e w3 ⟨rfl, rfl⟩))
                go_ret
                exact ⟨by rw [HF.out HY.out]; rfl, hb3⟩
        · have hke : k = ps.length := by omega
          have HK : Hid (refB (gpOf ⟨W, H, S, O, ps⟩) os pl = true) := by show _ = _; rw [HR2.out, ← hke]; exact hall
          clear hall HR2 hK2
          rw [hke] at *
          go_wp2
          go_ret
          exact ⟨by rw [HK.out]; rfl, hb3⟩
end Go.Proofs.YtifokbkhcaajnaaGreat
/-
  PASSREF2: the reference's passError, whatever it is handed.
-/
namespace Go.Proofs.YtifokbkhcaajnaaGreat
set_option maxRecDepth 100000
open Go.RowKit Im

theorem passErr_kind (W H S O : Int) (fa : Option Addr) (flen fcap : Nat) (Op To A B K : Int) (la : Option Addr) (ll lc : Nat) (ia : Option Addr) (il ic : Nat) (w : World) (hkn : knownB Op = false) :
    Calls Tryz.prog 48 #[.agg #[.int .i64 W, .int .i64 H, .int .i64 S, .int .i64 O, .slice fa flen fcap], .agg #[.int .i64 Op, .int .i64 To, .int .i64 A, .int .i64 B, .int .i64 K, .slice la ll lc], .slice ia il ic] w fun e w' => e = .returned (.int .i64 4) ∧ Below w.heap.size w w' := by
  have hk := fun wx => within_any Op 1 13 wx
  rw [show withinB Op 1 13 = false from hkn] at hk
  go_enter Tryz.func48, Tryz.ntmps48
  go_wp2_with (go_at_call 45; refine (hk _).mono ?_; rintro e w' ⟨rfl, rfl⟩)
  go_ret
  exact ⟨rfl, below_box (below_box (Below.refl _ _) _) _⟩
def bad1 (xa xb bTo bA bB kf : Bool) : Bool := !bTo || (xa && !bA) || (xb && !bB) || !kf
def bad2 (xa xb xk xl : Bool) (To A B K : Int) (ll : Nat) : Bool := (!xa && !decide (A = 0)) || (!xb && !decide (B = 0)) || (!xk && !decide (K = 0)) || (!xl && decide (0 < ll)) || (xa && decide (A = To)) || (xb && decide (B = To))
def bad3 (xa xb : Bool) (zA zB : Sz) : Bool := (xa && decide (zA.1 = 0)) || (xb && decide (zB.1 = 0))
def bad4 (xb : Bool) (zA zB : Sz) : Bool := xb && !decide (zA = zB)
def bad5 (Op : Int) (zA : Sz) : Bool := (decide (Op = 11) && (decide (zA.1 % 2 = 1) || decide (zA.2 % 2 = 1))) || (decide (Op = 12) && (decide (16 < 2 * zA.1) || decide (16 < 2 * zA.2)))
def coreE (xa xb xk xl bTo bA bB kf : Bool) (Op To A B K : Int) (ll : Nat) (le : Int) (zA zB : Sz) : Int :=
  if bad1 xa xb bTo bA bB kf = true then 3
  else if xl = true ∧ le ≠ 0 then le
  else if bad2 xa xb xk xl To A B K ll = true then 1
  else if bad3 xa xb zA zB = true then 5
  else if bad4 xb zA zB = true then 6
  else if bad5 Op zA = true then 6
  else 0
theorem bad1_false {xa xb bTo bA bB kf : Bool} (h : bad1 xa xb bTo bA bB kf = false) : (xa = true → bA = true) ∧ (xb = true → bB = true) := by
  revert h; cases xa <;> cases xb <;> cases bA <;> cases bB <;> simp [bad1]
set_option maxHeartbeats 4000000 in
theorem passErr_core (W H S O : Int) (fa : Option Addr) (flen fcap : Nat) (Op To A B K : Int) (la : Option Addr) (ll lc : Nat) (b off il ic : Nat) (xa xb xk xl bTo bA bB kf : Bool) (le : Int) (zA zB : Sz) (w : World) (hkn : knownB Op = true) (hb : b < w.heap.size)
    (hcombo : (xa = false ∧ xb = false ∧ xk = true ∧ xl = false) ∨ (xa = true ∧ xb = false ∧ xk = false ∧ xl = false) ∨ (xa = true ∧ xb = true ∧ xk = false ∧ xl = false) ∨ (xa = true ∧ xb = false ∧ xk = true ∧ xl = false) ∨ (xa = true ∧ xb = false ∧ xk = true ∧ xl = true))
    (hh : ∀ wx, Calls Tryz.prog 50 #[.int .i64 Op] wx fun e w' => e = .returned (.tuple #[.bool xa, .bool xb, .bool xk, .bool xl]) ∧ wx = w')
    (hT : ∀ wx bx, FBox wx bx W H S O fa flen fcap → Calls Tryz.prog 86 #[.int .i64 To, .pointer (some ⟨bx, 0, none⟩)] wx fun e w' => e = .returned (.bool bTo) ∧ wx = w')
    (hA : ∀ wx bx, FBox wx bx W H S O fa flen fcap → Calls Tryz.prog 86 #[.int .i64 A, .pointer (some ⟨bx, 0, none⟩)] wx fun e w' => e = .returned (.bool bA) ∧ wx = w')
    (hB : ∀ wx bx, FBox wx bx W H S O fa flen fcap → Calls Tryz.prog 86 #[.int .i64 B, .pointer (some ⟨bx, 0, none⟩)] wx fun e w' => e = .returned (.bool bB) ∧ wx = w')
    (hK : ∀ wx, Calls Tryz.prog 87 #[.agg #[.int .i64 Op, .int .i64 To, .int .i64 A, .int .i64 B, .int .i64 K, .slice la ll lc]] wx fun e w' => e = .returned (.bool kf) ∧ Below wx.heap.size wx w')
    (hLi : ∀ wx, Below w.heap.size w wx → Calls Tryz.prog 88 #[.slice la ll lc] wx fun e w' => e = .returned (.int .i64 le) ∧ Below wx.heap.size wx w')
    (cA : bA = true → ∃ m : Nat, A = m ∧ (m : Int) < il ∧ w.cell? ⟨b, off + m * 2, none⟩ = some (.int .i64 zA.1) ∧ w.cell? ⟨b, off + m * 2 + 1, none⟩ = some (.int .i64 zA.2))
    (hop : Op = 11 ∨ Op = 12 → xa = true) (hz : (0 ≤ zA.1 ∧ zA.1 ≤ 16) ∧ (0 ≤ zA.2 ∧ zA.2 ≤ 16))
    (cB : bB = true → ∃ m : Nat, B = m ∧ (m : Int) < il ∧ w.cell? ⟨b, off + m * 2, none⟩ = some (.int .i64 zB.1) ∧ w.cell? ⟨b, off + m * 2 + 1, none⟩ = some (.int .i64 zB.2)) :
    Calls Tryz.prog 48 #[.agg #[.int .i64 W, .int .i64 H, .int .i64 S, .int .i64 O, .slice fa flen fcap], .agg #[.int .i64 Op, .int .i64 To, .int .i64 A, .int .i64 B, .int .i64 K, .slice la ll lc], .slice (some ⟨b, off, none⟩) il ic] w fun e w' => e = .returned (.int .i64 (coreE xa xb xk xl bTo bA bB kf Op To A B K ll le zA zB)) ∧ Below w.heap.size w w' := by
  have hk := fun wx => within_any Op 1 13 wx
  rw [show withinB Op 1 13 = true from hkn] at hk
  have hF := (FBox.new w W H S O fa flen fcap).alloc (.cells #[.int .i64 Op, .int .i64 To, .int .i64 A, .int .i64 B, .int .i64 K, .slice la ll lc] 67)
  have hP := PBox.new (w.alloc (.cells #[.int .i64 W, .int .i64 H, .int .i64 S, .int .i64 O, .slice fa flen fcap] 24)) Op To A B K la ll lc
  rw [World.size_alloc] at hP
  have hb0 := below_box (below_box (Below.refl w.heap.size w) (.cells #[.int .i64 W, .int .i64 H, .int .i64 S, .int .i64 O, .slice fa flen fcap] 24)) (.cells #[.int .i64 Op, .int .i64 To, .int .i64 A, .int .i64 B, .int .i64 K, .slice la ll lc] 67)
  have hmf : ∀ (fn : Fn) (first cap : Array Value) (w : World), (Instr.makeFunc fn first cap).run Tryz.prog w = .ok (.func fn first cap) w := fun _ _ _ _ => rfl
  have HC : Hid (_) := hcombo
  have HA : Hid (_) := cA
  have HB : Hid (_) := cB
  have HO : Hid (_) := hop
  have HZ : Hid (_) := hz
  clear hcombo cA cB hop hz
  generalize hE : coreE xa xb xk xl bTo bA bB kf Op To A B K ll le zA zB = E
  have HEE : Hid (_) := hE
  clear hE
  go_enter Tryz.func48, Tryz.ntmps48
  go_upto_region 5 with (first
    | (go_at_call 45; refine (hk _).mono ?_; rintro e w' ⟨rfl, rfl⟩)
    | (go_at_call 50; refine (hh _).mono ?_; rintro e w' ⟨rfl, rfl⟩))
  generalize (w.alloc (.cells #[.int .i64 W, .int .i64 H, .int .i64 S, .int .i64 O, .slice fa flen fcap] 24)).alloc (.cells #[.int .i64 Op, .int .i64 To, .int .i64 A, .int .i64 B, .int .i64 K, .slice la ll lc] 67) = w1 at *
  generalize Value.agg #[.int .i64 W, .int .i64 H, .int .i64 S, .int .i64 O, .slice fa flen fcap] = ag0
  generalize Value.agg #[.int .i64 Op, .int .i64 To, .int .i64 A, .int .i64 B, .int .i64 K, .slice la ll lc] = ag1
  go_cut [54] from 25 to 54 (fun s wc => s = .bool (bad1 xa xb bTo bA bB kf) ∧ Below w1.heap.size w1 wc)
  case first =>
    have h1 := hT _ _ hF
    have h2 := hA _ _ hF
    have h3 := hB _ _ hF
    have h4 := hK w1
    obtain ⟨_, p0, p1, p2, p3, p4, p5⟩ := hP
    clear hT hA hB hK hLi hh hk hkn hb hF hb0 HA HB HEE
    cases xa <;> cases xb
    all_goals
      go_wp2_with (first
        | (go_at_call 86; refine h1.mono ?_; rintro e w' ⟨rfl, rfl⟩)
        | (go_at_call 86; refine h2.mono ?_; rintro e w' ⟨rfl, rfl⟩)
        | (go_at_call 86; refine h3.mono ?_; rintro e w' ⟨rfl, rfl⟩)
        | (go_at_call 87; refine h4.mono ?_; rintro e w' ⟨rfl, bK⟩))
      all_goals go_meet
      all_goals exact ⟨by simp [bad1, *], by first | exact Below.refl _ _ | assumption⟩
  case rest =>
    obtain ⟨rfl, bc⟩ := hcut
    have hP1 := hP.below bc
    have hb1 := below_step hb0 bc
    clear hT hA hB hK hh hk hF hP bc hb0 hmf
    obtain ⟨_, p0, p1, p2, p3, p4, p5⟩ := id hP1
    generalize hx1 : bad1 xa xb bTo bA bB kf = x1
    cases x1 with
    | true =>
      have hE3 : E = 3 := by rw [← HEE.out]; unfold coreE; rw [if_pos hx1]
      subst hE3
      clear hx1 HEE HC HA HB hLi hkn hb hP1
      go_wp2
      go_ret
      exact ⟨rfl, hb1⟩
    | false =>
      have H1 : Hid (_) := hx1
      have HAB : Hid (_) := bad1_false hx1
      clear hx1
      go_upto_region 7 with fail
      have hli := hLi _ hb1
      go_cut [61] from 55 to 61 (fun s wd => s = .bool (xl && !decide (le = 0)) ∧ Below wc.heap.size wc wd)
      case first =>
        clear H1 HA HB HAB HEE hLi
        cases xl
        · go_wp2
          go_meet
          exact ⟨by simp, Below.refl _ _⟩
        · go_wp2_with (go_at_call 88; refine hli.mono ?_; rintro e w' ⟨rfl, bL⟩)
          go_meet
          exact ⟨by simp; rfl, bL⟩
      case rest =>
        obtain ⟨rfl, bc2⟩ := hcut
        have hP2 := hP1.below bc2
        have hb2 := below_step hb1 bc2
        clear hP1 bc2 hb1 p0 p1 p2 p3 p4 p5 hli
        rename_i wc1 _ _ _
        obtain ⟨_, p0, p1, p2, p3, p4, p5⟩ := id hP2
        have hli := hLi _ hb2
        clear hLi
        generalize hx2 : (xl && !decide (le = 0)) = x2
        cases x2 with
        | true =>
          have hxl : xl = true ∧ le ≠ 0 := by simpa using hx2
          have hE3 : E = le := by rw [← HEE.out]; unfold coreE; rw [H1.out, if_neg (by decide), if_pos hxl]
          subst hE3
          clear hx2 hxl HEE HC HA HB hkn hb hP2
          go_wp2_with (go_at_call 88; refine hli.mono ?_; rintro e w' ⟨rfl, bL⟩)
          go_ret
          exact ⟨rfl, below_step hb2 bL⟩
        | false =>
          have H2 : Hid (¬ (xl = true ∧ le ≠ 0)) := fun h => by simp [h.1, h.2] at hx2
          clear hx2 hli
          go_upto_region 9 with fail
          go_cut [119] from 65 to 119 (fun s wd => s = .bool (bad2 xa xb xk xl To A B K ll) ∧ wc = wd)
          case first =>
            clear H1 H2 HA HB HAB HEE hkn hb hP2 hb2
            have hc := HC.out
            clear HC
            rcases hc with ⟨rfl, rfl, rfl, rfl⟩ | ⟨rfl, rfl, rfl, rfl⟩ | ⟨rfl, rfl, rfl, rfl⟩ | ⟨rfl, rfl, rfl, rfl⟩ | ⟨rfl, rfl, rfl, rfl⟩
            all_goals
              go_wp2
              all_goals go_meet
              all_goals exact ⟨congrArg Value.bool (Bool.eq_iff_iff.2 (by simp [bad2, *] <;> omega)), rfl⟩
          case rest =>
            obtain ⟨rfl, rfl⟩ := hcut
            generalize hx3 : bad2 xa xb xk xl To A B K ll = x3
            cases x3 with
            | true =>
              have hE3 : E = 1 := by rw [← HEE.out]; unfold coreE; rw [H1.out, if_neg (by decide), if_neg H2.out, if_pos hx3]
              subst hE3
              clear hx3 HEE HC HA HB hkn hb hP2
              go_wp2
              go_ret
              exact ⟨rfl, hb2⟩
            | false =>
              have H3 : Hid (_) := hx3
              clear hx3
              go_upto_region 11 with fail
              go_cut [141] from 120 to 141 (fun s wd => s = .bool (bad3 xa xb zA zB) ∧ wc = wd)
              case first =>
                have ha := HAB.out.1
                have hbb := HAB.out.2
                have ca := HA.out
                have cb := HB.out
                clear H1 H2 H3 HA HB HAB HEE hkn hP2 HC
                cases xa <;> cases xb
                · clear ha hbb ca cb
                  go_wp2
                  go_meet
                  exact ⟨by simp [bad3], rfl⟩
                · obtain ⟨n, rfl, hn, d0, d1⟩ := cb (hbb rfl)
                  replace d0 := (hb2.cell (p := ⟨b, off + n * 2, none⟩) hb).trans d0
                  clear ha hbb ca cb
                  go_wp2
                  all_goals go_meet
                  all_goals exact ⟨congrArg Value.bool (Bool.eq_iff_iff.2 (by simp [bad3, *] <;> omega)), rfl⟩
                · obtain ⟨n, rfl, hn, d0, d1⟩ := ca (ha rfl)
                  replace d0 := (hb2.cell (p := ⟨b, off + n * 2, none⟩) hb).trans d0
                  clear ha hbb ca cb
                  go_wp2
                  all_goals go_meet
                  all_goals exact ⟨congrArg Value.bool (Bool.eq_iff_iff.2 (by simp [bad3, *] <;> omega)), rfl⟩
                · obtain ⟨n, rfl, hn, d0, d1⟩ := ca (ha rfl)
                  obtain ⟨m, rfl, hm, e0, e1⟩ := cb (hbb rfl)
                  replace d0 := (hb2.cell (p := ⟨b, off + n * 2, none⟩) hb).trans d0
                  replace e0 := (hb2.cell (p := ⟨b, off + m * 2, none⟩) hb).trans e0
                  clear ha hbb ca cb
                  go_wp2
                  all_goals go_meet
                  all_goals exact ⟨congrArg Value.bool (Bool.eq_iff_iff.2 (by simp [bad3, *] <;> omega)), rfl⟩
              case rest =>
                obtain ⟨rfl, rfl⟩ := hcut
                generalize hx4 : bad3 xa xb zA zB = x4
                cases x4 with
                | true =>
                  have hE3 : E = 5 := by rw [← HEE.out]; unfold coreE; rw [H1.out, if_neg (by decide), if_neg H2.out, H3.out, if_neg (by decide), if_pos hx4]
                  subst hE3
                  clear hx4 HEE HC HA HB hkn hb hP2
                  go_wp2
                  go_ret
                  exact ⟨rfl, hb2⟩
                | false =>
                  have H4 : Hid (_) := hx4
                  clear hx4
                  go_upto_region 13 with fail
                  go_cut [155] from 142 to 155 (fun s wd => s = .bool (bad4 xb zA zB) ∧ Below wc.heap.size wc wd)
                  case first =>
                    have ha := HAB.out.1
                    have hbb := HAB.out.2
                    have ca := HA.out
                    have cb := HB.out
                    have hc := HC.out
                    clear H1 H2 H3 H4 HA HB HAB HEE hkn hP2 HC
                    cases xb
                    · clear ha hbb ca cb hc
                      go_quiet (fail)
                      go_wp2
                      go_meet
                      exact ⟨by simp [bad4], below_drewN (Below.refl _ _) _⟩
                    · have hxa : xa = true := by rcases hc with h | h | h | h | h <;> simp_all
                      obtain ⟨n, rfl, hn, d0, d1⟩ := ca (ha hxa)
                      obtain ⟨m, rfl, hm, e0, e1⟩ := cb (hbb rfl)
                      replace d0 := (hb2.cell (p := ⟨b, off + n * 2, none⟩) hb).trans d0
                      replace e0 := (hb2.cell (p := ⟨b, off + m * 2, none⟩) hb).trans e0
                      replace d1 := (hb2.cell (p := ⟨b, off + n * 2 + 1, none⟩) hb).trans d1
                      replace e1 := (hb2.cell (p := ⟨b, off + m * 2 + 1, none⟩) hb).trans e1
                      clear ha hbb ca cb hc hxa
                      obtain ⟨zw, zh⟩ := zA
                      obtain ⟨yw, yh⟩ := zB
                      dsimp only at d0 d1 e0 e1
                      have hc : (yw = zw ∧ yh = zh) ∨ (yw = zw ∧ (zh == yh) = false) ∨ (zw == yw) = false := by
                        by_cases a1 : zw = yw <;> by_cases a2 : zh = yh <;> simp [a1, a2]
                      rcases hc with ⟨rfl, rfl⟩ | ⟨rfl, hn'⟩ | hn'
                      · go_region_held3 (fun w' => w'.cell? ⟨b, off + n * 2, none⟩ = some (.int .i64 yw) ∧ w'.cell? ⟨b, off + n * 2 + 1, none⟩ = some (.int .i64 yh) ∧ w'.cell? ⟨b, off + m * 2, none⟩ = some (.int .i64 yw) ∧ w'.cell? ⟨b, off + m * 2 + 1, none⟩ = some (.int .i64 yh) ∧ w'.cell? ⟨w.heap.size + 1, 2, none⟩ = some (.int .i64 n) ∧ w'.cell? ⟨w.heap.size + 1, 3, none⟩ = some (.int .i64 m))
                          (exact ⟨d0, d1, e0, e1, p2, p3⟩)
                          (fail)
                        all_goals go_wp2
                        all_goals go_meet
                        all_goals exact ⟨by simp [bad4], (Below.refl _ _).drew⟩
                      · go_region_held3 (fun w' => w'.cell? ⟨b, off + n * 2, none⟩ = some (.int .i64 yw) ∧ w'.cell? ⟨b, off + n * 2 + 1, none⟩ = some (.int .i64 zh) ∧ w'.cell? ⟨b, off + m * 2, none⟩ = some (.int .i64 yw) ∧ w'.cell? ⟨b, off + m * 2 + 1, none⟩ = some (.int .i64 yh) ∧ w'.cell? ⟨w.heap.size + 1, 2, none⟩ = some (.int .i64 n) ∧ w'.cell? ⟨w.heap.size + 1, 3, none⟩ = some (.int .i64 m))
                          (exact ⟨d0, d1, e0, e1, p2, p3⟩)
                          (fail)
                        all_goals go_wp2
                        all_goals go_meet
                        all_goals exact ⟨by have := hn'; simp at this; simp [bad4, this], (Below.refl _ _).drew⟩
                      · go_region_held3 (fun w' => w'.cell? ⟨b, off + n * 2, none⟩ = some (.int .i64 zw) ∧ w'.cell? ⟨b, off + n * 2 + 1, none⟩ = some (.int .i64 zh) ∧ w'.cell? ⟨b, off + m * 2, none⟩ = some (.int .i64 yw) ∧ w'.cell? ⟨b, off + m * 2 + 1, none⟩ = some (.int .i64 yh) ∧ w'.cell? ⟨w.heap.size + 1, 2, none⟩ = some (.int .i64 n) ∧ w'.cell? ⟨w.heap.size + 1, 3, none⟩ = some (.int .i64 m))
                          (exact ⟨d0, d1, e0, e1, p2, p3⟩)
                          (fail)
                        all_goals go_wp2
                        all_goals go_meet
                        all_goals exact ⟨by have := hn'; simp at this; simp [bad4, this], (Below.refl _ _).drew⟩
                  case rest =>
                    obtain ⟨rfl, bc3⟩ := hcut
                    have hP3 := hP2.below bc3
                    have hb3 := below_step hb2 bc3
                    clear hP2 bc3 hb2 p0 p1 p2 p3 p4 p5
                    obtain ⟨_, p0, p1, p2, p3, p4, p5⟩ := id hP3
                    generalize hx5 : bad4 xb zA zB = x5
                    cases x5 with
                    | true =>
                      have hE3 : E = 6 := by rw [← HEE.out]; unfold coreE; rw [H1.out, if_neg (by decide), if_neg H2.out, H3.out, if_neg (by decide), H4.out, if_neg (by decide), if_pos hx5]
                      subst hE3
                      clear hx5 HEE HC HA HB hkn hb hP3
                      go_wp2
                      go_ret
                      exact ⟨rfl, hb3⟩
                    | false =>
                      have H5 : Hid (_) := hx5
                      clear hx5
                      go_upto_region 15 with fail
                      go_cut [203] from 156 to 203 (fun s wd => s = .bool (bad5 Op zA) ∧ wc = wd)
                      case first =>
                        have ha := HAB.out.1
                        have ca := HA.out
                        have hxa := HO.out
                        clear H1 H2 H3 H4 H5 HA HB HAB HEE hkn HC HO hP3
                        by_cases h11 : Op = 11
                        · subst h11
                          obtain ⟨n, rfl, hn, d0, d1⟩ := ca (ha (hxa (Or.inl rfl)))
                          replace d0 := (hb3.cell (p := ⟨b, off + n * 2, none⟩) hb).trans d0
                          replace d1 := (hb3.cell (p := ⟨b, off + n * 2 + 1, none⟩) hb).trans d1
                          clear ha ca hxa
                          obtain ⟨zw, zh⟩ := zA
                          have hz := HZ.out
                          clear HZ
                          dsimp only at d0 d1 hz
                          go_wp2
                          all_goals go_meet
                          all_goals exact ⟨congrArg Value.bool (Bool.eq_iff_iff.2 (by simp [bad5, *] <;> omega)), rfl⟩
                        · by_cases h12 : Op = 12
                          · subst h12
                            obtain ⟨n, rfl, hn, d0, d1⟩ := ca (ha (hxa (Or.inr rfl)))
                            replace d0 := (hb3.cell (p := ⟨b, off + n * 2, none⟩) hb).trans d0
                            replace d1 := (hb3.cell (p := ⟨b, off + n * 2 + 1, none⟩) hb).trans d1
                            clear ha ca hxa
                            obtain ⟨zw, zh⟩ := zA
                            have hz := HZ.out
                            clear HZ
                            dsimp only at d0 d1 hz
                            have w1 : IntKind.i64.wrap (2 * zw) = 2 * zw := by rw [IntKind.wrap_i64]; omega
                            have w2 : IntKind.i64.wrap (2 * zh) = 2 * zh := by rw [IntKind.wrap_i64]; omega
                            go_wp2
                            all_goals go_meet
                            all_goals exact ⟨congrArg Value.bool (Bool.eq_iff_iff.2 (by simp [bad5, *] <;> omega)), rfl⟩
                          · clear ha ca hxa
                            go_wp2
                            all_goals go_meet
                            all_goals exact ⟨congrArg Value.bool (Bool.eq_iff_iff.2 (by simp [bad5, *])), rfl⟩
                      case rest =>
                        obtain ⟨rfl, rfl⟩ := hcut
                        generalize hx6 : bad5 Op zA = x6
                        cases x6 with
                        | true =>
                          have hE3 : E = 6 := by rw [← HEE.out]; unfold coreE; rw [H1.out, if_neg (by decide), if_neg H2.out, H3.out, if_neg (by decide), H4.out, if_neg (by decide), H5.out, if_neg (by decide), if_pos hx6]
                          subst hE3
                          clear hx6 HEE HC HA HB hkn hb hP3
                          go_wp2
                          go_ret
                          exact ⟨rfl, hb3⟩
                        | false =>
                          have hE3 : E = 0 := by rw [← HEE.out]; unfold coreE; rw [H1.out, if_neg (by decide), if_neg H2.out, H3.out, if_neg (by decide), H4.out, if_neg (by decide), H5.out, if_neg (by decide), hx6, if_neg (by decide)]
                          subst hE3
                          clear hx6 HEE HC HA HB hkn hb hP3
                          go_wp2
                          go_ret
                          exact ⟨rfl, hb3⟩
end Go.Proofs.YtifokbkhcaajnaaGreat
/-
  REFCHECK: the reference's CheckFrame, of a frame whose bounds are not right; the sizes by slots in memory.
-/
namespace Go.Proofs.YtifokbkhcaajnaaGreat
set_option maxRecDepth 100000
open Go.RowKit Im

/-- The sizes by slots lie in a block of their own. -/
structure In (w : World) (b : Nat) (S : Nat) (g : Int → Sz) : Prop where
  lt : b < w.heap.size
  cells : ∀ m : Nat, m < S → w.cell? ⟨b, 0 + m * 2, none⟩ = some (.int .i64 (g m).1) ∧ w.cell? ⟨b, 0 + m * 2 + 1, none⟩ = some (.int .i64 (g m).2)
  froz : ∀ o, w.frozen? ⟨b, o, none⟩ = false
theorem In.below {w w' : World} {b S B : Nat} {g : Int → Sz} (h : In w b S g) (hb : Below B w w') (hB : b < B) (hs : w.heap.size ≤ w'.heap.size) : In w' b S g :=
  ⟨Nat.lt_of_lt_of_le h.lt hs, fun m hm => ⟨(hb.cell (p := ⟨b, 0 + m * 2, none⟩) hB).trans (h.cells m hm).1, (hb.cell (p := ⟨b, 0 + m * 2 + 1, none⟩) hB).trans (h.cells m hm).2⟩, fun o => (hb.frozen (p := ⟨b, o, none⟩) hB).trans (h.froz o)⟩
theorem In.put {w : World} {b S : Nat} {g g' : Int → Sz} (h : In w b S g) (m : Nat) (z : Sz) (hm : m < S) (hg : ∀ j : Nat, g' j = if (m : Int) = j then z else g j) : In ((w.setCell ⟨b, 0 + m * 2, none⟩ (.int .i64 z.1)).setCell ⟨b, 0 + m * 2 + 1, none⟩ (.int .i64 z.2)) b S g' := by
  refine ⟨by simpa using h.lt, fun j hj => ?_, fun o => by simpa using h.froz o⟩
  rw [hg j]
  by_cases e : m = j
  · subst e
    rw [if_pos rfl]
    exact ⟨(set_other _ (fun e => by injection e with e1 e2; omega)).trans (set_same (h.cells m hm).1), set_same ((set_other _ (fun e => by injection e with e1 e2; omega)).trans (h.cells m hm).2)⟩
  · rw [if_neg (by omega)]
    refine ⟨?_, ?_⟩
    · rw [set_other _ (fun e => by injection e with e1 e2; omega), set_other _ (fun e => by injection e with e1 e2; omega)]; exact (h.cells j hj).1
    · rw [set_other _ (fun e => by injection e with e1 e2; omega), set_other _ (fun e => by injection e with e1 e2; omega)]; exact (h.cells j hj).2
set_option maxHeartbeats 2000000 in
/-- The reference's CheckFrame, of a frame whose bounds are not right. -/
theorem checkFrame_bounds (W H S O : Int) (a : Option Addr) (len cap : Nat) (ps : List Ps) (w : World) (hp : Passes w a len ps) (hE : boundsE ⟨W, H, S, O, ps⟩ ≠ 0) :
    Calls Tryz.prog 21 #[.agg #[.int .i64 W, .int .i64 H, .int .i64 S, .int .i64 O, .slice a len cap]] w (ToldFZ w ⟨W, H, S, O, ps⟩) := by
  have hB := FBox.new w W H S O a len cap
  have hb0 := below_box (Below.refl w.heap.size w) (.cells #[.int .i64 W, .int .i64 H, .int .i64 S, .int .i64 O, .slice a len cap] 24)
  have hf : frameE ⟨W, H, S, O, ps⟩ = boundsE ⟨W, H, S, O, ps⟩ := by unfold frameE; rw [if_neg hE]
  have hlen := hp.leng
  have hbig := hp.big
  have hno : ∀ {E : Int} {e : Ending} {w' : World}, frameE ⟨W, H, S, O, ps⟩ = E → E ≠ 0 → e = .returned (.tuple #[.slice none 0 0, .int .i64 E]) → Below w.heap.size w w' → ToldFZ w ⟨W, H, S, O, ps⟩ e w' := by
    intro E e w' h1 h2 h3 h4
    refine ⟨⟨.slice none 0 0, by rw [h1]; exact h3, ?_⟩, h4⟩
    rw [h1, if_neg h2]
    exact World.ownsRow_nil _ _ _ _
  obtain ⟨_, g0, g1, g2, g3, g4⟩ := hB
  by_cases hc : sideB W = true ∧ sideB H = true ∧ withinB S 1 8 = true ∧ slotB O S = true
  · have hd : ¬ withinB ps.length 1 12 = true := by
      intro hd
      apply hE
      unfold boundsE
      rw [if_pos hc, if_pos hd]
    have h2 : frameE ⟨W, H, S, O, ps⟩ = 2 := by rw [hf]; unfold boundsE; rw [if_pos hc, if_neg hd]
    have hN : Hid (∀ {e : Ending} {w' : World}, e = .returned (.tuple #[.slice none 0 0, .int .i64 2]) → Below w.heap.size w w' → ToldFZ w ⟨W, H, S, O, ps⟩ e w') := fun h3 h4 => hno h2 (by decide) h3 h4
    obtain ⟨c1, c2, c3, c4⟩ := hc
    have c1' : withinB W 1 16 = true := c1
    have c2' : withinB H 1 16 = true := c2
    have c4' : withinB O 0 (S - 1) = true := c4
    have hS : 1 ≤ S ∧ S ≤ 8 := by simp [withinB] at c3; omega
    have hw : IntKind.i64.wrap (S - 1) = S - 1 := by rw [IntKind.wrap_i64]; omega
    have hd' : withinB len 1 12 = false := by rw [hlen] at hd; exact eq_false_of_ne_true hd
    clear hno hf hE h2 hd c1 c2 c4 hS
    go_enter Tryz.func21, Tryz.ntmps21
    go_wp2_with (go_at_call 45; refine (within_any _ _ _ _).mono ?_; rintro e w' ⟨rfl, rfl⟩)
    go_ret2
    exact hN.out rfl hb0
  · have h3 : frameE ⟨W, H, S, O, ps⟩ = 3 := by rw [hf]; unfold boundsE; rw [if_neg hc]
    have hN : Hid (∀ {e : Ending} {w' : World}, e = .returned (.tuple #[.slice none 0 0, .int .i64 3]) → Below w.heap.size w w' → ToldFZ w ⟨W, H, S, O, ps⟩ e w') := fun h4 h5 => hno h3 (by decide) h4 h5
    clear hno hf hE h3
    by_cases c1 : withinB W 1 16 = true
    · by_cases c2 : withinB H 1 16 = true
      · by_cases c3 : withinB S 1 8 = true
        · have hS : 1 ≤ S ∧ S ≤ 8 := by simp [withinB] at c3; omega
          have hw : IntKind.i64.wrap (S - 1) = S - 1 := by rw [IntKind.wrap_i64]; omega
          have c4 : withinB O 0 (S - 1) = false := eq_false_of_ne_true fun c4 => hc ⟨c1, c2, c3, c4⟩
          clear hc hS
          go_enter Tryz.func21, Tryz.ntmps21
          go_wp2_with (go_at_call 45; refine (within_any _ _ _ _).mono ?_; rintro e w' ⟨rfl, rfl⟩)
          go_ret2
          exact hN.out rfl hb0
        · have c3' := eq_false_of_ne_true c3
          clear hc c3
          go_enter Tryz.func21, Tryz.ntmps21
          go_wp2_with (go_at_call 45; refine (within_any _ _ _ _).mono ?_; rintro e w' ⟨rfl, rfl⟩)
          go_ret2
          exact hN.out rfl hb0
      · have c2' := eq_false_of_ne_true c2
        clear hc c2
        go_enter Tryz.func21, Tryz.ntmps21
        go_wp2_with (go_at_call 45; refine (within_any _ _ _ _).mono ?_; rintro e w' ⟨rfl, rfl⟩)
        go_ret2
        exact hN.out rfl hb0
    · have c1' := eq_false_of_ne_true c1
      clear hc c1
      go_enter Tryz.func21, Tryz.ntmps21
      go_wp2_with (go_at_call 45; refine (within_any _ _ _ _).mono ?_; rintro e w' ⟨rfl, rfl⟩)
      go_ret2
      exact hN.out rfl hb0
end Go.Proofs.YtifokbkhcaajnaaGreat
