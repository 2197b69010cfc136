/-
  SIZEOF: frame.sizeOf, the size of what a pass makes, and whether the sizes fit.
-/
import Derived.Test.YtfpkiimlaepnhaaM10
import Derived.Deep.RegionHeld3
import Derived.Deep.RegionLaw
namespace Go.Proofs.Ytfpkiimlaepnhaa
set_option maxRecDepth 100000
open Go.RowKit Im
theorem sz_cells {w : World} (W H S O : Int) (fa : Option Addr) (flen fcap : Nat) (Op To A B K : Int) (la : Option Addr) (ll lc : Nat) (u v : Int) {b off : Nat} {z : Value} (hb : b < w.heap.size) (d : w.cell? ⟨b, off, none⟩ = some z) :
    (((w.alloc (.cells #[.int .i64 W, .int .i64 H, .int .i64 S, .int .i64 O, .slice fa flen fcap] 63)).alloc (.cells #[.int .i64 Op, .int .i64 To, .int .i64 A, .int .i64 B, .int .i64 K, .slice la ll lc] 88)).alloc (.cells #[.int .i64 u, .int .i64 v] 72)).cell? ⟨b, off, none⟩ = some z :=
  ((below_box (below_box (below_box (Below.refl _ _) _) _) _).cell (p := ⟨b, off, none⟩) hb).trans d
theorem sz_below (w : World) (x y z : Obj) : Below w.heap.size w (((w.alloc x).alloc y).alloc z) := below_box (below_box (below_box (Below.refl _ _) _) _) _
set_option maxHeartbeats 1000000 in
theorem sizeOf_down (W H S O : Int) (fa : Option Addr) (flen fcap : Nat) (To A B K : Int) (la : Option Addr) (ll lc : Nat) (b off len cap : Nat) (w : World) (zw zh : Int) (hb : b < w.heap.size) (hl : 0 < len)
    (d0 : w.cell? ⟨b, off, none⟩ = some (.int .i64 zw)) (d1 : w.cell? ⟨b, off + 1, none⟩ = some (.int .i64 zh)) (u v r1 r2 : Int) (hd1 : zw.tdiv 2 = u) (hd2 : zh.tdiv 2 = v) (hw1 : IntKind.i64.wrap u = u) (hw2 : IntKind.i64.wrap v = v) (hr1 : zw.tmod 2 = r1) (hr2 : zh.tmod 2 = r2) (h1 : r1 = 0 ∨ r1 = 1) (h2 : r2 = 0 ∨ r2 = 1) :
    Calls Try.prog 109 #[.agg #[.int .i64 W, .int .i64 H, .int .i64 S, .int .i64 O, .slice fa flen fcap], .agg #[.int .i64 11, .int .i64 To, .int .i64 A, .int .i64 B, .int .i64 K, .slice la ll lc], .slice (some ⟨b, off, none⟩) len cap] w fun e w' => e = .returned (.tuple #[.agg #[.int .i64 u, .int .i64 v], .bool (decide (r1 = 0) && decide (r2 = 0))]) ∧ Below w.heap.size w w' := by
  have e0 := sz_cells W H S O fa flen fcap 11 To A B K la ll lc 0 0 hb d0
  have e1 := sz_cells W H S O fa flen fcap 11 To A B K la ll lc 0 0 hb d1
  have f0 := sz_cells W H S O fa flen fcap 11 To A B K la ll lc u v hb d0
  have f1 := sz_cells W H S O fa flen fcap 11 To A B K la ll lc u v hb d1
  rcases h1 with rfl | rfl
  · rcases h2 with rfl | rfl
    all_goals
      go_enter Try.func109, Try.ntmps109
      go_wp2
      go_region_held3 (fun w' => w'.cell? ⟨b, off, none⟩ = some (.int .i64 zw) ∧ w'.cell? ⟨b, off + 1, none⟩ = some (.int .i64 zh))
        (first | exact ⟨e0, e1⟩ | exact ⟨f0, f1⟩)
        (fail)
      all_goals go_wp2
      all_goals exact bodyPost_ret (by simp [results, Try.results109, go_sem]) rfl ⟨rfl, (sz_below w _ _ _).drew⟩
  · clear h2 hr2
    go_enter Try.func109, Try.ntmps109
    go_wp2
    refine wp_region_held_drew (S := fun w' => w'.cell? ⟨b, off, none⟩ = some (.int .i64 zw) ∧ w'.cell? ⟨b, off + 1, none⟩ = some (.int .i64 zh)) (by kernel_rfl) ⟨e0, e1⟩ (fun hHeld => ?_)
    refine wpAnyH_take (i := 0) (oi := { dst := some 20, op := Op.move (Operand.tmp 2), type := 64, pos := "pass.go:102", after := #[], guard := none }) (v := .slice (some ⟨b, off, none⟩) len cap) rfl (by kernel_rfl) (by kernel_rfl) (by kernel_rfl) (fun _ _ _ h => h) (Or.inl ⟨by rfl, fun wz hSw => ?_⟩) hHeld ?_
    · obtain ⟨s0, s1⟩ := hSw
      go_simp
    simp only [Act.put, List.setIfInBounds_toArray, List.set_cons_zero, List.set_cons_succ]
    refine wpAnyH_take (i := 1) (oi := { dst := some 21, op := Op.indexAddr 64 (Operand.tmp 20) (Operand.const (Value.int IntKind.i64 0)), type := 0, pos := "pass.go:102", after := #[{ on := 0, ground := Ground.data }], guard := none }) (v := .pointer (some ⟨b, off, none⟩)) rfl (by kernel_rfl) (by kernel_rfl) (by kernel_rfl) (fun _ _ _ h => h) (Or.inl ⟨by rfl, fun wz hSw => ?_⟩) hHeld ?_
    · obtain ⟨s0, s1⟩ := hSw
      go_simp
    simp only [Act.put, List.setIfInBounds_toArray, List.set_cons_zero, List.set_cons_succ]
    refine wpAnyH_take (i := 2) (oi := { dst := some 22, op := Op.fieldAddr 72 (Operand.tmp 21) 0, type := 0, pos := "pass.go:102", after := #[{ on := 1, ground := Ground.data }], guard := none }) (v := .pointer (some ⟨b, off, none⟩)) rfl (by kernel_rfl) (by kernel_rfl) (by kernel_rfl) (fun _ _ _ h => h) (Or.inl ⟨by rfl, fun wz hSw => ?_⟩) hHeld ?_
    · obtain ⟨s0, s1⟩ := hSw
      go_simp
    simp only [Act.put, List.setIfInBounds_toArray, List.set_cons_zero, List.set_cons_succ]
    refine wpAnyH_take (i := 3) (oi := { dst := some 23, op := Op.load 3 (Operand.tmp 22), type := 3, pos := "pass.go:102", after := #[{ on := 2, ground := Ground.data }], guard := none }) (v := .int .i64 zw) rfl (by kernel_rfl) (by kernel_rfl) (by kernel_rfl) (fun _ _ _ h => h) (Or.inl ⟨by rfl, fun wz hSw => ?_⟩) hHeld ?_
    · obtain ⟨s0, s1⟩ := hSw
      go_simp
    simp only [Act.put, List.setIfInBounds_toArray, List.set_cons_zero, List.set_cons_succ]
    refine wpAnyH_take (i := 4) (oi := { dst := some 24, op := Op.binOp BinOp.quo 3 (Operand.tmp 23) (Operand.const (Value.int IntKind.i64 2)) 3, type := 3, pos := "pass.go:102", after := #[{ on := 3, ground := Ground.data }], guard := none }) (v := .int .i64 u) rfl (by kernel_rfl) (by kernel_rfl) (by kernel_rfl) (fun _ _ _ h => h) (Or.inl ⟨by rfl, fun wz hSw => ?_⟩) hHeld ?_
    · obtain ⟨s0, s1⟩ := hSw
      go_simp
    simp only [Act.put, List.setIfInBounds_toArray, List.set_cons_zero, List.set_cons_succ]
    refine wpAnyH_take (i := 5) (oi := { dst := some 25, op := Op.move (Operand.tmp 2), type := 64, pos := "pass.go:102", after := #[], guard := none }) (v := .slice (some ⟨b, off, none⟩) len cap) rfl (by kernel_rfl) (by kernel_rfl) (by kernel_rfl) (fun _ _ _ h => h) (Or.inl ⟨by rfl, fun wz hSw => ?_⟩) hHeld ?_
    · obtain ⟨s0, s1⟩ := hSw
      go_simp
    simp only [Act.put, List.setIfInBounds_toArray, List.set_cons_zero, List.set_cons_succ]
    refine wpAnyH_take (i := 6) (oi := { dst := some 26, op := Op.indexAddr 64 (Operand.tmp 25) (Operand.const (Value.int IntKind.i64 0)), type := 0, pos := "pass.go:102", after := #[{ on := 5, ground := Ground.data }], guard := none }) (v := .pointer (some ⟨b, off, none⟩)) rfl (by kernel_rfl) (by kernel_rfl) (by kernel_rfl) (fun _ _ _ h => h) (Or.inl ⟨by rfl, fun wz hSw => ?_⟩) hHeld ?_
    · obtain ⟨s0, s1⟩ := hSw
      go_simp
    simp only [Act.put, List.setIfInBounds_toArray, List.set_cons_zero, List.set_cons_succ]
    refine wpAnyH_take (i := 7) (oi := { dst := some 27, op := Op.fieldAddr 72 (Operand.tmp 26) 1, type := 0, pos := "pass.go:102", after := #[{ on := 6, ground := Ground.data }], guard := none }) (v := .pointer (some ⟨b, off + 1, none⟩)) rfl (by kernel_rfl) (by kernel_rfl) (by kernel_rfl) (fun _ _ _ h => h) (Or.inl ⟨by rfl, fun wz hSw => ?_⟩) hHeld ?_
    · obtain ⟨s0, s1⟩ := hSw
      go_simp
    simp only [Act.put, List.setIfInBounds_toArray, List.set_cons_zero, List.set_cons_succ]
    refine wpAnyH_take (i := 8) (oi := { dst := some 28, op := Op.load 3 (Operand.tmp 27), type := 3, pos := "pass.go:102", after := #[{ on := 7, ground := Ground.data }], guard := none }) (v := .int .i64 zh) rfl (by kernel_rfl) (by kernel_rfl) (by kernel_rfl) (fun _ _ _ h => h) (Or.inl ⟨by rfl, fun wz hSw => ?_⟩) hHeld ?_
    · obtain ⟨s0, s1⟩ := hSw
      go_simp
    simp only [Act.put, List.setIfInBounds_toArray, List.set_cons_zero, List.set_cons_succ]
    refine wpAnyH_take (i := 9) (oi := { dst := some 29, op := Op.binOp BinOp.quo 3 (Operand.tmp 28) (Operand.const (Value.int IntKind.i64 2)) 3, type := 3, pos := "pass.go:102", after := #[{ on := 8, ground := Ground.data }], guard := none }) (v := .int .i64 v) rfl (by kernel_rfl) (by kernel_rfl) (by kernel_rfl) (fun _ _ _ h => h) (Or.inl ⟨by rfl, fun wz hSw => ?_⟩) hHeld ?_
    · obtain ⟨s0, s1⟩ := hSw
      go_simp
    simp only [Act.put, List.setIfInBounds_toArray, List.set_cons_zero, List.set_cons_succ]
    refine wpAnyH_take (i := 10) (oi := { dst := some 30, op := Op.build 72 #[(0, Operand.tmp 24), (1, Operand.tmp 29)], type := 72, pos := "pass.go:102", after := #[{ on := 4, ground := Ground.data }, { on := 9, ground := Ground.data }], guard := none }) (v := .agg #[.int .i64 u, .int .i64 v]) rfl (by kernel_rfl) (by kernel_rfl) (by kernel_rfl) (fun _ _ _ h => h) (Or.inl ⟨by rfl, fun wz hSw => ?_⟩) hHeld ?_
    · obtain ⟨s0, s1⟩ := hSw
      go_simp
    simp only [Act.put, List.setIfInBounds_toArray, List.set_cons_zero, List.set_cons_succ]
    refine wpAnyH_take (i := 11) (oi := { dst := some 31, op := Op.move (Operand.tmp 2), type := 64, pos := "pass.go:102", after := #[], guard := none }) (v := .slice (some ⟨b, off, none⟩) len cap) rfl (by kernel_rfl) (by kernel_rfl) (by kernel_rfl) (fun _ _ _ h => h) (Or.inl ⟨by rfl, fun wz hSw => ?_⟩) hHeld ?_
    · obtain ⟨s0, s1⟩ := hSw
      go_simp
    simp only [Act.put, List.setIfInBounds_toArray, List.set_cons_zero, List.set_cons_succ]
    refine wpAnyH_take (i := 12) (oi := { dst := some 32, op := Op.indexAddr 64 (Operand.tmp 31) (Operand.const (Value.int IntKind.i64 0)), type := 0, pos := "pass.go:102", after := #[{ on := 11, ground := Ground.data }], guard := none }) (v := .pointer (some ⟨b, off, none⟩)) rfl (by kernel_rfl) (by kernel_rfl) (by kernel_rfl) (fun _ _ _ h => h) (Or.inl ⟨by rfl, fun wz hSw => ?_⟩) hHeld ?_
    · obtain ⟨s0, s1⟩ := hSw
      go_simp
    simp only [Act.put, List.setIfInBounds_toArray, List.set_cons_zero, List.set_cons_succ]
    refine wpAnyH_take (i := 13) (oi := { dst := some 33, op := Op.fieldAddr 72 (Operand.tmp 32) 0, type := 0, pos := "pass.go:102", after := #[{ on := 12, ground := Ground.data }], guard := none }) (v := .pointer (some ⟨b, off, none⟩)) rfl (by kernel_rfl) (by kernel_rfl) (by kernel_rfl) (fun _ _ _ h => h) (Or.inl ⟨by rfl, fun wz hSw => ?_⟩) hHeld ?_
    · obtain ⟨s0, s1⟩ := hSw
      go_simp
    simp only [Act.put, List.setIfInBounds_toArray, List.set_cons_zero, List.set_cons_succ]
    refine wpAnyH_take (i := 14) (oi := { dst := some 34, op := Op.load 3 (Operand.tmp 33), type := 3, pos := "pass.go:102", after := #[{ on := 13, ground := Ground.data }], guard := none }) (v := .int .i64 zw) rfl (by kernel_rfl) (by kernel_rfl) (by kernel_rfl) (fun _ _ _ h => h) (Or.inl ⟨by rfl, fun wz hSw => ?_⟩) hHeld ?_
    · obtain ⟨s0, s1⟩ := hSw
      go_simp
    simp only [Act.put, List.setIfInBounds_toArray, List.set_cons_zero, List.set_cons_succ]
    refine wpAnyH_take (i := 15) (oi := { dst := some 35, op := Op.binOp BinOp.rem 3 (Operand.tmp 34) (Operand.const (Value.int IntKind.i64 2)) 3, type := 3, pos := "pass.go:102", after := #[{ on := 14, ground := Ground.data }], guard := none }) (v := .int .i64 1) rfl (by kernel_rfl) (by kernel_rfl) (by kernel_rfl) (fun _ _ _ h => h) (Or.inl ⟨by rfl, fun wz hSw => ?_⟩) hHeld ?_
    · obtain ⟨s0, s1⟩ := hSw
      go_simp
    simp only [Act.put, List.setIfInBounds_toArray, List.set_cons_zero, List.set_cons_succ]
    refine wpAnyH_take (i := 16) (oi := { dst := some 36, op := Op.binOp BinOp.eql 3 (Operand.tmp 35) (Operand.const (Value.int IntKind.i64 0)) 3, type := 4, pos := "pass.go:102", after := #[{ on := 15, ground := Ground.data }], guard := none }) (v := .bool false) rfl (by kernel_rfl) (by kernel_rfl) (by kernel_rfl) (fun _ _ _ h => h) (Or.inl ⟨by rfl, fun wz hSw => ?_⟩) hHeld ?_
    · obtain ⟨s0, s1⟩ := hSw
      go_simp
    simp only [Act.put, List.setIfInBounds_toArray, List.set_cons_zero, List.set_cons_succ]
    refine wpAnyH_take (i := 17) (oi := { dst := some 37, op := Op.move (Operand.tmp 36), type := 4, pos := "pass.go:102", after := #[{ on := 16, ground := Ground.data }], guard := none }) (v := .bool false) rfl (by kernel_rfl) (by kernel_rfl) (by kernel_rfl) (fun _ _ _ h => h) (Or.inl ⟨by rfl, fun wz hSw => ?_⟩) hHeld ?_
    · obtain ⟨s0, s1⟩ := hSw
      go_simp
    simp only [Act.put, List.setIfInBounds_toArray, List.set_cons_zero, List.set_cons_succ]
    refine wpAnyH_take (i := 18) (oi := { dst := some 38, op := Op.move (Operand.tmp 2), type := 64, pos := "pass.go:102", after := #[{ on := 17, ground := Ground.guard }, { on := 25, ground := Ground.gcOnly Departure.lateStores }], guard := some (17, true) }) (v := undef) rfl (by kernel_rfl) (by kernel_rfl) (by kernel_rfl) (fun _ _ _ h => h) (Or.inr ⟨by rfl, rfl⟩) hHeld ?_
    simp only [Act.put, List.setIfInBounds_toArray, List.set_cons_zero, List.set_cons_succ]
    refine wpAnyH_take (i := 19) (oi := { dst := some 39, op := Op.indexAddr 64 (Operand.tmp 38) (Operand.const (Value.int IntKind.i64 0)), type := 0, pos := "pass.go:102", after := #[{ on := 18, ground := Ground.data }, { on := 17, ground := Ground.guard }, { on := 25, ground := Ground.gcOnly Departure.lateStores }], guard := some (17, true) }) (v := undef) rfl (by kernel_rfl) (by kernel_rfl) (by kernel_rfl) (fun _ _ _ h => h) (Or.inr ⟨by rfl, rfl⟩) hHeld ?_
    simp only [Act.put, List.setIfInBounds_toArray, List.set_cons_zero, List.set_cons_succ]
    refine wpAnyH_take (i := 20) (oi := { dst := some 40, op := Op.fieldAddr 72 (Operand.tmp 39) 1, type := 0, pos := "pass.go:102", after := #[{ on := 19, ground := Ground.data }, { on := 17, ground := Ground.guard }, { on := 25, ground := Ground.gcOnly Departure.lateStores }], guard := some (17, true) }) (v := undef) rfl (by kernel_rfl) (by kernel_rfl) (by kernel_rfl) (fun _ _ _ h => h) (Or.inr ⟨by rfl, rfl⟩) hHeld ?_
    simp only [Act.put, List.setIfInBounds_toArray, List.set_cons_zero, List.set_cons_succ]
    refine wpAnyH_take (i := 21) (oi := { dst := some 41, op := Op.load 3 (Operand.tmp 40), type := 3, pos := "pass.go:102", after := #[{ on := 20, ground := Ground.data }, { on := 17, ground := Ground.guard }, { on := 25, ground := Ground.gcOnly Departure.lateStores }], guard := some (17, true) }) (v := undef) rfl (by kernel_rfl) (by kernel_rfl) (by kernel_rfl) (fun _ _ _ h => h) (Or.inr ⟨by rfl, rfl⟩) hHeld ?_
    simp only [Act.put, List.setIfInBounds_toArray, List.set_cons_zero, List.set_cons_succ]
    refine wpAnyH_take (i := 22) (oi := { dst := some 42, op := Op.binOp BinOp.rem 3 (Operand.tmp 41) (Operand.const (Value.int IntKind.i64 2)) 3, type := 3, pos := "pass.go:102", after := #[{ on := 21, ground := Ground.data }, { on := 17, ground := Ground.guard }, { on := 25, ground := Ground.gcOnly Departure.lateStores }], guard := some (17, true) }) (v := undef) rfl (by kernel_rfl) (by kernel_rfl) (by kernel_rfl) (fun _ _ _ h => h) (Or.inr ⟨by rfl, rfl⟩) hHeld ?_
    simp only [Act.put, List.setIfInBounds_toArray, List.set_cons_zero, List.set_cons_succ]
    refine wpAnyH_take (i := 23) (oi := { dst := some 43, op := Op.binOp BinOp.eql 3 (Operand.tmp 42) (Operand.const (Value.int IntKind.i64 0)) 3, type := 4, pos := "pass.go:102", after := #[{ on := 22, ground := Ground.data }, { on := 17, ground := Ground.guard }, { on := 25, ground := Ground.gcOnly Departure.lateStores }], guard := some (17, true) }) (v := undef) rfl (by kernel_rfl) (by kernel_rfl) (by kernel_rfl) (fun _ _ _ h => h) (Or.inr ⟨by rfl, rfl⟩) hHeld ?_
    simp only [Act.put, List.setIfInBounds_toArray, List.set_cons_zero, List.set_cons_succ]
    refine wpAnyH_take (i := 24) (oi := { dst := some 44, op := Op.pick (Operand.tmp 37) (Operand.tmp 43) (Operand.const (Value.bool false)), type := 4, pos := "pass.go:102", after := #[{ on := 17, ground := Ground.data }, { on := 23, ground := Ground.data }, { on := 25, ground := Ground.gcOnly Departure.lateStores }], guard := none }) (v := .bool false) rfl (by kernel_rfl) (by kernel_rfl) (by kernel_rfl) (fun _ _ _ h => h) (Or.inl ⟨by rfl, fun wz hSw => ?_⟩) hHeld ?_
    · obtain ⟨s0, s1⟩ := hSw
      go_simp
    simp only [Act.put, List.setIfInBounds_toArray, List.set_cons_zero, List.set_cons_succ]
    refine wpAnyH_ready (rs := [25]) (by kernel_rfl) (by simp) ?_
    refine AllReadyH.cons (o := { dst := none, op := Op.store 72 (Operand.tmp 6) (Operand.tmp 30), type := 0, pos := "pass.go:102", after := #[{ on := 10, ground := Ground.data }, { on := 17, ground := Ground.chain }, { on := 0, ground := Ground.phase }, { on := 1, ground := Ground.phase }, { on := 2, ground := Ground.phase }, { on := 3, ground := Ground.phase }, { on := 4, ground := Ground.phase }, { on := 5, ground := Ground.phase }, { on := 6, ground := Ground.phase }, { on := 7, ground := Ground.phase }, { on := 8, ground := Ground.phase }, { on := 9, ground := Ground.phase }, { on := 10, ground := Ground.phase }, { on := 11, ground := Ground.textOnly Departure.lateStores }, { on := 12, ground := Ground.textOnly Departure.lateStores }, { on := 13, ground := Ground.textOnly Departure.lateStores }, { on := 14, ground := Ground.textOnly Departure.lateStores }, { on := 15, ground := Ground.textOnly Departure.lateStores }, { on := 16, ground := Ground.textOnly Departure.lateStores }, { on := 17, ground := Ground.textOnly Departure.lateStores }, { on := 18, ground := Ground.textOnly Departure.lateStores }, { on := 19, ground := Ground.textOnly Departure.lateStores }, { on := 20, ground := Ground.textOnly Departure.lateStores }, { on := 21, ground := Ground.textOnly Departure.lateStores }, { on := 22, ground := Ground.textOnly Departure.lateStores }, { on := 23, ground := Ground.textOnly Departure.lateStores }, { on := 24, ground := Ground.textOnly Departure.lateStores }], guard := none }) rfl (fun K hK => ?_) AllReadyH.nil
    rw [if_pos (by rfl)]
    go_simp
    refine hK.out _ _ ⟨f0, f1⟩ (fun hHeld2 => ?_)
    clear hK K
    refine wpAnyH_take (i := 26) (oi := { dst := some 7, op := Op.assign (Operand.tmp 44), type := 4, pos := "pass.go:102", after := #[{ on := 24, ground := Ground.data }, { on := 25, ground := Ground.chain }, { on := 0, ground := Ground.phase }, { on := 1, ground := Ground.phase }, { on := 2, ground := Ground.phase }, { on := 3, ground := Ground.phase }, { on := 4, ground := Ground.phase }, { on := 5, ground := Ground.phase }, { on := 6, ground := Ground.phase }, { on := 7, ground := Ground.phase }, { on := 8, ground := Ground.phase }, { on := 9, ground := Ground.phase }, { on := 10, ground := Ground.phase }, { on := 11, ground := Ground.phase }, { on := 12, ground := Ground.phase }, { on := 13, ground := Ground.phase }, { on := 14, ground := Ground.phase }, { on := 15, ground := Ground.phase }, { on := 16, ground := Ground.phase }, { on := 17, ground := Ground.phase }, { on := 18, ground := Ground.phase }, { on := 19, ground := Ground.phase }, { on := 20, ground := Ground.phase }, { on := 21, ground := Ground.phase }, { on := 22, ground := Ground.phase }, { on := 23, ground := Ground.phase }, { on := 24, ground := Ground.phase }, { on := 25, ground := Ground.phase }], guard := none }) (v := .bool false) rfl (by kernel_rfl) (by kernel_rfl) (by kernel_rfl) (fun _ _ _ h => h) (Or.inl ⟨by rfl, fun wz hSw => ?_⟩) hHeld2 ?_
    · obtain ⟨s0, s1⟩ := hSw
      go_simp
    simp only [Act.put, List.setIfInBounds_toArray, List.set_cons_zero, List.set_cons_succ]
    refine wpAnyH_done (by kernel_rfl) ?_ _
    all_goals go_wp2
    all_goals exact bodyPost_ret (by simp [results, Try.results109, go_sem]) rfl ⟨rfl, (sz_below w _ _ _).drew⟩
set_option maxHeartbeats 1000000 in
theorem sizeOf_up (W H S O : Int) (fa : Option Addr) (flen fcap : Nat) (To A B K : Int) (la : Option Addr) (ll lc : Nat) (b off len cap : Nat) (w : World) (zw zh : Int) (hb : b < w.heap.size) (hl : 0 < len)
    (d0 : w.cell? ⟨b, off, none⟩ = some (.int .i64 zw)) (d1 : w.cell? ⟨b, off + 1, none⟩ = some (.int .i64 zh)) (m : Int) (hm : (if zw < zh then zh else zw) = m) (hw1 : IntKind.i64.wrap (2 * zw) = 2 * zw) (hw2 : IntKind.i64.wrap (2 * zh) = 2 * zh) (hw3 : IntKind.i64.wrap (2 * m) = 2 * m) :
    Calls Try.prog 109 #[.agg #[.int .i64 W, .int .i64 H, .int .i64 S, .int .i64 O, .slice fa flen fcap], .agg #[.int .i64 12, .int .i64 To, .int .i64 A, .int .i64 B, .int .i64 K, .slice la ll lc], .slice (some ⟨b, off, none⟩) len cap] w fun e w' => e = .returned (.tuple #[.agg #[.int .i64 (2 * zw), .int .i64 (2 * zh)], .bool (decide (2 * m ≤ 16))]) ∧ Below w.heap.size w w' := by
  have e0 := sz_cells W H S O fa flen fcap 12 To A B K la ll lc 0 0 hb d0
  have e1 := sz_cells W H S O fa flen fcap 12 To A B K la ll lc 0 0 hb d1
  have f0 := sz_cells W H S O fa flen fcap 12 To A B K la ll lc (2 * zw) (2 * zh) hb d0
  have f1 := sz_cells W H S O fa flen fcap 12 To A B K la ll lc (2 * zw) (2 * zh) hb d1
  go_enter Try.func109, Try.ntmps109
  go_wp2
  go_region_held3 (fun w' => w'.cell? ⟨b, off, none⟩ = some (.int .i64 zw) ∧ w'.cell? ⟨b, off + 1, none⟩ = some (.int .i64 zh))
    (first | exact ⟨e0, e1⟩ | exact ⟨f0, f1⟩)
    (fail)
  all_goals go_wp2
  all_goals exact bodyPost_ret (by simp [results, Try.results109, go_sem]) rfl ⟨rfl, (sz_below w _ _ _).drew⟩
set_option maxHeartbeats 1000000 in
theorem sizeOf_same (Op : Int) (hop : Op = 3 ∨ Op = 8 ∨ Op = 9 ∨ Op = 10 ∨ Op = 13) (W H S O : Int) (fa : Option Addr) (flen fcap : Nat) (To A B K : Int) (la : Option Addr) (ll lc : Nat) (b off len cap : Nat) (w : World) (zw zh : Int) (hb : b < w.heap.size) (hl0 : 0 < len)
    (d0 : w.cell? ⟨b, off, none⟩ = some (.int .i64 zw)) (d1 : w.cell? ⟨b, off + 1, none⟩ = some (.int .i64 zh)) :
    Calls Try.prog 109 #[.agg #[.int .i64 W, .int .i64 H, .int .i64 S, .int .i64 O, .slice fa flen fcap], .agg #[.int .i64 Op, .int .i64 To, .int .i64 A, .int .i64 B, .int .i64 K, .slice la ll lc], .slice (some ⟨b, off, none⟩) len cap] w fun e w' => e = .returned (.tuple #[.agg #[.int .i64 zw, .int .i64 zh], .bool true]) ∧ Below w.heap.size w w' := by
  have e0 := fun u v => sz_cells W H S O fa flen fcap Op To A B K la ll lc u v hb d0
  have e1 := fun u v => sz_cells W H S O fa flen fcap Op To A B K la ll lc u v hb d1
  rcases hop with rfl | rfl | rfl | rfl | rfl
  all_goals
    go_enter Try.func109, Try.ntmps109
    go_wp2
    exact bodyPost_ret (by simp [results, Try.results109, go_sem]) rfl ⟨rfl, sz_below w _ _ _⟩
set_option maxHeartbeats 1000000 in
theorem sizeOf_new (Op : Int) (hop : Op = 1 ∨ Op = 2) (W H S O : Int) (fa : Option Addr) (flen fcap : Nat) (To A B K : Int) (la : Option Addr) (ll lc : Nat) (a : Option Addr) (len cap : Nat) (w : World) :
    Calls Try.prog 109 #[.agg #[.int .i64 W, .int .i64 H, .int .i64 S, .int .i64 O, .slice fa flen fcap], .agg #[.int .i64 Op, .int .i64 To, .int .i64 A, .int .i64 B, .int .i64 K, .slice la ll lc], .slice a len cap] w fun e w' => e = .returned (.tuple #[.agg #[.int .i64 W, .int .i64 H], .bool true]) ∧ Below w.heap.size w w' := by
  rcases hop with rfl | rfl
  all_goals
    go_enter Try.func109, Try.ntmps109
    go_wp2
    exact bodyPost_ret (by simp [results, Try.results109, go_sem]) rfl ⟨rfl, sz_below w _ _ _⟩
end Go.Proofs.Ytfpkiimlaepnhaa
