/- Two, Two2, Two3: joined, in this order. -/
import Derived.Test.YtfpkiimlaepnhaaM05
import Derived.MapKept
/-
  TWO: the rules of image.Two: a map of functions of two numbers.
-/
namespace Go.Proofs.Ytfpkiimlaepnhaa
set_option maxRecDepth 100000
open Go.RowKit Im

abbrev mapT : Nat := 100
theorem run_put (w : World) (es : Array MapEntry) (n : Nat) (k : Int) (v : Value) (hf : Instr.findNow (.int .i64) (.int .i64 k) es.toList 0 = some none) :
    (Instr.mapUpdate mapT (.map (some w.heap.size)) (.int .i64 k) v).run Try.prog (w.alloc (.map es n)) = .ok () (w.alloc (.map (es.push { key := .int .i64 k, val := v, born := n }) (n + 1))) := by
  have hb : (w.alloc (.map es n)).heap[w.heap.size]? = some (.map es n) := (MapKept.heap_alloc w _).1
  have hc : (Instr.checkKey false 10000 3 (.int .i64 k)).run Try.prog (w.alloc (.map es n)) = .ok () (w.alloc (.map es n)) := MapKept.run_checkKey (k := .int .i64 k) Try.underlying3 (by simp [MapKept.IsKey]) false 9999
  have e : ∀ o : Obj, (w.heap.push (.map es n)).setIfInBounds w.heap.size o = w.heap.push o := fun o => by
    rw [← Array.toList_inj]
    simp
  simp [Instr.mapUpdate, run_underlying Try.underlying100, MapKept.run_getObj_map hb, hc, MapKept.run_findKey Try.underlying3 hf, MapKept.run_setObj_map _ hb, Result.andThen]
  show World.mk _ _ _ _ _ = World.mk _ _ _ _ _
  congr 1
  exact e _

/-- The entries of the map that rulesOfTwo makes. -/
def twoEntries : Array MapEntry := #[⟨.int .i64 4, .func (.func 100) #[] #[], 0⟩, ⟨.int .i64 5, .func (.func 101) #[] #[], 1⟩, ⟨.int .i64 6, .func (.func 102) #[] #[], 2⟩, ⟨.int .i64 7, .func (.func 103) #[] #[], 3⟩]
theorem rules_any (w : World) : Calls Try.prog 69 #[] w fun e w' => e = .returned (.map (some w.heap.size)) ∧ w' = w.alloc (.map twoEntries 4) := by
  have hmm := @run_makeMap Try.prog
  have p0 := run_put w #[] 0 4 (.func (.func 100) #[] #[]) rfl
  have p1 := run_put w #[⟨.int .i64 4, .func (.func 100) #[] #[], 0⟩] 1 5 (.func (.func 101) #[] #[]) rfl
  have p2 := run_put w #[⟨.int .i64 4, .func (.func 100) #[] #[], 0⟩, ⟨.int .i64 5, .func (.func 101) #[] #[], 1⟩] 2 6 (.func (.func 102) #[] #[]) rfl
  have p3 := run_put w #[⟨.int .i64 4, .func (.func 100) #[] #[], 0⟩, ⟨.int .i64 5, .func (.func 101) #[] #[], 1⟩, ⟨.int .i64 6, .func (.func 102) #[] #[], 2⟩] 3 7 (.func (.func 103) #[] #[]) rfl
  simp only [List.push_toArray, List.cons_append, List.nil_append, Nat.zero_add, Nat.reduceAdd] at p0 p1 p2 p3
  go_enter Try.func69, Try.ntmps69
  go_wp2
  go_ret
  exact ⟨rfl, rfl⟩

theorem run_find (w : World) (r : Nat) (op : Int) (u : Option (Nat × Value)) (hb : w.heap[r]? = some (.map twoEntries 4)) (hf : Instr.findNow (.int .i64) (.int .i64 op) twoEntries.toList 0 = some u) :
    (Instr.lookup mapT (.map (some r)) (.int .i64 op) true).run Try.prog w = .ok (match u with | some (_, v) => .tuple #[v, .bool true] | none => .tuple #[.nilFunc, .bool false]) w := by
  have hc : (Instr.checkKey twoEntries.isEmpty 10000 3 (.int .i64 op)).run Try.prog w = .ok () w := MapKept.run_checkKey (k := .int .i64 op) Try.underlying3 (by simp [MapKept.IsKey]) _ 9999
  rcases u with _ | ⟨i, v⟩
  · simp [Instr.lookup, run_underlying Try.underlying100, MapKept.run_getObj_map hb, hc, MapKept.run_findKey Try.underlying3 hf, Result.andThen]
  · simp [Instr.lookup, run_underlying Try.underlying100, MapKept.run_getObj_map hb, hc, MapKept.run_findKey Try.underlying3 hf, Result.andThen]

/-- What becomes of two numbers. -/
def twoG (op m n : Int) : Int := if op = 4 then min (m + n) 65535 else if op = 5 then max (m - n) 0 else if op = 6 then m * n / 65535 else max m n
/-- The function of the map at the operation. -/
def twoF (op : Int) : Nat := if op = 4 then 100 else if op = 5 then 101 else if op = 6 then 102 else 103
theorem two4 (m n : Int) (w : World) (hm : 0 ≤ m ∧ m ≤ 65535) (hn : 0 ≤ n ∧ n ≤ 65535) : Calls Try.prog 100 #[.int .i64 m, .int .i64 n] w fun e w' => e = .returned (.int .i64 (twoG 4 m n)) ∧ w' = w := by
  have e : twoG 4 m n = if 65535 < m + n then 65535 else m + n := by unfold twoG; simp; split <;> omega
  rw [e]
  by_cases h : 65535 < m + n
  · rw [if_pos h]
    go_enter Try.func100, Try.ntmps100
    go_wp2
    go_ret
    exact ⟨rfl, rfl⟩
  · rw [if_neg h]
    go_enter Try.func100, Try.ntmps100
    go_wp2
    go_ret
    exact ⟨rfl, rfl⟩
theorem two5 (m n : Int) (w : World) (hm : 0 ≤ m ∧ m ≤ 65535) (hn : 0 ≤ n ∧ n ≤ 65535) : Calls Try.prog 101 #[.int .i64 m, .int .i64 n] w fun e w' => e = .returned (.int .i64 (twoG 5 m n)) ∧ w' = w := by
  have e : twoG 5 m n = if m - n < 0 then 0 else m - n := by unfold twoG; simp; split <;> omega
  rw [e]
  by_cases h : m - n < 0
  · rw [if_pos h]
    go_enter Try.func101, Try.ntmps101
    go_wp2
    go_ret
    exact ⟨rfl, rfl⟩
  · rw [if_neg h]
    go_enter Try.func101, Try.ntmps101
    go_wp2
    go_ret
    exact ⟨rfl, rfl⟩
theorem two6 (m n : Int) (w : World) (hm : 0 ≤ m ∧ m ≤ 65535) (hn : 0 ≤ n ∧ n ≤ 65535) : Calls Try.prog 102 #[.int .i64 m, .int .i64 n] w fun e w' => e = .returned (.int .i64 (twoG 6 m n)) ∧ w' = w := by
  have e : twoG 6 m n = m * n / 65535 := by simp [twoG]
  have h1 : 0 ≤ m * n := Int.mul_nonneg hm.1 hn.1
  have h2 : m * n ≤ 65535 * 65535 := Int.mul_le_mul hm.2 hn.2 hn.1 (by omega)
  rw [e]
  clear e
  go_enter Try.func102, Try.ntmps102
  go_wp2
  go_ret
  exact ⟨rfl, rfl⟩
theorem two7 (m n : Int) (w : World) : Calls Try.prog 103 #[.int .i64 m, .int .i64 n] w fun e w' => e = .returned (.int .i64 (twoG 7 m n)) ∧ w' = w := by
  have e : twoG 7 m n = if m < n then n else m := by unfold twoG; simp; split <;> omega
  rw [e]
  by_cases h : m < n
  · rw [if_pos h]
    go_enter Try.func103, Try.ntmps103
    go_wp2
    go_ret
    exact ⟨rfl, rfl⟩
  · rw [if_neg h]
    go_enter Try.func103, Try.ntmps103
    go_wp2
    go_ret
    exact ⟨rfl, rfl⟩
theorem numbers_same {w : World} {c b off cap W H : Nat} {ps : List Int} (hB : Boxed w c b off cap W H) (hF : Fine w b off W H ps) (x y : Nat) (hx : x < W) (hy : y < H) :
    Calls Try.prog 104 #[.int .i64 x, .int .i64 y, .pointer (some ⟨c, 0, none⟩)] w fun e w' => e = .returned (.int .i64 (px W ps x y)) ∧ w' = w := by
  obtain ⟨hlt, c0, c1, c2⟩ := hB
  have hc := hF.cell (y * W + x) (place_lt hx hy)
  have hpl := place_lt hx hy
  obtain ⟨hm, hM⟩ := hF.small
  have hb1 := hF.hW
  have hb2 := hF.hH
  have hpi : (y : Int) * (W : Int) + (x : Int) < (W : Int) * (H : Int) := by rw [← Int.natCast_mul, ← Int.natCast_mul]; omega
  have hp0 : 0 ≤ (y : Int) * (W : Int) := Int.mul_nonneg (by omega) (by omega)
  have hpM : (W : Int) * (H : Int) ≤ 256 := by rw [← Int.natCast_mul]; omega
  obtain ⟨v, hv⟩ : ∃ v, v = px W ps x y := ⟨_, rfl⟩
  have hc' : w.cell? ⟨b, off + (y * W + x), none⟩ = some (.int .i64 v) := by rw [hv]; exact hc
  rw [← hv]
  clear hc hv hF hpl
  go_enter Try.func104, Try.ntmps104
  go_wp2
  go_ret
  exact ⟨rfl, rfl⟩
end Go.Proofs.Ytfpkiimlaepnhaa
/-
  TWO2: the function of places of image.Two.
-/
namespace Go.Proofs.Ytfpkiimlaepnhaa
set_option maxRecDepth 100000
open Go.RowKit Im

theorem two1_enters : ∀ args w, (callFunc 71 args).run Try.prog w = .ok (.enter 71 args) w := fun _ _ => by kernel_rfl
theorem two1_call4 {w : World} {rb d1 d2 c1 c2 b1 off1 cap1 b2 off2 cap2 W H : Nat} {ps qs : List Int} (hO1 : Old w d1 c1 b1 off1 cap1 W H ps) (hO2 : Old w d2 c2 b2 off2 cap2 W H qs)
    (hr : w.cell? ⟨rb, 0, none⟩ = some (.func (.func (twoF 4)) #[] #[])) (x y : Nat) (hx : x < W) (hy : y < H) :
    Calls Try.prog 71 #[.int .i64 x, .int .i64 y, .pointer (some ⟨rb, 0, none⟩), .pointer (some ⟨d1, 0, none⟩), .pointer (some ⟨d2, 0, none⟩)] w fun e w2 => e = .returned (.int .i64 (twoG 4 (px W ps x y) (px W qs x y))) ∧ Below w.heap.size w w2 := by
  have hr' : w.cell? ⟨rb, 0, none⟩ = some (.func (.func 100) #[] #[]) := hr
  have k1 := hO1.cd
  have k2 := hO2.cd
  have hp := hO1.fn.px_bd x y hx hy
  have hq := hO2.fn.px_bd x y hx hy
  have n1 := fun nq => numbers_same (w := w.drewN nq) (hO1.below (below_drewN (Below.refl _ _) nq)).bx (hO1.below (below_drewN (Below.refl _ _) nq)).fn x y hx hy
  have n2 := fun nq => numbers_same (w := w.drewN nq) (hO2.below (below_drewN (Below.refl _ _) nq)).bx (hO2.below (below_drewN (Below.refl _ _) nq)).fn x y hx hy
  clear hr hO1 hO2
  go_enter Try.func71, Try.ntmps71
  go_wp2
  go_quiet ((first | (go_at_call 104; with_reducible exact Calls.quiet_of_same (n1 _)) | (go_at_call 104; with_reducible exact Calls.quiet_of_same (n2 _)) | (go_at_call 100; with_reducible exact Calls.quiet_of_same (two4 _ _ _ hp hq))))
  go_wp2
  go_ret
  exact ⟨rfl, below_drewN (Below.refl _ _) _⟩
theorem two1_call5 {w : World} {rb d1 d2 c1 c2 b1 off1 cap1 b2 off2 cap2 W H : Nat} {ps qs : List Int} (hO1 : Old w d1 c1 b1 off1 cap1 W H ps) (hO2 : Old w d2 c2 b2 off2 cap2 W H qs)
    (hr : w.cell? ⟨rb, 0, none⟩ = some (.func (.func (twoF 5)) #[] #[])) (x y : Nat) (hx : x < W) (hy : y < H) :
    Calls Try.prog 71 #[.int .i64 x, .int .i64 y, .pointer (some ⟨rb, 0, none⟩), .pointer (some ⟨d1, 0, none⟩), .pointer (some ⟨d2, 0, none⟩)] w fun e w2 => e = .returned (.int .i64 (twoG 5 (px W ps x y) (px W qs x y))) ∧ Below w.heap.size w w2 := by
  have hr' : w.cell? ⟨rb, 0, none⟩ = some (.func (.func 101) #[] #[]) := hr
  have k1 := hO1.cd
  have k2 := hO2.cd
  have hp := hO1.fn.px_bd x y hx hy
  have hq := hO2.fn.px_bd x y hx hy
  have n1 := fun nq => numbers_same (w := w.drewN nq) (hO1.below (below_drewN (Below.refl _ _) nq)).bx (hO1.below (below_drewN (Below.refl _ _) nq)).fn x y hx hy
  have n2 := fun nq => numbers_same (w := w.drewN nq) (hO2.below (below_drewN (Below.refl _ _) nq)).bx (hO2.below (below_drewN (Below.refl _ _) nq)).fn x y hx hy
  clear hr hO1 hO2
  go_enter Try.func71, Try.ntmps71
  go_wp2
  go_quiet ((first | (go_at_call 104; with_reducible exact Calls.quiet_of_same (n1 _)) | (go_at_call 104; with_reducible exact Calls.quiet_of_same (n2 _)) | (go_at_call 101; with_reducible exact Calls.quiet_of_same (two5 _ _ _ hp hq))))
  go_wp2
  go_ret
  exact ⟨rfl, below_drewN (Below.refl _ _) _⟩
theorem two1_call6 {w : World} {rb d1 d2 c1 c2 b1 off1 cap1 b2 off2 cap2 W H : Nat} {ps qs : List Int} (hO1 : Old w d1 c1 b1 off1 cap1 W H ps) (hO2 : Old w d2 c2 b2 off2 cap2 W H qs)
    (hr : w.cell? ⟨rb, 0, none⟩ = some (.func (.func (twoF 6)) #[] #[])) (x y : Nat) (hx : x < W) (hy : y < H) :
    Calls Try.prog 71 #[.int .i64 x, .int .i64 y, .pointer (some ⟨rb, 0, none⟩), .pointer (some ⟨d1, 0, none⟩), .pointer (some ⟨d2, 0, none⟩)] w fun e w2 => e = .returned (.int .i64 (twoG 6 (px W ps x y) (px W qs x y))) ∧ Below w.heap.size w w2 := by
  have hr' : w.cell? ⟨rb, 0, none⟩ = some (.func (.func 102) #[] #[]) := hr
  have k1 := hO1.cd
  have k2 := hO2.cd
  have hp := hO1.fn.px_bd x y hx hy
  have hq := hO2.fn.px_bd x y hx hy
  have n1 := fun nq => numbers_same (w := w.drewN nq) (hO1.below (below_drewN (Below.refl _ _) nq)).bx (hO1.below (below_drewN (Below.refl _ _) nq)).fn x y hx hy
  have n2 := fun nq => numbers_same (w := w.drewN nq) (hO2.below (below_drewN (Below.refl _ _) nq)).bx (hO2.below (below_drewN (Below.refl _ _) nq)).fn x y hx hy
  clear hr hO1 hO2
  go_enter Try.func71, Try.ntmps71
  go_wp2
  go_quiet ((first | (go_at_call 104; with_reducible exact Calls.quiet_of_same (n1 _)) | (go_at_call 104; with_reducible exact Calls.quiet_of_same (n2 _)) | (go_at_call 102; with_reducible exact Calls.quiet_of_same (two6 _ _ _ hp hq))))
  go_wp2
  go_ret
  exact ⟨rfl, below_drewN (Below.refl _ _) _⟩
theorem two1_call7 {w : World} {rb d1 d2 c1 c2 b1 off1 cap1 b2 off2 cap2 W H : Nat} {ps qs : List Int} (hO1 : Old w d1 c1 b1 off1 cap1 W H ps) (hO2 : Old w d2 c2 b2 off2 cap2 W H qs)
    (hr : w.cell? ⟨rb, 0, none⟩ = some (.func (.func (twoF 7)) #[] #[])) (x y : Nat) (hx : x < W) (hy : y < H) :
    Calls Try.prog 71 #[.int .i64 x, .int .i64 y, .pointer (some ⟨rb, 0, none⟩), .pointer (some ⟨d1, 0, none⟩), .pointer (some ⟨d2, 0, none⟩)] w fun e w2 => e = .returned (.int .i64 (twoG 7 (px W ps x y) (px W qs x y))) ∧ Below w.heap.size w w2 := by
  have hr' : w.cell? ⟨rb, 0, none⟩ = some (.func (.func 103) #[] #[]) := hr
  have k1 := hO1.cd
  have k2 := hO2.cd
  have n1 := fun nq => numbers_same (w := w.drewN nq) (hO1.below (below_drewN (Below.refl _ _) nq)).bx (hO1.below (below_drewN (Below.refl _ _) nq)).fn x y hx hy
  have n2 := fun nq => numbers_same (w := w.drewN nq) (hO2.below (below_drewN (Below.refl _ _) nq)).bx (hO2.below (below_drewN (Below.refl _ _) nq)).fn x y hx hy
  clear hr hO1 hO2
  go_enter Try.func71, Try.ntmps71
  go_wp2
  go_quiet ((first | (go_at_call 104; with_reducible exact Calls.quiet_of_same (n1 _)) | (go_at_call 104; with_reducible exact Calls.quiet_of_same (n2 _)) | (go_at_call 103; with_reducible exact Calls.quiet_of_same (two7 _ _ _))))
  go_wp2
  go_ret
  exact ⟨rfl, below_drewN (Below.refl _ _) _⟩

/-- The function of places of image.Two tells what becomes of the two numbers. -/
theorem two1_tells {w : World} {op : Int} {rb d1 d2 c1 c2 b1 off1 cap1 b2 off2 cap2 W H : Nat} {ps qs : List Int} (hop : op = 4 ∨ op = 5 ∨ op = 6 ∨ op = 7) (hO1 : Old w d1 c1 b1 off1 cap1 W H ps) (hO2 : Old w d2 c2 b2 off2 cap2 W H qs)
    (hl : rb < w.heap.size) (hr : w.cell? ⟨rb, 0, none⟩ = some (.func (.func (twoF op)) #[] #[])) :
    Tells w 71 #[.pointer (some ⟨rb, 0, none⟩), .pointer (some ⟨d1, 0, none⟩), .pointer (some ⟨d2, 0, none⟩)] W H (fun x y => twoG op (px W ps x y) (px W qs x y)) := by
  refine ⟨two1_enters, fun x y w1 hx hy hbel => ?_⟩
  have hr1 := (hbel.cell (p := ⟨rb, 0, none⟩) hl).trans hr
  rcases hop with rfl | rfl | rfl | rfl
  · exact two1_call4 (hO1.below hbel) (hO2.below hbel) hr1 x y hx hy
  · exact two1_call5 (hO1.below hbel) (hO2.below hbel) hr1 x y hx hy
  · exact two1_call6 (hO1.below hbel) (hO2.below hbel) hr1 x y hx hy
  · exact two1_call7 (hO1.below hbel) (hO2.below hbel) hr1 x y hx hy
end Go.Proofs.Ytfpkiimlaepnhaa
/-
  TWO3: image.Two answers what the document says.
-/
namespace Go.Proofs.Ytfpkiimlaepnhaa
set_option maxRecDepth 100000
open Go.RowKit Im

theorem find_yes {op : Int} (hop : op = 4 ∨ op = 5 ∨ op = 6 ∨ op = 7) (wx : World) :
    (Instr.lookup 100 (.map (some wx.heap.size)) (.int .i64 op) true).run Try.prog (wx.alloc (.map twoEntries 4)) = .ok (.tuple #[.func (.func (twoF op)) #[] #[], .bool true]) (wx.alloc (.map twoEntries 4)) := by
  have hb := (MapKept.heap_alloc wx (.map twoEntries 4)).1
  rcases hop with rfl | rfl | rfl | rfl
  · exact run_find _ _ 4 (some (0, _)) hb rfl
  · exact run_find _ _ 5 (some (1, _)) hb rfl
  · exact run_find _ _ 6 (some (2, _)) hb rfl
  · exact run_find _ _ 7 (some (3, _)) hb rfl
theorem find_no {op : Int} (h4 : ¬ op = 4) (h5 : ¬ op = 5) (h6 : ¬ op = 6) (h7 : ¬ op = 7) (wx : World) :
    (Instr.lookup 100 (.map (some wx.heap.size)) (.int .i64 op) true).run Try.prog (wx.alloc (.map twoEntries 4)) = .ok (.tuple #[.nilFunc, .bool false]) (wx.alloc (.map twoEntries 4)) := by
  have hb := (MapKept.heap_alloc wx (.map twoEntries 4)).1
  refine run_find _ _ op none hb ?_
  have g4 : (op == 4) = false := by simpa using h4
  have g5 : (op == 5) = false := by simpa using h5
  have g6 : (op == 6) = false := by simpa using h6
  have g7 : (op == 7) = false := by simpa using h7
  simp [Instr.findNow, Instr.sameNow, twoEntries, g4, g5, g6, g7]

theorem two_B (w : World) (o o' o'' : Obj) : Below w.heap.size w (((w.alloc o).alloc o').alloc o'') := (((Below.refl _ _).alloc (Nat.le_refl _) _).alloc (by simp) _).alloc (by simp; omega) _

/-- image.Two, where one of them is not right. -/
theorem two_form {W H W' H' : Int} {a a' : Option Addr} {len len' : Nat} (op : Int) (cap cap' : Nat) {ps qs : List Int} {w : World} (h : Ints 0 w a len ps) (h' : Ints 0 w a' len' qs) (hf : (fineB W H ps && fineB W' H' qs) = false) :
    Calls Try.prog 25 #[.int .i64 op, .agg #[.int .i64 W, .int .i64 H, .slice a len cap], .agg #[.int .i64 W', .int .i64 H', .slice a' len' cap']] w fun e w' => e = .returned (.tuple #[noImage, .int .i64 1]) ∧ Below w.heap.size w w' := by
  have hB := two_B w
  have h1 := h.below (Nat.le_refl _) (hB (.cells #[.int .i64 W, .int .i64 H, .slice a len cap] 24) (.cells #[.int .i64 W', .int .i64 H', .slice a' len' cap'] 24) (.cells #[.int .i64 0, .int .i64 0, .slice none 0 0] 24))
  have h2 := h'.below (Nat.le_refl _) (hB (.cells #[.int .i64 W, .int .i64 H, .slice a len cap] 24) (.cells #[.int .i64 W', .int .i64 H', .slice a' len' cap'] 24) (.cells #[.int .i64 0, .int .i64 0, .slice none 0 0] 24))
  by_cases hfa : fineB W H ps = true
  · have hfb : fineB W' H' qs = false := by rw [hfa] at hf; simpa using hf
    clear hf
    go_enter Try.func25, Try.ntmps25
    go_wp2_with (first
      | (go_at_call 19; with_reducible refine (check_fine cap h1 hfa).mono ?_; rintro e wA ⟨rfl, hbA⟩; obtain ⟨cA, fA⟩ := bcell hbA; have sA : w.heap.size + 1 + 1 < wA.heap.size := by have := hbA.size; simp at this; omega)
      | (go_at_call 19; with_reducible refine (check_not cap' (h2.below (Nat.le_refl _) hbA) hfb).mono ?_; rintro e wB ⟨rfl, hbB⟩; have hbB' := hbA.trans (hbB.mono hbA.size); obtain ⟨cB, fB⟩ := bcell hbB'; have sB : w.heap.size + 1 + 1 < wB.heap.size := by have := hbB.size; omega))
    refine bodyPost_ret (v := .tuple #[noImage, .int .i64 1]) (by simp [results, Try.results25, go_sem, cB]) rfl ⟨rfl, ?_⟩
    exact ((((hB _ _ _).trans (hbB'.mono (by simp; omega))).setCell (by simp; omega) _).setCell (by simp; omega) _).setCell (by simp; omega) _
  · have hfa' : fineB W H ps = false := by simpa using hfa
    clear hf
    go_enter Try.func25, Try.ntmps25
    go_wp2_with (go_at_call 19; refine (check_not cap h1 hfa').mono ?_; rintro e wA ⟨rfl, hbA⟩; obtain ⟨cA, fA⟩ := bcell hbA; have sA : w.heap.size + 1 + 1 < wA.heap.size := by have := hbA.size; simp at this; omega)
    refine bodyPost_ret (v := .tuple #[noImage, .int .i64 1]) (by simp [results, Try.results25, go_sem, cA]) rfl ⟨rfl, ?_⟩
    exact ((((hB _ _ _).trans (hbA.mono (by simp; omega))).setCell (by simp; omega) _).setCell (by simp; omega) _).setCell (by simp; omega) _
/-- image.Two, where the operation is none of its own. -/
theorem two_kind {W H b off W' H' b' off' : Nat} {op : Int} (cap cap' : Nat) {ps qs : List Int} {w : World} (hF : Fine w b off W H ps) (hG : Fine w b' off' W' H' qs) (h4 : ¬ op = 4) (h5 : ¬ op = 5) (h6 : ¬ op = 6) (h7 : ¬ op = 7) :
    Calls Try.prog 25 #[.int .i64 op, .agg #[.int .i64 W, .int .i64 H, .slice (some ⟨b, off, none⟩) (W * H) cap], .agg #[.int .i64 W', .int .i64 H', .slice (some ⟨b', off', none⟩) (W' * H') cap']] w fun e w' => e = .returned (.tuple #[noImage, .int .i64 4]) ∧ Below w.heap.size w w' := by
  have hB := two_B w
  have hF1 := hF.below (hB (.cells #[.int .i64 W, .int .i64 H, .slice (some ⟨b, off, none⟩) (W * H) cap] 24) (.cells #[.int .i64 W', .int .i64 H', .slice (some ⟨b', off', none⟩) (W' * H') cap'] 24) (.cells #[.int .i64 0, .int .i64 0, .slice none 0 0] 24))
  have hG1 := hG.below (hB (.cells #[.int .i64 W, .int .i64 H, .slice (some ⟨b, off, none⟩) (W * H) cap] 24) (.cells #[.int .i64 W', .int .i64 H', .slice (some ⟨b', off', none⟩) (W' * H') cap'] 24) (.cells #[.int .i64 0, .int .i64 0, .slice none 0 0] 24))
  have hfind := find_no h4 h5 h6 h7
  clear h4 h5 h6 h7
  go_enter Try.func25, Try.ntmps25
  go_wp2_with (first
      | (go_at_call 19; with_reducible refine (check_fine cap hF1.ints hF1.fineB).mono ?_; rintro e wA ⟨rfl, hbA⟩; obtain ⟨cA, fA⟩ := bcell hbA; have sA : w.heap.size + 1 + 1 < wA.heap.size := by have := hbA.size; simp at this; omega)
      | (go_at_call 19; with_reducible refine (check_fine cap' (hG1.below hbA).ints (hG1.below hbA).fineB).mono ?_; rintro e wB ⟨rfl, hbB⟩; have hbB' := hbA.trans (hbB.mono hbA.size); clear cA fA; obtain ⟨cB, fB⟩ := bcell hbB'; have sB : w.heap.size + 1 + 1 < wB.heap.size := by have := hbB.size; omega)
      | (go_at_call 69; refine (rules_any _).mono ?_; rintro e wC ⟨rfl, hC⟩; have hfd := hfind wB; rw [← hC] at hfd; have hbC' := hbB'.alloc hbB'.size (.map twoEntries 4); rw [← hC] at hbC'; have sC : w.heap.size + 1 + 1 < wC.heap.size := (by rw [hC]; simp; omega); have sC1 : w.heap.size + 1 < wC.heap.size := (by omega); have sC0 : w.heap.size < wC.heap.size := (by omega); clear hC cB fB; obtain ⟨cC, fC⟩ := bcell hbC'))
  refine bodyPost_ret (v := .tuple #[noImage, .int .i64 4]) (by simp [results, Try.results25, go_sem, cC, sC]) rfl ⟨rfl, ?_⟩
  exact ((((((hB _ _ _).trans (hbC'.mono (by simp; omega))).setCell (p := ⟨w.heap.size + 1 + 1, 0, none⟩) (by simp; omega) _).setCell (p := ⟨w.heap.size + 1 + 1, 1, none⟩) (by simp; omega) _).setCell (p := ⟨w.heap.size + 1 + 1, 2, none⟩) (by simp; omega) _).alloc (by simp [World.setCell]; omega) _)
/-- image.Two, where the sizes are not the same. -/
theorem two_size {W H b off W' H' b' off' : Nat} {op : Int} (cap cap' : Nat) {ps qs : List Int} {w : World} (hF : Fine w b off W H ps) (hG : Fine w b' off' W' H' qs) (hop : op = 4 ∨ op = 5 ∨ op = 6 ∨ op = 7) (hne : ¬ (W = W' ∧ H = H')) :
    Calls Try.prog 25 #[.int .i64 op, .agg #[.int .i64 W, .int .i64 H, .slice (some ⟨b, off, none⟩) (W * H) cap], .agg #[.int .i64 W', .int .i64 H', .slice (some ⟨b', off', none⟩) (W' * H') cap']] w fun e w' => e = .returned (.tuple #[noImage, .int .i64 6]) ∧ Below w.heap.size w w' := by
  have hB := two_B w
  have hF1 := hF.below (hB (.cells #[.int .i64 W, .int .i64 H, .slice (some ⟨b, off, none⟩) (W * H) cap] 24) (.cells #[.int .i64 W', .int .i64 H', .slice (some ⟨b', off', none⟩) (W' * H') cap'] 24) (.cells #[.int .i64 0, .int .i64 0, .slice none 0 0] 24))
  have hG1 := hG.below (hB (.cells #[.int .i64 W, .int .i64 H, .slice (some ⟨b, off, none⟩) (W * H) cap] 24) (.cells #[.int .i64 W', .int .i64 H', .slice (some ⟨b', off', none⟩) (W' * H') cap'] 24) (.cells #[.int .i64 0, .int .i64 0, .slice none 0 0] 24))
  have hfind := find_yes hop
  generalize twoF op = fn at hfind
  clear hop
  by_cases hw : W = W'
  · have g1 : ((W : Int) != (W' : Int)) = false := by simp [hw]
    have g2 : ((H : Int) != (H' : Int)) = true := by simp; omega
    clear hw hne
    go_enter Try.func25, Try.ntmps25
    go_wp2_with (first
        | (go_at_call 19; with_reducible refine (check_fine cap hF1.ints hF1.fineB).mono ?_; rintro e wA ⟨rfl, hbA⟩; obtain ⟨cA, fA⟩ := bcell hbA; have sA : w.heap.size + 1 + 1 < wA.heap.size := by have := hbA.size; simp at this; omega)
        | (go_at_call 19; with_reducible refine (check_fine cap' (hG1.below hbA).ints (hG1.below hbA).fineB).mono ?_; rintro e wB ⟨rfl, hbB⟩; have hbB' := hbA.trans (hbB.mono hbA.size); clear cA fA; obtain ⟨cB, fB⟩ := bcell hbB'; have sB : w.heap.size + 1 + 1 < wB.heap.size := by have := hbB.size; omega)
        | (go_at_call 69; refine (rules_any _).mono ?_; rintro e wC ⟨rfl, hC⟩; have hfd := hfind wB; rw [← hC] at hfd; have hbC' := hbB'.alloc hbB'.size (.map twoEntries 4); rw [← hC] at hbC'; have sC : w.heap.size + 1 + 1 < wC.heap.size := (by rw [hC]; simp; omega); have sC1 : w.heap.size + 1 < wC.heap.size := (by omega); have sC0 : w.heap.size < wC.heap.size := (by omega); clear hC cB fB; obtain ⟨cC, fC⟩ := bcell hbC'))
    refine bodyPost_ret (v := .tuple #[noImage, .int .i64 6]) (by simp [results, Try.results25, go_sem, cC, sC]) rfl ⟨rfl, ?_⟩
    exact ((((((hB _ _ _).trans (hbC'.mono (by simp; omega))).setCell (p := ⟨w.heap.size + 1 + 1, 0, none⟩) (by simp; omega) _).setCell (p := ⟨w.heap.size + 1 + 1, 1, none⟩) (by simp; omega) _).setCell (p := ⟨w.heap.size + 1 + 1, 2, none⟩) (by simp; omega) _).alloc (by simp [World.setCell]; omega) _)
  · have g1 : ((W : Int) != (W' : Int)) = true := by simp; omega
    clear hw hne
    go_enter Try.func25, Try.ntmps25
    go_wp2_with (first
        | (go_at_call 19; with_reducible refine (check_fine cap hF1.ints hF1.fineB).mono ?_; rintro e wA ⟨rfl, hbA⟩; obtain ⟨cA, fA⟩ := bcell hbA; have sA : w.heap.size + 1 + 1 < wA.heap.size := by have := hbA.size; simp at this; omega)
        | (go_at_call 19; with_reducible refine (check_fine cap' (hG1.below hbA).ints (hG1.below hbA).fineB).mono ?_; rintro e wB ⟨rfl, hbB⟩; have hbB' := hbA.trans (hbB.mono hbA.size); clear cA fA; obtain ⟨cB, fB⟩ := bcell hbB'; have sB : w.heap.size + 1 + 1 < wB.heap.size := by have := hbB.size; omega)
        | (go_at_call 69; refine (rules_any _).mono ?_; rintro e wC ⟨rfl, hC⟩; have hfd := hfind wB; rw [← hC] at hfd; have hbC' := hbB'.alloc hbB'.size (.map twoEntries 4); rw [← hC] at hbC'; have sC : w.heap.size + 1 + 1 < wC.heap.size := (by rw [hC]; simp; omega); have sC1 : w.heap.size + 1 < wC.heap.size := (by omega); have sC0 : w.heap.size < wC.heap.size := (by omega); clear hC cB fB; obtain ⟨cC, fC⟩ := bcell hbC'))
    refine bodyPost_ret (v := .tuple #[noImage, .int .i64 6]) (by simp [results, Try.results25, go_sem, cC, sC]) rfl ⟨rfl, ?_⟩
    exact ((((((hB _ _ _).trans (hbC'.mono (by simp; omega))).setCell (p := ⟨w.heap.size + 1 + 1, 0, none⟩) (by simp; omega) _).setCell (p := ⟨w.heap.size + 1 + 1, 1, none⟩) (by simp; omega) _).setCell (p := ⟨w.heap.size + 1 + 1, 2, none⟩) (by simp; omega) _).alloc (by simp [World.setCell]; omega) _)
end Go.Proofs.Ytfpkiimlaepnhaa
