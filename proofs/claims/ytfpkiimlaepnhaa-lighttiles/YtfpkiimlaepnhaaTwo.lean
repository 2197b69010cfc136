/-
  TWO: the rules of image.Two: a map of functions of two numbers.
-/
import Derived.Test.YtfpkiimlaepnhaaOne3
import Derived.MapKept
namespace Go.Proofs.Ytfpkiimlaepnhaa
set_option maxRecDepth 100000
open Go.RowKit Im

abbrev mapT : Nat := 100
theorem run_put (w : World) (es : Array MapEntry) (n : Nat) (k : Int) (v : Value) (hf : Instr.findNow (.int .i64) (.int .i64 k) es.toList 0 = some none) :
    (Instr.mapUpdate mapT (.map (some w.heap.size)) (.int .i64 k) v).run Try.prog (w.alloc (.map es n)) = .ok () (w.alloc (.map (es.push { key := .int .i64 k, val := v, born := n }) (n + 1))) := by
  have hb : (w.alloc (.map es n)).heap[w.heap.size]? = some (.map es n) := (MapKept.heap_alloc w _).1
  have hc : (Instr.checkKey false 10000 3 (.int .i64 k)).run Try.prog (w.alloc (.map es n)) = .ok () (w.alloc (.map es n)) := MapKept.run_checkKey (k := .int .i64 k) Try.underlying3 (by simp [MapKept.IsKey]) false 9999
  have e : ∀ o : Obj, (w.heap.push (.map es n)).setIfInBounds w.heap.size o = w.heap.push o := fun o => by
    rw [← Array.toList_inj]
    simp
  simp [Instr.mapUpdate, run_underlying Try.underlying100, MapKept.run_getObj_map hb, hc, MapKept.run_findKey Try.underlying3 hf, MapKept.run_setObj_map _ hb, Result.andThen]
  show World.mk _ _ _ _ _ = World.mk _ _ _ _ _
  congr 1
  exact e _

/-- The entries of the map that rulesOfTwo makes. -/
def twoEntries : Array MapEntry := #[⟨.int .i64 4, .func (.func 100) #[] #[], 0⟩, ⟨.int .i64 5, .func (.func 101) #[] #[], 1⟩, ⟨.int .i64 6, .func (.func 102) #[] #[], 2⟩, ⟨.int .i64 7, .func (.func 103) #[] #[], 3⟩]
theorem rules_any (w : World) : Calls Try.prog 69 #[] w fun e w' => e = .returned (.map (some w.heap.size)) ∧ w' = w.alloc (.map twoEntries 4) := by
  have hmm := @run_makeMap Try.prog
  have p0 := run_put w #[] 0 4 (.func (.func 100) #[] #[]) rfl
  have p1 := run_put w #[⟨.int .i64 4, .func (.func 100) #[] #[], 0⟩] 1 5 (.func (.func 101) #[] #[]) rfl
  have p2 := run_put w #[⟨.int .i64 4, .func (.func 100) #[] #[], 0⟩, ⟨.int .i64 5, .func (.func 101) #[] #[], 1⟩] 2 6 (.func (.func 102) #[] #[]) rfl
  have p3 := run_put w #[⟨.int .i64 4, .func (.func 100) #[] #[], 0⟩, ⟨.int .i64 5, .func (.func 101) #[] #[], 1⟩, ⟨.int .i64 6, .func (.func 102) #[] #[], 2⟩] 3 7 (.func (.func 103) #[] #[]) rfl
  simp only [List.push_toArray, List.cons_append, List.nil_append, Nat.zero_add, Nat.reduceAdd] at p0 p1 p2 p3
  go_enter Try.func69, Try.ntmps69
  go_wp2
  go_ret
  exact ⟨rfl, rfl⟩

theorem run_find (w : World) (r : Nat) (op : Int) (u : Option (Nat × Value)) (hb : w.heap[r]? = some (.map twoEntries 4)) (hf : Instr.findNow (.int .i64) (.int .i64 op) twoEntries.toList 0 = some u) :
    (Instr.lookup mapT (.map (some r)) (.int .i64 op) true).run Try.prog w = .ok (match u with | some (_, v) => .tuple #[v, .bool true] | none => .tuple #[.nilFunc, .bool false]) w := by
  have hc : (Instr.checkKey twoEntries.isEmpty 10000 3 (.int .i64 op)).run Try.prog w = .ok () w := MapKept.run_checkKey (k := .int .i64 op) Try.underlying3 (by simp [MapKept.IsKey]) _ 9999
  rcases u with _ | ⟨i, v⟩
  · simp [Instr.lookup, run_underlying Try.underlying100, MapKept.run_getObj_map hb, hc, MapKept.run_findKey Try.underlying3 hf, Result.andThen]
  · simp [Instr.lookup, run_underlying Try.underlying100, MapKept.run_getObj_map hb, hc, MapKept.run_findKey Try.underlying3 hf, Result.andThen]

/-- What becomes of two numbers. -/
def twoG (op m n : Int) : Int := if op = 4 then min (m + n) 65535 else if op = 5 then max (m - n) 0 else if op = 6 then m * n / 65535 else max m n
/-- The function of the map at the operation. -/
def twoF (op : Int) : Nat := if op = 4 then 100 else if op = 5 then 101 else if op = 6 then 102 else 103
theorem two4 (m n : Int) (w : World) (hm : 0 ≤ m ∧ m ≤ 65535) (hn : 0 ≤ n ∧ n ≤ 65535) : Calls Try.prog 100 #[.int .i64 m, .int .i64 n] w fun e w' => e = .returned (.int .i64 (twoG 4 m n)) ∧ w' = w := by
  have e : twoG 4 m n = if 65535 < m + n then 65535 else m + n := by unfold twoG; simp; split <;> omega
  rw [e]
  by_cases h : 65535 < m + n
  · rw [if_pos h]
    go_enter Try.func100, Try.ntmps100
    go_wp2
    go_ret
    exact ⟨rfl, rfl⟩
  · rw [if_neg h]
    go_enter Try.func100, Try.ntmps100
    go_wp2
    go_ret
    exact ⟨rfl, rfl⟩
theorem two5 (m n : Int) (w : World) (hm : 0 ≤ m ∧ m ≤ 65535) (hn : 0 ≤ n ∧ n ≤ 65535) : Calls Try.prog 101 #[.int .i64 m, .int .i64 n] w fun e w' => e = .returned (.int .i64 (twoG 5 m n)) ∧ w' = w := by
  have e : twoG 5 m n = if m - n < 0 then 0 else m - n := by unfold twoG; simp; split <;> omega
  rw [e]
  by_cases h : m - n < 0
  · rw [if_pos h]
    go_enter Try.func101, Try.ntmps101
    go_wp2
    go_ret
    exact ⟨rfl, rfl⟩
  · rw [if_neg h]
    go_enter Try.func101, Try.ntmps101
    go_wp2
    go_ret
    exact ⟨rfl, rfl⟩
theorem two6 (m n : Int) (w : World) (hm : 0 ≤ m ∧ m ≤ 65535) (hn : 0 ≤ n ∧ n ≤ 65535) : Calls Try.prog 102 #[.int .i64 m, .int .i64 n] w fun e w' => e = .returned (.int .i64 (twoG 6 m n)) ∧ w' = w := by
  have e : twoG 6 m n = m * n / 65535 := by simp [twoG]
  have h1 : 0 ≤ m * n := Int.mul_nonneg hm.1 hn.1
  have h2 : m * n ≤ 65535 * 65535 := Int.mul_le_mul hm.2 hn.2 hn.1 (by omega)
  rw [e]
  clear e
  go_enter Try.func102, Try.ntmps102
  go_wp2
  go_ret
  exact ⟨rfl, rfl⟩
theorem two7 (m n : Int) (w : World) : Calls Try.prog 103 #[.int .i64 m, .int .i64 n] w fun e w' => e = .returned (.int .i64 (twoG 7 m n)) ∧ w' = w := by
  have e : twoG 7 m n = if m < n then n else m := by unfold twoG; simp; split <;> omega
  rw [e]
  by_cases h : m < n
  · rw [if_pos h]
    go_enter Try.func103, Try.ntmps103
    go_wp2
    go_ret
    exact ⟨rfl, rfl⟩
  · rw [if_neg h]
    go_enter Try.func103, Try.ntmps103
    go_wp2
    go_ret
    exact ⟨rfl, rfl⟩
theorem numbers_same {w : World} {c b off cap W H : Nat} {ps : List Int} (hB : Boxed w c b off cap W H) (hF : Fine w b off W H ps) (x y : Nat) (hx : x < W) (hy : y < H) :
    Calls Try.prog 104 #[.int .i64 x, .int .i64 y, .pointer (some ⟨c, 0, none⟩)] w fun e w' => e = .returned (.int .i64 (px W ps x y)) ∧ w' = w := by
  obtain ⟨hlt, c0, c1, c2⟩ := hB
  have hc := hF.cell (y * W + x) (place_lt hx hy)
  have hpl := place_lt hx hy
  obtain ⟨hm, hM⟩ := hF.small
  have hb1 := hF.hW
  have hb2 := hF.hH
  have hpi : (y : Int) * (W : Int) + (x : Int) < (W : Int) * (H : Int) := by rw [← Int.natCast_mul, ← Int.natCast_mul]; omega
  have hp0 : 0 ≤ (y : Int) * (W : Int) := Int.mul_nonneg (by omega) (by omega)
  have hpM : (W : Int) * (H : Int) ≤ 256 := by rw [← Int.natCast_mul]; omega
  obtain ⟨v, hv⟩ : ∃ v, v = px W ps x y := ⟨_, rfl⟩
  have hc' : w.cell? ⟨b, off + (y * W + x), none⟩ = some (.int .i64 v) := by rw [hv]; exact hc
  rw [← hv]
  clear hc hv hF hpl
  go_enter Try.func104, Try.ntmps104
  go_wp2
  go_ret
  exact ⟨rfl, rfl⟩
end Go.Proofs.Ytfpkiimlaepnhaa
