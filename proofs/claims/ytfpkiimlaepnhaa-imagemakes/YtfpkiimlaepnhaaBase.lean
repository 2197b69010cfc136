/-
  BASE: how a list of numbers lies in memory ('Ints'), what stays of it, and the smallest functions.
-/
import Derived.Test.YtfpkiimlaepnhaaPlain
import Derived.WalkKit
import Derived.WalkSpells
import Derived.WalkLawsBesides
namespace Go.Proofs.Ytfpkiimlaepnhaa
set_option maxRecDepth 100000
open Go.RowKit Im

/-- A slice's elements are the numbers ps: nothing is asked of its address where there are none. 'base': no block below it holds them. -/
structure Ints (base : Nat) (w : World) (a : Option Addr) (len : Nat) (ps : List Int) : Prop where
  leng : ps.length = len
  big : len ≤ 9223372036854775807
  cells : ps = [] ∨ ∃ b off, a = some ⟨b, off, none⟩ ∧ base ≤ b ∧ b < w.heap.size ∧ ∀ j, j < len → w.cell? ⟨b, off + j, none⟩ = some (.int .i64 (ps.getD j 0))

theorem Ints.below {base : Nat} {w w' : World} {a : Option Addr} {len : Nat} {ps : List Int} (h : Ints base w a len ps) {B : Nat} (hB : w.heap.size ≤ B) (hb : Below B w w') : Ints base w' a len ps := by
  refine ⟨h.leng, h.big, ?_⟩
  rcases h.cells with e | ⟨b, off, ha, h0, hl, hc⟩
  · exact .inl e
  · exact .inr ⟨b, off, ha, h0, Nat.lt_of_lt_of_le hl hb.size, fun j hj => (hb.cell (p := ⟨b, off + j, none⟩) (by show b < B; omega)).trans (hc j hj)⟩
theorem Ints.mono {base base' : Nat} {w : World} {a : Option Addr} {len : Nat} {ps : List Int} (h : Ints base w a len ps) (hb : base' ≤ base) : Ints base' w a len ps := by
  refine ⟨h.leng, h.big, ?_⟩
  rcases h.cells with e | ⟨b, off, ha, h0, hl, hc⟩
  · exact .inl e
  · exact .inr ⟨b, off, ha, by omega, hl, hc⟩
theorem Ints.setCell {base : Nat} {w : World} {a : Option Addr} {len : Nat} {ps : List Int} (h : Ints base w a len ps) {p : Addr} (hp : p.block < base) (u : Value) : Ints base (w.setCell p u) a len ps := by
  refine ⟨h.leng, h.big, ?_⟩
  rcases h.cells with e | ⟨b, off, ha, h0, hl, hc⟩
  · exact .inl e
  · refine .inr ⟨b, off, ha, h0, by simpa [World.setCell] using hl, fun j hj => ?_⟩
    rw [World.cell?_of_block (w := w) (Below.heap_setCell w p u b (by omega))]
    exact hc j hj
theorem Ints.nil (base : Nat) (w : World) : Ints base w none 0 [] := ⟨rfl, by omega, .inl rfl⟩

theorem bcell {W w1 : World} (hb : Below W.heap.size W w1) : (∀ b o, b < W.heap.size → w1.cell? ⟨b, o, none⟩ = W.cell? ⟨b, o, none⟩) ∧ (∀ b o, b < W.heap.size → w1.frozen? ⟨b, o, none⟩ = W.frozen? ⟨b, o, none⟩) :=
  ⟨fun b o h => hb.cell (p := ⟨b, o, none⟩) h, fun b o h => hb.frozen (p := ⟨b, o, none⟩) h⟩

theorem Try.info3 : (Try.prog.info? 3).map (fun i => (i.zero, i.size, i.bytes)) = some (some (.int .i64 0), 1, 8) := by kernel_rfl

theorem isSide_any (n : Int) (w : World) : Calls Try.prog 56 #[.int .i64 n] w fun e w' => e = .returned (.bool (sideB n)) ∧ w = w' := by
  by_cases h1 : 1 ≤ n
  · by_cases h2 : n ≤ 16
    · go_enter Try.func56, Try.ntmps56
      go_wp2
      go_ret
      exact ⟨by simp [sideB, h1, h2], rfl⟩
    · go_enter Try.func56, Try.ntmps56
      go_wp2
      go_ret
      exact ⟨by simp [sideB, h1, h2], rfl⟩
  · go_enter Try.func56, Try.ntmps56
    go_wp2
    go_ret
    exact ⟨by simp [sideB]; omega, rfl⟩
theorem isNumber_any (n : Int) (w : World) : Calls Try.prog 57 #[.int .i64 n] w fun e w' => e = .returned (.bool (numB n)) ∧ w = w' := by
  by_cases h1 : 0 ≤ n
  · by_cases h2 : n ≤ 65535
    · go_enter Try.func57, Try.ntmps57
      go_wp2
      go_ret
      exact ⟨by simp [numB, h1, h2], rfl⟩
    · go_enter Try.func57, Try.ntmps57
      go_wp2
      go_ret
      exact ⟨by simp [numB, h1, h2], rfl⟩
  · go_enter Try.func57, Try.ntmps57
    go_wp2
    go_ret
    exact ⟨by simp [numB]; omega, rfl⟩
theorem within_any (n a b : Int) (w : World) : Calls Try.prog 61 #[.int .i64 n, .int .i64 a, .int .i64 b] w fun e w' => e = .returned (.bool (withinB n a b)) ∧ w = w' := by
  by_cases h1 : a ≤ n
  · by_cases h2 : n ≤ b
    · go_enter Try.func61, Try.ntmps61
      go_wp2
      go_ret
      exact ⟨by simp [withinB, h1, h2], rfl⟩
    · go_enter Try.func61, Try.ntmps61
      go_wp2
      go_ret
      exact ⟨by simp [withinB, h1, h2], rfl⟩
  · go_enter Try.func61, Try.ntmps61
    go_wp2
    go_ret
    exact ⟨by simp [withinB]; omega, rfl⟩
end Go.Proofs.Ytfpkiimlaepnhaa
