/-
  BEGUN: the closed calls of the law's imageBegun, each by its contract.
-/
import Derived.Test.YtfpkiimlaepnhaaTwo4
import Derived.Test.YtfpkiimlaepnhaaMakeRef
namespace Go.Proofs.Ytfpkiimlaepnhaa
set_option maxRecDepth 100000
open Go.RowKit Im

/-- The image that lies in block b: its columns, rows and slice, and the slice's numbers. -/
structure Pic (w : World) (b : Nat) (W H : Int) (a : Option Addr) (len cap : Nat) (ps : List Int) : Prop where
  lt : b < w.heap.size
  c0 : w.cell? ⟨b, 0, none⟩ = some (.int .i64 W)
  c1 : w.cell? ⟨b, 1, none⟩ = some (.int .i64 H)
  c2 : w.cell? ⟨b, 2, none⟩ = some (.slice a len cap)
  ints : Ints 0 w a len ps
theorem Pic.below {w w' : World} {b : Nat} {W H : Int} {a : Option Addr} {len cap : Nat} {ps : List Int} (h : Pic w b W H a len cap ps) (hb : Below w.heap.size w w') : Pic w' b W H a len cap ps :=
  ⟨Nat.lt_of_lt_of_le h.lt hb.size, (hb.cell (p := ⟨b, 0, none⟩) h.lt).trans h.c0, (hb.cell (p := ⟨b, 1, none⟩) h.lt).trans h.c1, (hb.cell (p := ⟨b, 2, none⟩) h.lt).trans h.c2, h.ints.below (Nat.le_refl _) hb⟩
theorem Pic.alloc {w : World} {b : Nat} {W H : Int} {a : Option Addr} {len cap : Nat} {ps : List Int} (h : Pic w b W H a len cap ps) (o : Obj) : Pic (w.alloc o) b W H a len cap ps :=
  h.below ((Below.refl _ _).alloc (Nat.le_refl _) _)
theorem Pic.new {w : World} {W H : Int} {a : Option Addr} {len : Nat} (cap : Nat) {ps : List Int} (h : Ints 0 w a len ps) : Pic (w.alloc (.cells #[.int .i64 W, .int .i64 H, .slice a len cap] 24)) w.heap.size W H a len cap ps :=
  ⟨by simp, by simp [go_sem], by simp [go_sem], by simp [go_sem], h.below (Nat.le_refl _) ((Below.refl _ _).alloc (Nat.le_refl _) _)⟩
theorem Ints.alloc {base : Nat} {w : World} {a : Option Addr} {len : Nat} {ps : List Int} (h : Ints base w a len ps) (o : Obj) : Ints base (w.alloc o) a len ps := h.below (Nat.le_refl _) ((Below.refl _ _).alloc (Nat.le_refl _) _)
/-- A literal of numbers. -/
theorem ints_lit (w : World) (ps : List Int) (h : ps.length ≤ 9223372036854775807) : Ints 0 (w.alloc (.cells (ps.map (Value.int .i64)).toArray 3)) (some ⟨w.heap.size, 0, none⟩) ps.length ps := by
  refine ⟨rfl, h, .inr ⟨w.heap.size, 0, rfl, Nat.zero_le _, by simp, fun j hj => ?_⟩⟩
  have : (w.alloc (.cells (ps.map (Value.int .i64)).toArray 3)).heap[w.heap.size]? = some (.cells (ps.map (Value.int .i64)).toArray 3 (0, 0)) := (MapKept.heap_alloc w _).1
  unfold World.cell?
  rw [this]
  simp [hj]

theorem four_any (w : World) : Calls Try.prog 62 #[] w fun e w' => e = .returned (.agg #[.int .i64 2, .int .i64 2, .slice (some ⟨w.heap.size + 1, 0, none⟩) 4 4]) ∧ Fine w' (w.heap.size + 1) 0 2 2 [4, 8, 65535, 0] ∧ Below w.heap.size w w' := by
  go_enter Try.func62, Try.ntmps62
  go_wp2
  refine bodyPost_ret (v := .agg #[.int .i64 2, .int .i64 2, .slice (some ⟨w.heap.size + 1, 0, none⟩) 4 4]) (by simp [results, Try.results62, go_sem]) rfl ⟨rfl, ⟨by decide, by decide, by simp, rfl, ?_, by decide⟩, ?_⟩
  · intro j hj
    have hi := (ints_lit (w.alloc (.cells #[.int .i64 2, .int .i64 2, .slice (some ⟨w.heap.size + 1, 0, none⟩) 4 4] 24)) [4, 8, 65535, 0] (by simp)).cells
    rcases hi with e | ⟨b, off, hb, _, _, hc⟩
    · cases e
    · simp at hb
      obtain ⟨rfl, rfl⟩ := hb
      exact hc j hj
  · exact ((Below.refl _ _).alloc (Nat.le_refl _) _).alloc (by simp) _

theorem four_some (w : World) : Calls Try.prog 62 #[] w fun e w' => ∃ b, e = .returned (.agg #[.int .i64 2, .int .i64 2, .slice (some ⟨b, 0, none⟩) 4 4]) ∧ Fine w' b 0 2 2 [4, 8, 65535, 0] ∧ Below w.heap.size w w' :=
  (four_any w).mono fun _ _ ⟨he, hf, hb⟩ => ⟨_, he, hf, hb⟩
theorem begun_make (w : World) : Calls Try.prog 15 #[.int .i64 2, .int .i64 3, .int .i64 1, .int .i64 40000] w fun e w' =>
    ∃ a cap, e = .returned (.tuple #[.agg #[.int .i64 3, .int .i64 1, .slice a 3 cap], .int .i64 0]) ∧ Ints 0 w' a 3 [0, 40000, 14464] ∧ Below w.heap.size w w' :=
  (make_ok 2 3 1 40000 w (.inr rfl) (by decide) (by decide) (by decide)).mono fun e w' ⟨a, cap, he, hi, hb⟩ => ⟨a, cap, he, by
    have e : pix 3 (makeG 2 40000) (3 * 1) = [0, 40000, 14464] := by decide
    rw [e] at hi
    exact hi.mono (Nat.zero_le _), hb⟩
theorem begun_shift {w : World} {b : Nat} (hF : Fine w b 0 2 2 [4, 8, 65535, 0]) : Calls Try.prog 22 #[.int .i64 9, .agg #[.int .i64 2, .int .i64 2, .slice (some ⟨b, 0, none⟩) 4 4], .int .i64 1] w fun e w' =>
    ∃ a cap, e = .returned (.tuple #[.agg #[.int .i64 2, .int .i64 2, .slice a 4 cap], .int .i64 0]) ∧ Ints 0 w' a 4 [4, 4, 65535, 65535] ∧ Below w.heap.size w w' :=
  (one_ok 9 4 1 hF (by decide)).mono fun e w' ⟨a, cap, he, hi, hb⟩ => ⟨a, cap, he, by
    have e : pix (oneN 9 2) (oneG 9 2 2 1 [4, 8, 65535, 0]) (oneN 9 2 * oneN 9 2) = [4, 4, 65535, 65535] := by decide
    rw [e] at hi
    exact hi.mono (Nat.zero_le _), hb⟩
theorem begun_down {w : World} {b : Nat} (hF : Fine w b 0 2 2 [4, 8, 65535, 0]) : Calls Try.prog 22 #[.int .i64 11, .agg #[.int .i64 2, .int .i64 2, .slice (some ⟨b, 0, none⟩) 4 4], .int .i64 0] w fun e w' =>
    ∃ b off cap, e = .returned (.tuple #[.agg #[.int .i64 1, .int .i64 1, .slice (some ⟨b, off, none⟩) 1 cap], .int .i64 0]) ∧ Fine w' b off 1 1 [16386] ∧ Below w.heap.size w w' :=
  (one_ok 11 4 0 hF (by decide)).mono fun e w' ⟨a, cap, he, hi, hb⟩ => by
    have e : pix (oneN 11 2) (oneG 11 2 2 0 [4, 8, 65535, 0]) (oneN 11 2 * oneN 11 2) = [16386] := by decide
    rw [e] at hi
    obtain ⟨W', H', b', off', hw, hh, ha, hl, hF'⟩ := fine_of (W := 1) (H := 1) (hi.mono (Nat.zero_le _)) (by decide)
    have hw' : W' = 1 := by omega
    have hh' : H' = 1 := by omega
    subst hw' hh' ha
    exact ⟨b', off', cap, he, hF', hb⟩
theorem begun_add {w : World} {b b' : Nat} (hF : Fine w b 0 2 2 [4, 8, 65535, 0]) (hG : Fine w b' 0 2 2 [4, 8, 65535, 0]) : Calls Try.prog 25 #[.int .i64 4, .agg #[.int .i64 2, .int .i64 2, .slice (some ⟨b, 0, none⟩) 4 4], .agg #[.int .i64 2, .int .i64 2, .slice (some ⟨b', 0, none⟩) 4 4]] w fun e w' =>
    ∃ a cap, e = .returned (.tuple #[.agg #[.int .i64 2, .int .i64 2, .slice a 4 cap], .int .i64 0]) ∧ Ints 0 w' a 4 [8, 16, 65535, 0] ∧ Below w.heap.size w w' :=
  (two_ok 4 4 hF hG (.inl rfl)).mono fun e w' ⟨a, cap, he, hi, hb⟩ => ⟨a, cap, he, by
    have e : pix 2 (fun x y => twoG 4 (px 2 [4, 8, 65535, 0] x y) (px 2 [4, 8, 65535, 0] x y)) (2 * 2) = [8, 16, 65535, 0] := by decide
    rw [e] at hi
    exact hi.mono (Nat.zero_le _), hb⟩
theorem begun_up {w : World} {b off cap : Nat} (hF : Fine w b off 1 1 [16386]) : Calls Try.prog 22 #[.int .i64 12, .agg #[.int .i64 1, .int .i64 1, .slice (some ⟨b, off, none⟩) 1 cap], .int .i64 0] w fun e w' =>
    ∃ a cap, e = .returned (.tuple #[.agg #[.int .i64 2, .int .i64 2, .slice a 4 cap], .int .i64 0]) ∧ Ints 0 w' a 4 [16386, 16386, 16386, 16386] ∧ Below w.heap.size w w' :=
  (one_ok 12 cap 0 hF (by decide)).mono fun e w' ⟨a, cap, he, hi, hb⟩ => ⟨a, cap, he, by
    have e : pix (oneN 12 1) (oneG 12 1 1 0 [16386]) (oneN 12 1 * oneN 12 1) = [16386, 16386, 16386, 16386] := by decide
    rw [e] at hi
    exact hi.mono (Nat.zero_le _), hb⟩
end Go.Proofs.Ytfpkiimlaepnhaa
