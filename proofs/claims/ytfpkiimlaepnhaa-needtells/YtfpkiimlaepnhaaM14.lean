/- SameF, Given: joined, in this order. -/
import Derived.Test.YtfpkiimlaepnhaaM13
import Derived.Test.YtfpkiimlaepnhaaM08
import Derived.Deep.RegionHeld3
import Derived.Deep.CutRange
import Derived.Test.YtfpkiimlaepnhaaM02
/-
  SAMEF: the reference's SameFrames, of two frames that are the same.
-/
namespace Go.Proofs.Ytfpkiimlaepnhaa
set_option maxRecDepth 100000
open Go.RowKit Im

/-- Two passes, each in a block of its own. -/
def Two67 (wr : World) (Op To A B K : Int) (la : Option Addr) (ll lc : Nat) (la' : Option Addr) (lc' : Nat) (s6 s7 : Value) (wx : World) : Prop :=
  ∃ b6 b7, s6 = .pointer (some ⟨b6, 0, none⟩) ∧ s7 = .pointer (some ⟨b7, 0, none⟩) ∧ PBox wx b6 Op To A B K la ll lc ∧ PBox wx b7 Op To A B K la' ll lc' ∧ Below wr.heap.size wr wx
theorem passes_blk {w : World} {b off len : Nat} {ps : List Ps} (h : Passes w (some ⟨b, off, none⟩) len ps) {k : Nat} (hk : k < len) : b < w.heap.size := by
  rcases h.cells with e | ⟨b', off', ha, hl, _⟩
  · have := h.leng; subst e; simp at this; omega
  · injection ha with ha
    injection ha with e1 e2
    subst e1
    exact hl
theorem six_cells {wr w' : World} {b o : Nat} {x0 x1 x2 x3 x4 x5 : Value} (hb : Below wr.heap.size wr w') (h : b < wr.heap.size) (p0 : wr.cell? ⟨b, o, none⟩ = some x0) (p1 : wr.cell? ⟨b, o + 1, none⟩ = some x1) (p2 : wr.cell? ⟨b, o + 2, none⟩ = some x2) (p3 : wr.cell? ⟨b, o + 3, none⟩ = some x3) (p4 : wr.cell? ⟨b, o + 4, none⟩ = some x4) (p5 : wr.cell? ⟨b, o + 5, none⟩ = some x5) :
    w'.cell? ⟨b, o, none⟩ = some x0 ∧ w'.cell? ⟨b, o + 1, none⟩ = some x1 ∧ w'.cell? ⟨b, o + 2, none⟩ = some x2 ∧ w'.cell? ⟨b, o + 3, none⟩ = some x3 ∧ w'.cell? ⟨b, o + 4, none⟩ = some x4 ∧ w'.cell? ⟨b, o + 5, none⟩ = some x5 :=
  ⟨(hb.cell (p := ⟨b, o, none⟩) h).trans p0, (hb.cell (p := ⟨b, o + 1, none⟩) h).trans p1, (hb.cell (p := ⟨b, o + 2, none⟩) h).trans p2, (hb.cell (p := ⟨b, o + 3, none⟩) h).trans p3, (hb.cell (p := ⟨b, o + 4, none⟩) h).trans p4, (hb.cell (p := ⟨b, o + 5, none⟩) h).trans p5⟩
theorem keepF {wr w' : World} {f1 f2 b b' o o' : Nat} {y0 y1 x0 x1 x2 x3 x4 x5 z0 z1 z2 z3 z4 z5 : Value} (hb : Below wr.heap.size wr w') (h1 : f1 < wr.heap.size) (h2 : f2 < wr.heap.size) (h3 : b < wr.heap.size) (h4 : b' < wr.heap.size) (g4 : wr.cell? ⟨f1, 4, none⟩ = some y0) (e4 : wr.cell? ⟨f2, 4, none⟩ = some y1)
    (p0 : wr.cell? ⟨b, o, none⟩ = some x0) (p1 : wr.cell? ⟨b, o + 1, none⟩ = some x1) (p2 : wr.cell? ⟨b, o + 2, none⟩ = some x2) (p3 : wr.cell? ⟨b, o + 3, none⟩ = some x3) (p4 : wr.cell? ⟨b, o + 4, none⟩ = some x4) (p5 : wr.cell? ⟨b, o + 5, none⟩ = some x5) (q0 : wr.cell? ⟨b', o', none⟩ = some z0) (q1 : wr.cell? ⟨b', o' + 1, none⟩ = some z1) (q2 : wr.cell? ⟨b', o' + 2, none⟩ = some z2) (q3 : wr.cell? ⟨b', o' + 3, none⟩ = some z3) (q4 : wr.cell? ⟨b', o' + 4, none⟩ = some z4) (q5 : wr.cell? ⟨b', o' + 5, none⟩ = some z5) :
    w'.cell? ⟨f1, 4, none⟩ = some y0 ∧ w'.cell? ⟨f2, 4, none⟩ = some y1 ∧ w'.cell? ⟨b, o, none⟩ = some x0 ∧ w'.cell? ⟨b, o + 1, none⟩ = some x1 ∧ w'.cell? ⟨b, o + 2, none⟩ = some x2 ∧ w'.cell? ⟨b, o + 3, none⟩ = some x3 ∧ w'.cell? ⟨b, o + 4, none⟩ = some x4 ∧ w'.cell? ⟨b, o + 5, none⟩ = some x5 ∧ w'.cell? ⟨b', o', none⟩ = some z0 ∧ w'.cell? ⟨b', o' + 1, none⟩ = some z1 ∧ w'.cell? ⟨b', o' + 2, none⟩ = some z2 ∧ w'.cell? ⟨b', o' + 3, none⟩ = some z3 ∧ w'.cell? ⟨b', o' + 4, none⟩ = some z4 ∧ w'.cell? ⟨b', o' + 5, none⟩ = some z5 := by
  obtain ⟨a0, a1, a2, a3, a4, a5⟩ := six_cells hb h3 p0 p1 p2 p3 p4 p5
  obtain ⟨c0, c1, c2, c3, c4, c5⟩ := six_cells hb h4 q0 q1 q2 q3 q4 q5
  exact ⟨(hb.cell (p := ⟨f1, 4, none⟩) h1).trans g4, (hb.cell (p := ⟨f2, 4, none⟩) h2).trans e4, a0, a1, a2, a3, a4, a5, c0, c1, c2, c3, c4, c5⟩
theorem pbox_two (w : World) (Op To A B K : Int) (la : Option Addr) (ll lc : Nat) (o : Obj) : PBox ((w.alloc o).alloc (.cells #[.int .i64 Op, .int .i64 To, .int .i64 A, .int .i64 B, .int .i64 K, .slice la ll lc] 88)) (w.heap.size + 1) Op To A B K la ll lc := by
  have := PBox.new (w.alloc o) Op To A B K la ll lc
  rwa [World.size_alloc] at this
theorem Lights.nthL {w : World} {a : Option Addr} {len : Nat} {ls : List Lt} (h : Lights w a len ls) {k : Nat} (hk : k < len) : ∃ b off, a = some ⟨b, off, none⟩ ∧ b < w.heap.size ∧ w.cell? ⟨b, off + k * 4, none⟩ = some (.int .i64 (ls.getD k Lt.zero).X) ∧ w.cell? ⟨b, off + k * 4 + 1, none⟩ = some (.int .i64 (ls.getD k Lt.zero).Y) ∧ w.cell? ⟨b, off + k * 4 + 2, none⟩ = some (.int .i64 (ls.getD k Lt.zero).R) ∧ w.cell? ⟨b, off + k * 4 + 3, none⟩ = some (.int .i64 (ls.getD k Lt.zero).P) := by
  rcases h.cells with e | ⟨b, off, ha, hl, hc⟩
  · have := h.leng; subst e; simp at this; omega
  · exact ⟨b, off, ha, hl, hc k hk⟩
set_option maxHeartbeats 4000000 in
theorem sameFrames_any (W H S O : Int) {a a' : Option Addr} {len : Nat} (cap cap' : Nat) {ps : List Ps} {w : World} (hp : Passes w a len ps) (hp' : Passes w a' len ps) :
    Calls Try.prog 54 #[.agg #[.int .i64 W, .int .i64 H, .int .i64 S, .int .i64 O, .slice a len cap], .agg #[.int .i64 W, .int .i64 H, .int .i64 S, .int .i64 O, .slice a' len cap']] w fun e w' => e = .returned (.bool true) ∧ Below w.heap.size w w' := by
  have hbig := hp.big
  have hb0 := below_box (below_box (Below.refl w.heap.size w) (.cells #[.int .i64 W, .int .i64 H, .int .i64 S, .int .i64 O, .slice a len cap] 63)) (.cells #[.int .i64 W, .int .i64 H, .int .i64 S, .int .i64 O, .slice a' len cap'] 63)
  have hB := (FBox.new w W H S O a len cap).alloc (.cells #[.int .i64 W, .int .i64 H, .int .i64 S, .int .i64 O, .slice a' len cap'] 63)
  have hC := FBox.new (w.alloc (.cells #[.int .i64 W, .int .i64 H, .int .i64 S, .int .i64 O, .slice a len cap] 63)) W H S O a' len cap'
  rw [World.size_alloc] at hC
  have hp1 := hp.below hb0
  have hp1' := hp'.below hb0
  obtain ⟨_, g0, g1, g2, g3, g4⟩ := id hB
  obtain ⟨_, e0, e1, e2, e3, e4⟩ := id hC
  go_enter Try.func54, Try.ntmps54
  go_wp2
  clear g0 g1 g2 g3 g4 e0 e1 e2 e3 e4
  generalize (w.alloc (.cells #[.int .i64 W, .int .i64 H, .int .i64 S, .int .i64 O, .slice a len cap] 63)).alloc (.cells #[.int .i64 W, .int .i64 H, .int .i64 S, .int .i64 O, .slice a' len cap'] 63) = w1 at *
  go_loopw [5] (fun i wr => ∃ k : Nat, k ≤ len ∧ i = .int .i64 k ∧ Below w1.heap.size w1 wr) (fun i _ => len - (intOf i).toNat)
  case atStart => exact ⟨0, Nat.zero_le _, rfl, Below.refl _ _⟩
  case round =>
    obtain ⟨k, hk, rfl, hbr⟩ := hrel
    obtain ⟨_, g0, g1, g2, g3, g4⟩ := hB.below hbr
    obtain ⟨_, e0, e1, e2, e3, e4⟩ := hC.below hbr
    by_cases hlt : k < len
    · obtain ⟨b, off, la, ll, lc, rfl, p0, p1, p2, p3, p4, p5, hLi⟩ := (hp1.below hbr).nth hlt
      obtain ⟨b', off', la', ll', lc', rfl, q0, q1, q2, q3, q4, q5, hLi'⟩ := (hp1'.below hbr).nth hlt
      generalize ps.getD k Ps.zero = p at p0 p1 p2 p3 p4 p5 hLi q0 q1 q2 q3 q4 q5 hLi'
      obtain ⟨Op, To, A, B, K, ls⟩ := p
      dsimp only at p0 p1 p2 p3 p4 p5 hLi q0 q1 q2 q3 q4 q5 hLi'
      have hll := hLi.leng
      have hll' := hLi'.leng
      obtain rfl : ll' = ll := by omega
      have h3 := passes_blk (hp1.below hbr) hlt
      have h4 := passes_blk (hp1'.below hbr) hlt
      have h1 := (hB.below hbr).lt
      have h2 := (hC.below hbr).lt
      go_upto_region 6 with fail
      go_cut [6, 7] from 51 to 60 (fun s6 s7 wx => Two67 wr Op To A B K la ll' lc la' lc' s6 s7 wx)
      case first =>
        go_region_held3 (fun w' => w'.cell? ⟨w.heap.size, 4, none⟩ = some (.slice (some ⟨b, off, none⟩) len cap) ∧ w'.cell? ⟨w.heap.size + 1, 4, none⟩ = some (.slice (some ⟨b', off', none⟩) len cap') ∧ w'.cell? ⟨b, off + k * 6, none⟩ = some (.int .i64 Op) ∧ w'.cell? ⟨b, off + k * 6 + 1, none⟩ = some (.int .i64 To) ∧ w'.cell? ⟨b, off + k * 6 + 2, none⟩ = some (.int .i64 A) ∧ w'.cell? ⟨b, off + k * 6 + 3, none⟩ = some (.int .i64 B) ∧ w'.cell? ⟨b, off + k * 6 + 4, none⟩ = some (.int .i64 K) ∧ w'.cell? ⟨b, off + k * 6 + 5, none⟩ = some (.slice la ll' lc) ∧ w'.cell? ⟨b', off' + k * 6, none⟩ = some (.int .i64 Op) ∧ w'.cell? ⟨b', off' + k * 6 + 1, none⟩ = some (.int .i64 To) ∧ w'.cell? ⟨b', off' + k * 6 + 2, none⟩ = some (.int .i64 A) ∧ w'.cell? ⟨b', off' + k * 6 + 3, none⟩ = some (.int .i64 B) ∧ w'.cell? ⟨b', off' + k * 6 + 4, none⟩ = some (.int .i64 K) ∧ w'.cell? ⟨b', off' + k * 6 + 5, none⟩ = some (.slice la' ll' lc'))
          (first | exact keepF (Below.refl _ _).drew h1 h2 h3 h4 g4 e4 p0 p1 p2 p3 p4 p5 q0 q1 q2 q3 q4 q5 | exact keepF (below_box (Below.refl _ _) _).drew h1 h2 h3 h4 g4 e4 p0 p1 p2 p3 p4 p5 q0 q1 q2 q3 q4 q5 | exact keepF (below_box (below_box (Below.refl _ _) _) _).drew h1 h2 h3 h4 g4 e4 p0 p1 p2 p3 p4 p5 q0 q1 q2 q3 q4 q5)
          (fail)
        all_goals (go_wp2_with fail; go_meet)
        all_goals first
          | exact ⟨_, _, rfl, rfl, ((PBox.new wr Op To A B K la ll' lc).alloc _).below (Below.refl _ _).drew, (pbox_two wr Op To A B K la' ll' lc' _).below (Below.refl _ _).drew, (below_box (below_box (Below.refl _ _) _) _).drew⟩
          | exact ⟨_, _, rfl, rfl, (pbox_two wr Op To A B K la ll' lc _).below (Below.refl _ _).drew, ((PBox.new wr Op To A B K la' ll' lc').alloc _).below (Below.refl _ _).drew, (below_box (below_box (Below.refl _ _) _) _).drew⟩
      case rest =>
        obtain ⟨b6, b7, rfl, rfl, hP6, hP7, bx⟩ := hcut
        have hLx := hLi.below bx
        have hLx' := hLi'.below bx
        have hbX := hbr.trans (bx.mono hbr.size)
        clear p0 p1 p2 p3 p4 p5 q0 q1 q2 q3 q4 q5 g0 g1 g2 g3 g4 e0 e1 e2 e3 e4 hLi hLi' h1 h2 h3 h4
        obtain ⟨_, p0, p1, p2, p3, p4, p5⟩ := id hP6
        obtain ⟨_, q0, q1, q2, q3, q4, q5⟩ := id hP7
        have HLL : Hid (_) := hll
        have HLL' : Hid (_) := hll'
        clear hll hll'
        obtain ⟨wO, e0⟩ : ∃ z, z = wc := ⟨_, rfl⟩
        subst e0
        go_wp2
        go_loopw [8] (fun i ws => ∃ t : Nat, t ≤ ll' ∧ i = .int .i64 t ∧ Below wO.heap.size wO ws) (fun i _ => ll' - (intOf i).toNat)
        case atStart => exact ⟨0, Nat.zero_le _, rfl, Below.refl _ _⟩
        case round =>
          obtain ⟨t, ht, rfl, hbt⟩ := hrel
          have hbig' := hLx.big
          have a5 := (hP6.below hbt).c5
          have c5 := (hP7.below hbt).c5
          by_cases htl : t < ll'
          · obtain ⟨b, off, rfl, h3, d0, d1, d2, d3⟩ := (hLx.below hbt).nthL htl
            obtain ⟨b', off', rfl, h4, f0, f1, f2, f3⟩ := (hLx'.below hbt).nthL htl
            generalize ls.getD t Lt.zero = l at d0 d1 d2 d3 f0 f1 f2 f3
            obtain ⟨X, Y, R, P⟩ := l
            dsimp only at d0 d1 d2 d3 f0 f1 f2 f3
            clear p0 p1 p2 p3 p4 p5 q0 q1 q2 q3 q4 q5
            go_wp2_with fail
            go_region_held3 (fun w' => w'.cell? ⟨b6, 5, none⟩ = some (.slice (some ⟨b, off, none⟩) ll' lc) ∧ w'.cell? ⟨b7, 5, none⟩ = some (.slice (some ⟨b', off', none⟩) ll' lc') ∧ w'.cell? ⟨b, off + t * 4, none⟩ = some (.int .i64 X) ∧ w'.cell? ⟨b, off + t * 4 + 1, none⟩ = some (.int .i64 Y) ∧ w'.cell? ⟨b, off + t * 4 + 2, none⟩ = some (.int .i64 R) ∧ w'.cell? ⟨b, off + t * 4 + 3, none⟩ = some (.int .i64 P) ∧ w'.cell? ⟨b', off' + t * 4, none⟩ = some (.int .i64 X) ∧ w'.cell? ⟨b', off' + t * 4 + 1, none⟩ = some (.int .i64 Y) ∧ w'.cell? ⟨b', off' + t * 4 + 2, none⟩ = some (.int .i64 R) ∧ w'.cell? ⟨b', off' + t * 4 + 3, none⟩ = some (.int .i64 P))
              (exact ⟨a5, c5, d0, d1, d2, d3, f0, f1, f2, f3⟩)
              (fail)
            all_goals go_wp2
            all_goals go_roundw
            all_goals first
              | exact ⟨t + 1, by omega, by go_num, hbt.drew⟩
              | (simp [intOf]; omega)
          · clear p0 p1 p2 p3 p4 p5 q0 q1 q2 q3 q4 q5
            go_wp2
            go_roundw
            case rel => exact ⟨k + 1, by omega, by go_num, hbX.trans (hbt.mono hbX.size)⟩
            case measure => simp [intOf]; omega
    · go_wp2
      go_ret
      exact ⟨rfl, below_step hb0 hbr⟩
end Go.Proofs.Ytfpkiimlaepnhaa
/-
  GIVEN: what a light gives to a place; how far it is from a part.
-/
namespace Go.Proofs.Ytfpkiimlaepnhaa
set_option maxRecDepth 100000
open Go.RowKit Im

/-- How far c is from the nearest of n columns (or rows) from f on. -/
def awayP (c f n : Int) : Int := max (max (f - c) (c - (f + n - 1))) 0
theorem away_any (c f n : Int) (w : World) (hc : 0 ≤ c ∧ c < 16) (hf : 0 ≤ f ∧ f < 16) (hn : 1 ≤ n ∧ n ≤ 16) : Calls Try.prog 75 #[.int .i64 c, .int .i64 f, .int .i64 n] w fun e w' => e = .returned (.int .i64 (awayP c f n)) ∧ w' = w := by
  obtain ⟨m, hm⟩ : ∃ m, m = awayP c f n := ⟨_, rfl⟩
  rw [← hm]
  by_cases h1 : f - c < c - (f + n - 1)
  · by_cases h2 : c - (f + n - 1) < 0
    · have e : m = 0 := by rw [hm]; unfold awayP; omega
      subst e
      clear hm
      go_enter Try.func75, Try.ntmps75
      go_wp2
      go_ret
      exact ⟨rfl, rfl⟩
    · have e : m = c - (f + n - 1) := by rw [hm]; unfold awayP; omega
      subst e
      clear hm
      go_enter Try.func75, Try.ntmps75
      go_wp2
      go_ret
      exact ⟨rfl, rfl⟩
  · by_cases h2 : f - c < 0
    · have e : m = 0 := by rw [hm]; unfold awayP; omega
      subst e
      clear hm
      go_enter Try.func75, Try.ntmps75
      go_wp2
      go_ret
      exact ⟨rfl, rfl⟩
    · have e : m = f - c := by rw [hm]; unfold awayP; omega
      subst e
      clear hm
      go_enter Try.func75, Try.ntmps75
      go_wp2
      go_ret
      exact ⟨rfl, rfl⟩
theorem away_bd (c f n : Int) (hc : 0 ≤ c ∧ c < 16) (hf : 0 ≤ f ∧ f < 16) (hn : 1 ≤ n ∧ n ≤ 16) : 0 ≤ awayP c f n ∧ awayP c f n ≤ 15 := by unfold awayP; omega
/-- What a light gives to a place. -/
def givenP (l : Lt) (x y : Int) : Int := l.P * max (l.R - (awayP l.X x 1 + awayP l.Y y 1)) 0 / l.R
theorem given_bd {l : Lt} (hl : rightB l = true) (x y : Int) (hx : 0 ≤ x ∧ x < 16) (hy : 0 ≤ y ∧ y < 16) : 0 ≤ givenP l x y ∧ givenP l x y ≤ 65535 := by
  obtain ⟨hX, hY, hR, hP⟩ := (right_iff l).1 hl
  have a1 := away_bd l.X x 1 hX hx (by omega)
  have a2 := away_bd l.Y y 1 hY hy (by omega)
  unfold givenP
  have hd : 0 ≤ awayP l.X x 1 + awayP l.Y y 1 := by omega
  generalize awayP l.X x 1 + awayP l.Y y 1 = d at hd ⊢
  have h1 : 0 ≤ max (l.R - d) 0 ∧ max (l.R - d) 0 ≤ l.R := by omega
  · have m1 : 0 ≤ l.P * max (l.R - d) 0 := Int.mul_nonneg hP.1 h1.1
    have m2 : l.P * max (l.R - d) 0 ≤ 65535 * l.R := Int.mul_le_mul hP.2 h1.2 h1.1 (by omega)
    refine ⟨Int.ediv_nonneg m1 (by omega), ?_⟩
    have : l.P * max (l.R - d) 0 / l.R < 65536 := Int.ediv_lt_of_lt_mul (by omega) (by omega)
    omega
theorem given_any (l : Lt) (x y : Int) (w : World) (hl : rightB l = true) (hx : 0 ≤ x ∧ x < 16) (hy : 0 ≤ y ∧ y < 16) :
    Calls Try.prog 73 #[.agg #[.int .i64 l.X, .int .i64 l.Y, .int .i64 l.R, .int .i64 l.P], .int .i64 x, .int .i64 y] w fun e w' => e = .returned (.int .i64 (givenP l x y)) ∧ Below w.heap.size w w' := by
  obtain ⟨hX, hY, hR, hP⟩ := (right_iff l).1 hl
  have c1 := fun wx => away_any l.X x 1 wx hX hx (by omega)
  have c2 := fun wx => away_any l.Y y 1 wx hY hy (by omega)
  have a1 := away_bd l.X x 1 hX hx (by omega)
  have a2 := away_bd l.Y y 1 hY hy (by omega)
  have hg : givenP l x y = l.P * max (l.R - (awayP l.X x 1 + awayP l.Y y 1)) 0 / l.R := rfl
  generalize awayP l.X x 1 = d1 at *
  generalize awayP l.Y y 1 = d2 at *
  obtain ⟨X, Y, R, P⟩ := l
  dsimp only at *
  obtain ⟨m, hm⟩ : ∃ m, (if R - (d1 + d2) < 0 then 0 else R - (d1 + d2)) = m := ⟨_, rfl⟩
  have hm' : max (R - (d1 + d2)) 0 = m := by rw [← hm]; split <;> omega
  rw [hg, hm']
  have b1 : 0 ≤ m ∧ m ≤ 32 := by omega
  have m1 : 0 ≤ P * m := Int.mul_nonneg hP.1 b1.1
  have m2 : P * m ≤ 65535 * 32 := Int.mul_le_mul hP.2 b1.2 b1.1 (by omega)
  clear hg hm' hl
  go_enter Try.func73, Try.ntmps73
  go_wp2
  go_quiet ((first | (go_at_call 75; with_reducible exact Calls.quiet_of_same (c1 _)) | (go_at_call 75; with_reducible exact Calls.quiet_of_same (c2 _))))
  clear c1 c2
  go_wp2
  go_ret
  exact ⟨rfl, below_drewN ((Below.refl _ _).alloc (Nat.le_refl _) _) _⟩
theorem given_pos {l : Lt} {x y d : Int} (hd : awayP l.X x 1 + awayP l.Y y 1 = d) (h : d < l.R) : givenP l x y = l.P * (l.R - d) / l.R := by
  unfold givenP; rw [hd, show max (l.R - d) 0 = l.R - d by omega]
theorem given_zero {l : Lt} {x y d : Int} (hd : awayP l.X x 1 + awayP l.Y y 1 = d) (h : ¬ d < l.R) : givenP l x y = 0 := by
  unfold givenP; rw [hd, show max (l.R - d) 0 = 0 by omega]; simp
def stretchB (f n : Int) : Bool := placeB f && decide (1 ≤ n) && decide (n ≤ 16 - f)
theorem isStretch_any (f n : Int) (w : World) : Calls Try.prog 74 #[.int .i64 f, .int .i64 n] w fun e w' => e = .returned (.bool (stretchB f n)) ∧ w = w' := by
  by_cases h1 : placeB f = true
  · have hf := (place_iff f).1 h1
    by_cases h2 : 1 ≤ n
    · by_cases h3 : n ≤ 16 - f
      · rw [show stretchB f n = true by simp [stretchB, h1, h2, h3]]
        go_enter Try.func74, Try.ntmps74
        go_wp2_with (go_at_call 72; refine (isPlace_any _ _).mono ?_; rintro e w' ⟨rfl, rfl⟩)
        go_ret
        exact ⟨by first | rfl | simp [h3], rfl⟩
      · rw [show stretchB f n = false by simp [stretchB, h3]]
        have h3' : decide (n ≤ 16 - f) = false := by simpa using h3
        go_enter Try.func74, Try.ntmps74
        go_wp2_with (go_at_call 72; refine (isPlace_any _ _).mono ?_; rintro e w' ⟨rfl, rfl⟩)
        go_ret
        exact ⟨by first | rfl | simp [h3], rfl⟩
    · rw [show stretchB f n = false by simp [stretchB, h2]]
      go_enter Try.func74, Try.ntmps74
      go_wp2_with (go_at_call 72; refine (isPlace_any _ _).mono ?_; rintro e w' ⟨rfl, rfl⟩)
      go_ret
      exact ⟨rfl, rfl⟩
  · have h1' := eq_false_of_ne_true h1
    rw [show stretchB f n = false by simp [stretchB, h1']]
    go_enter Try.func74, Try.ntmps74
    go_wp2_with (go_at_call 72; refine (isPlace_any _ _).mono ?_; rintro e w' ⟨rfl, rfl⟩)
    go_ret
    exact ⟨rfl, rfl⟩
end Go.Proofs.Ytfpkiimlaepnhaa
