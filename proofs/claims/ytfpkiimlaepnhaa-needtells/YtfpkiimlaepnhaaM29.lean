/-
  FOLLOW: frame.follow goes through the passes of a frame, and tells the first error.
-/
import Derived.Test.YtfpkiimlaepnhaaM13
namespace Go.Proofs.Ytfpkiimlaepnhaa
set_option maxRecDepth 100000
open Go.RowKit Im

set_option maxHeartbeats 2000000 in
/-- frame.follow, of a frame whose bounds are not right. -/
theorem follow_bounds (W H S O : Int) (a : Option Addr) (len cap : Nat) (ps : List Ps) (w : World) (hp : Passes w a len ps) (hE : boundsE ⟨W, H, S, O, ps⟩ ≠ 0) :
    Calls Try.prog 83 #[.agg #[.int .i64 W, .int .i64 H, .int .i64 S, .int .i64 O, .slice a len cap]] w (ToldC w ⟨W, H, S, O, ps⟩) := by
  have hcb := fun wx => checkBounds_any W H S O a len cap ps wx hp.leng hp.big
  have hf : frameE ⟨W, H, S, O, ps⟩ = boundsE ⟨W, H, S, O, ps⟩ := by unfold frameE; rw [if_neg hE]
  have HF : Hid (frameE ⟨W, H, S, O, ps⟩ = boundsE ⟨W, H, S, O, ps⟩) := hf
  clear hf
  generalize boundsE ⟨W, H, S, O, ps⟩ = E at hcb hE HF
  have hB := FBox.new w W H S O a len cap
  have hC := CBox.new (w.alloc (.cells #[.int .i64 W, .int .i64 H, .int .i64 S, .int .i64 O, .slice a len cap] 63))
  have hb0 := below_box (below_box (Below.refl w.heap.size w) (.cells #[.int .i64 W, .int .i64 H, .int .i64 S, .int .i64 O, .slice a len cap] 63)) (.cells #[.slice none 0 0, .slice none 0 0, .int .i64 0] 113)
  rw [World.size_alloc] at hC
  go_enter Try.func83, Try.ntmps83
  go_wp2_with fail
  refine (hcb _).mono ?_
  rintro e w1 ⟨rfl, b1⟩
  obtain ⟨_, d0, d1, d2, f0, f1, f2⟩ := hC.below b1 hC.lt (Nat.lt_of_lt_of_le hC.lt b1.size)
  replace hb0 := below_step hb0 b1
  go_wp2
  refine bodyPost_ret (v := .tuple #[.agg #[.slice none 0 0, .slice none 0 0, .int .i64 0], .int .i64 E]) (by simp [results, Try.results83, go_sem, d0, d1, d2]) rfl ?_
  refine .inr ⟨by rw [HF.out]; exact hE, by rw [HF.out], ?_⟩
  exact ((hb0.setCell (by simp) _).setCell (by simp) _).setCell (by simp) _
end Go.Proofs.Ytfpkiimlaepnhaa
