/-
  LAWWIRE2: the law WireBack.
-/
import Derived.Test.YtbcicopgcmiaaaaM11
namespace Go.Proofs.Ytbcicopgcmiaaaa
set_option maxRecDepth 100000
open Go.RowKit Im

theorem bytes_few {f : Fr} (hE : frameE f = 0) : (frameBytes f).length ≤ 2048 := by
  have h12 : f.ps.length ≤ 12 := by
    obtain ⟨hb, _, _⟩ := frameE_zero hE
    exact (boundsE_zero hb).2.2.2.2.2
  have := passes_len (ps := f.ps) (lights16 hE)
  unfold frameBytes
  rw [List.length_append]
  simp only [List.length_cons, List.length_nil]
  omega
set_option maxHeartbeats 8000000 in
theorem wireBack_any (W H S O : Int) (a : Option Addr) (len cap : Nat) (ps : List Ps) (s : ByteArray) (w : World) (hp : Passes w a len ps) (_hs : s.size ≤ maxLen) :
    Calls Try.prog 4 #[.agg #[.int .i64 W, .int .i64 H, .int .i64 S, .int .i64 O, .slice a len cap], .string s] w fun e w' => e = .returned (.bool true) ∧ Below w.heap.size w w' := by
  obtain rfl := hp.leng
  have hb0 := below_box (Below.refl w.heap.size w) (.cells #[.int .i64 W, .int .i64 H, .int .i64 S, .int .i64 O, .slice a ps.length cap] 24)
  have hF0 := FBox.new w W H S O a ps.length cap
  have hp0 := hp.below hb0
  have hwr := write_any W H S O a ps.length cap ps _ hp0
  go_enter Try.func4, Try.ntmps4
  go_wp2_with fail
  generalize w.alloc (.cells #[.int .i64 W, .int .i64 H, .int .i64 S, .int .i64 O, .slice a ps.length cap] 24) = w0 at *
  refine hwr.mono ?_
  clear hwr
  rintro e w1 ⟨rfl, b1⟩
  have hb1 := below_step hb0 b1
  by_cases hE0 : frameE ⟨W, H, S, O, ps⟩ = 0
  case' pos =>
    have e1 : wireS ⟨W, H, S, O, ps⟩ = strOfNums (frameBytes ⟨W, H, S, O, ps⟩) := by unfold wireS; rw [if_pos hE0]
    obtain ⟨k1, k2⟩ := wire_back hE0
    have hrd := read_x (bytes_of_frame ⟨W, H, S, O, ps⟩) (bytes_few hE0) w1
    have e2 : rdF (frameBytes ⟨W, H, S, O, ps⟩) = ⟨W, H, S, O, ps⟩ := by unfold rdF; rw [if_pos k1, k2]
    have e3 : rdE (frameBytes ⟨W, H, S, O, ps⟩) = 0 := by unfold rdE; rw [if_pos k1]
    rw [e2, e3] at hrd
    rw [e1, hE0]
    clear k1 k2 e1 e2 e3 hE0
    generalize strOfNums (frameBytes ⟨W, H, S, O, ps⟩) = t at *
    go_wp2_with fail
    refine hrd.mono ?_
    clear hrd
    rintro e w2 ⟨ra, rc, rfl, hP2, b2⟩
    have hb2 := below_step hb1 b2
    dsimp only at hP2 ⊢
    have hF3 := FBox.new w2 W H S O ra ps.length rc
    have b3 := (Below.refl w2.heap.size w2).alloc (Nat.le_refl _) (.cells #[.int .i64 W, .int .i64 H, .int .i64 S, .int .i64 O, .slice ra ps.length rc] 24)
    have hP3 := hP2.below b3
    have hbx := below_step (below_step b1 b2) b3
    have hb3 := below_step hb2 b3
    have hsf := sameFrames_any W H S O rc cap hP3 (hp0.below hbx)
    obtain ⟨_, g0, g1, g2, g3, g4⟩ := hF0.below hbx
    obtain ⟨_, d0, d1, d2, d3, d4⟩ := id hF3
    clear hP2 hP3 b2 b3 hb2 hF3 hbx
    go_wp2_with fail
    generalize w2.alloc (.cells #[.int .i64 W, .int .i64 H, .int .i64 S, .int .i64 O, .slice ra ps.length rc] 24) = w3 at *
    refine hsf.mono ?_
    clear hsf g0 g1 g2 g3 g4 d0 d1 d2 d3 d4
    rintro e w4 ⟨rfl, b4⟩
    have hb4 := below_step hb3 b4
    clear b4 hb3 b1 hb1 hb0 hF0 hp0 hp
  case' neg =>
    have hb4 := hb1
    generalize frameE ⟨W, H, S, O, ps⟩ = fE at *
    generalize wireS ⟨W, H, S, O, ps⟩ = t at *
    clear b1 hb1 hb0 hF0 hp0 hp
    generalize w1 = w4 at *
  all_goals
    by_cases hbig : 2048 < s.size
    · have hrd := read_big hbig w4
      go_wp2_with fail
      refine hrd.mono ?_
      clear hrd
      rintro e w5 ⟨xa, xc, rfl, hP5, b5⟩
      have hb5 := below_step hb4 b5
      dsimp only at hP5 ⊢
      have hb6 := below_box hb5 (.cells #[.int .i64 0, .int .i64 0, .int .i64 0, .int .i64 0, .slice xa ([] : List Ps).length xc] 24)
      simp only [List.length_nil] at hb6 ⊢
      clear hP5 hb5 b5 hb4
      go_wp2_with fail
      refine (wireBegun_any _).mono ?_
      rintro e w7 ⟨rfl, b7⟩
      have hb7 := below_step hb6 b7
      go_wp2
      go_ret
      exact ⟨rfl, hb7⟩
    · obtain ⟨r, hr, hby, hlen⟩ : ∃ r, strOfNums r = s ∧ Bytes r ∧ r.length = s.size := ⟨numsOf s, numsOf_str s, numsOf_bytes s, numsOf_len s⟩
      have hrd := read_x hby (by omega) w4
      rw [hr] at hrd
      by_cases hok : readOk r
      · have e2 : rdF r = rdFrame r := by unfold rdF; rw [if_pos hok]
        have e3 : rdE r = 0 := by unfold rdE; rw [if_pos hok]
        rw [e2, e3] at hrd
        have e4 : wireS (rdFrame r) = s := by
          unfold wireS
          rw [if_pos hok.2, (bytes_same hby).2 hok.1, hr]
        have e5 : frameE (rdFrame r) = 0 := hok.2
        generalize rdFrame r = F at *
        obtain ⟨FW, FH, FS, FO, Fp⟩ := F
        clear e2 e3 hr hby hlen hok hbig
        go_wp2_with fail
        refine hrd.mono ?_
        clear hrd
        rintro e w5 ⟨xa, xc, rfl, hP5, b5⟩
        have hb5 := below_step hb4 b5
        dsimp only at hP5 ⊢
        have hF6 := FBox.new w5 FW FH FS FO xa Fp.length xc
        have b6 := (Below.refl w5.heap.size w5).alloc (Nat.le_refl _) (.cells #[.int .i64 FW, .int .i64 FH, .int .i64 FS, .int .i64 FO, .slice xa Fp.length xc] 24)
        have hw6 := write_any FW FH FS FO xa Fp.length xc Fp _ (hP5.below b6)
        rw [e4, e5] at hw6
        have hb6 := below_step hb5 b6
        obtain ⟨_, g0, g1, g2, g3, g4⟩ := id hF6
        clear e4 e5 hP5 b5 hb5 hb4 hF6 b6
        go_wp2_with fail
        generalize w5.alloc (.cells #[.int .i64 FW, .int .i64 FH, .int .i64 FS, .int .i64 FO, .slice xa Fp.length xc] 24) = w6 at *
        refine hw6.mono ?_
        clear hw6 g0 g1 g2 g3 g4
        rintro e w7 ⟨rfl, b7⟩
        have hb7 := below_step hb6 b7
        clear hb6 b7
        have q0 := beq_self_list s
        go_wp2_with fail
        refine (wireBegun_any _).mono ?_
        rintro e w8 ⟨rfl, b8⟩
        have hb8 := below_step hb7 b8
        go_wp2
        go_ret
        exact ⟨rfl, hb8⟩
      · have e3 : rdE r = 1 := by unfold rdE; rw [if_neg hok]
        rw [e3] at hrd
        generalize rdF r = F at *
        obtain ⟨FW, FH, FS, FO, Fp⟩ := F
        clear e3 hr hby hlen hok hbig
        go_wp2_with fail
        refine hrd.mono ?_
        clear hrd
        rintro e w5 ⟨xa, xc, rfl, hP5, b5⟩
        have hb5 := below_step hb4 b5
        dsimp only at hP5 ⊢
        have hb6 := below_box hb5 (.cells #[.int .i64 FW, .int .i64 FH, .int .i64 FS, .int .i64 FO, .slice xa Fp.length xc] 24)
        clear hP5 hb5 b5 hb4
        go_wp2_with fail
        refine (wireBegun_any _).mono ?_
        rintro e w7 ⟨rfl, b7⟩
        have hb7 := below_step hb6 b7
        go_wp2
        go_ret
        exact ⟨rfl, hb7⟩
end Go.Proofs.Ytbcicopgcmiaaaa
