/-
  LAWTRUE: the walk of the law ImageTrue.
-/
import Derived.Test.YtfpkiimlaepnhaaRes
import Derived.Deep.Cut
import Derived.Deep.CutBlock
import Derived.Deep.RegionHeld3
namespace Go.Proofs.Ytfpkiimlaepnhaa
set_option maxRecDepth 100000
open Go.RowKit Im

theorem choose_any (c n : Int) (w : World) (h0 : 0 ≤ c) (h1 : c ≤ 9223372036854775807) (hn : 1 ≤ n) : Calls Try.prog 28 #[.int .i64 c, .int .i64 n] w fun e w' => e = .returned (.int .i64 (c % n)) ∧ w = w' := by
  have hz : ¬ n = 0 := by omega
  go_enter Try.func28, Try.ntmps28
  go_wp2
  go_ret
  exact ⟨rfl, rfl⟩

/-- One image in its box, in a later world. -/
theorem one_of {wX w' : World} {p : Nat} {W1 H1 : Int} {a1 : Option Addr} {l1 c1 : Nat} {ps1 : List Int} (h1 : Pic wX p W1 H1 a1 l1 c1 ps1) (hb : Below wX.heap.size wX w') :
    Below wX.heap.size wX w' ∧ w'.cell? ⟨p, 0, none⟩ = some (.int .i64 W1) ∧ w'.cell? ⟨p, 1, none⟩ = some (.int .i64 H1) ∧ w'.cell? ⟨p, 2, none⟩ = some (.slice a1 l1 c1) := by
  have g1 := h1.below hb
  exact ⟨hb, g1.c0, g1.c1, g1.c2⟩
theorem via_told {P : Program} {f : FuncId} {args : Array Value} {wX w' : World} {r : Res} (hb : Below wX.heap.size wX w') (hc : Calls P f args w' (Told w' r)) :
    Calls P f args w' fun e w2 => Told w' r e w2 ∧ Below wX.heap.size wX w2 := hc.mono fun _ _ h => ⟨h, by obtain ⟨_, _, _, _, hb2⟩ := h; exact below_step hb hb2⟩
theorem makeRes_k {W H k : Int} {r : Res} (hr : makeRes 1 W H k = r) (h : r.E = 0) : 0 ≤ k ∧ k ≤ 65535 := by
  subst hr
  unfold makeRes at h
  by_cases hE : makeErr 1 W H k = 0
  · obtain ⟨_, _, _, _, _, _, _, h3⟩ := makeErr_zero hE
    exact (num_iff _).1 h3
  · rw [if_neg hE] at h; exact absurd h hE

set_option maxRecDepth 100000 in
set_option maxHeartbeats 4000000 in
theorem imageTrue_any (W H : Int) (a : Option Addr) (len cap : Nat) (ps : List Int) (W' H' : Int) (a' : Option Addr) (len' cap' : Nat) (qs : List Int) (op k mw mh : Int) (w : World) (h : Ints 0 w a len ps) (h' : Ints 0 w a' len' qs) :
    Calls Try.prog 6 #[.agg #[.int .i64 W, .int .i64 H, .slice a len cap], .agg #[.int .i64 W', .int .i64 H', .slice a' len' cap'], .int .i64 op, .int .i64 k, .int .i64 mw, .int .i64 mh] w fun e w' => e = .returned (.bool true) ∧ Below w.heap.size w w' := by
  have hP := (Pic.new (W := W) (H := H) cap h).alloc (.cells #[.int .i64 W', .int .i64 H', .slice a' len' cap'] 24)
  have hQ := Pic.new (W := W') (H := H') cap' (h'.alloc (.cells #[.int .i64 W, .int .i64 H, .slice a len cap] 24))
  rw [show (w.alloc (.cells #[.int .i64 W, .int .i64 H, .slice a len cap] 24)).heap.size = w.heap.size + 1 by simp] at hQ
  have hb := below_box (below_box (Below.refl w.heap.size w) (.cells #[.int .i64 W, .int .i64 H, .slice a len cap] 24)) (.cells #[.int .i64 W', .int .i64 H', .slice a' len' cap'] 24)
  obtain ⟨r1, e1⟩ : ∃ r, oneRes op W H ps k = r := ⟨_, rfl⟩
  obtain ⟨r2, e2⟩ : ∃ r, twoRes op W H ps W' H' qs = r := ⟨_, rfl⟩
  obtain ⟨r3, e3⟩ : ∃ r, twoRes op W' H' qs W H ps = r := ⟨_, rfl⟩
  have F1 : Hid (r1.E = 0 → fineB r1.W r1.H r1.ps = true) := fun h => by rw [← e1] at h ⊢; exact oneRes_fine h
  have F2 : Hid (r2.E = 0 → fineB r2.W r2.H r2.ps = true) := fun h => by rw [← e2] at h ⊢; exact twoRes_fine h
  have F3 : Hid ((op = 4 ∨ op = 6 ∨ op = 7) → r2 = r3) := fun h => by rw [← e2, ← e3]; exact twoRes_comm h
  have c1 := fun wx cp aa ll (hx : Ints 0 wx aa ll ps) => one_told (w := wx) (a := aa) cp hx e1
  have c2 := fun wx (hx : Ints 0 wx a len ps) (hy : Ints 0 wx a' len' qs) => two_told (w := wx) cap cap' hx hy e2
  have c3 := fun wx (hx : Ints 0 wx a len ps) (hy : Ints 0 wx a' len' qs) => two_told (w := wx) cap' cap hy hx e3
  obtain ⟨r4, e4⟩ : ∃ r, oneRes 12 W H ps 0 = r := ⟨_, rfl⟩
  obtain ⟨r6, e6⟩ : ∃ r, twoRes 5 W H ps W H ps = r := ⟨_, rfl⟩
  obtain ⟨r7, e7⟩ : ∃ r, makeRes 1 mw mh k = r := ⟨_, rfl⟩
  have D4 : Hid (r4.E = 0 → oneRes 11 r4.W r4.H r4.ps 0 = ⟨0, W, H, ps⟩) := fun h => up_then_down e4 h
  have Z6 : Hid (∀ n ∈ r6.ps, n = 0) := less_itself e6
  have S7 : Hid (r7.E = 0 → (0 ≤ k ∧ k ≤ 65535) ∧ ∀ j, -16 ≤ j ∧ j ≤ 16 → oneRes 10 r7.W r7.H r7.ps 0 = r7 ∧ oneRes 9 r7.W r7.H r7.ps j = r7) := fun h => ⟨makeRes_k e7 h, fun j hj => plain_stays e7 h j hj⟩
  have c4 : Hid (∀ wx, Ints 0 wx a len ps → Calls Try.prog 22 #[.int .i64 12, .agg #[.int .i64 W, .int .i64 H, .slice a len cap], .int .i64 0] wx (Told wx r4)) := fun wx hx => one_told cap hx e4
  have c6 : Hid (∀ wx, Ints 0 wx a len ps → Calls Try.prog 25 #[.int .i64 5, .agg #[.int .i64 W, .int .i64 H, .slice a len cap], .agg #[.int .i64 W, .int .i64 H, .slice a len cap]] wx (Told wx r6)) := fun wx hx => two_told cap cap hx hx e6
  have c7 : Hid (∀ wx, Calls Try.prog 15 #[.int .i64 1, .int .i64 mw, .int .i64 mh, .int .i64 k] wx (Told wx r7)) := fun wx => make_told wx e7
  clear e4 e6 e7
  obtain ⟨E4, W4, H4, p4⟩ := r4
  obtain ⟨E6, W6, H6, p6⟩ := r6
  obtain ⟨E7, W7, H7, p7⟩ := r7
  simp only at D4 Z6 S7
  clear e1 e2 e3
  obtain ⟨E1, W1, H1, p1⟩ := r1
  obtain ⟨E2, W2, H2, p2⟩ := r2
  obtain ⟨E3, W3, H3, p3⟩ := r3
  simp only at F1 F2
  go_enter Try.func6, Try.ntmps6
  go_wp2_with fail
  refine (c1 _ cap _ _ hP.ints).mono ?_
  rintro e wA ⟨a1, cap1, rfl, i1, b1⟩
  dsimp only at i1
  replace hP := hP.below b1
  replace hQ := hQ.below b1
  replace hb := below_step hb b1
  replace hP := hP.alloc (.cells #[.int .i64 W1, .int .i64 H1, .slice a1 p1.length cap1] 24)
  replace hQ := hQ.alloc (.cells #[.int .i64 W1, .int .i64 H1, .slice a1 p1.length cap1] 24)
  replace hb := below_box hb (.cells #[.int .i64 W1, .int .i64 H1, .slice a1 p1.length cap1] 24)
  have q1 := Pic.new (W := W1) (H := H1) cap1 (i1.mono (Nat.zero_le _))
  clear i1 b1
  obtain ⟨_, xhP0, xhP1, xhP2, _⟩ := id hP
  obtain ⟨_, xhQ0, xhQ1, xhQ2, _⟩ := id hQ
  go_wp2_with fail
  clear xhP0 xhP1 xhP2 xhQ0 xhQ1 xhQ2
  refine (c2 _ hP.ints hQ.ints).mono ?_
  rintro e wB ⟨a2, cap2, rfl, i2, b2⟩
  dsimp only at i2
  replace hP := hP.below b2
  replace hQ := hQ.below b2
  replace q1 := q1.below b2
  replace hb := below_step hb b2
  replace hP := hP.alloc (.cells #[.int .i64 W2, .int .i64 H2, .slice a2 p2.length cap2] 24)
  replace hQ := hQ.alloc (.cells #[.int .i64 W2, .int .i64 H2, .slice a2 p2.length cap2] 24)
  replace q1 := q1.alloc (.cells #[.int .i64 W2, .int .i64 H2, .slice a2 p2.length cap2] 24)
  replace hb := below_box hb (.cells #[.int .i64 W2, .int .i64 H2, .slice a2 p2.length cap2] 24)
  have q2 := Pic.new (W := W2) (H := H2) cap2 (i2.mono (Nat.zero_le _))
  clear i2 b2
  obtain ⟨_, xhP0, xhP1, xhP2, _⟩ := id hP
  obtain ⟨_, xhQ0, xhQ1, xhQ2, _⟩ := id hQ
  go_wp2_with fail
  clear xhP0 xhP1 xhP2 xhQ0 xhQ1 xhQ2
  refine (c3 _ hP.ints hQ.ints).mono ?_
  rintro e wC ⟨a3, cap3, rfl, i3, b3⟩
  dsimp only at i3
  replace hP := hP.below b3
  replace hQ := hQ.below b3
  replace q1 := q1.below b3
  replace q2 := q2.below b3
  replace hb := below_step hb b3
  replace hP := hP.alloc (.cells #[.int .i64 W3, .int .i64 H3, .slice a3 p3.length cap3] 24)
  replace hQ := hQ.alloc (.cells #[.int .i64 W3, .int .i64 H3, .slice a3 p3.length cap3] 24)
  replace q1 := q1.alloc (.cells #[.int .i64 W3, .int .i64 H3, .slice a3 p3.length cap3] 24)
  replace q2 := q2.alloc (.cells #[.int .i64 W3, .int .i64 H3, .slice a3 p3.length cap3] 24)
  replace hb := below_box hb (.cells #[.int .i64 W3, .int .i64 H3, .slice a3 p3.length cap3] 24)
  have q3 := Pic.new (W := W3) (H := H3) cap3 (i3.mono (Nat.zero_le _))
  clear i3 b3
  clear c1 c2 c3
  go_upto_region 4 with fail
  generalize wC.alloc (.cells #[.int .i64 W3, .int .i64 H3, .slice a3 p3.length cap3] 24) = wX at hP hQ q1 q2 q3 hb ⊢
  go_cut [68] from 33 (fun s wc => s = .bool false ∧ Below wX.heap.size wX wc)
  case first =>
    have n1 := F1.out
    have n2 := F2.out
    by_cases h1 : E1 = 0
    · have g1 : (E1 == 0) = true := by simpa using h1
      have f1 := isfine_any W1 H1 cap1 q1.ints
      rw [n1 h1] at f1
      obtain ⟨_, x0, x1, x2, _⟩ := id q1
      clear n1 h1
      by_cases h2 : E2 = 0
      · have g2 : (E2 == 0) = true := by simpa using h2
        go_wp2_with fail
        refine f1.mono ?_
        rintro e wY ⟨rfl, bY⟩
        have f2 := isfine_any W2 H2 cap2 (q2.below bY).ints
        rw [n2 h2] at f2
        obtain ⟨_, y0, y1, y2, _⟩ := id (q2.below bY)
        clear n2 h2 f1
        go_wp2_with fail
        refine f2.mono ?_
        rintro e wZ ⟨rfl, bZ⟩
        go_wp2
        go_meet
        case rel => exact ⟨rfl, below_step bY bZ⟩
      · have g2 : (E2 == 0) = false := by simpa using h2
        clear n2 h2
        go_wp2_with fail
        refine f1.mono ?_
        rintro e wY ⟨rfl, bY⟩
        go_wp2
        go_meet
        case rel => exact ⟨rfl, bY⟩
    · have g1 : (E1 == 0) = false := by simpa using h1
      clear n1 h1
      by_cases h2 : E2 = 0
      · have g2 : (E2 == 0) = true := by simpa using h2
        have f2 := isfine_any W2 H2 cap2 q2.ints
        rw [n2 h2] at f2
        obtain ⟨_, y0, y1, y2, _⟩ := id q2
        clear n2 h2
        go_wp2_with fail
        refine f2.mono ?_
        rintro e wZ ⟨rfl, bZ⟩
        go_wp2
        go_meet
        case rel => exact ⟨rfl, bZ⟩
      · have g2 : (E2 == 0) = false := by simpa using h2
        clear n2 h2
        go_wp2
        go_meet
        case rel => exact ⟨rfl, Below.refl _ _⟩
  case rest =>
  obtain ⟨rfl, bc4⟩ := hcut
  obtain ⟨wc0, hwc0⟩ : ∃ x, x = wc := ⟨_, rfl⟩
  rw [← hwc0] at bc4 ⊢
  clear hwc0 wc
  replace hP := hP.below bc4
  replace hQ := hQ.below bc4
  replace q1 := q1.below bc4
  replace q2 := q2.below bc4
  replace q3 := q3.below bc4
  replace hb := below_step hb bc4
  clear F1 F2 bc4
  go_upto_region 6 with fail
  go_cut [89] from 33 (fun s wc => s = .bool false ∧ Below wc0.heap.size wc0 wc)
  case first =>
    by_cases o4 : op = 4
    · have g4 : (op == 4) = true := by simpa using o4
      have n3 := F3.out (by omega)
      clear o4
      simp only [Res.mk.injEq] at n3
      obtain ⟨rfl, rfl, rfl, rfl⟩ := n3
      obtain ⟨_, x0, x1, x2, _⟩ := id q2
      obtain ⟨_, y0, y1, y2, _⟩ := id q3
      go_wp2_with fail
      refine (sameImages_any W2 H2 W2 H2 cap2 cap3 q2.ints q3.ints).mono ?_
      rintro e wY ⟨rfl, bY⟩
      go_wp2
      go_meet
      case rel => exact ⟨rfl, bY⟩
    · have g4 : (op == 4) = false := by simpa using o4
      by_cases o6 : op = 6
      · have g6 : (op == 6) = true := by simpa using o6
        have n3 := F3.out (by omega)
        clear o6
        simp only [Res.mk.injEq] at n3
        obtain ⟨rfl, rfl, rfl, rfl⟩ := n3
        obtain ⟨_, x0, x1, x2, _⟩ := id q2
        obtain ⟨_, y0, y1, y2, _⟩ := id q3
        go_wp2_with fail
        refine (sameImages_any W2 H2 W2 H2 cap2 cap3 q2.ints q3.ints).mono ?_
        rintro e wY ⟨rfl, bY⟩
        go_wp2
        go_meet
        case rel => exact ⟨rfl, bY⟩
      · have g6 : (op == 6) = false := by simpa using o6
        by_cases o7 : op = 7
        · have g7 : (op == 7) = true := by simpa using o7
          have n3 := F3.out (by omega)
          clear o7
          simp only [Res.mk.injEq] at n3
          obtain ⟨rfl, rfl, rfl, rfl⟩ := n3
          obtain ⟨_, x0, x1, x2, _⟩ := id q2
          obtain ⟨_, y0, y1, y2, _⟩ := id q3
          go_wp2_with fail
          refine (sameImages_any W2 H2 W2 H2 cap2 cap3 q2.ints q3.ints).mono ?_
          rintro e wY ⟨rfl, bY⟩
          go_wp2
          go_meet
          case rel => exact ⟨rfl, bY⟩
        · have g7 : (op == 7) = false := by simpa using o7
          go_wp2
          go_meet
          case rel => exact ⟨rfl, Below.refl _ _⟩
  case rest =>
  obtain ⟨rfl, bc6⟩ := hcut
  replace hP := hP.below bc6
  replace hb := below_step hb bc6
  clear F3 bc6 hQ q1 q2 q3
  obtain ⟨_, xhP0, xhP1, xhP2, _⟩ := id hP
  go_wp2_with fail
  clear xhP0 xhP1 xhP2
  refine (c4.out _ hP.ints).mono ?_
  rintro e wD ⟨a4, cap4, rfl, i4, b4⟩
  dsimp only at i4
  replace hP := hP.below b4
  replace hb := below_step hb b4
  replace hP := hP.alloc (.cells #[.int .i64 W4, .int .i64 H4, .slice a4 p4.length cap4] 24)
  replace hb := below_box hb (.cells #[.int .i64 W4, .int .i64 H4, .slice a4 p4.length cap4] 24)
  have q4 := Pic.new (W := W4) (H := H4) cap4 (i4.mono (Nat.zero_le _))
  clear i4 b4
  clear c4
  go_upto_if 96 with fail
  generalize wD.alloc (.cells #[.int .i64 W4, .int .i64 H4, .slice a4 p4.length cap4] 24) = wX4 at hP q4 hb ⊢
  go_cut [20] from 33 (fun _ wc => Below wX4.heap.size wX4 wc)
  case first =>
    by_cases h4 : E4 = 0
    · have c5 := one_told cap4 q4.ints (D4.out h4)
      have g4 : (E4 == 0) = true := by simpa using h4
      obtain ⟨_, x0, x1, x2, _⟩ := id q4
      clear h4 D4
      go_wp2_with fail
      refine c5.mono ?_
      rintro e wF ⟨a5, cap5, rfl, i5, b5⟩
      dsimp only at i5
      clear c5
      have q5 := Pic.new (W := W) (H := H) cap5 (i5.mono (Nat.zero_le _))
      replace hP := (hP.below b5).alloc (.cells #[.int .i64 W, .int .i64 H, .slice a5 ps.length cap5] 24)
      have b6 := below_box b5 (.cells #[.int .i64 W, .int .i64 H, .slice a5 ps.length cap5] 24)
      obtain ⟨_, y0, y1, y2, _⟩ := id q5
      obtain ⟨_, z0, z1, z2, _⟩ := id hP
      go_wp2_with fail
      refine (sameImages_any W H W H cap5 cap q5.ints hP.ints).mono ?_
      rintro e wY ⟨rfl, bY⟩
      go_wp2
      go_meet
      case rel => exact below_step b6 bY
    · have g4 : (E4 == 0) = false := by simpa using h4
      clear h4 D4
      go_wp2
      go_meet
      case rel => exact Below.refl _ _
  case rest =>
  clear D4 q4
  replace hP := hP.below hcut
  replace hb := below_step hb hcut
  obtain ⟨_, xhP0, xhP1, xhP2, _⟩ := id hP
  go_wp2_with fail
  clear xhP0 xhP1 xhP2
  refine (c6.out _ hP.ints).mono ?_
  rintro e wG ⟨a6, cap6, rfl, i6, b6⟩
  dsimp only at i6
  replace hP := hP.below b6
  replace hb := below_step hb b6
  replace hP := hP.alloc (.cells #[.int .i64 W6, .int .i64 H6, .slice a6 p6.length cap6] 24)
  replace hb := below_box hb (.cells #[.int .i64 W6, .int .i64 H6, .slice a6 p6.length cap6] 24)
  have q6 := Pic.new (W := W6) (H := H6) cap6 (i6.mono (Nat.zero_le _))
  clear i6 b6
  clear c6
  go_upto_block 0 with fail
  generalize wG.alloc (.cells #[.int .i64 W6, .int .i64 H6, .slice a6 p6.length cap6] 24) = wX6 at hP q6 hb ⊢
  go_cut [25] from 33 (fun _ wc => Below wX6.heap.size wX6 wc)
  case first =>
    obtain ⟨_, x0, x1, x2, i6⟩ := id q6
    by_cases h6 : E6 = 0 ∧ ¬ p6 = []
    · rcases i6.cells with e | ⟨b, off, ha, _, hbl, hc⟩
      · exact absurd e h6.2
      · have g6 : (E6 == 0) = true := by simpa using h6.1
        have hbig := i6.big
        subst ha
        clear h6
        go_wp2_with fail
        go_loop [25] (fun i => ∃ n : Nat, n ≤ p6.length ∧ i = .int .i64 n) (fun i => p6.length - (intOf i).toNat)
        case atStart => exact ⟨0, Nat.zero_le _, rfl⟩
        case round =>
          obtain ⟨n, hn, rfl⟩ := hrel
          by_cases hlt : n < p6.length
          · have hcn := hc n hlt
            have hz : p6.getD n 0 = 0 := by
              rw [List.getD_eq_getElem?_getD, List.getElem?_eq_getElem hlt]
              exact Z6.out _ (List.getElem_mem hlt)
            rw [hz] at hcn
            clear hz hc
            go_wp2
            go_round
            case rel => exact ⟨n + 1, by omega, by go_num⟩
            case measure => simp [intOf]; omega
          · go_wp2
            go_meet
            case rel => exact Below.refl _ _
    · by_cases hl : p6 = []
      · have hl' : p6.length = 0 := by rw [hl]; rfl
        rw [hl'] at x2
        clear h6 hl hl'
        go_wp2_with fail
        go_loop [25] (fun i => i = .int .i64 0) (fun _ => 0)
        case atStart => rfl
        case round =>
          subst hrel
          go_wp2
          go_meet
          case rel => exact Below.refl _ _
      · have g6 : (E6 == 0) = false := by simp; exact fun h => h6 ⟨h, hl⟩
        have hpos : 0 < p6.length := List.length_pos_iff.2 hl
        have hbig := i6.big
        clear h6 hl
        go_wp2_with fail
        go_loop [25] (fun i => i = .int .i64 0) (fun _ => 0)
        case atStart => rfl
        case round =>
          subst hrel
          go_wp2
          go_meet
          case rel => exact Below.refl _ _
  case rest =>
  clear Z6 q6
  replace hP := hP.below hcut
  replace hb := below_step hb hcut
  clear hcut hP
  go_wp2_with fail
  refine (c7.out _).mono ?_
  rintro e wI ⟨a7, cap7, rfl, i7, b7⟩
  dsimp only at i7
  replace hb := below_step hb b7
  replace hb := below_box hb (.cells #[.int .i64 W7, .int .i64 H7, .slice a7 p7.length cap7] 24)
  have q7 := Pic.new (W := W7) (H := H7) cap7 (i7.mono (Nat.zero_le _))
  clear i7 b7
  clear c7
  by_cases h7 : E7 = 0
  · obtain ⟨⟨hk0, hk1⟩, hst⟩ := S7.out h7
    have g7 : (E7 != 0) = false := by simpa using h7
    have g8 : (E7 == 0) = true := by simpa using h7
    have c8 := one_told cap7 q7.ints (hst 0 (by omega)).1
    have hs9 := (hst (k % 9) (by omega)).2
    obtain ⟨_, x0, x1, x2, _⟩ := id q7
    clear h7 S7 hst
    go_wp2_with fail
    refine c8.mono ?_
    rintro e wJ ⟨a8, cap8, rfl, i8, b8⟩
    dsimp only at i8
    clear c8 x0 x1 x2
    have q8 := Pic.new (W := W7) (H := H7) cap8 (i8.mono (Nat.zero_le _))
    replace q7 := (q7.below b8).alloc (.cells #[.int .i64 W7, .int .i64 H7, .slice a8 p7.length cap8] 24)
    replace hb := below_box (below_step hb b8) (.cells #[.int .i64 W7, .int .i64 H7, .slice a8 p7.length cap8] 24)
    go_upto_region 23 with fail
    generalize wJ.alloc (.cells #[.int .i64 W7, .int .i64 H7, .slice a8 p7.length cap8] 24) = wX8 at q7 q8 hb ⊢
    clear i8 b8
    go_cut [30, 31] from 33 (fun s t wc => ∃ n a9 cap9, s = .pointer (some ⟨n, 0, none⟩) ∧ t = .int .i64 E7 ∧ Pic wc n W7 H7 a9 p7.length cap9 p7 ∧ Below wX8.heap.size wX8 wc)
    case first =>
      go_region_held3 (fun w' => Below wX8.heap.size wX8 w' ∧ w'.cell? ⟨wI.heap.size, 0, none⟩ = some (.int .i64 W7) ∧ w'.cell? ⟨wI.heap.size, 1, none⟩ = some (.int .i64 H7) ∧ w'.cell? ⟨wI.heap.size, 2, none⟩ = some (.slice a7 p7.length cap7))
        (first | assumption | exact one_of q7 ((Below.refl _ _).drew) | exact one_of q7 (by assumption) | exact one_of q7 ((below_box (Below.refl _ _) _).drew) | exact one_of q7 (below_box (by assumption) _) | (refine one_of q7 ?_; refine Below.setCell (Below.setCell (Below.setCell ?_ ?_ _) ?_ _) ?_ _; (first | assumption | exact And.left (b := _) (by assumption)); all_goals exact Nat.le_refl _))
        (first
          | (go_at_call 28; refine (choose_any k 9 _ hk0 (by omega) (by omega)).mono ?_; rintro e w' ⟨rfl, rfl⟩)
          | (go_at_call 22; refine (via_told (And.left (b := _) (by assumption)) (one_told cap7 (q7.ints.below (Nat.le_refl _) (And.left (b := _) (by assumption))) hs9)).mono ?_; rintro e w2 ⟨⟨a9, cap9, rfl, i9, b9⟩, hbn⟩; obtain ⟨cc, ff⟩ := bcell b9))
      all_goals go_wp2
      all_goals
        go_meet
        case rel =>
          first
            | exact ⟨w2.heap.size, a9, cap9, rfl, rfl, Pic.new cap9 (i9.mono (Nat.zero_le _)), And.left (b := _) (by assumption)⟩
            | (have k0 : w2.cell? ⟨wX8.heap.size, 0, none⟩ = some (.int .i64 0) := (by rw [cc _ _ (by simp)]; simp [go_sem])
               have k1 : w2.cell? ⟨wX8.heap.size, 1, none⟩ = some (.int .i64 0) := (by rw [cc _ _ (by simp)]; simp [go_sem])
               have k2 : w2.cell? ⟨wX8.heap.size, 2, none⟩ = some (.slice none 0 0) := (by rw [cc _ _ (by simp)]; simp [go_sem])
               have hs : wX8.heap.size < w2.heap.size := (by have := b9.size; simp at this; omega)
               have i9' : Ints (wX8.heap.size + 1) w2 a9 p7.length p7 := (by simpa using i9)
               exact ⟨wX8.heap.size, a9, cap9, rfl, rfl, wx_pic cap9 hs k0 k1 k2 i9', And.left (b := _) (by assumption)⟩)
    case rest =>
    obtain ⟨n9, a9, cap9, rfl, rfl, q9, bc⟩ := hcut
    replace q7 := q7.below bc
    replace q8 := q8.below bc
    replace hb := below_step hb bc
    clear bc hs9
    go_wp2_with fail
    refine (imageBegun_any _).mono ?_
    rintro e wK ⟨rfl, bK⟩
    replace q7 := q7.below bK
    replace q8 := q8.below bK
    replace q9 := q9.below bK
    replace hb := below_step hb bK
    obtain ⟨_, x0, x1, x2, _⟩ := id q7
    obtain ⟨_, y0, y1, y2, _⟩ := id q8
    go_wp2_with fail
    refine (sameImages_any W7 H7 W7 H7 cap8 cap7 q8.ints q7.ints).mono ?_
    rintro e wL ⟨rfl, bL⟩
    clear x0 x1 x2 y0 y1 y2
    replace q7 := q7.below bL
    replace q9 := q9.below bL
    replace hb := below_step hb bL
    obtain ⟨_, x0, x1, x2, _⟩ := id q7
    obtain ⟨_, y0, y1, y2, _⟩ := id q9
    go_wp2_with fail
    refine (sameImages_any W7 H7 W7 H7 cap9 cap7 q9.ints q7.ints).mono ?_
    rintro e wM ⟨rfl, bM⟩
    go_wp2
    go_ret
    exact ⟨rfl, below_step hb bM⟩
  · have g7 : (E7 != 0) = true := by simpa using h7
    clear h7 S7
    go_wp2_with fail
    refine (imageBegun_any _).mono ?_
    rintro e wY ⟨rfl, bY⟩
    go_wp2
    go_ret
    exact ⟨rfl, below_step hb bY⟩
end Go.Proofs.Ytfpkiimlaepnhaa
