/- RefCheck, PassRef3, SizeRef, RefCheck2: joined, in this order. -/
import Derived.Test.YtfpkiimlaepnhaaM31
import Derived.Test.YtfpkiimlaepnhaaM36
import Derived.Test.YtfpkiimlaepnhaaM26
import Derived.Test.YtfpkiimlaepnhaaM44
import Derived.Test.YtfpkiimlaepnhaaM12
import Derived.Test.YtfpkiimlaepnhaaM18
import Derived.Deep.RegionHeld3
import Derived.Test.YtfpkiimlaepnhaaM07
/-
  REFCHECK: the reference's CheckFrame, of a frame whose bounds are not right; the sizes by slots in memory.
-/
namespace Go.Proofs.Ytfpkiimlaepnhaa
set_option maxRecDepth 100000
open Go.RowKit Im

/-- The sizes by slots lie in a block of their own. -/
structure In (w : World) (b : Nat) (S : Nat) (g : Int → Sz) : Prop where
  lt : b < w.heap.size
  cells : ∀ m : Nat, m < S → w.cell? ⟨b, 0 + m * 2, none⟩ = some (.int .i64 (g m).1) ∧ w.cell? ⟨b, 0 + m * 2 + 1, none⟩ = some (.int .i64 (g m).2)
  froz : ∀ o, w.frozen? ⟨b, o, none⟩ = false
theorem In.below {w w' : World} {b S B : Nat} {g : Int → Sz} (h : In w b S g) (hb : Below B w w') (hB : b < B) (hs : w.heap.size ≤ w'.heap.size) : In w' b S g :=
  ⟨Nat.lt_of_lt_of_le h.lt hs, fun m hm => ⟨(hb.cell (p := ⟨b, 0 + m * 2, none⟩) hB).trans (h.cells m hm).1, (hb.cell (p := ⟨b, 0 + m * 2 + 1, none⟩) hB).trans (h.cells m hm).2⟩, fun o => (hb.frozen (p := ⟨b, o, none⟩) hB).trans (h.froz o)⟩
theorem In.put {w : World} {b S : Nat} {g g' : Int → Sz} (h : In w b S g) (m : Nat) (z : Sz) (hm : m < S) (hg : ∀ j : Nat, g' j = if (m : Int) = j then z else g j) : In ((w.setCell ⟨b, 0 + m * 2, none⟩ (.int .i64 z.1)).setCell ⟨b, 0 + m * 2 + 1, none⟩ (.int .i64 z.2)) b S g' := by
  refine ⟨by simpa using h.lt, fun j hj => ?_, fun o => by simpa using h.froz o⟩
  rw [hg j]
  by_cases e : m = j
  · subst e
    rw [if_pos rfl]
    exact ⟨(set_other _ (fun e => by injection e with e1 e2; omega)).trans (set_same (h.cells m hm).1), set_same ((set_other _ (fun e => by injection e with e1 e2; omega)).trans (h.cells m hm).2)⟩
  · rw [if_neg (by omega)]
    refine ⟨?_, ?_⟩
    · rw [set_other _ (fun e => by injection e with e1 e2; omega), set_other _ (fun e => by injection e with e1 e2; omega)]; exact (h.cells j hj).1
    · rw [set_other _ (fun e => by injection e with e1 e2; omega), set_other _ (fun e => by injection e with e1 e2; omega)]; exact (h.cells j hj).2
set_option maxHeartbeats 2000000 in
/-- The reference's CheckFrame, of a frame whose bounds are not right. -/
theorem checkFrame_bounds (W H S O : Int) (a : Option Addr) (len cap : Nat) (ps : List Ps) (w : World) (hp : Passes w a len ps) (hE : boundsE ⟨W, H, S, O, ps⟩ ≠ 0) :
    Calls Try.prog 41 #[.agg #[.int .i64 W, .int .i64 H, .int .i64 S, .int .i64 O, .slice a len cap]] w (ToldFZ w ⟨W, H, S, O, ps⟩) := by
  have hB := FBox.new w W H S O a len cap
  have hb0 := below_box (Below.refl w.heap.size w) (.cells #[.int .i64 W, .int .i64 H, .int .i64 S, .int .i64 O, .slice a len cap] 63)
  have hf : frameE ⟨W, H, S, O, ps⟩ = boundsE ⟨W, H, S, O, ps⟩ := by unfold frameE; rw [if_neg hE]
  have hlen := hp.leng
  have hbig := hp.big
  have hno : ∀ {E : Int} {e : Ending} {w' : World}, frameE ⟨W, H, S, O, ps⟩ = E → E ≠ 0 → e = .returned (.tuple #[.slice none 0 0, .int .i64 E]) → Below w.heap.size w w' → ToldFZ w ⟨W, H, S, O, ps⟩ e w' := by
    intro E e w' h1 h2 h3 h4
    refine ⟨⟨.slice none 0 0, by rw [h1]; exact h3, ?_⟩, h4⟩
    rw [h1, if_neg h2]
    exact World.ownsRow_nil _ _ _ _
  obtain ⟨_, g0, g1, g2, g3, g4⟩ := hB
  by_cases hc : sideB W = true ∧ sideB H = true ∧ withinB S 1 8 = true ∧ slotB O S = true
  · have hd : ¬ withinB ps.length 1 12 = true := by
      intro hd
      apply hE
      unfold boundsE
      rw [if_pos hc, if_pos hd]
    have h2 : frameE ⟨W, H, S, O, ps⟩ = 2 := by rw [hf]; unfold boundsE; rw [if_pos hc, if_neg hd]
    have hN : Hid (∀ {e : Ending} {w' : World}, e = .returned (.tuple #[.slice none 0 0, .int .i64 2]) → Below w.heap.size w w' → ToldFZ w ⟨W, H, S, O, ps⟩ e w') := fun h3 h4 => hno h2 (by decide) h3 h4
    obtain ⟨c1, c2, c3, c4⟩ := hc
    have c1' : withinB W 1 16 = true := c1
    have c2' : withinB H 1 16 = true := c2
    have c4' : withinB O 0 (S - 1) = true := c4
    have hS : 1 ≤ S ∧ S ≤ 8 := by simp [withinB] at c3; omega
    have hw : IntKind.i64.wrap (S - 1) = S - 1 := by rw [IntKind.wrap_i64]; omega
    have hd' : withinB len 1 12 = false := by rw [hlen] at hd; exact eq_false_of_ne_true hd
    clear hno hf hE h2 hd c1 c2 c4 hS
    go_enter Try.func41, Try.ntmps41
    go_wp2_with (go_at_call 61; refine (within_any _ _ _ _).mono ?_; rintro e w' ⟨rfl, rfl⟩)
    go_ret2
    exact hN.out rfl hb0
  · have h3 : frameE ⟨W, H, S, O, ps⟩ = 3 := by rw [hf]; unfold boundsE; rw [if_neg hc]
    have hN : Hid (∀ {e : Ending} {w' : World}, e = .returned (.tuple #[.slice none 0 0, .int .i64 3]) → Below w.heap.size w w' → ToldFZ w ⟨W, H, S, O, ps⟩ e w') := fun h4 h5 => hno h3 (by decide) h4 h5
    clear hno hf hE h3
    by_cases c1 : withinB W 1 16 = true
    · by_cases c2 : withinB H 1 16 = true
      · by_cases c3 : withinB S 1 8 = true
        · have hS : 1 ≤ S ∧ S ≤ 8 := by simp [withinB] at c3; omega
          have hw : IntKind.i64.wrap (S - 1) = S - 1 := by rw [IntKind.wrap_i64]; omega
          have c4 : withinB O 0 (S - 1) = false := eq_false_of_ne_true fun c4 => hc ⟨c1, c2, c3, c4⟩
          clear hc hS
          go_enter Try.func41, Try.ntmps41
          go_wp2_with (go_at_call 61; refine (within_any _ _ _ _).mono ?_; rintro e w' ⟨rfl, rfl⟩)
          go_ret2
          exact hN.out rfl hb0
        · have c3' := eq_false_of_ne_true c3
          clear hc c3
          go_enter Try.func41, Try.ntmps41
          go_wp2_with (go_at_call 61; refine (within_any _ _ _ _).mono ?_; rintro e w' ⟨rfl, rfl⟩)
          go_ret2
          exact hN.out rfl hb0
      · have c2' := eq_false_of_ne_true c2
        clear hc c2
        go_enter Try.func41, Try.ntmps41
        go_wp2_with (go_at_call 61; refine (within_any _ _ _ _).mono ?_; rintro e w' ⟨rfl, rfl⟩)
        go_ret2
        exact hN.out rfl hb0
    · have c1' := eq_false_of_ne_true c1
      clear hc c1
      go_enter Try.func41, Try.ntmps41
      go_wp2_with (go_at_call 61; refine (within_any _ _ _ _).mono ?_; rintro e w' ⟨rfl, rfl⟩)
      go_ret2
      exact hN.out rfl hb0
end Go.Proofs.Ytfpkiimlaepnhaa
/-
  PASSREF3: the reference's passError tells refE.
-/
namespace Go.Proofs.Ytfpkiimlaepnhaa
set_option maxRecDepth 100000
open Go.RowKit Im

theorem combos {Op : Int} (hk : knownB Op = true) : (hasA Op = false ∧ hasB Op = false ∧ hasK Op = true ∧ hasL Op = false) ∨ (hasA Op = true ∧ hasB Op = false ∧ hasK Op = false ∧ hasL Op = false) ∨ (hasA Op = true ∧ hasB Op = true ∧ hasK Op = false ∧ hasL Op = false) ∨ (hasA Op = true ∧ hasB Op = false ∧ hasK Op = true ∧ hasL Op = false) ∨ (hasA Op = true ∧ hasB Op = false ∧ hasK Op = true ∧ hasL Op = true) := by
  rcases op_cases hk with rfl | rfl | rfl | rfl | rfl | rfl | rfl | rfl | rfl | rfl | rfl | rfl | rfl <;> decide
theorem own_bad {Op To A B K : Int} {ls : List Lt} {S : Int} (hk : knownB Op = true) : ownE ⟨Op, To, A, B, K, ls⟩ S =
    if bad1 (hasA Op) (hasB Op) (slotB To S) (slotB A S) (slotB B S) (if hasK Op = true then kB Op K else true) = true then 3
    else if hasL Op = true ∧ lightsErr ls ≠ 0 then lightsErr ls
    else if bad2 (hasA Op) (hasB Op) (hasK Op) (hasL Op) To A B K ls.length = true then 1 else 0 := by
  have c := combos hk
  unfold ownE
  dsimp only
  rw [if_pos hk]
  have e1 : (bad1 (hasA Op) (hasB Op) (slotB To S) (slotB A S) (slotB B S) (if hasK Op = true then kB Op K else true) = true) ↔ ¬ (slotsB ⟨Op, To, A, B, K, ls⟩ S = true ∧ (hasK Op = true → kB Op K = true)) := by
    unfold bad1 slotsB takesP
    dsimp only
    generalize slotB To S = b1
    generalize hA : slotB A S = b2
    generalize hB : slotB B S = b3
    generalize kB Op K = b4
    rcases c with ⟨c1, c2, c3, _⟩ | ⟨c1, c2, c3, _⟩ | ⟨c1, c2, c3, _⟩ | ⟨c1, c2, c3, _⟩ | ⟨c1, c2, c3, _⟩
    all_goals
      rw [c1, c2, c3]
      cases b1 <;> cases b2 <;> cases b3 <;> cases b4 <;> simp [hA, hB]
  have e2 : (bad2 (hasA Op) (hasB Op) (hasK Op) (hasL Op) To A B K ls.length = true) ↔ ¬ (bareB ⟨Op, To, A, B, K, ls⟩ = true ∧ ownB ⟨Op, To, A, B, K, ls⟩ = false) := by
    unfold bad2 bareB ownB takesP
    dsimp only
    rcases c with ⟨c1, c2, c3, c4⟩ | ⟨c1, c2, c3, c4⟩ | ⟨c1, c2, c3, c4⟩ | ⟨c1, c2, c3, c4⟩ | ⟨c1, c2, c3, c4⟩
    all_goals
      rw [c1, c2, c3, c4]
      by_cases a1 : A = 0 <;> by_cases a2 : B = 0 <;> by_cases a3 : K = 0 <;> by_cases a4 : ls.length = 0 <;> by_cases a5 : A = To <;> by_cases a6 : B = To <;> simp [a1, a2, a3, a4, a5, a6] <;> omega
  by_cases h1 : slotsB ⟨Op, To, A, B, K, ls⟩ S = true ∧ (hasK Op = true → kB Op K = true)
  · rw [if_pos h1, if_neg (fun h => e1.1 h h1)]
    by_cases h2 : hasL Op = true ∧ lightsErr ls ≠ 0
    · rw [if_pos h2, if_pos h2]
    · rw [if_neg h2, if_neg h2]
      by_cases h3 : bareB ⟨Op, To, A, B, K, ls⟩ = true ∧ ownB ⟨Op, To, A, B, K, ls⟩ = false
      · rw [if_pos h3, if_neg (fun h => e2.1 h h3)]
      · rw [if_neg h3, if_pos (e2.2 h3)]
  · rw [if_neg h1, if_pos (e1.2 h1)]
theorem core_ref {Op To A B K : Int} {ls : List Lt} {S : Int} {zA zB : Sz} (hk : knownB Op = true) : coreE (hasA Op) (hasB Op) (hasK Op) (hasL Op) (slotB To S) (slotB A S) (slotB B S) (if hasK Op = true then kB Op K else true) Op To A B K ls.length (lightsErr ls) zA zB = refE ⟨Op, To, A, B, K, ls⟩ S zA zB := by
  unfold coreE refE
  rw [own_bad hk]
  dsimp only
  generalize bad1 (hasA Op) (hasB Op) (slotB To S) (slotB A S) (slotB B S) (if hasK Op = true then kB Op K else true) = x1
  generalize bad2 (hasA Op) (hasB Op) (hasK Op) (hasL Op) To A B K ls.length = x2
  have e3 : (bad3 (hasA Op) (hasB Op) zA zB = true) ↔ (hasA Op = true ∧ zA.1 = 0) ∨ (hasB Op = true ∧ zB.1 = 0) := by simp [bad3]
  have e4 : (bad4 (hasB Op) zA zB = true) ↔ (hasB Op = true ∧ zA ≠ zB) := by simp [bad4]
  have e5 : (bad5 Op zA = true) ↔ ((Op = 11 ∧ (zA.1 % 2 = 1 ∨ zA.2 % 2 = 1)) ∨ (Op = 12 ∧ (16 < 2 * zA.1 ∨ 16 < 2 * zA.2))) := by simp [bad5]
  simp only [e3, e4, e5]
  cases x1
  · simp only [Bool.false_eq_true, if_false]
    by_cases h2 : hasL Op = true ∧ lightsErr ls ≠ 0
    · rw [if_pos h2, if_pos h2, if_neg h2.2]
    · rw [if_neg h2, if_neg h2]
      cases x2
      · simp only [Bool.false_eq_true, if_false, if_true]
      · simp only [if_true]; rw [if_neg (by decide)]
  · simp
/-- The reference's passError. -/
theorem passErr_any (W H S O : Int) (fa : Option Addr) (flen fcap : Nat) (Op To A B K : Int) (la : Option Addr) (ll lc : Nat) (ls : List Lt) (b N ic : Nat) (g : Int → Sz) (w : World) (hS : 1 ≤ S ∧ S ≤ 8) (hN : (N : Int) = S) (hL : Lights w la ll ls) (hI : In w b N g) (hg : ∀ s, (0 ≤ (g s).1 ∧ (g s).1 ≤ 16) ∧ (0 ≤ (g s).2 ∧ (g s).2 ≤ 16)) :
    Calls Try.prog 84 #[.agg #[.int .i64 W, .int .i64 H, .int .i64 S, .int .i64 O, .slice fa flen fcap], .agg #[.int .i64 Op, .int .i64 To, .int .i64 A, .int .i64 B, .int .i64 K, .slice la ll lc], .slice (some ⟨b, 0, none⟩) N ic] w fun e w' => e = .returned (.int .i64 (refE ⟨Op, To, A, B, K, ls⟩ S (g A) (g B))) ∧ Below w.heap.size w w' := by
  by_cases hk : knownB Op = true
  · have hll := hL.leng
    have hsl : ∀ s : Int, slotB s S = true → ∃ m : Nat, s = m ∧ (m : Int) < N ∧ w.cell? ⟨b, 0 + m * 2, none⟩ = some (.int .i64 (g s).1) ∧ w.cell? ⟨b, 0 + m * 2 + 1, none⟩ = some (.int .i64 (g s).2) := by
      intro s h
      have h' : 0 ≤ s ∧ s < S := by simp [slotB, withinB] at h; omega
      obtain ⟨m, rfl⟩ := Int.eq_ofNat_of_zero_le h'.1
      have := hI.cells m (by omega)
      exact ⟨m, rfl, by omega, this.1, this.2⟩
    have := passErr_core W H S O fa flen fcap Op To A B K la ll lc b 0 N ic (hasA Op) (hasB Op) (hasK Op) (hasL Op) (slotB To S) (slotB A S) (slotB B S) (if hasK Op = true then kB Op K else true) (lightsErr ls) (g A) (g B) w hk hI.lt (combos hk) (fun wx => has_any Op wx)
      (fun wx bx h => slot_any W H S O fa flen fcap wx bx To h hS) (fun wx bx h => slot_any W H S O fa flen fcap wx bx A h hS) (fun wx bx h => slot_any W H S O fa flen fcap wx bx B h hS)
      (fun wx => kFine_any Op To A B K la ll lc wx) (fun wx hb => checkR_any lc (hL.below hb)) (hsl A)
      (fun h => by rcases h with rfl | rfl <;> rfl) (hg A) (hsl B)
    rw [← hll, core_ref hk] at this
    rw [← hll]
    exact this
  · have hk' := eq_false_of_ne_true hk
    have e : refE ⟨Op, To, A, B, K, ls⟩ S (g A) (g B) = 4 := by unfold refE ownE; simp [hk']
    rw [e]
    exact passErr_kind W H S O fa flen fcap Op To A B K la ll lc _ N ic w hk'
end Go.Proofs.Ytfpkiimlaepnhaa
/-
  SIZEREF: the reference's sizeOf: how great what a pass makes is.
-/
namespace Go.Proofs.Ytfpkiimlaepnhaa
set_option maxRecDepth 100000
open Go.RowKit Im

set_option maxHeartbeats 1000000 in
theorem refSize_new (Op : Int) (hA : hasA Op = false) (W H S O : Int) (fa : Option Addr) (flen fcap : Nat) (To A B K : Int) (la : Option Addr) (ll lc : Nat) (ia : Option Addr) (il ic : Nat) (w : World) :
    Calls Try.prog 85 #[.agg #[.int .i64 W, .int .i64 H, .int .i64 S, .int .i64 O, .slice fa flen fcap], .agg #[.int .i64 Op, .int .i64 To, .int .i64 A, .int .i64 B, .int .i64 K, .slice la ll lc], .slice ia il ic] w fun e w' => e = .returned (.agg #[.int .i64 W, .int .i64 H]) ∧ Below w.heap.size w w' := by
  have hh := fun wx => has_any Op wx
  rw [hA] at hh
  go_enter Try.func85, Try.ntmps85
  go_wp2_with (go_at_call 86; refine (hh _).mono ?_; rintro e w' ⟨rfl, rfl⟩)
  exact bodyPost_ret (by simp [results, Try.results85, go_sem]) rfl ⟨rfl, below_box (below_box (below_box (Below.refl _ _) _) _) _⟩
set_option maxHeartbeats 1000000 in
theorem refSize_of (Op : Int) (hA : hasA Op = true) (W H S O : Int) (fa : Option Addr) (flen fcap : Nat) (To : Int) (m : Nat) (B K : Int) (la : Option Addr) (ll lc : Nat) (b off il ic : Nat) (zw zh u v : Int) (w : World) (hb : b < w.heap.size) (hm : (m : Int) < (il : Int))
    (d0 : w.cell? ⟨b, off + m * 2, none⟩ = some (.int .i64 zw)) (d1 : w.cell? ⟨b, off + m * 2 + 1, none⟩ = some (.int .i64 zh))
    (hone : ∀ wx, Calls Try.prog 66 #[.int .i64 Op, .int .i64 zw, .int .i64 zh] wx fun e w' => e = .returned (.tuple #[.int .i64 u, .int .i64 v]) ∧ wx = w') :
    Calls Try.prog 85 #[.agg #[.int .i64 W, .int .i64 H, .int .i64 S, .int .i64 O, .slice fa flen fcap], .agg #[.int .i64 Op, .int .i64 To, .int .i64 m, .int .i64 B, .int .i64 K, .slice la ll lc], .slice (some ⟨b, off, none⟩) il ic] w fun e w' => e = .returned (.agg #[.int .i64 u, .int .i64 v]) ∧ Below w.heap.size w w' := by
  have hh := fun wx => has_any Op wx
  rw [hA] at hh
  have e0 := sz_cells W H S O fa flen fcap Op To m B K la ll lc 0 0 hb d0
  have e1 := sz_cells W H S O fa flen fcap Op To m B K la ll lc 0 0 hb d1
  have hP := ((PBox.new (w.alloc (.cells #[.int .i64 W, .int .i64 H, .int .i64 S, .int .i64 O, .slice fa flen fcap] 63)) Op To m B K la ll lc).alloc (.cells #[.int .i64 0, .int .i64 0] 72))
  rw [World.size_alloc] at hP
  obtain ⟨_, p0, p1, p2, p3, p4, p5⟩ := hP
  go_enter Try.func85, Try.ntmps85
  go_wp2_with (go_at_call 86; refine (hh _).mono ?_; rintro e w' ⟨rfl, rfl⟩)
  clear hh
  go_region_held3 (fun w' => w'.cell? ⟨b, off + m * 2, none⟩ = some (.int .i64 zw) ∧ w'.cell? ⟨b, off + m * 2 + 1, none⟩ = some (.int .i64 zh) ∧ w'.cell? ⟨w.heap.size + 1, 0, none⟩ = some (.int .i64 Op) ∧ w'.cell? ⟨w.heap.size + 1, 2, none⟩ = some (.int .i64 m))
    (exact ⟨e0, e1, p0, p2⟩)
    ((go_at_call 66; refine (hone _).mono ?_; rintro e w' ⟨rfl, rfl⟩))
  all_goals go_wp2
  all_goals exact bodyPost_ret (by simp [results, Try.results85, go_sem]) rfl ⟨rfl, (sz_below w _ _ _).drew⟩
end Go.Proofs.Ytfpkiimlaepnhaa
/-
  REFCHECK2: the reference's sizeOf, at a pass of a frame; how its sizes by slots begin.
-/
namespace Go.Proofs.Ytfpkiimlaepnhaa
set_option maxRecDepth 100000
open Go.RowKit Im

theorem In.made {w : World} {base b N cap : Nat} (h : w.ownsRow base 72 2 (.slice (some ⟨b, 0, none⟩) N cap) N (madeCells (Value.agg #[.int .i64 0, .int .i64 0]).cells (N * 2)).toList) (hb : b < w.heap.size) : In w b N (fun _ => (0, 0)) := by
  have hc : ∀ j, j < N * 2 → w.cell? ⟨b, j, none⟩ = some (.int .i64 0) := by
    intro j hj
    rw [World.ownsRow.cellAt h j hj]
    have e : (Value.agg #[.int .i64 0, .int .i64 0]).cells = #[.int .i64 0, .int .i64 0] := rfl
    rw [e]
    simp only [madeCells, Array.toList_map, Array.toList_range, List.getElem?_map, List.getElem?_range hj, Option.map_some]
    congr 1
    have : j % 2 = 0 ∨ j % 2 = 1 := by omega
    show (#[Value.int .i64 0, Value.int .i64 0] : Array Value)[j % 2]! = _
    rcases this with e | e <;> rw [e] <;> rfl
  exact ⟨hb, fun m hm => ⟨hc _ (by omega), hc _ (by omega)⟩, fun o => World.ownsRow.frozenAt h o⟩
theorem sizeP_ref {f : Fr} {k : Nat} {Op To A B K : Int} {ls : List Lt} (hpk : f.ps.getD k Ps.zero = ⟨Op, To, A, B, K, ls⟩) (hE : passE f k = 0) (hA : hasA Op = true) : 0 ≤ wrt f.ps k A ∧ (pickZ (szs f k) (srcOf f.ps k)).getD 0 Sz.zero = inP f k A := by
  obtain ⟨h1, h2, h3⟩ := passE_zero hE
  obtain ⟨r, hr⟩ := takes_pos (p := ⟨Op, To, A, B, K, ls⟩) hA
  have hs : srcOf f.ps k = wrt f.ps k A :: r.map (wrt f.ps k) := by unfold srcOf; rw [hpk, hr]; rfl
  have hw : 0 ≤ wrt f.ps k A := (src_bd h2 _ (by rw [hs]; simp)).1
  refine ⟨hw, ?_⟩
  rw [hs]
  unfold inP
  rw [if_pos hw]
  rfl
theorem refSize_any {f : Fr} {k : Nat} {Op To A B K : Int} {ls : List Lt} (hpk : f.ps.getD k Ps.zero = ⟨Op, To, A, B, K, ls⟩) (hb : boundsE f = 0) (hfirst : firstE f k = 0) (hE : passE f k = 0) (fa : Option Addr) (flen fcap : Nat) (la : Option Addr) (ll lc : Nat) {b N ic : Nat} {w : World} (hN : (N : Int) = f.S) (hI : In w b N (inP f k)) :
    Calls Try.prog 85 #[.agg #[.int .i64 f.W, .int .i64 f.H, .int .i64 f.S, .int .i64 f.O, .slice fa flen fcap], .agg #[.int .i64 Op, .int .i64 To, .int .i64 A, .int .i64 B, .int .i64 K, .slice la ll lc], .slice (some ⟨b, 0, none⟩) N ic] w fun e w' => e = .returned (.agg #[.int .i64 (sizeP f.W f.H Op (pickZ (szs f k) (srcOf f.ps k))).1, .int .i64 (sizeP f.W f.H Op (pickZ (szs f k) (srcOf f.ps k))).2]) ∧ Below w.heap.size w w' := by
  obtain ⟨o1, o2, o3⟩ := passE_zero hE
  rw [hpk] at o1
  obtain ⟨hkn, hsl, _⟩ := ownE_zero o1
  dsimp only at hkn
  by_cases hA : hasA Op = true
  · obtain ⟨hw, h0⟩ := sizeP_ref hpk hE hA
    have hz := inP_some hb hfirst hw
    have hAs : 0 ≤ A ∧ A < f.S := by
      obtain ⟨r, hr⟩ := takes_pos (p := ⟨Op, To, A, B, K, ls⟩) hA
      unfold slotsB at hsl
      rw [hr] at hsl
      simp [slotB, withinB] at hsl
      omega
    obtain ⟨m, rfl⟩ := Int.eq_ofNat_of_zero_le hAs.1
    have n12 : ¬ (Op = 1 ∨ Op = 2) := by rintro (rfl | rfl) <;> cases hA
    have hc := hI.cells m (by omega)
    generalize inP f k (m : Int) = z at *
    obtain ⟨zw, zh⟩ := z
    obtain ⟨⟨z1, z2⟩, ⟨z3, z4⟩⟩ := hz
    dsimp only at z1 z2 z3 z4
    obtain ⟨zw, rfl⟩ := Int.eq_ofNat_of_zero_le (show 0 ≤ zw by omega)
    obtain ⟨zh, rfl⟩ := Int.eq_ofNat_of_zero_le (show 0 ≤ zh by omega)
    have e : sizeP f.W f.H Op (pickZ (szs f k) (srcOf f.ps k)) = (((oneN Op zw : Nat) : Int), ((oneN Op zh : Nat) : Int)) := by
      unfold sizeP oneN
      rw [if_neg n12, h0]
      by_cases h11 : Op = 11
      · rw [if_pos h11, if_pos h11, if_pos h11]; simp
      · rw [if_neg h11, if_neg h11, if_neg h11]
        by_cases h12 : Op = 12
        · rw [if_pos h12, if_pos h12, if_pos h12]; simp
        · rw [if_neg h12, if_neg h12, if_neg h12]
    rw [e]
    exact refSize_of Op hA f.W f.H f.S f.O fa flen fcap To m B K la ll lc b 0 N ic zw zh _ _ w hI.lt (by omega) hc.1 hc.2 (fun wx => oneSize_any Op zw zh wx (by omega) (by omega))
  · have hA' := eq_false_of_ne_true hA
    have n12 : Op = 1 ∨ Op = 2 := by simp [knownB, withinB] at hkn; simp [hasA, withinB] at hA; omega
    have e : sizeP f.W f.H Op (pickZ (szs f k) (srcOf f.ps k)) = (f.W, f.H) := by unfold sizeP; rw [if_pos n12]
    rw [e]
    exact refSize_new Op hA' f.W f.H f.S f.O fa flen fcap To A B K la ll lc _ N ic w
theorem inP_bd {f : Fr} {k : Nat} (hb : boundsE f = 0) (hfirst : firstE f k = 0) (s : Int) : (0 ≤ (inP f k s).1 ∧ (inP f k s).1 ≤ 16) ∧ (0 ≤ (inP f k s).2 ∧ (inP f k s).2 ≤ 16) := by
  by_cases hw : 0 ≤ wrt f.ps k s
  · obtain ⟨h1, h2⟩ := inP_some hb hfirst hw
    exact ⟨⟨by omega, h1.2⟩, ⟨by omega, h2.2⟩⟩
  · rw [inP_none hw]; simp
end Go.Proofs.Ytfpkiimlaepnhaa
