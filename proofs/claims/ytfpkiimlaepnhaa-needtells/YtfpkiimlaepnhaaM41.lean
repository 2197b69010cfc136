/-
  CULL: need.Cull.
-/
import Derived.Test.YtfpkiimlaepnhaaM37
import Derived.Test.YtfpkiimlaepnhaaM40
namespace Go.Proofs.Ytfpkiimlaepnhaa
set_option maxRecDepth 100000
open Go.RowKit Im

/-- The passes that are marked, of the first k. -/
def cullP (ps : List Ps) (g : Nat → Bool) : Nat → List Ps
  | 0 => []
  | k + 1 => cullP ps g k ++ (if g k = true then [ps.getD k Ps.zero] else [])
theorem cullP_le (ps : List Ps) (g : Nat → Bool) (k : Nat) : (cullP ps g k).length ≤ k := by
  induction k with
  | zero => simp [cullP]
  | succ k ih =>
    show (cullP ps g k ++ (if g k = true then [ps.getD k Ps.zero] else [])).length ≤ k + 1
    split <;> simp <;> omega
/-- The passes of a frame that are needed. -/
def culled (f : Fr) : List Ps := cullP f.ps (keptG f.ps f.ps.length (shownP f) f.ps.length) f.ps.length
/-- What need.Cull tells. -/
def ToldCull (w : World) (f : Fr) (e : Ending) (w' : World) : Prop :=
  ((frameE f = 0 ∧ ∃ a cap, e = .returned (.tuple #[.agg #[.int .i64 f.W, .int .i64 f.H, .int .i64 f.S, .int .i64 f.O, .slice a (culled f).length cap], .int .i64 0]) ∧ Passes w' a (culled f).length (culled f)) ∨
   (frameE f ≠ 0 ∧ e = .returned (.tuple #[.agg #[.int .i64 0, .int .i64 0, .int .i64 0, .int .i64 0, .slice none 0 0], .int .i64 (frameE f)]))) ∧ Below w.heap.size w w'
/-- A frame that is nothing, in a block of its own, that may be written. -/
structure ZBox (w : World) (b : Nat) : Prop where
  lt : b < w.heap.size
  c0 : w.cell? ⟨b, 0, none⟩ = some (.int .i64 0)
  c1 : w.cell? ⟨b, 1, none⟩ = some (.int .i64 0)
  c2 : w.cell? ⟨b, 2, none⟩ = some (.int .i64 0)
  c3 : w.cell? ⟨b, 3, none⟩ = some (.int .i64 0)
  c4 : w.cell? ⟨b, 4, none⟩ = some (.slice none 0 0)
  fz : ∀ o, w.frozen? ⟨b, o, none⟩ = false
theorem frozen_new (w : World) (cs : Array Value) (t : TypeId) (o : Nat) : (w.alloc (.cells cs t)).frozen? ⟨w.heap.size, o, none⟩ = false := by
  have k0 : (w.alloc (.cells cs t)).heap[w.heap.size]? = some (.cells cs t (0, 0)) := (MapKept.heap_alloc w _).1
  unfold World.frozen?
  rw [k0]; simp
theorem ZBox.new (w : World) : ZBox (w.alloc (.cells #[.int .i64 0, .int .i64 0, .int .i64 0, .int .i64 0, .slice none 0 0] 63)) w.heap.size :=
  ⟨by simp, by simp [go_sem], by simp [go_sem], by simp [go_sem], by simp [go_sem], by simp [go_sem], fun o => frozen_new w _ _ o⟩
theorem ZBox.below {w w' : World} {b B : Nat} (h : ZBox w b) (hb : Below B w w') (hB : b < B) (hs : w.heap.size ≤ w'.heap.size) : ZBox w' b :=
  ⟨Nat.lt_of_lt_of_le h.lt hs, (hb.cell (p := ⟨b, 0, none⟩) hB).trans h.c0, (hb.cell (p := ⟨b, 1, none⟩) hB).trans h.c1, (hb.cell (p := ⟨b, 2, none⟩) hB).trans h.c2, (hb.cell (p := ⟨b, 3, none⟩) hB).trans h.c3, (hb.cell (p := ⟨b, 4, none⟩) hB).trans h.c4, fun o => (hb.frozen (p := ⟨b, o, none⟩) hB).trans (h.fz o)⟩
set_option maxHeartbeats 1000000 in
theorem cull_err (W H S O : Int) (a : Option Addr) (len cap : Nat) (ps : List Ps) (w : World) (hp : Passes w a len ps) (hE : frameE ⟨W, H, S, O, ps⟩ ≠ 0) :
    Calls Try.prog 49 #[.agg #[.int .i64 W, .int .i64 H, .int .i64 S, .int .i64 O, .slice a len cap]] w (ToldCull w ⟨W, H, S, O, ps⟩) := by
  have hb0 := below_box (below_box (Below.refl w.heap.size w) (.cells #[.int .i64 W, .int .i64 H, .int .i64 S, .int .i64 O, .slice a len cap] 63)) (.cells #[.int .i64 0, .int .i64 0, .int .i64 0, .int .i64 0, .slice none 0 0] 63)
  have hz := ZBox.new (w.alloc (.cells #[.int .i64 W, .int .i64 H, .int .i64 S, .int .i64 O, .slice a len cap] 63))
  rw [World.size_alloc] at hz
  have hke := kept_any W H S O a len cap ps _ (hp.below hb0)
  go_enter Try.func49, Try.ntmps49
  go_wp2_with fail
  refine hke.mono ?_
  clear hke
  rintro e w1 ⟨⟨h0, _⟩ | ⟨_, rfl⟩, b1⟩
  · exact absurd h0 hE
  · obtain ⟨_, c0, c1, c2, c3, c4, fz⟩ := hz.below b1 hz.lt b1.size
    have f0 := fz 0
    have f1 := fz 1
    have f2 := fz 2
    have f3 := fz 3
    have f4 := fz 4
    have hb1 := below_step hb0 b1
    clear fz hz hb0 b1
    go_wp2
    refine bodyPost_ret (v := .tuple #[.agg #[.int .i64 0, .int .i64 0, .int .i64 0, .int .i64 0, .slice none 0 0], .int .i64 (frameE ⟨W, H, S, O, ps⟩)]) (by simp [results, Try.results49, go_sem, c0, c1, c2, c3, c4]) rfl ?_
    exact ⟨.inr ⟨hE, rfl⟩, ((((hb1.setCell (by simp) _).setCell (by simp) _).setCell (by simp) _).setCell (by simp) _).setCell (by simp) _⟩
theorem lights_cells {w : World} {b off : Nat} {ls : List Lt} (h : ∀ j, j < ls.length → w.cell? ⟨b, off + j * 4, none⟩ = some (.int .i64 (ls.getD j Lt.zero).X) ∧ w.cell? ⟨b, off + j * 4 + 1, none⟩ = some (.int .i64 (ls.getD j Lt.zero).Y) ∧ w.cell? ⟨b, off + j * 4 + 2, none⟩ = some (.int .i64 (ls.getD j Lt.zero).R) ∧ w.cell? ⟨b, off + j * 4 + 3, none⟩ = some (.int .i64 (ls.getD j Lt.zero).P)) :
    ∀ (j : Nat) (u : Value), (lcells ls)[j]? = some u → w.cell? ((⟨b, off, none⟩ : Addr).add j) = some u := by
  intro j u hu
  have hl := lcells_len ls
  have hj : j < (lcells ls).length := by
    rcases Nat.lt_or_ge j (lcells ls).length with h' | h'
    · exact h'
    · rw [List.getElem?_eq_none h'] at hu; cases hu
  have hq : j / 4 < ls.length := by omega
  obtain ⟨c0, c1, c2, c3⟩ := h (j / 4) hq
  obtain ⟨g0, g1, g2, g3⟩ := lcells_get ls (j / 4) hq
  have ea : (⟨b, off, none⟩ : Addr).add j = ⟨b, off + j, none⟩ := by simp [Addr.add]
  rw [ea]
  clear ea
  have : j % 4 = 0 ∨ j % 4 = 1 ∨ j % 4 = 2 ∨ j % 4 = 3 := by omega
  rcases this with e | e | e | e
  · rw [show j = j / 4 * 4 by omega] at hu ⊢; rw [g0] at hu; rw [← hu]; exact c0
  · rw [show j = j / 4 * 4 + 1 by omega] at hu ⊢; rw [g1] at hu; rw [← hu, ← Nat.add_assoc]; exact c1
  · rw [show j = j / 4 * 4 + 2 by omega] at hu ⊢; rw [g2] at hu; rw [← hu, ← Nat.add_assoc]; exact c2
  · rw [show j = j / 4 * 4 + 3 by omega] at hu ⊢; rw [g3] at hu; rw [← hu, ← Nat.add_assoc]; exact c3
theorem lcells_one (ls : List Lt) : ∀ u ∈ lcells ls, u.oneCell' = true := by
  induction ls with
  | nil => intro u hu; cases hu
  | cons l ls ih =>
    intro u hu
    simp only [lcells, List.mem_cons] at hu
    rcases hu with rfl | rfl | rfl | rfl | hu
    · rfl
    · rfl
    · rfl
    · rfl
    · exact ih u hu
theorem few_lights {f : Fr} {k : Nat} (hE : frameE f = 0) (hk : k < f.ps.length) : (f.ps.getD k Ps.zero).ls.length ≤ 8 := by
  obtain ⟨_, hfirst, _⟩ := frameE_zero hE
  have hfk := firstE_down f hfirst (k := k) (by omega)
  have hpE : passE f k = 0 := (firstE_at f hfk).symm.trans (firstE_down f hfirst (k := k + 1) (by omega))
  obtain ⟨o1, _⟩ := passE_zero hpE
  obtain ⟨_, _, _, hl, hbare, _⟩ := ownE_zero o1
  generalize f.ps.getD k Ps.zero = p at *
  by_cases h : hasL p.Op = true
  · exact (lightsErr_zero (hl h)).1
  · unfold bareB at hbare
    rw [eq_false_of_ne_true h] at hbare
    simp only [Bool.and_eq_true, Bool.false_or, decide_eq_true_eq] at hbare
    omega
/-- The box of a frame whose passes grow. -/
structure GBox (w : World) (b : Nat) (W H S O : Int) (v : Value) : Prop where
  lt : b < w.heap.size
  c0 : w.cell? ⟨b, 0, none⟩ = some (.int .i64 W)
  c1 : w.cell? ⟨b, 1, none⟩ = some (.int .i64 H)
  c2 : w.cell? ⟨b, 2, none⟩ = some (.int .i64 S)
  c3 : w.cell? ⟨b, 3, none⟩ = some (.int .i64 O)
  c4 : w.cell? ⟨b, 4, none⟩ = some v
  fz : ∀ o, w.frozen? ⟨b, o, none⟩ = false
theorem GBox.below {w w' : World} {b B : Nat} {W H S O : Int} {v : Value} (h : GBox w b W H S O v) (hb : Below B w w') (hB : b < B) (hs : w.heap.size ≤ w'.heap.size) : GBox w' b W H S O v :=
  ⟨Nat.lt_of_lt_of_le h.lt hs, (hb.cell (p := ⟨b, 0, none⟩) hB).trans h.c0, (hb.cell (p := ⟨b, 1, none⟩) hB).trans h.c1, (hb.cell (p := ⟨b, 2, none⟩) hB).trans h.c2, (hb.cell (p := ⟨b, 3, none⟩) hB).trans h.c3, (hb.cell (p := ⟨b, 4, none⟩) hB).trans h.c4, fun o => (hb.frozen (p := ⟨b, o, none⟩) hB).trans (h.fz o)⟩
theorem GBox.grown {w w' : World} {b : Nat} {W H S O : Int} {v : Value} {row : Option Nat} (h : GBox w b W H S O v) (hg : w.grownBy w' row) (hne : some b ≠ row) : GBox w' b W H S O v :=
  ⟨Nat.lt_of_lt_of_le h.lt hg.size, (grown_cell hg h.lt hne 0).1.trans h.c0, (grown_cell hg h.lt hne 1).1.trans h.c1, (grown_cell hg h.lt hne 2).1.trans h.c2, (grown_cell hg h.lt hne 3).1.trans h.c3, (grown_cell hg h.lt hne 4).1.trans h.c4, fun o => (grown_cell hg h.lt hne o).2.trans (h.fz o)⟩
theorem GBox.set {w : World} {b : Nat} {W H S O : Int} {v : Value} (h : GBox w b W H S O v) {p : Addr} (hp : p.block ≠ b) (u : Value) : GBox (w.setCell p u) b W H S O v := by
  have hn : ∀ o, p ≠ (⟨b, o, none⟩ : Addr) := fun o e => hp (by rw [e])
  exact ⟨by simpa using h.lt, (set_other _ (hn 0)).trans h.c0, (set_other _ (hn 1)).trans h.c1, (set_other _ (hn 2)).trans h.c2, (set_other _ (hn 3)).trans h.c3, (set_other _ (hn 4)).trans h.c4, fun o => by simpa using h.fz o⟩
theorem GBox.put {w : World} {b : Nat} {W H S O : Int} {v : Value} (h : GBox w b W H S O v) (v' : Value) : GBox (w.setCell ⟨b, 4, none⟩ v') b W H S O v' :=
  ⟨by simpa using h.lt, (set_other _ (by simp)).trans h.c0, (set_other _ (by simp)).trans h.c1, (set_other _ (by simp)).trans h.c2, (set_other _ (by simp)).trans h.c3, set_same h.c4, fun o => by simpa using h.fz o⟩
theorem GBox.new (w : World) (W H S O : Int) (v : Value) : GBox (w.alloc (.cells #[.int .i64 W, .int .i64 H, .int .i64 S, .int .i64 O, v] 63)) w.heap.size W H S O v :=
  ⟨by simp, by simp [go_sem], by simp [go_sem], by simp [go_sem], by simp [go_sem], by simp [go_sem], fun o => frozen_new w _ _ o⟩
set_option maxHeartbeats 4000000 in
theorem cull_ok (W H S O : Int) (a : Option Addr) (len cap : Nat) (ps : List Ps) (w : World) (hp : Passes w a len ps) (hE : frameE ⟨W, H, S, O, ps⟩ = 0) :
    Calls Try.prog 49 #[.agg #[.int .i64 W, .int .i64 H, .int .i64 S, .int .i64 O, .slice a len cap]] w (ToldCull w ⟨W, H, S, O, ps⟩) := by
  obtain rfl := hp.leng
  obtain ⟨hbnd, _, _⟩ := frameE_zero hE
  obtain ⟨_, _, _, _, hL⟩ := boundsE_zero hbnd
  dsimp only at hL
  obtain ⟨i0, hi, hz0, hz1, hz2⟩ := info_parts Try.infoPass
  obtain ⟨l0, li, lz0, lz1, lz2⟩ := info_parts Try.infoLight
  have hb0 := below_box (below_box (Below.refl w.heap.size w) (.cells #[.int .i64 W, .int .i64 H, .int .i64 S, .int .i64 O, .slice a ps.length cap] 63)) (.cells #[.int .i64 0, .int .i64 0, .int .i64 0, .int .i64 0, .slice none 0 0] 63)
  have hzz := ZBox.new (w.alloc (.cells #[.int .i64 W, .int .i64 H, .int .i64 S, .int .i64 O, .slice a ps.length cap] 63))
  rw [World.size_alloc] at hzz
  have hB := (FBox.new w W H S O a ps.length cap).alloc (.cells #[.int .i64 0, .int .i64 0, .int .i64 0, .int .i64 0, .slice none 0 0] 63)
  have hke := kept_any W H S O a ps.length cap ps _ (hp.below hb0)
  have hfew : ∀ k, k < ps.length → (ps.getD k Ps.zero).ls.length ≤ 8 := fun k hk => few_lights (f := ⟨W, H, S, O, ps⟩) hE hk
  have HFEW : Hid (_) := hfew
  clear hfew hbnd
  go_enter Try.func49, Try.ntmps49
  go_wp2_with fail
  refine hke.mono ?_
  clear hke
  rintro e w1 ⟨⟨_, bK, rfl, hbK, hK1⟩ | ⟨h0, _⟩, b1⟩
  · dsimp only at hK1 ⊢
    have HCD : Hid (culled ⟨W, H, S, O, ps⟩ = cullP ps (keptG ps ps.length (shownP ⟨W, H, S, O, ps⟩) ps.length) ps.length) := rfl
    generalize keptG ps ps.length (shownP ⟨W, H, S, O, ps⟩) ps.length = g at hK1 HCD
    have hzz1 := hzz.below b1 hzz.lt b1.size
    have hB1 := hB.below b1
    have hb1 := below_step hb0 b1
    have hp1 := hp.below hb1
    have hbKl := hK1.lt
    have hG0 := GBox.new w1 W H S O (.slice none 0 0)
    have hbA : Below w1.heap.size w1 (w1.alloc (.cells #[.int .i64 W, .int .i64 H, .int .i64 S, .int .i64 O, .slice none 0 0] 63)) := (Below.refl _ _).alloc (Nat.le_refl _) _
    clear hzz hB hb0 b1 hp
    obtain ⟨_, g0, g1, g2, g3, g4⟩ := id hB1
    go_wp2_with fail
    generalize w1.alloc (.cells #[.int .i64 W, .int .i64 H, .int .i64 S, .int .i64 O, .slice none 0 0] 63) = w2 at *
    obtain ⟨B6, hB6⟩ : ∃ B6, B6 = w1.heap.size := ⟨_, rfl⟩
    rw [← hB6] at hG0 hbA ⊢
    have HB6 : Hid (B6 = w1.heap.size) := hB6
    clear hB6
    go_loopw [30] (fun i wr => ∃ (k : Nat) (v : Value) (L : Lp), k ≤ ps.length ∧ i = .int .i64 k ∧ RowP (B6 + 1) wr v L ∧ L.map Prod.fst = cullP ps g k ∧ GBox wr B6 W H S O v ∧ Below B6 w1 wr) (fun i _ => ps.length - (intOf i).toNat)
    case atStart => exact ⟨0, _, [], Nat.zero_le _, rfl, RowP.nil _ _, rfl, hG0, hbA⟩
    case round =>
      obtain ⟨k, v, L, hk, rfl, hRr, hmap, hGr, hbr⟩ := hrel
      clear g0 g1 g2 g3 g4
      have hbr' : Below w1.heap.size w1 wr := by rw [← HB6.out]; exact hbr
      have hlL : L.length ≤ k := by have h1 := congrArg List.length hmap; have h2 := cullP_le ps g k; simp at h1; omega
      by_cases hlt : k < ps.length
      · obtain ⟨b, off, la, ll, lc, rfl, p0, p1, p2, p3, p4, p5, hLi⟩ := (hp1.below hbr').nth hlt
        have hll := hLi.leng
        have hl8 := HFEW.out k hlt
        have HCU : Hid (cullP ps g (k + 1) = cullP ps g k ++ (if g k = true then [ps.getD k Ps.zero] else [])) := rfl
        have kk := (hbr'.cell (p := ⟨bK, k, none⟩) hbKl).trans (hK1.cells k hlt)
        generalize ps.getD k Ps.zero = p at p0 p1 p2 p3 p4 p5 hLi HCU hll hl8
        obtain ⟨Op, To, A, B, K, ls⟩ := p
        dsimp only at p0 p1 p2 p3 p4 p5 hLi hll hl8
        subst hll
        have HLL : Hid (L.length ≤ 12) := by show _ ≤ _; omega
        have hbP := (Below.refl wr.heap.size wr).alloc (Nat.le_refl _) (.cells #[.int .i64 Op, .int .i64 To, .int .i64 A, .int .i64 B, .int .i64 K, .slice la ls.length lc] 88)
        obtain ⟨va, vc, rfl⟩ := owns_slice hRr.1
        have kP := (hbP.cell (p := ⟨bK, k, none⟩) (Nat.lt_of_lt_of_le hbKl hbr.size)).trans kk
        generalize g k = gk at kk kP HCU
        cases gk with
        | false =>
          have hR1 := hRr.below hbP
          have hG1 := hGr.below hbP hGr.lt hbP.size
          have hb9 : Below B6 w1 _ := hbr.trans (hbP.mono (by have := hbr.size; have := HB6.out; omega))
          have HX : Hid (_) := hR1
          have HM : Hid (_) := hmap
          clear hR1 hmap hRr
          go_wp2
          go_roundw
          case rel => exact ⟨k + 1, _, L, by omega, by go_num, HX.out, by rw [HCU.out, if_neg (by decide), List.append_nil]; exact HM.out, hG1, hb9⟩
          case measure => simp [intOf]; omega
        | true =>
          have hPP := PBox.new wr Op To A B K la ls.length lc
          by_cases hls : ls = []
          · subst hls
            simp only [List.length_nil] at p5 kP hbP hPP
            obtain ⟨_, r0, r1, r2, r3, r4, r5⟩ := id hPP
            have fP := frozen_new wr #[.int .i64 Op, .int .i64 To, .int .i64 A, .int .i64 B, .int .i64 K, .slice la 0 lc] 88 5
            go_upto_region 10 with (at_builtin; refine list_append_nothing rfl _ _ 45 rfl 59 l0 Try.underlying45 li none 0 0 (Nat.le_refl _) rfl la lc rfl ?_)
            have hPQ := PBox.new wr Op To A B K none 0 0
            have hbX := (Below.refl wr.heap.size wr).alloc (Nat.le_refl _) (.cells #[.int .i64 Op, .int .i64 To, .int .i64 A, .int .i64 B, .int .i64 K, .slice none 0 0] 88)
            have hRQ := hRr.below hbX
            have hGQ := hGr.below hbX hGr.lt hbX.size
            have hbQ : Below B6 w1 _ := hbr.trans (hbX.mono (by have := hbr.size; have := HB6.out; omega))
            have hXQ : Lx (B6 + 1) (wr.alloc (.cells #[.int .i64 Op, .int .i64 To, .int .i64 A, .int .i64 B, .int .i64 K, .slice none 0 0] 88)) (.slice va L.length vc) (⟨Op, To, A, B, K, []⟩, none, 0) := ⟨by simp, .inl rfl⟩
            clear r0 r1 r2 r3 r4 r5 fP hPP hbX hbP hRr hGr kP
            generalize wr.alloc (.cells #[.int .i64 Op, .int .i64 To, .int .i64 A, .int .i64 B, .int .i64 K, .slice none 0 0] 88) = wQ at *
            obtain ⟨_, p0, p1, p2, p3, p4, p5⟩ := id hPQ
            have d4 := hGQ.c4
            have dz := hGQ.fz 4
            have hsQ : B6 + 1 ≤ wQ.heap.size := hGQ.lt
            have hRA := hRQ.below ((Below.refl wQ.heap.size wQ).alloc (Nat.le_refl _) (.cells #[.int .i64 Op, .int .i64 To, .int .i64 A, .int .i64 B, .int .i64 K, .slice none 0 0] 88))
            have hXA := hXQ.below ((Below.refl wQ.heap.size wQ).alloc (Nat.le_refl _) (.cells #[.int .i64 Op, .int .i64 To, .int .i64 A, .int .i64 B, .int .i64 K, .slice none 0 0] 88))
            have hGA := hGQ.below ((Below.refl wQ.heap.size wQ).alloc (Nat.le_refl _) (.cells #[.int .i64 Op, .int .i64 To, .int .i64 A, .int .i64 B, .int .i64 K, .slice none 0 0] 88)) hGQ.lt (by simp)
            have HRL : Hid (_) := hRQ.lt
            have HMAP : Hid (_) := hmap
            clear hmap hRQ hXQ hGQ hPQ
            go_upto_region 11 with (at_builtin; refine wpList_append_own_at _ rfl _ _ 61 rfl (B6 + 1) 88 i0 _ 6 64 Try.underlying61 hi hz0 hz1 hz2 rfl (by decide) (.slice va L.length vc) L.length (pcells L) rfl hRA.1 ⟨wQ.heap.size, 0, none⟩ 1 1 [.int .i64 Op, .int .i64 To, .int .i64 A, .int .i64 B, .int .i64 K, .slice none 0 0] rfl rfl (cell_six_new _ _ _ _ _ _ _ _) (by intro u hu; simp at hu; rcases hu with rfl | rfl | rfl | rfl | rfl | rfl <;> rfl) (by have := HLL.out; unfold maxLen; omega) (by have := HLL.out; omega) (by simp; omega) ?_; intro v' w9 hown9 hgrow9 _ hloc9; have hR9 := hRA.push (x := (⟨Op, To, A, B, K, []⟩, none, 0)) hXA hown9 hgrow9 hloc9; have hG9 := hGA.grown hgrow9 (fun e => by have := (HRL.out _ e.symm).1; omega); obtain ⟨a9, cap9, hv9⟩ := owns_slice hown9; subst hv9; have e4 := hG9.c4; have ez := hG9.fz 4)
            have hGZ := hG9.put (.slice a9 (L.length + 1) cap9)
            have hRZ := hR9.setBelow (p := ⟨B6, 4, none⟩) (show B6 < B6 + 1 by omega) (.slice a9 (L.length + 1) cap9)
            have hbZ : Below B6 w1 (w9.setCell ⟨B6, 4, none⟩ (.slice a9 (L.length + 1) cap9)) := (((hbQ.alloc (Nat.le_of_succ_le hsQ) (.cells #[.int .i64 Op, .int .i64 To, .int .i64 A, .int .i64 B, .int .i64 K, .slice none 0 0] 88)).grown hgrow9 (by simp; omega) (fun j hj => by have := (HRL.out j hj).1; omega))).setCell (p := ⟨B6, 4, none⟩) (Nat.le_refl _) _
            clear p0 p1 p2 p3 p4 p5 d4 dz e4 ez hR9 hG9 hRA hXA hGA hown9 hgrow9
            go_wp2
            go_roundw
            case rel => exact ⟨k + 1, _, _, by omega, by go_num, hRZ, by rw [HCU.out, if_pos (by trivial), List.map_append, HMAP.out]; rfl, hGZ, hbZ⟩
            case measure => simp [intOf]; omega
          · obtain ⟨lb, lo, rfl, hlb, hlc⟩ : ∃ lb lo, la = some ⟨lb, lo, none⟩ ∧ lb < wr.heap.size ∧ ∀ j, j < ls.length → wr.cell? ⟨lb, lo + j * 4, none⟩ = some (.int .i64 (ls.getD j Lt.zero).X) ∧ wr.cell? ⟨lb, lo + j * 4 + 1, none⟩ = some (.int .i64 (ls.getD j Lt.zero).Y) ∧ wr.cell? ⟨lb, lo + j * 4 + 2, none⟩ = some (.int .i64 (ls.getD j Lt.zero).R) ∧ wr.cell? ⟨lb, lo + j * 4 + 3, none⟩ = some (.int .i64 (ls.getD j Lt.zero).P) := by
              rcases hLi.cells with e | ⟨lb, lo, ha, hl, hc⟩
              · exact absurd e hls
              · exact ⟨lb, lo, ha, hl, hc⟩
            have hlcP := lights_cells (w := wr.alloc (.cells #[.int .i64 Op, .int .i64 To, .int .i64 A, .int .i64 B, .int .i64 K, .slice (some ⟨lb, lo, none⟩) ls.length lc] 88)) (b := lb) (off := lo) (ls := ls) (fun j hj => by
              obtain ⟨c0, c1, c2, c3⟩ := hlc j hj
              exact ⟨(hbP.cell (p := ⟨lb, lo + j * 4, none⟩) hlb).trans c0, (hbP.cell (p := ⟨lb, lo + j * 4 + 1, none⟩) hlb).trans c1, (hbP.cell (p := ⟨lb, lo + j * 4 + 2, none⟩) hlb).trans c2, (hbP.cell (p := ⟨lb, lo + j * 4 + 3, none⟩) hlb).trans c3⟩)
            have HLS : Hid (ls.length ≤ 8) := hl8
            have HLC : Hid ((lcells ls).length = ls.length * 4) := lcells_len ls
            have HNE : Hid (_) := hls
            have fP := frozen_new wr #[.int .i64 Op, .int .i64 To, .int .i64 A, .int .i64 B, .int .i64 K, .slice (some ⟨lb, lo, none⟩) ls.length lc] 88 5
            have hsP : (wr.alloc (.cells #[.int .i64 Op, .int .i64 To, .int .i64 A, .int .i64 B, .int .i64 K, .slice (some ⟨lb, lo, none⟩) ls.length lc] 88)).heap.size = wr.heap.size + 1 := by simp
            have hRP := hRr.below hbP
            have hGP := hGr.below hbP hGr.lt hbP.size
            have hbPB : Below B6 w1 _ := hbr.trans (hbP.mono (by have := hbr.size; have := HB6.out; omega))
            obtain ⟨_, r0, r1, r2, r3, r4, r5⟩ := id hPP
            clear hls hlc hLi hl8
            go_upto_region 10 with (at_builtin; refine wpList_append_own _ rfl _ _ 45 rfl (wr.heap.size + 1) 59 l0 _ 4 32 Try.underlying45 li lz0 lz1 lz2 rfl (by decide) _ 0 [] rfl (World.ownsRow_nil _ _ _ _) ⟨lb, lo, none⟩ ls.length lc (lcells ls) rfl (by rw [HLC.out]) hlcP (lcells_one ls) (by have := HLS.out; unfold maxLen; omega) (by have := HLS.out; omega) (by simp) ?_; intro vL wL hownL hgrowL _; obtain ⟨aL, cL, hvL⟩ := owns_slice hownL; subst hvL; have bL := (Below.refl (wr.heap.size + 1) (wr.alloc (.cells #[.int .i64 Op, .int .i64 To, .int .i64 A, .int .i64 B, .int .i64 K, .slice (some ⟨lb, lo, none⟩) ls.length lc] 88))).grown hgrowL (by simp) (fun k hk => by cases hk); have hPL := hPP.below (by rw [hsP]; exact bL); have fL := (bL.frozen (p := ⟨wr.heap.size, 5, none⟩) (Nat.lt_succ_self _)).trans fP; have s5 := hPL.c5)
            have bQ : Below wr.heap.size wr (wL.setCell ⟨wr.heap.size, 5, none⟩ (.slice aL ls.length cL)) := (hbP.trans (bL.mono (by omega))).setCell (p := ⟨wr.heap.size, 5, none⟩) (Nat.le_refl _) _
            have hRQ := hRr.below bQ
            have hGQ := hGr.below bQ hGr.lt bQ.size
            have hbQ : Below B6 w1 _ := hbr.trans (bQ.mono (by have := hbr.size; have := HB6.out; omega))
            have hPQ : PBox (wL.setCell ⟨wr.heap.size, 5, none⟩ (.slice aL ls.length cL)) wr.heap.size Op To A B K aL ls.length cL := ⟨by simpa using hPL.lt, (set_other _ (by simp)).trans hPL.c0, (set_other _ (by simp)).trans hPL.c1, (set_other _ (by simp)).trans hPL.c2, (set_other _ (by simp)).trans hPL.c3, (set_other _ (by simp)).trans hPL.c4, set_same hPL.c5⟩
            rw [Nat.zero_add, List.nil_append] at hownL
            have hOL : OwnsL (wr.heap.size + 1) (wL.setCell ⟨wr.heap.size, 5, none⟩ (.slice aL ls.length cL)) (.slice aL ls.length cL) ls := ownsRow_setCell_below hownL (a := ⟨wr.heap.size, 5, none⟩) (Nat.lt_succ_self _) _
            have hXQ := Lx.of (base := B6 + 1) (p := ⟨Op, To, A, B, K, ls⟩) (v := .slice va L.length vc) (la := aL) (lc := cL) hOL rfl HLS.out (by have := hGr.lt; omega) (fun j hj => by have := (hRr.lt j hj).2; omega)
            clear r0 r1 r2 r3 r4 r5 fP hPP hbP hRr hGr kP hRP hGP hbPB hownL hgrowL bL hPL fL s5 hlcP hOL bQ
            generalize wL.setCell ⟨wr.heap.size, 5, none⟩ (.slice aL ls.length cL) = wQ at *
            obtain ⟨_, p0, p1, p2, p3, p4, p5⟩ := id hPQ
            have d4 := hGQ.c4
            have dz := hGQ.fz 4
            have hsQ : B6 + 1 ≤ wQ.heap.size := hGQ.lt
            have hRA := hRQ.below ((Below.refl wQ.heap.size wQ).alloc (Nat.le_refl _) (.cells #[.int .i64 Op, .int .i64 To, .int .i64 A, .int .i64 B, .int .i64 K, .slice aL ls.length cL] 88))
            have hXA := hXQ.below ((Below.refl wQ.heap.size wQ).alloc (Nat.le_refl _) (.cells #[.int .i64 Op, .int .i64 To, .int .i64 A, .int .i64 B, .int .i64 K, .slice aL ls.length cL] 88))
            have hGA := hGQ.below ((Below.refl wQ.heap.size wQ).alloc (Nat.le_refl _) (.cells #[.int .i64 Op, .int .i64 To, .int .i64 A, .int .i64 B, .int .i64 K, .slice aL ls.length cL] 88)) hGQ.lt (by simp)
            have HRL : Hid (_) := hRQ.lt
            have HMAP : Hid (_) := hmap
            clear hmap hRQ hXQ hGQ hPQ
            go_upto_region 11 with (at_builtin; refine wpList_append_own_at _ rfl _ _ 61 rfl (B6 + 1) 88 i0 _ 6 64 Try.underlying61 hi hz0 hz1 hz2 rfl (by decide) (.slice va L.length vc) L.length (pcells L) rfl hRA.1 ⟨wQ.heap.size, 0, none⟩ 1 1 [.int .i64 Op, .int .i64 To, .int .i64 A, .int .i64 B, .int .i64 K, .slice aL ls.length cL] rfl rfl (cell_six_new _ _ _ _ _ _ _ _) (by intro u hu; simp at hu; rcases hu with rfl | rfl | rfl | rfl | rfl | rfl <;> rfl) (by have := HLL.out; unfold maxLen; omega) (by have := HLL.out; omega) (by simp; omega) ?_; intro v' w9 hown9 hgrow9 _ hloc9; have hR9 := hRA.push (x := (⟨Op, To, A, B, K, ls⟩, aL, cL)) hXA hown9 hgrow9 hloc9; have hG9 := hGA.grown hgrow9 (fun e => by have := (HRL.out _ e.symm).1; omega); obtain ⟨a9, cap9, hv9⟩ := owns_slice hown9; subst hv9; have e4 := hG9.c4; have ez := hG9.fz 4)
            have hGZ := hG9.put (.slice a9 (L.length + 1) cap9)
            have hRZ := hR9.setBelow (p := ⟨B6, 4, none⟩) (show B6 < B6 + 1 by omega) (.slice a9 (L.length + 1) cap9)
            have hbZ : Below B6 w1 (w9.setCell ⟨B6, 4, none⟩ (.slice a9 (L.length + 1) cap9)) := (((hbQ.alloc (Nat.le_of_succ_le hsQ) (.cells #[.int .i64 Op, .int .i64 To, .int .i64 A, .int .i64 B, .int .i64 K, .slice aL ls.length cL] 88)).grown hgrow9 (by simp; omega) (fun j hj => by have := (HRL.out j hj).1; omega))).setCell (p := ⟨B6, 4, none⟩) (Nat.le_refl _) _
            clear p0 p1 p2 p3 p4 p5 d4 dz e4 ez hR9 hG9 hRA hXA hGA hown9 hgrow9
            go_wp2
            go_roundw
            case rel => exact ⟨k + 1, _, _, by omega, by go_num, hRZ, by rw [HCU.out, if_pos (by trivial), List.map_append, HMAP.out]; rfl, hGZ, hbZ⟩
            case measure => simp [intOf]; omega
      · have hke : k = ps.length := by omega
        subst hke
        rw [← HCD.out] at hmap
        obtain ⟨pa, pc, rfl, hPas⟩ := hRr.passes hmap (by omega)
        have hz9 := hzz1.below hbr' hzz1.lt hbr.size
        obtain ⟨_, c0, c1, c2, c3, c4, fz⟩ := id hz9
        have f0 := fz 0
        have f1 := fz 1
        have f2 := fz 2
        have f3 := fz 3
        have f4 := fz 4
        obtain ⟨_, d0, d1, d2, d3, d4, dz⟩ := id hGr
        have hb9 := below_step hb1 hbr'
        have hlz := hzz1.lt
        have hlq : w.heap.size + 1 < B6 + 1 := by have := HB6.out; omega
        have hR5 := (((((hRr.setBelow (p := ⟨w.heap.size + 1, 0, none⟩) hlq (.int .i64 W)).setBelow (p := ⟨w.heap.size + 1, 1, none⟩) hlq (.int .i64 H)).setBelow (p := ⟨w.heap.size + 1, 2, none⟩) hlq (.int .i64 S)).setBelow (p := ⟨w.heap.size + 1, 3, none⟩) hlq (.int .i64 O)).setBelow (p := ⟨w.heap.size + 1, 4, none⟩) hlq (.slice pa (culled ⟨W, H, S, O, ps⟩).length pc))
        have hb5 := (((((hb9.setCell (p := ⟨w.heap.size + 1, 0, none⟩) (show w.heap.size ≤ w.heap.size + 1 by omega) (.int .i64 W)).setCell (p := ⟨w.heap.size + 1, 1, none⟩) (show w.heap.size ≤ w.heap.size + 1 by omega) (.int .i64 H)).setCell (p := ⟨w.heap.size + 1, 2, none⟩) (show w.heap.size ≤ w.heap.size + 1 by omega) (.int .i64 S)).setCell (p := ⟨w.heap.size + 1, 3, none⟩) (show w.heap.size ≤ w.heap.size + 1 by omega) (.int .i64 O)).setCell (p := ⟨w.heap.size + 1, 4, none⟩) (show w.heap.size ≤ w.heap.size + 1 by omega) (.slice pa (culled ⟨W, H, S, O, ps⟩).length pc))
        obtain ⟨pa', pc', e, hp5⟩ := hR5.passes hmap (by omega)
        injection e with e1 e2 e3
        rw [← e1] at hp5
        have HP5 : Hid (_) := hp5
        have HB5 : Hid (_) := hb5
        clear fz dz hPas hmap hK1 hp1 hB1 hR5 hb5 hp5 hRr e1 e2 e3
        go_wp2
        refine bodyPost_ret (v := .tuple #[.agg #[.int .i64 W, .int .i64 H, .int .i64 S, .int .i64 O, .slice pa (culled ⟨W, H, S, O, ps⟩).length pc], .int .i64 0]) (by simp [results, Try.results49, go_sem, c0, c1, c2, c3, c4]) rfl ?_
        exact ⟨.inl ⟨hE, pa, pc, rfl, HP5.out⟩, HB5.out⟩
  · exact absurd hE h0
/-- need.Cull. -/
theorem cull_any (W H S O : Int) (a : Option Addr) (len cap : Nat) (ps : List Ps) (w : World) (hp : Passes w a len ps) :
    Calls Try.prog 49 #[.agg #[.int .i64 W, .int .i64 H, .int .i64 S, .int .i64 O, .slice a len cap]] w (ToldCull w ⟨W, H, S, O, ps⟩) := by
  by_cases hE : frameE ⟨W, H, S, O, ps⟩ = 0
  · exact cull_ok W H S O a len cap ps w hp hE
  · exact cull_err W H S O a len cap ps w hp hE
end Go.Proofs.Ytfpkiimlaepnhaa
