/- Last, Kept, SameF, LightRef, NearRef, LitRef, MadeRef, MadeRef2: joined, in this order. -/
import Derived.Test.YtfpkiimlaepnhabM08
import Derived.Test.YtfpkiimlaepnhabM06
import Derived.Test.YtfpkiimlaepnhabM07
import Derived.Test.YtfpkiimlaepnhabM05
import Derived.Test.YtfpkiimlaepnhabM01
import Derived.Deep.RegionHeld3
import Derived.Deep.CutRange
import Derived.Test.YtfpkiimlaepnhabM03
import Derived.Test.YtfpkiimlaepnhabM04
import Derived.Deep.RegionLaw
/-
  LAST: need.Last.
-/
namespace Go.Proofs.Ytfpkiimlaepnhab
set_option maxRecDepth 100000
open Go.RowKit Im Go.Shelf
attribute [local go_sem] Oper.semAt_some

/-- What need.Last tells. -/
def ToldLast (w : World) (f : Fr) (e : Ending) (w' : World) : Prop :=
  e = .returned (.tuple #[.int .i64 (if frameE f = 0 then shownP f else 0), .int .i64 (frameE f)]) ∧ Below w.heap.size w w'
theorem boxed_below {W W' : World} {B n₀ : Nat} {t : TypeId} {v : Value} (h : Go.Boxed W B t v) (hb : Below n₀ W W') (hB : B < n₀) : Go.Boxed W' B t v := (hb.block B hB).trans h
set_option maxHeartbeats 1000000 in
theorem last_err (W H S O : Int) (a : Option Addr) (len cap : Nat) (ps : List Ps) (w : World) (hp : Passes w a len ps) (hE : frameE ⟨W, H, S, O, ps⟩ ≠ 0) :
    Calls Try.prog 69 #[.agg #[.int .i64 W, .int .i64 H, .int .i64 S, .int .i64 O, .slice a len cap]] w (ToldLast w ⟨W, H, S, O, ps⟩) := by
  have hb0 := below_box (below_box (below_box (Below.refl w.heap.size w) (.cells #[.int .i64 W, .int .i64 H, .int .i64 S, .int .i64 O, .slice a len cap] 24)) (.cells #[.int .i64 0] 3)) (.cells #[.int .i64 0] 29)
  have hch := frameCheck_any W H S O a len cap ps _ (hp.below hb0)
  have bX := (Go.Boxed.new (w.alloc (.cells #[.int .i64 W, .int .i64 H, .int .i64 S, .int .i64 O, .slice a len cap] 24)) 3 (.int .i64 0)).alloc (.cells #[.int .i64 0] 29)
  have bY := Go.Boxed.new ((w.alloc (.cells #[.int .i64 W, .int .i64 H, .int .i64 S, .int .i64 O, .slice a len cap] 24)).alloc (.cells #[.int .i64 0] 3)) 29 (.int .i64 0)
  simp only [World.size_alloc] at bX bY
  go_enter Try.func69, Try.ntmps69
  go_wp2_with fail
  refine hch.mono ?_
  clear hch
  rintro e w1 ⟨rfl, b1⟩
  have b2 := below_step hb0 b1
  have c2 := boxed_below bX b1 (by simp)
  have c3 := boxed_below bY b1 (by simp)
  have d2 := c2.cell
  have f2 := c2.frozen
  have d3 := c3.cell
  have f3 := c3.frozen
  go_wp2
  refine bodyPost_ret (v := .tuple #[.int .i64 0, .int .i64 (frameE ⟨W, H, S, O, ps⟩)]) (by simp [results, Try.results69, go_sem, d2, d3]) rfl ?_
  refine ⟨by rw [if_neg hE], (b2.setCell (p := ⟨w.heap.size + 1, 0, none⟩) (show w.heap.size ≤ w.heap.size + 1 by omega) _).setCell (p := ⟨w.heap.size + 1 + 1, 0, none⟩) (show w.heap.size ≤ w.heap.size + 1 + 1 by omega) _⟩
/-- A pass in a block of its own is a matter of cells. -/
theorem pbox_own {X Y : World} {row : Option Nat} {b : Nat} {Op To A B K : Int} {la : Option Addr} {ll lc : Nat} (h : PBox X b Op To A B K la ll lc) (hg : X.grownBy Y row) (hr : ∀ r, row = some r → ∃ o : Obj, X.heap[r]? = some o ∧ o.isCells = false) : PBox Y b Op To A B K la ll lc :=
  ⟨Nat.lt_of_lt_of_le h.lt hg.size, cell_kept h.c0 hg hr, cell_kept h.c1 hg hr, cell_kept h.c2 hg hr, cell_kept h.c3 hg hr, cell_kept h.c4 hg hr, cell_kept h.c5 hg hr⟩
theorem wrt_last {ps : List Ps} {O : Int} {n m : Nat} (hm : m < n) (h1 : (ps.getD m Ps.zero).To = O) (h2 : ∀ j, m < j → j < n → (ps.getD j Ps.zero).To ≠ O) : wrt ps n O = m := by
  induction n with
  | zero => omega
  | succ n ih =>
    show (if (ps.getD n Ps.zero).To = O then (n : Int) else wrt ps n O) = m
    by_cases hn : m = n
    · subst hn; rw [if_pos h1]
    · rw [if_neg (h2 n (by omega) (by omega))]
      exact ih (by omega) (fun j h3 h4 => h2 j h3 (by omega))
theorem bhs_mem (len : Nat) (hl : 0 < len) (pv : Nat → Pv) {k m : Nat} (hm : m < len) (hk : len - 1 - m < k) : ∃ x ∈ bhs len hl pv k, x.1 = (m, pv m) := by
  refine ⟨bh len hl pv (len - 1 - m), ?_, ?_⟩
  · unfold bhs; rw [List.mem_map]; exact ⟨len - 1 - m, by simpa using hk, rfl⟩
  · show (len - 1 - (len - 1 - m), pv (len - 1 - (len - 1 - m))) = (m, pv m)
    rw [show len - 1 - (len - 1 - m) = m by omega]
set_option maxHeartbeats 4000000 in
theorem last_ok (W H S O : Int) (a : Option Addr) (len cap : Nat) (ps : List Ps) (w : World) (hp : Passes w a len ps) (hE : frameE ⟨W, H, S, O, ps⟩ = 0) :
    Calls Try.prog 69 #[.agg #[.int .i64 W, .int .i64 H, .int .i64 S, .int .i64 O, .slice a len cap]] w (ToldLast w ⟨W, H, S, O, ps⟩) := by
  obtain rfl := hp.leng
  obtain ⟨hbnd, hfirst, hsh⟩ := frameE_zero hE
  obtain ⟨_, _, _, _, hL⟩ := boundsE_zero hbnd
  dsimp only at hL
  have hb0 := below_box (below_box (below_box (Below.refl w.heap.size w) (.cells #[.int .i64 W, .int .i64 H, .int .i64 S, .int .i64 O, .slice a ps.length cap] 24)) (.cells #[.int .i64 0] 3)) (.cells #[.int .i64 0] 29)
  have hch := frameCheck_any W H S O a ps.length cap ps _ (hp.below hb0)
  rw [hE] at hch
  obtain ⟨b, off, pv, rfl, hbl, hpv, heq⟩ := hp.pv (by omega)
  have bX := (Go.Boxed.new (w.alloc (.cells #[.int .i64 W, .int .i64 H, .int .i64 S, .int .i64 O, .slice (some ⟨b, off, none⟩) ps.length cap] 24)) 3 (.int .i64 0)).alloc (.cells #[.int .i64 0] 29)
  have bY := Go.Boxed.new ((w.alloc (.cells #[.int .i64 W, .int .i64 H, .int .i64 S, .int .i64 O, .slice (some ⟨b, off, none⟩) ps.length cap] 24)).alloc (.cells #[.int .i64 0] 3)) 29 (.int .i64 0)
  simp only [World.size_alloc] at bX bY
  have hB := ((FBox.new w W H S O (some ⟨b, off, none⟩) ps.length cap).alloc (.cells #[.int .i64 0] 3)).alloc (.cells #[.int .i64 0] 29)
  refine (callsIn_wide (n := 4)).1 ?_
  refine callsIn_of_wp_marks Try.func69 rfl trivial ?_ rfl
  simp only [Try.ntmps69, List.size_toArray, List.length_cons, List.length_nil, Nat.reduceAdd, Nat.reduceSub, Array.replicate_succ, Array.replicate_zero, List.push_toArray, List.append_toArray, List.nil_append, List.cons_append]
  gi_wp2_with (first
    | (refine ⟨trivial, ?_⟩; gi_at_call 38; refine (callsIn_wide.2 hch).mono ?_; rintro e w1 ⟨rfl, b1⟩; have hB1 := hB.below b1; have cX := boxed_below bX b1 (by simp); have cY := boxed_below bY b1 (by simp); have hb1 := below_step hb0 b1; obtain ⟨_, g0, g1, g2, g3, g4⟩ := id hB1)
    | (refine ⟨trivial, ?_⟩; gi_at_call 82; refine (callsIn_wide.2 (fromBehind_any _ _ _ _)).mono ?_; rintro e w2 ⟨rfl, rfl⟩))
  have hpos : 0 < ps.length := by omega
  have bI := Go.Boxed.new w1 22 (.slice (some ⟨b, off, none⟩) ps.length cap)
  have hb2 := below_box hb1 (.cells #[.slice (some ⟨b, off, none⟩) ps.length cap] 22)
  have cX2 := cX.alloc (.cells #[.slice (some ⟨b, off, none⟩) ps.length cap] 22)
  have cY2 := cY.alloc (.cells #[.slice (some ⟨b, off, none⟩) ps.length cap] 22)
  have g32 : (w1.alloc (.cells #[.slice (some ⟨b, off, none⟩) ps.length cap] 22)).cell? ⟨w.heap.size, 3, none⟩ = some (.int .i64 O) := (World.cell?_alloc_lt _ _ _ hB1.lt).trans g3
  have hlw : w.heap.size + 1 + 1 < w1.heap.size := cY.lt
  have hls : (w1.alloc (.cells #[.slice (some ⟨b, off, none⟩) ps.length cap] 22)).heap.size = w1.heap.size + 1 := by simp
  have hpv2 := hpv.below hb2 hbl
  clear hch hB hB1 g0 g1 g2 g3 g4 cX cY bX bY hb0 hb1 b1
  generalize w1.alloc (.cells #[.slice (some ⟨b, off, none⟩) ps.length cap] 22) = W0 at *
  have hbb := @boxed_own Unit
  refine wpIn_rangeFunc_ownH rfl (by decide) (gf := 107) (lb := #[.pointer (some ⟨w1.heap.size, 0, none⟩)]) rfl trivial (enters_of Try.func107 (by kernel_rfl) rfl)
    (behind_stops 3 (by decide) w1.heap.size w.heap.size b off ps.length cap hpos hL.2 pv hbl W0 (by omega) hb2.size bI.cell hpv2) KpB.t (KpB.b hb2.size (by omega)) (Below.refl _ _) (fun _ => rfl)
    (fun pre W' => ((∀ x ∈ pre, x.1.2.To ≠ O) ∧ W'.cell? ⟨w.heap.size, 3, none⟩ = some (.int .i64 O) ∧ Go.Boxed W' (w.heap.size + 1) 3 (.int .i64 0) ∧ Go.Boxed W' (w.heap.size + 1 + 1) 29 (.int .i64 0) ∧ Go.Boxed W' w1.heap.size 22 (.slice (some ⟨b, off, none⟩) ps.length cap)) ∧ Below w.heap.size w W')
    (fun c pre W' => (c = .ret ∧ ∃ pre' x, pre = pre' ++ [x] ∧ (∀ y ∈ pre', y.1.2.To ≠ O) ∧ x.1.2.To = O ∧ Go.Boxed W' (w.heap.size + 1) 3 (.int .i64 (x.1.1 : Int)) ∧ Go.Boxed W' (w.heap.size + 1 + 1) 29 (.int .i64 0)) ∧ Below w.heap.size w W')
    (fun s A B row hs hg hr => ⟨⟨hs.1.1, cell_kept hs.1.2.1 hg (fun r e => (hr r e).2), hbb _ _ (fun _ => _) () A B row hs.1.2.2.1 hg (fun r e => (hr r e).2), hbb _ _ (fun _ => _) () A B row hs.1.2.2.2.1 hg (fun r e => (hr r e).2), hbb _ _ (fun _ => _) () A B row hs.1.2.2.2.2 hg (fun r e => (hr r e).2)⟩, ownFrom_below (β := Unit) (w₀ := w) (Nat.le_refl _) hb2.size () A B row hs.2 hg hr⟩)
    (fun c s A B row hs hg hr => ⟨⟨hs.1.1, by
      obtain ⟨pre', x, h1, h2, h3, h4, h5⟩ := hs.1.2
      exact ⟨pre', x, h1, h2, h3, hbb _ _ (fun _ => _) () A B row h4 hg (fun r e => (hr r e).2), hbb _ _ (fun _ => _) () A B row h5 hg (fun r e => (hr r e).2)⟩⟩, ownFrom_below (β := Unit) (w₀ := w) (Nat.le_refl _) hb2.size () A B row hs.2 hg hr⟩)
    ⟨⟨(fun x hx => by cases hx), g32, cX2, cY2, bI⟩, hb2⟩
    (fun x a' W' => ∃ Bx, w.heap.size + 1 + 1 < Bx ∧ PBox W' Bx x.1.2.Op x.1.2.To x.1.2.A x.1.2.B x.1.2.K x.1.2.la x.1.2.ll x.1.2.lc ∧ a' = { tmps := #[.agg #[.int .i64 W, .int .i64 H, .int .i64 S, .int .i64 O, .slice (some ⟨b, off, none⟩) ps.length cap], .pointer (some ⟨w.heap.size, 0, none⟩), .pointer (some ⟨w.heap.size + 1, 0, none⟩), .pointer (some ⟨w.heap.size + 1 + 1, 0, none⟩), .int .i64 0, .int .i64 (x.1.1 : Int), .pointer (some ⟨Bx, 0, none⟩), .agg #[.int .i64 W, .int .i64 H, .int .i64 S, .int .i64 O, .slice (some ⟨b, off, none⟩) ps.length cap], .int .i64 0, .int .i64 0, .bool false, undef, .pointer (some ⟨w.heap.size, 4, none⟩), .slice (some ⟨b, off, none⟩) ps.length cap, .func (.func 107) #[] #[.pointer (some ⟨w1.heap.size, 0, none⟩)], .int .i64 (x.1.1 : Int), x.1.2.val, undef, undef, undef, undef, undef, undef], defers := [] })
    (fun x a' _ X Y row hs hg hr => by obtain ⟨Bx, h1, h2, h3⟩ := hs; exact ⟨Bx, h1, pbox_own h2 hg (fun r e => (hr r e).2), h3⟩)
    ?assign ?body ?done ?stop
  case assign =>
    rintro l pre x W' K ⟨⟨h1, h2, h3, h4, h5⟩, hB1⟩ hK
    gi_wp2
    have hx3 := h3.lt
    have hx4 := h4.lt
    exact hK _ _ ((KeepsOthers.alloc _ _).from _) ⟨(Below.refl _ W').alloc hB1.size _, World.cell?_alloc_lt _ _ _ h5.lt⟩ ⟨⟨h1, (World.cell?_alloc_lt _ _ _ (show w.heap.size < W'.heap.size by omega)).trans h2, h3.alloc _, h4.alloc _, h5.alloc _⟩, hB1.alloc hB1.size _⟩ ⟨W'.heap.size, hx4, PBox.new W' _ _ _ _ _ _ _ _, rfl⟩
  case body =>
    rintro l pre x a' W' hl ⟨r, hr⟩ ⟨⟨h1, h2, h3, h4, h5⟩, hB1⟩ ⟨Bx, hBx, hPx, rfl⟩ hlt
    obtain ⟨_, p0, p1, p2, p3, p4, p5⟩ := id hPx
    have f3 := h3.frozen
    have d3 := h3.cell
    have f4 := h4.frozen
    have d4 := h4.cell
    by_cases hTo : x.1.2.To = O
    · have hTo' : (x.1.2.To == O) = true := by simpa using hTo
      have hB2 := (hB1.setCell (p := ⟨w.heap.size + 1, 0, none⟩) (show w.heap.size ≤ w.heap.size + 1 by omega) (.int .i64 (x.1.1 : Int))).setCell (p := ⟨w.heap.size + 1 + 1, 0, none⟩) (show w.heap.size ≤ w.heap.size + 1 + 1 by omega) (.int .i64 0)
      have k3 := (h3.set (.int .i64 (x.1.1 : Int))).other (B' := w.heap.size + 1 + 1) (by omega) (.int .i64 0)
      have k4 := (h4.other (B' := w.heap.size + 1) (by omega) (.int .i64 (x.1.1 : Int))).set (.int .i64 0)
      have HTO : Hid (_) := hTo
      clear hTo
      gi_wp2
      exact ⟨((KeepsOthers.setCell _ _ _).trans (KeepsOthers.setCell _ _ _)).from _, ⟨rfl, pre, x, rfl, h1, HTO.out, k3, k4⟩, hB2⟩
    · have hTo' : (x.1.2.To == O) = false := by simpa using hTo
      have HTO : Hid (_) := hTo
      clear hTo
      gi_wp2
      exact ⟨KeepsFrom.refl _ _, ⟨Below.refl _ _, rfl⟩, ⟨(fun y hy => by rcases List.mem_append.1 hy with h | h; exact h1 y h; rw [List.mem_singleton] at h; subst h; exact HTO.out), h2, h3, h4, h5⟩, hB1⟩
  case done =>
    rintro D ys W' hD rfl ⟨⟨hne, _⟩, _⟩ hK
    exfalso
    have e : shownP ⟨W, H, S, O, ps⟩ = wrt ps ps.length O := rfl
    have hbd := wrt_bd ps ps.length O
    rw [e] at hsh
    have hto := wrt_to ps ps.length O hsh
    obtain ⟨x, hx, hx1⟩ := bhs_mem ps.length hpos pv (k := ps.length) (m := (wrt ps ps.length O).toNat) (by omega) (by omega)
    have := hne x hx
    rw [hx1] at this
    exact this ((heq _ (by omega)).2.1.trans hto)
  case stop =>
    rintro D c pre W' hD ⟨k, hk, rfl⟩ ⟨⟨rfl, pre', x, hpre, hne, hxO, h3, h4⟩, hB2⟩ hK
    gi_wp2
    refine ⟨by simp, .inl ⟨_, _, rfl, run_takeDeferred hK, ?_⟩⟩
    rw [bhs_succ] at hpre
    obtain ⟨e1, e2⟩ := List.append_inj' hpre rfl
    have e3 : bh ps.length hpos pv k = x := by injection e2
    subst e1 e3
    have c3 := cell_kept h3.cell (grownBy_putObj' _ D (.deferred none)) (fun r e => by cases e; exact ⟨_, hK, rfl⟩)
    have c4 := cell_kept h4.cell (grownBy_putObj' _ D (.deferred none)) (fun r e => by cases e; exact ⟨_, hK, rfl⟩)
    have hm : (bh ps.length hpos pv k).1 = (ps.length - 1 - k, pv (ps.length - 1 - k)) := rfl
    rw [hm] at hxO c3
    dsimp only at hxO c3
    have hshow : shownP ⟨W, H, S, O, ps⟩ = ((ps.length - 1 - k : Nat) : Int) := by
      show wrt ps ps.length O = _
      refine wrt_last (by omega) ((heq _ (by omega)).2.1.symm.trans hxO) (fun j h1 h2 => ?_)
      obtain ⟨y, hy, hy1⟩ := bhs_mem ps.length hpos pv (k := k) (m := j) h2 (by omega)
      have := hne y hy
      rw [hy1] at this
      exact fun e => this ((heq j h2).2.1.trans e)
    refine ⟨.tuple #[.int .i64 ((ps.length - 1 - k : Nat) : Int), .int .i64 0], ?_, ⟨by rw [hE, if_pos rfl, hshow], hB2.trans (belowK_b (w := w) (Nat.le_refl _) W' D _ _ (by have := hb2.size; omega) hK rfl rfl)⟩⟩
    simp [results, Try.results69, go_sem, c3, c4]
/-- need.Last. -/
theorem last_any (W H S O : Int) (a : Option Addr) (len cap : Nat) (ps : List Ps) (w : World) (hp : Passes w a len ps) :
    Calls Try.prog 69 #[.agg #[.int .i64 W, .int .i64 H, .int .i64 S, .int .i64 O, .slice a len cap]] w (ToldLast w ⟨W, H, S, O, ps⟩) := by
  by_cases hE : frameE ⟨W, H, S, O, ps⟩ = 0
  · exact last_ok W H S O a len cap ps w hp hE
  · exact last_err W H S O a len cap ps w hp hE
end Go.Proofs.Ytfpkiimlaepnhab
/-
  KEPT: need.Kept.
-/
namespace Go.Proofs.Ytfpkiimlaepnhab
set_option maxRecDepth 100000
open Go.RowKit Im Go.Shelf
attribute [local go_sem] Oper.semAt_some

/-- What need.Kept tells. -/
def ToldKept (w : World) (f : Fr) (e : Ending) (w' : World) : Prop :=
  ((frameE f = 0 ∧ ∃ b, e = .returned (.tuple #[.slice (some ⟨b, 0, none⟩) f.ps.length f.ps.length, .int .i64 0]) ∧ w.heap.size ≤ b ∧ Bl w' b f.ps.length (keptG f.ps f.ps.length (shownP f) f.ps.length)) ∨
   (frameE f ≠ 0 ∧ e = .returned (.tuple #[.slice none 0 0, .int .i64 (frameE f)]))) ∧ Below w.heap.size w w'
set_option maxHeartbeats 1000000 in
theorem kept_err (W H S O : Int) (a : Option Addr) (len cap : Nat) (ps : List Ps) (w : World) (hp : Passes w a len ps) (hE : frameE ⟨W, H, S, O, ps⟩ ≠ 0) :
    Calls Try.prog 55 #[.agg #[.int .i64 W, .int .i64 H, .int .i64 S, .int .i64 O, .slice a len cap]] w (ToldKept w ⟨W, H, S, O, ps⟩) := by
  have hb0 := below_box (Below.refl w.heap.size w) (.cells #[.int .i64 W, .int .i64 H, .int .i64 S, .int .i64 O, .slice a len cap] 24)
  have hla := last_any W H S O a len cap ps _ (hp.below hb0)
  go_enter Try.func55, Try.ntmps55
  go_wp2_with fail
  refine hla.mono ?_
  clear hla
  rintro e w1 ⟨rfl, b1⟩
  rw [if_neg hE]
  go_wp2
  go_ret2
  exact ⟨.inr ⟨hE, rfl⟩, below_step hb0 b1⟩
/-- A make of a whole slice, inside a fence. -/
theorem listIn_make {F : Fence} {n : Nat} {P : Program} (w : World) {ops : Array Oper} {rest : List Oper} {o : Oper} {a : Act} {Q : Exit → Act → World → Prop}
    (hg : o.guard = none) (l c : Operand) (t : TypeId) (hop : o.op = Op.makeSlice t l c)
    (base : Nat) (e : TypeId) (i : TypeInfo) (z : Value) (size : Nat) (h1 : P.underlying t = some (.slice e)) (h2 : P.info? e = some i) (h3 : i.zero = some z) (h4 : i.size = size)
    (kl kc : IntKind) (m : Nat) (hl : a.eval l = .int kl (m : Int)) (hc : a.eval c = .int kc (m : Int)) (b2 : i.bytes * m ≤ 281474976710656) (b3 : m ≤ maxLen) (b4 : base ≤ w.heap.size)
    (hK : ∀ w', w'.ownsRow base e size (.slice (some ⟨w.heap.size, 0, none⟩) m m) m (madeCells z.cells (m * size)).toList → w.grownBy w' none → wpListIn F n P ops Q rest (a.put o.dst (.slice (some ⟨w.heap.size, 0, none⟩) m m)) w') :
    wpListIn F n P ops Q (o :: rest) a w := by
  obtain ⟨w', hrun, r1, r2⟩ := run_make_full (P := P) w base t e i z size h1 h2 h3 h4 kl kc m b2 b3 b4
  refine wpListIn_plain hg fun K hK' => ?_
  unfold Oper.wpIn
  refine ⟨by simp [Oper.about, hop], ?_⟩
  rw [Oper.semAt_plain F _ _ (by rw [hop]; intro c hc'; cases hc')]
  simp [execOp, hop, hl, hc, hrun, Result.andThen]
  exact hK' _ _ (hK w' r1 r2)
/-- The marks, when one pass more has been asked. -/
def stepX (ps : List Ps) {len : Nat} (g : Nat → Bool) (x : Pe len) (j : Nat) : Bool := if g x.1.1 = true then markG g (srcOf ps x.1.1) j else g j
theorem fold_bhs (ps : List Ps) (len : Nat) (hl : 0 < len) (pv : Nat → Pv) (N : Int) (k : Nat) : (bhs len hl pv k).foldl (stepX ps) (fun j => decide (N = (j : Int))) = keptG ps len N k := by
  induction k with
  | zero => rfl
  | succ k ih =>
    rw [bhs_succ, List.foldl_append, ih]
    rfl
theorem bl_own {X Y : World} {row : Option Nat} {b n : Nat} {g : Nat → Bool} (hn : 0 < n) (h : Bl X b n g) (hg : X.grownBy Y row) (hr : ∀ r, row = some r → ∃ o : Obj, X.heap[r]? = some o ∧ o.isCells = false) : Bl Y b n g := by
  obtain ⟨o, ho, hc⟩ := cells_of_cell (h.cells 0 hn)
  have e := grownBy_keeps_cells hg hr ho hc
  exact ⟨Nat.lt_of_lt_of_le h.lt hg.size, fun j hj => (World.cell?_of_block (a := ⟨b, j, none⟩) e).trans (h.cells j hj), fun o => (World.frozen?_of_block (a := ⟨b, o, none⟩) e).trans (h.froz o)⟩
theorem bl_alloc {X : World} {b n : Nat} {g : Nat → Bool} (h : Bl X b n g) (o : Obj) : Bl (X.alloc o) b n g := h.below ((Below.refl X.heap.size X).alloc (Nat.le_refl _) o) h.lt (by simp)
theorem boxed_set {W : World} {B : Nat} {t : TypeId} {v : Value} (h : Go.Boxed W B t v) {p : Addr} (hne : p.block ≠ B) (u : Value) : Go.Boxed (W.setCell p u) B t v := (Below.heap_setCell W p u B (fun e => hne (by rw [e]))).trans h
set_option maxHeartbeats 4000000 in
theorem kept_ok (W H S O : Int) (a : Option Addr) (len cap : Nat) (ps : List Ps) (w : World) (hp : Passes w a len ps) (hE : frameE ⟨W, H, S, O, ps⟩ = 0) :
    Calls Try.prog 55 #[.agg #[.int .i64 W, .int .i64 H, .int .i64 S, .int .i64 O, .slice a len cap]] w (ToldKept w ⟨W, H, S, O, ps⟩) := by
  obtain rfl := hp.leng
  obtain ⟨hbnd, hfirst, hsh⟩ := frameE_zero hE
  dsimp only at hfirst
  obtain ⟨_, _, _, _, hL⟩ := boundsE_zero hbnd
  dsimp only at hL
  obtain ⟨N, hN⟩ := Int.eq_ofNat_of_zero_le hsh
  have hNl : N < ps.length := by have := (wrt_bd ps ps.length O).2; have e : shownP ⟨W, H, S, O, ps⟩ = wrt ps ps.length O := rfl; omega
  obtain ⟨i0, hi, hz0, hz1, hz2⟩ := info_parts Try.infoBool
  have hb0 := below_box (Below.refl w.heap.size w) (.cells #[.int .i64 W, .int .i64 H, .int .i64 S, .int .i64 O, .slice a ps.length cap] 24)
  have hla := last_any W H S O a ps.length cap ps _ (hp.below hb0)
  have hso := fun wx hp => sources_any W H S O a ps.length cap ps wx hp
  unfold ToldLast at hla
  rw [hE, if_pos rfl, hN] at hla
  have hs2 : ∀ x ∈ srcs ps ps.length, x.length ≤ 2 := by
    intro x hx
    unfold srcs at hx
    rw [List.mem_map] at hx
    obtain ⟨n, _, rfl⟩ := hx
    unfold srcOf
    rw [List.length_map]
    exact takesP_len _
  have hin : ∀ n, n < ps.length → ∀ i ∈ srcOf ps n, 0 ≤ i ∧ i < n := fun n hn => by
    have hfk := firstE_down ⟨W, H, S, O, ps⟩ hfirst (k := n) (by omega)
    have hpE : passE ⟨W, H, S, O, ps⟩ n = 0 := (firstE_at ⟨W, H, S, O, ps⟩ hfk).symm.trans (firstE_down ⟨W, H, S, O, ps⟩ hfirst (k := n + 1) (by omega))
    exact src_bd (passE_zero hpE).2.1
  obtain ⟨b, off, pv, rfl, hbl, hpv, heq⟩ := hp.pv (by omega)
  have hB := FBox.new w W H S O (some ⟨b, off, none⟩) ps.length cap
  have HIN : Hid (_) := hin
  have hlenS := srcs_length ps ps.length
  clear hin
  refine (callsIn_wide (n := 4)).1 ?_
  refine callsIn_of_wp_marks Try.func55 rfl trivial ?_ rfl
  simp only [Try.ntmps55, List.size_toArray, List.length_cons, List.length_nil, Nat.reduceAdd, Nat.reduceSub, Array.replicate_succ, Array.replicate_zero, List.push_toArray, List.append_toArray, List.nil_append, List.cons_append]
  gi_wp2_with (first
    | (refine ⟨trivial, ?_⟩; gi_at_call 69; refine (callsIn_wide.2 hla).mono ?_; rintro e w1 ⟨rfl, b1⟩; have hB1 := hB.below b1; have hb1 := below_step hb0 b1; obtain ⟨_, g0, g1, g2, g3, g4⟩ := id hB1))
  refine ⟨trivial, ?_⟩
  refine (callsIn_wide.2 (hso _ ((hp.below hb0).below b1))).mono ?_
  rintro e w2 ⟨⟨v2, rfl, hS⟩, b2⟩
  rw [if_pos hE] at hS
  rw [hE]
  obtain ⟨sa, sc, rfl, hSs⟩ := hS.lls hs2
  dsimp only at hSs ⊢
  rw [hlenS] at hSs ⊢
  have b2A := below_step b2 ((Below.refl w2.heap.size w2).alloc (Nat.le_refl _) (.cells #[.slice sa ps.length sc] 75))
  have bS := Go.Boxed.new w2 75 (.slice sa ps.length sc)
  have hSA := hSs.below ((Below.refl w2.heap.size w2).alloc (Nat.le_refl _) (.cells #[.slice sa ps.length sc] 75))
  have hB2 := hB1.below b2A
  have hNi : (N : Int) < (ps.length : Int) := by omega
  have hN0 : (0 : Int) ≤ (N : Int) := by omega
  have hb2 := below_step hb1 b2A
  have hsA : (w2.alloc (.cells #[.slice sa ps.length sc] 75)).heap.size = w2.heap.size + 1 := by simp
  clear g0 g1 g2 g3 g4 hB1 hS hla hso hs2 hSs b1 b2 b2A hb0 hb1
  obtain ⟨_, g0, g1, g2, g3, g4⟩ := id hB2
  gi_wp2_with (first
    | (gi_at_make; refine listIn_make _ rfl _ _ 85 rfl (w2.heap.size + 1) 4 i0 (.bool false) 1 Try.underlying85 hi hz0 hz1 .i64 .i64 ps.length rfl rfl (by rw [hz2]; omega) (by unfold maxLen; omega) (by simp) ?_; intro wM hown hgrow; have hbM : Below (w2.heap.size + 1) (w2.alloc (.cells #[.slice sa ps.length sc] 75)) wM := (Below.refl _ _).grown hgrow (by simp) (fun k hk => by cases hk); rw [hsA] at hown; have hlM := (World.ownsRow.lt (w := wM) hown (w2.heap.size + 1) rfl).2; have hKM := Bl.made hown hlM; have hKN := hKM.below ((Below.refl wM.heap.size wM).alloc (Nat.le_refl _) (.cells #[.slice (some ⟨w2.heap.size + 1, 0, none⟩) ps.length ps.length] 85)) hlM (by simp); have k0 := hKN.cells N hNl; have kf := hKN.froz N; have hlw : w.heap.size < w2.heap.size + 1 := (by have := hB2.lt; omega); have gM := hbM.cell (p := ⟨w.heap.size, 4, none⟩) hlw; have gN : ((wM.setCell ⟨w2.heap.size + 1, N, none⟩ (.bool true)).alloc (.cells #[.slice (some ⟨w2.heap.size + 1, 0, none⟩) ps.length ps.length] 85)).cell? ⟨w.heap.size, 4, none⟩ = some (.slice (some ⟨b, off, none⟩) ps.length cap) := (World.cell?_alloc_lt _ _ _ (show w.heap.size < (wM.setCell ⟨w2.heap.size + 1, N, none⟩ (.bool true)).heap.size by simp [World.setCell]; omega)).trans ((set_other _ (fun e => by injection e with e1; omega)).trans (gM.trans g4)))
    | (refine ⟨trivial, ?_⟩; gi_at_call 82; refine (callsIn_wide.2 (fromBehind_any _ _ _ _)).mono ?_; rintro e w9 ⟨rfl, rfl⟩))
  have hpos : 0 < ps.length := by omega
  have hWS : (wM.setCell ⟨w2.heap.size + 1, N, none⟩ (.bool true)).heap.size = wM.heap.size := by simp [World.setCell]
  have hKS := hKM.put (g' := fun j => decide ((N : Int) = (j : Int))) N hNl (fun j hj => by
    by_cases h : N = j
    · subst h; simp
    · have h' : ¬ (N : Int) = (j : Int) := by omega
      simp [h, h'])
  have hK0 := bl_alloc (bl_alloc hKS (.cells #[.slice (some ⟨w2.heap.size + 1, 0, none⟩) ps.length ps.length] 85)) (.cells #[.slice (some ⟨b, off, none⟩) ps.length cap] 22)
  have bKB := (Go.Boxed.new (wM.setCell ⟨w2.heap.size + 1, N, none⟩ (.bool true)) 85 (.slice (some ⟨w2.heap.size + 1, 0, none⟩) ps.length ps.length)).alloc (.cells #[.slice (some ⟨b, off, none⟩) ps.length cap] 22)
  have bPB := Go.Boxed.new ((wM.setCell ⟨w2.heap.size + 1, N, none⟩ (.bool true)).alloc (.cells #[.slice (some ⟨w2.heap.size + 1, 0, none⟩) ps.length ps.length] 85)) 22 (.slice (some ⟨b, off, none⟩) ps.length cap)
  rw [World.size_alloc] at bPB
  rw [hWS] at bKB bPB
  have hbA : Below (w2.heap.size + 1) (w2.alloc (.cells #[.slice sa ps.length sc] 75)) (((wM.setCell ⟨w2.heap.size + 1, N, none⟩ (.bool true)).alloc (.cells #[.slice (some ⟨w2.heap.size + 1, 0, none⟩) ps.length ps.length] 85)).alloc (.cells #[.slice (some ⟨b, off, none⟩) ps.length cap] 22)) := ((hbM.setCell (p := ⟨w2.heap.size + 1, N, none⟩) (Nat.le_refl _) _).alloc (by rw [hWS]; omega) _).alloc (by simp [hWS]; omega) _
  have hbW : Below w.heap.size w (((wM.setCell ⟨w2.heap.size + 1, N, none⟩ (.bool true)).alloc (.cells #[.slice (some ⟨w2.heap.size + 1, 0, none⟩) ps.length ps.length] 85)).alloc (.cells #[.slice (some ⟨b, off, none⟩) ps.length cap] 22)) := hb2.trans (hbA.mono (by have := hb2.size; rw [hsA] at this; omega))
  have hlw2 : w.heap.size ≤ w2.heap.size + 1 := by omega
  have hsz0 : (((wM.setCell ⟨w2.heap.size + 1, N, none⟩ (.bool true)).alloc (.cells #[.slice (some ⟨w2.heap.size + 1, 0, none⟩) ps.length ps.length] 85)).alloc (.cells #[.slice (some ⟨b, off, none⟩) ps.length cap] 22)).heap.size = wM.heap.size + 2 := by simp [hWS]
  have hpv0 := hpv.below hbW hbl
  clear hKM hKN k0 kf gM gN g0 g1 g2 g3 g4 hB2 hKS hown hgrow
  generalize ((wM.setCell ⟨w2.heap.size + 1, N, none⟩ (.bool true)).alloc (.cells #[.slice (some ⟨w2.heap.size + 1, 0, none⟩) ps.length ps.length] 85)).alloc (.cells #[.slice (some ⟨b, off, none⟩) ps.length cap] 22) = W0 at *
  have hbb := @boxed_own Unit
  refine wpIn_rangeFunc_ownH rfl (by decide) (gf := 107) (lb := #[.pointer (some ⟨wM.heap.size + 1, 0, none⟩)]) rfl trivial (enters_of Try.func107 (by kernel_rfl) rfl)
    (behind_stops 3 (by decide) (wM.heap.size + 1) w.heap.size b off ps.length cap hpos hL.2 pv hbl W0 (by omega) hbW.size bPB.cell hpv0) KpB.t (KpB.b hbW.size (by omega)) (Below.refl _ _) (fun _ => rfl)
    (fun pre W' => (Bl W' (w2.heap.size + 1) ps.length (pre.foldl (stepX ps) (fun j => decide ((N : Int) = (j : Int)))) ∧ Go.Boxed W' wM.heap.size 85 (.slice (some ⟨w2.heap.size + 1, 0, none⟩) ps.length ps.length) ∧ Go.Boxed W' (wM.heap.size + 1) 22 (.slice (some ⟨b, off, none⟩) ps.length cap)) ∧ Below (w2.heap.size + 1) (w2.alloc (.cells #[.slice sa ps.length sc] 75)) W')
    (fun _ _ _ => False)
    (fun s A B row hs hg hr => ⟨⟨bl_own hpos hs.1.1 hg (fun r e => (hr r e).2), hbb _ _ (fun _ => _) () A B row hs.1.2.1 hg (fun r e => (hr r e).2), hbb _ _ (fun _ => _) () A B row hs.1.2.2 hg (fun r e => (hr r e).2)⟩, ownFrom_below (β := Unit) (w₀ := (w2.alloc (.cells #[.slice sa ps.length sc] 75))) (by simp) (by omega) () A B row hs.2 hg hr⟩)
    (fun _ _ _ _ _ hs _ _ => hs)
    ⟨⟨hK0, bKB, bPB⟩, hbA⟩
    (fun x a' _ => a' = { tmps := #[.agg #[.int .i64 W, .int .i64 H, .int .i64 S, .int .i64 O, .slice (some ⟨b, off, none⟩) ps.length cap], .pointer (some ⟨w.heap.size, 0, none⟩), .slice none 0 0, .int .i64 0, .int .i64 (N : Int), .int .i64 0, .pointer (some ⟨w2.heap.size, 0, none⟩), .pointer (some ⟨wM.heap.size, 0, none⟩), .int .i64 (x.1.1 : Int), undef, undef, .tuple #[.int .i64 (N : Int), .int .i64 0], .agg #[.int .i64 W, .int .i64 H, .int .i64 S, .int .i64 O, .slice (some ⟨b, off, none⟩) ps.length cap], .tuple #[.int .i64 (N : Int), .int .i64 0], .int .i64 (N : Int), .int .i64 0, .int .i64 0, .bool false, undef, .tuple #[.slice sa ps.length sc, .int .i64 0], .agg #[.int .i64 W, .int .i64 H, .int .i64 S, .int .i64 O, .slice (some ⟨b, off, none⟩) ps.length cap], .tuple #[.slice sa ps.length sc, .int .i64 0], .slice sa ps.length sc, .int .i64 0, .int .i64 0, .bool false, undef, .pointer (some ⟨w.heap.size, 4, none⟩), .slice (some ⟨b, off, none⟩) ps.length cap, .int .i64 (ps.length : Int), .slice (some ⟨w2.heap.size + 1, 0, none⟩) ps.length ps.length, .slice (some ⟨w2.heap.size + 1, 0, none⟩) ps.length ps.length, .int .i64 (N : Int), .pointer (some ⟨w2.heap.size + 1, N, none⟩), .pointer (some ⟨w.heap.size, 4, none⟩), .slice (some ⟨b, off, none⟩) ps.length cap, .func (.func 107) #[] #[.pointer (some ⟨wM.heap.size + 1, 0, none⟩)], .int .i64 (x.1.1 : Int), x.1.2.val, undef, undef, undef, undef, undef, undef, undef, undef, undef, undef, undef, undef, undef, undef, undef, undef, undef, undef, undef], defers := [] })
    (fun _ _ _ _ _ _ hs _ _ => hs)
    ?assign ?body ?done ?stop
  case assign =>
    rintro l pre x W' K hi hK
    gi_wp2
    exact hK _ _ (KeepsFrom.refl _ _) ⟨Below.refl _ _, rfl⟩ hi rfl
  case body =>
    rintro l pre x a' W' hl ⟨r, hr⟩ ⟨⟨hK1, hk1, hp1⟩, hB1⟩ rfl hlt
    have HST : Hid (∀ j, (pre ++ [x]).foldl (stepX ps) (fun j => decide ((N : Int) = (j : Int))) j = if pre.foldl (stepX ps) (fun j => decide ((N : Int) = (j : Int))) x.1.1 = true then markG (pre.foldl (stepX ps) (fun j => decide ((N : Int) = (j : Int)))) (srcOf ps x.1.1) j else pre.foldl (stepX ps) (fun j => decide ((N : Int) = (j : Int))) j) := fun j => by rw [List.foldl_append]; rfl
    obtain ⟨⟨m, pvx⟩, hm⟩ := x
    dsimp only at hm HST ⊢
    have hmI : (m : Int) < (ps.length : Int) := by omega
    have hm0 : (0 : Int) ≤ (m : Int) := by omega
    generalize pre.foldl (stepX ps) (fun j => decide ((N : Int) = (j : Int))) = g at hK1 HST
    have cK := hk1.cell
    have cS := (boxed_below bS hB1 (by omega)).cell
    have km := hK1.cells m hm
    obtain ⟨sb, so, ua, uc, rfl, hsb, qq, hUI⟩ := hSA.nth hm
    rw [hsA] at hsb
    rw [srcs_at _ hm] at qq hUI
    have hin := HIN.out m hm
    have hsl : (srcOf ps m).length ≤ 2 := by unfold srcOf; rw [List.length_map]; exact takesP_len _
    generalize srcOf ps m = sr at qq hUI hin HST hsl
    generalize hx : g m = xm at km HST
    cases xm with
    | false =>
      gi_wp2
      exact ⟨KeepsFrom.refl _ _, ⟨Below.refl _ _, rfl⟩, ⟨hK1.congr (fun j _ => by rw [HST.out j, if_neg (by decide)]), hk1, hp1⟩, hB1⟩
    | true =>
      have q0 := (hB1.cell (p := ⟨sb, so + m, none⟩) hsb).trans qq
      gi_wp2
      gi_loopw [49] (fun i wr => ∃ t : Nat, t ≤ sr.length ∧ i = .int .i64 t ∧ Bl wr (w2.heap.size + 1) ps.length (markG g (sr.take t)) ∧ Go.Boxed wr wM.heap.size 85 (.slice (some ⟨w2.heap.size + 1, 0, none⟩) ps.length ps.length) ∧ Go.Boxed wr (wM.heap.size + 1) 22 (.slice (some ⟨b, off, none⟩) ps.length cap) ∧ Below (w2.heap.size + 1) (w2.alloc (.cells #[.slice (some ⟨sb, so, none⟩) ps.length sc] 75)) wr ∧ Below w.heap.size W' wr ∧ KeepsFrom W0.heap.size W' wr) (fun i _ => sr.length - (intOf i).toNat)
      case atStart => exact ⟨0, Nat.zero_le _, rfl, by rw [List.take_zero, markG_nil]; exact hK1, hk1, hp1, hB1, Below.refl _ _, KeepsFrom.refl _ _⟩
      case round =>
        obtain ⟨t, ht, rfl, hKt, hkt, hpt, hBt, hWt, hFt⟩ := hrel
        have cKt := hkt.cell
        by_cases htl : t < sr.length
        · obtain ⟨bu, ou, rfl, hcx⟩ := (hUI.below (by rw [hsA]; exact Nat.le_refl _) hBt).nth htl
          have hrr := hin _ (getD_mem htl 0)
          have HS : Hid (∀ j : Nat, markG g (sr.take (t + 1)) j = if sr.getD t 0 = (j : Int) then true else markG g (sr.take t) j) := fun j => markG_take g sr t htl j
          generalize sr.getD t 0 = n at hcx hrr HS
          obtain ⟨q, rfl⟩ := Int.eq_ofNat_of_zero_le hrr.1
          have hql : q < ps.length := by omega
          have hqI : (q : Int) < (ps.length : Int) := by omega
          have kq := hKt.cells q hql
          have kf := hKt.froz q
          have hK9 := hKt.put (g' := markG g (sr.take (t + 1))) q hql (fun j hj => by
            rw [HS.out j]
            by_cases h : q = j
            · subst h; simp
            · have h' : ¬ (q : Int) = (j : Int) := by omega
              rw [if_neg h, if_neg h'])
          have hB9 := hBt.setCell (p := ⟨w2.heap.size + 1, q, none⟩) (Nat.le_refl _) (.bool true)
          have hW9 := hWt.setCell (p := ⟨w2.heap.size + 1, q, none⟩) hlw2 (.bool true)
          have hk9 := boxed_set hkt (p := ⟨w2.heap.size + 1, q, none⟩) (show w2.heap.size + 1 ≠ wM.heap.size by omega) (.bool true)
          have hp9 := boxed_set hpt (p := ⟨w2.heap.size + 1, q, none⟩) (show w2.heap.size + 1 ≠ wM.heap.size + 1 by omega) (.bool true)
          have hF9 := hFt.trans ((KeepsOthers.setCell wr ⟨w2.heap.size + 1, q, none⟩ (.bool true)).from W0.heap.size)
          have HK9 : Hid (_) := hK9
          clear hK9 hK1 hx hk1 hp1
          gi_wp2
          go_roundw
          case rel => exact ⟨t + 1, by omega, by go_num, HK9.out, hk9, hp9, hB9, hW9, hF9⟩
          case measure => simp [intOf]; omega
        · have hte : t = sr.length := by omega
          subst hte
          rw [List.take_length] at hKt
          clear hx
          gi_wp2
          exact ⟨hFt, ⟨hWt, hpt.cell.trans hp1.cell.symm⟩, ⟨hKt.congr (fun j _ => by rw [HST.out j, if_pos (by trivial)]), hkt, hpt⟩, hBt⟩
  case done =>
    rintro D ys W' hD rfl ⟨⟨hK1, hk1, hp1⟩, hB1⟩ hK
    have cK := hk1.cell
    gi_wp2
    refine ⟨by simp, .inl ⟨_, _, rfl, run_takeDeferred hK, ?_⟩⟩
    rw [fold_bhs] at hK1
    have hK2 := bl_own hpos hK1 (grownBy_putObj' _ D (.deferred none)) (fun r e => by cases e; exact ⟨_, hK, rfl⟩)
    refine ⟨.tuple #[(.slice (some ⟨w2.heap.size + 1, 0, none⟩) ps.length ps.length), .int .i64 0], ?_, ⟨.inl ⟨hE, w2.heap.size + 1, rfl, hlw2, by dsimp only; rw [hN]; exact hK2⟩, (hb2.trans (hB1.mono (by have := hb2.size; rw [hsA] at this; omega))).trans (belowK_b (w := w) (Nat.le_refl _) W' D _ _ (by have := hbW.size; omega) hK rfl rfl)⟩⟩
    simp [results, Try.results55, go_sem]
  case stop =>
    rintro D c pre W' _ _ h _
    exact h.elim
/-- need.Kept. -/
theorem kept_any (W H S O : Int) (a : Option Addr) (len cap : Nat) (ps : List Ps) (w : World) (hp : Passes w a len ps) :
    Calls Try.prog 55 #[.agg #[.int .i64 W, .int .i64 H, .int .i64 S, .int .i64 O, .slice a len cap]] w (ToldKept w ⟨W, H, S, O, ps⟩) := by
  by_cases hE : frameE ⟨W, H, S, O, ps⟩ = 0
  · exact kept_ok W H S O a len cap ps w hp hE
  · exact kept_err W H S O a len cap ps w hp hE
end Go.Proofs.Ytfpkiimlaepnhab
/-
  SAMEF: the reference's SameFrames, of two frames that are the same.
-/
namespace Go.Proofs.Ytfpkiimlaepnhab
set_option maxRecDepth 100000
open Go.RowKit Im

/-- Two passes, each in a block of its own. -/
def Two67 (wr : World) (Op To A B K : Int) (la : Option Addr) (ll lc : Nat) (la' : Option Addr) (lc' : Nat) (s6 s7 : Value) (wx : World) : Prop :=
  ∃ b6 b7, s6 = .pointer (some ⟨b6, 0, none⟩) ∧ s7 = .pointer (some ⟨b7, 0, none⟩) ∧ PBox wx b6 Op To A B K la ll lc ∧ PBox wx b7 Op To A B K la' ll lc' ∧ Below wr.heap.size wr wx
theorem passes_blk {w : World} {b off len : Nat} {ps : List Ps} (h : Passes w (some ⟨b, off, none⟩) len ps) {k : Nat} (hk : k < len) : b < w.heap.size := by
  rcases h.cells with e | ⟨b', off', ha, hl, _⟩
  · have := h.leng; subst e; simp at this; omega
  · injection ha with ha
    injection ha with e1 e2
    subst e1
    exact hl
theorem six_cells {wr w' : World} {b o : Nat} {x0 x1 x2 x3 x4 x5 : Value} (hb : Below wr.heap.size wr w') (h : b < wr.heap.size) (p0 : wr.cell? ⟨b, o, none⟩ = some x0) (p1 : wr.cell? ⟨b, o + 1, none⟩ = some x1) (p2 : wr.cell? ⟨b, o + 2, none⟩ = some x2) (p3 : wr.cell? ⟨b, o + 3, none⟩ = some x3) (p4 : wr.cell? ⟨b, o + 4, none⟩ = some x4) (p5 : wr.cell? ⟨b, o + 5, none⟩ = some x5) :
    w'.cell? ⟨b, o, none⟩ = some x0 ∧ w'.cell? ⟨b, o + 1, none⟩ = some x1 ∧ w'.cell? ⟨b, o + 2, none⟩ = some x2 ∧ w'.cell? ⟨b, o + 3, none⟩ = some x3 ∧ w'.cell? ⟨b, o + 4, none⟩ = some x4 ∧ w'.cell? ⟨b, o + 5, none⟩ = some x5 :=
  ⟨(hb.cell (p := ⟨b, o, none⟩) h).trans p0, (hb.cell (p := ⟨b, o + 1, none⟩) h).trans p1, (hb.cell (p := ⟨b, o + 2, none⟩) h).trans p2, (hb.cell (p := ⟨b, o + 3, none⟩) h).trans p3, (hb.cell (p := ⟨b, o + 4, none⟩) h).trans p4, (hb.cell (p := ⟨b, o + 5, none⟩) h).trans p5⟩
theorem keepF {wr w' : World} {f1 f2 b b' o o' : Nat} {y0 y1 x0 x1 x2 x3 x4 x5 z0 z1 z2 z3 z4 z5 : Value} (hb : Below wr.heap.size wr w') (h1 : f1 < wr.heap.size) (h2 : f2 < wr.heap.size) (h3 : b < wr.heap.size) (h4 : b' < wr.heap.size) (g4 : wr.cell? ⟨f1, 4, none⟩ = some y0) (e4 : wr.cell? ⟨f2, 4, none⟩ = some y1)
    (p0 : wr.cell? ⟨b, o, none⟩ = some x0) (p1 : wr.cell? ⟨b, o + 1, none⟩ = some x1) (p2 : wr.cell? ⟨b, o + 2, none⟩ = some x2) (p3 : wr.cell? ⟨b, o + 3, none⟩ = some x3) (p4 : wr.cell? ⟨b, o + 4, none⟩ = some x4) (p5 : wr.cell? ⟨b, o + 5, none⟩ = some x5) (q0 : wr.cell? ⟨b', o', none⟩ = some z0) (q1 : wr.cell? ⟨b', o' + 1, none⟩ = some z1) (q2 : wr.cell? ⟨b', o' + 2, none⟩ = some z2) (q3 : wr.cell? ⟨b', o' + 3, none⟩ = some z3) (q4 : wr.cell? ⟨b', o' + 4, none⟩ = some z4) (q5 : wr.cell? ⟨b', o' + 5, none⟩ = some z5) :
    w'.cell? ⟨f1, 4, none⟩ = some y0 ∧ w'.cell? ⟨f2, 4, none⟩ = some y1 ∧ w'.cell? ⟨b, o, none⟩ = some x0 ∧ w'.cell? ⟨b, o + 1, none⟩ = some x1 ∧ w'.cell? ⟨b, o + 2, none⟩ = some x2 ∧ w'.cell? ⟨b, o + 3, none⟩ = some x3 ∧ w'.cell? ⟨b, o + 4, none⟩ = some x4 ∧ w'.cell? ⟨b, o + 5, none⟩ = some x5 ∧ w'.cell? ⟨b', o', none⟩ = some z0 ∧ w'.cell? ⟨b', o' + 1, none⟩ = some z1 ∧ w'.cell? ⟨b', o' + 2, none⟩ = some z2 ∧ w'.cell? ⟨b', o' + 3, none⟩ = some z3 ∧ w'.cell? ⟨b', o' + 4, none⟩ = some z4 ∧ w'.cell? ⟨b', o' + 5, none⟩ = some z5 := by
  obtain ⟨a0, a1, a2, a3, a4, a5⟩ := six_cells hb h3 p0 p1 p2 p3 p4 p5
  obtain ⟨c0, c1, c2, c3, c4, c5⟩ := six_cells hb h4 q0 q1 q2 q3 q4 q5
  exact ⟨(hb.cell (p := ⟨f1, 4, none⟩) h1).trans g4, (hb.cell (p := ⟨f2, 4, none⟩) h2).trans e4, a0, a1, a2, a3, a4, a5, c0, c1, c2, c3, c4, c5⟩
theorem pbox_two (w : World) (Op To A B K : Int) (la : Option Addr) (ll lc : Nat) (o : Obj) : PBox ((w.alloc o).alloc (.cells #[.int .i64 Op, .int .i64 To, .int .i64 A, .int .i64 B, .int .i64 K, .slice la ll lc] 92)) (w.heap.size + 1) Op To A B K la ll lc := by
  have := PBox.new (w.alloc o) Op To A B K la ll lc
  rwa [World.size_alloc] at this
theorem Lights.nthL {w : World} {a : Option Addr} {len : Nat} {ls : List Lt} (h : Lights w a len ls) {k : Nat} (hk : k < len) : ∃ b off, a = some ⟨b, off, none⟩ ∧ b < w.heap.size ∧ w.cell? ⟨b, off + k * 4, none⟩ = some (.int .i64 (ls.getD k Lt.zero).X) ∧ w.cell? ⟨b, off + k * 4 + 1, none⟩ = some (.int .i64 (ls.getD k Lt.zero).Y) ∧ w.cell? ⟨b, off + k * 4 + 2, none⟩ = some (.int .i64 (ls.getD k Lt.zero).R) ∧ w.cell? ⟨b, off + k * 4 + 3, none⟩ = some (.int .i64 (ls.getD k Lt.zero).P) := by
  rcases h.cells with e | ⟨b, off, ha, hl, hc⟩
  · have := h.leng; subst e; simp at this; omega
  · exact ⟨b, off, ha, hl, hc k hk⟩
set_option maxHeartbeats 4000000 in
theorem sameFrames_any (W H S O : Int) {a a' : Option Addr} {len : Nat} (cap cap' : Nat) {ps : List Ps} {w : World} (hp : Passes w a len ps) (hp' : Passes w a' len ps) :
    Calls Try.prog 34 #[.agg #[.int .i64 W, .int .i64 H, .int .i64 S, .int .i64 O, .slice a len cap], .agg #[.int .i64 W, .int .i64 H, .int .i64 S, .int .i64 O, .slice a' len cap']] w fun e w' => e = .returned (.bool true) ∧ Below w.heap.size w w' := by
  have hbig := hp.big
  have hb0 := below_box (below_box (Below.refl w.heap.size w) (.cells #[.int .i64 W, .int .i64 H, .int .i64 S, .int .i64 O, .slice a len cap] 24)) (.cells #[.int .i64 W, .int .i64 H, .int .i64 S, .int .i64 O, .slice a' len cap'] 24)
  have hB := (FBox.new w W H S O a len cap).alloc (.cells #[.int .i64 W, .int .i64 H, .int .i64 S, .int .i64 O, .slice a' len cap'] 24)
  have hC := FBox.new (w.alloc (.cells #[.int .i64 W, .int .i64 H, .int .i64 S, .int .i64 O, .slice a len cap] 24)) W H S O a' len cap'
  rw [World.size_alloc] at hC
  have hp1 := hp.below hb0
  have hp1' := hp'.below hb0
  obtain ⟨_, g0, g1, g2, g3, g4⟩ := id hB
  obtain ⟨_, e0, e1, e2, e3, e4⟩ := id hC
  go_enter Try.func34, Try.ntmps34
  go_wp2
  clear g0 g1 g2 g3 g4 e0 e1 e2 e3 e4
  generalize (w.alloc (.cells #[.int .i64 W, .int .i64 H, .int .i64 S, .int .i64 O, .slice a len cap] 24)).alloc (.cells #[.int .i64 W, .int .i64 H, .int .i64 S, .int .i64 O, .slice a' len cap'] 24) = w1 at *
  go_loopw [5] (fun i wr => ∃ k : Nat, k ≤ len ∧ i = .int .i64 k ∧ Below w1.heap.size w1 wr) (fun i _ => len - (intOf i).toNat)
  case atStart => exact ⟨0, Nat.zero_le _, rfl, Below.refl _ _⟩
  case round =>
    obtain ⟨k, hk, rfl, hbr⟩ := hrel
    obtain ⟨_, g0, g1, g2, g3, g4⟩ := hB.below hbr
    obtain ⟨_, e0, e1, e2, e3, e4⟩ := hC.below hbr
    by_cases hlt : k < len
    · obtain ⟨b, off, la, ll, lc, rfl, p0, p1, p2, p3, p4, p5, hLi⟩ := (hp1.below hbr).nth hlt
      obtain ⟨b', off', la', ll', lc', rfl, q0, q1, q2, q3, q4, q5, hLi'⟩ := (hp1'.below hbr).nth hlt
      generalize ps.getD k Ps.zero = p at p0 p1 p2 p3 p4 p5 hLi q0 q1 q2 q3 q4 q5 hLi'
      obtain ⟨Op, To, A, B, K, ls⟩ := p
      dsimp only at p0 p1 p2 p3 p4 p5 hLi q0 q1 q2 q3 q4 q5 hLi'
      have hll := hLi.leng
      have hll' := hLi'.leng
      obtain rfl : ll' = ll := by omega
      have h3 := passes_blk (hp1.below hbr) hlt
      have h4 := passes_blk (hp1'.below hbr) hlt
      have h1 := (hB.below hbr).lt
      have h2 := (hC.below hbr).lt
      go_upto_region 6 with fail
      go_cut [6, 7] from 51 to 60 (fun s6 s7 wx => Two67 wr Op To A B K la ll' lc la' lc' s6 s7 wx)
      case first =>
        go_region_held3 (fun w' => w'.cell? ⟨w.heap.size, 4, none⟩ = some (.slice (some ⟨b, off, none⟩) len cap) ∧ w'.cell? ⟨w.heap.size + 1, 4, none⟩ = some (.slice (some ⟨b', off', none⟩) len cap') ∧ w'.cell? ⟨b, off + k * 6, none⟩ = some (.int .i64 Op) ∧ w'.cell? ⟨b, off + k * 6 + 1, none⟩ = some (.int .i64 To) ∧ w'.cell? ⟨b, off + k * 6 + 2, none⟩ = some (.int .i64 A) ∧ w'.cell? ⟨b, off + k * 6 + 3, none⟩ = some (.int .i64 B) ∧ w'.cell? ⟨b, off + k * 6 + 4, none⟩ = some (.int .i64 K) ∧ w'.cell? ⟨b, off + k * 6 + 5, none⟩ = some (.slice la ll' lc) ∧ w'.cell? ⟨b', off' + k * 6, none⟩ = some (.int .i64 Op) ∧ w'.cell? ⟨b', off' + k * 6 + 1, none⟩ = some (.int .i64 To) ∧ w'.cell? ⟨b', off' + k * 6 + 2, none⟩ = some (.int .i64 A) ∧ w'.cell? ⟨b', off' + k * 6 + 3, none⟩ = some (.int .i64 B) ∧ w'.cell? ⟨b', off' + k * 6 + 4, none⟩ = some (.int .i64 K) ∧ w'.cell? ⟨b', off' + k * 6 + 5, none⟩ = some (.slice la' ll' lc'))
          (first | exact keepF (Below.refl _ _).drew h1 h2 h3 h4 g4 e4 p0 p1 p2 p3 p4 p5 q0 q1 q2 q3 q4 q5 | exact keepF (below_box (Below.refl _ _) _).drew h1 h2 h3 h4 g4 e4 p0 p1 p2 p3 p4 p5 q0 q1 q2 q3 q4 q5 | exact keepF (below_box (below_box (Below.refl _ _) _) _).drew h1 h2 h3 h4 g4 e4 p0 p1 p2 p3 p4 p5 q0 q1 q2 q3 q4 q5)
          (fail)
        all_goals (go_wp2_with fail; go_meet)
        all_goals first
          | exact ⟨_, _, rfl, rfl, ((PBox.new wr Op To A B K la ll' lc).alloc _).below (Below.refl _ _).drew, (pbox_two wr Op To A B K la' ll' lc' _).below (Below.refl _ _).drew, (below_box (below_box (Below.refl _ _) _) _).drew⟩
          | exact ⟨_, _, rfl, rfl, (pbox_two wr Op To A B K la ll' lc _).below (Below.refl _ _).drew, ((PBox.new wr Op To A B K la' ll' lc').alloc _).below (Below.refl _ _).drew, (below_box (below_box (Below.refl _ _) _) _).drew⟩
      case rest =>
        obtain ⟨b6, b7, rfl, rfl, hP6, hP7, bx⟩ := hcut
        have hLx := hLi.below bx
        have hLx' := hLi'.below bx
        have hbX := hbr.trans (bx.mono hbr.size)
        clear p0 p1 p2 p3 p4 p5 q0 q1 q2 q3 q4 q5 g0 g1 g2 g3 g4 e0 e1 e2 e3 e4 hLi hLi' h1 h2 h3 h4
        obtain ⟨_, p0, p1, p2, p3, p4, p5⟩ := id hP6
        obtain ⟨_, q0, q1, q2, q3, q4, q5⟩ := id hP7
        have HLL : Hid (_) := hll
        have HLL' : Hid (_) := hll'
        clear hll hll'
        obtain ⟨wO, e0⟩ : ∃ z, z = wc := ⟨_, rfl⟩
        subst e0
        go_wp2
        go_loopw [8] (fun i ws => ∃ t : Nat, t ≤ ll' ∧ i = .int .i64 t ∧ Below wO.heap.size wO ws) (fun i _ => ll' - (intOf i).toNat)
        case atStart => exact ⟨0, Nat.zero_le _, rfl, Below.refl _ _⟩
        case round =>
          obtain ⟨t, ht, rfl, hbt⟩ := hrel
          have hbig' := hLx.big
          have a5 := (hP6.below hbt).c5
          have c5 := (hP7.below hbt).c5
          by_cases htl : t < ll'
          · obtain ⟨b, off, rfl, h3, d0, d1, d2, d3⟩ := (hLx.below hbt).nthL htl
            obtain ⟨b', off', rfl, h4, f0, f1, f2, f3⟩ := (hLx'.below hbt).nthL htl
            generalize ls.getD t Lt.zero = l at d0 d1 d2 d3 f0 f1 f2 f3
            obtain ⟨X, Y, R, P⟩ := l
            dsimp only at d0 d1 d2 d3 f0 f1 f2 f3
            clear p0 p1 p2 p3 p4 p5 q0 q1 q2 q3 q4 q5
            go_wp2_with fail
            go_region_held3 (fun w' => w'.cell? ⟨b6, 5, none⟩ = some (.slice (some ⟨b, off, none⟩) ll' lc) ∧ w'.cell? ⟨b7, 5, none⟩ = some (.slice (some ⟨b', off', none⟩) ll' lc') ∧ w'.cell? ⟨b, off + t * 4, none⟩ = some (.int .i64 X) ∧ w'.cell? ⟨b, off + t * 4 + 1, none⟩ = some (.int .i64 Y) ∧ w'.cell? ⟨b, off + t * 4 + 2, none⟩ = some (.int .i64 R) ∧ w'.cell? ⟨b, off + t * 4 + 3, none⟩ = some (.int .i64 P) ∧ w'.cell? ⟨b', off' + t * 4, none⟩ = some (.int .i64 X) ∧ w'.cell? ⟨b', off' + t * 4 + 1, none⟩ = some (.int .i64 Y) ∧ w'.cell? ⟨b', off' + t * 4 + 2, none⟩ = some (.int .i64 R) ∧ w'.cell? ⟨b', off' + t * 4 + 3, none⟩ = some (.int .i64 P))
              (exact ⟨a5, c5, d0, d1, d2, d3, f0, f1, f2, f3⟩)
              (fail)
            all_goals go_wp2
            all_goals go_roundw
            all_goals first
              | exact ⟨t + 1, by omega, by go_num, hbt.drew⟩
              | (simp [intOf]; omega)
          · clear p0 p1 p2 p3 p4 p5 q0 q1 q2 q3 q4 q5
            go_wp2
            go_roundw
            case rel => exact ⟨k + 1, by omega, by go_num, hbX.trans (hbt.mono hbX.size)⟩
            case measure => simp [intOf]; omega
    · go_wp2
      go_ret
      exact ⟨rfl, below_step hb0 hbr⟩
end Go.Proofs.Ytfpkiimlaepnhab
/-
  LIGHTREF: the reference's CheckLights, far and LightAt.
-/
namespace Go.Proofs.Ytfpkiimlaepnhab
set_option maxRecDepth 100000
open Go.RowKit Im

theorem rightW (l : Lt) : rightB l = (withinB l.X 0 15 && withinB l.Y 0 15 && withinB l.R 1 32 && withinB l.P 0 65535) := by
  rw [Bool.eq_iff_iff, right_iff]; simp [withinB]; omega
theorem checkR_many (a : Option Addr) (len cap : Nat) (w : World) (h : 8 < len) (_hb : len ≤ 9223372036854775807) : Calls Try.prog 85 #[.slice a len cap] w fun e w' => e = .returned (.int .i64 2) ∧ Below w.heap.size w w' := by
  have h' : (8 : Int) < (len : Int) := by omega
  go_enter Try.func85, Try.ntmps85
  go_wp2
  go_ret
  exact ⟨rfl, Below.refl _ _⟩
theorem checkR_nil (a : Option Addr) (cap : Nat) (w : World) : Calls Try.prog 85 #[.slice a 0 cap] w fun e w' => e = .returned (.int .i64 0) ∧ Below w.heap.size w w' := by
  go_enter Try.func85, Try.ntmps85
  go_wp2
  go_loop [3] (fun i => i = .int .i64 0) (fun _ => 0)
  case atStart => rfl
  case round =>
    subst hrel
    go_wp2
    go_ret
    exact ⟨rfl, Below.refl _ _⟩
set_option maxHeartbeats 1000000 in
theorem checkR_row (b off len cap : Nat) (ls : List Lt) (w : World) (hl : ls.length = len) (h8 : len ≤ 8) (hc : ∀ j, j < len → w.cell? ⟨b, off + j * 4, none⟩ = some (.int .i64 (ls.getD j Lt.zero).X) ∧ w.cell? ⟨b, off + j * 4 + 1, none⟩ = some (.int .i64 (ls.getD j Lt.zero).Y) ∧ w.cell? ⟨b, off + j * 4 + 2, none⟩ = some (.int .i64 (ls.getD j Lt.zero).R) ∧ w.cell? ⟨b, off + j * 4 + 3, none⟩ = some (.int .i64 (ls.getD j Lt.zero).P)) :
    Calls Try.prog 85 #[.slice (some ⟨b, off, none⟩) len cap] w fun e w' => e = .returned (.int .i64 (okIf (ls.all rightB) 3)) ∧ Below w.heap.size w w' := by
  have h8' : ¬ (8 : Int) < (len : Int) := by omega
  go_enter Try.func85, Try.ntmps85
  go_wp2
  go_loop [3] (fun i => ∃ k : Nat, k ≤ len ∧ i = .int .i64 k ∧ (ls.take k).all rightB = true) (fun i => len - (intOf i).toNat)
  case atStart => exact ⟨0, Nat.zero_le _, rfl, rfl⟩
  case round =>
    obtain ⟨k, hk, rfl, hall⟩ := hrel
    by_cases hlt : k < len
    · obtain ⟨c0, c1, c2, c3⟩ := hc k hlt
      have n1 := rall_succ ls k (by omega) hall
      have n2 := rall_not ls k (by omega)
      rw [rightW] at n1 n2
      generalize ls.getD k Lt.zero = l at c0 c1 c2 c3 n1 n2
      obtain ⟨X, Y, R, P⟩ := l
      dsimp only at c0 c1 c2 c3 n1 n2
      clear hc
      by_cases h1 : withinB X 0 15 = true
      · by_cases h2 : withinB Y 0 15 = true
        · by_cases h3 : withinB R 1 32 = true
          · by_cases h4 : withinB P 0 65535 = true
            · have hx := n1 (by rw [h1, h2, h3, h4]; rfl)
              clear n1 n2
              go_wp2_with (go_at_call 42; refine (within_any _ _ _ _).mono ?_; rintro e w' ⟨rfl, rfl⟩)
              go_round
              case rel => exact ⟨k + 1, by omega, by go_num, hx⟩
              case measure => simp [intOf]; omega
            · have h4' := eq_false_of_ne_true h4
              have hx := n2 (by rw [h1, h2, h3, h4']; rfl)
              clear n1 n2
              go_wp2_with (go_at_call 42; refine (within_any _ _ _ _).mono ?_; rintro e w' ⟨rfl, rfl⟩)
              go_ret
              exact ⟨by first | rfl | (rw [hx]; rfl), Below.refl _ _⟩
          · have h3' := eq_false_of_ne_true h3
            have hx := n2 (by rw [h1, h2, h3']; rfl)
            clear n1 n2
            go_wp2_with (go_at_call 42; refine (within_any _ _ _ _).mono ?_; rintro e w' ⟨rfl, rfl⟩)
            go_ret
            exact ⟨by first | rfl | (rw [hx]; rfl), Below.refl _ _⟩
        · have h2' := eq_false_of_ne_true h2
          have hx := n2 (by rw [h1, h2']; rfl)
          clear n1 n2
          go_wp2_with (go_at_call 42; refine (within_any _ _ _ _).mono ?_; rintro e w' ⟨rfl, rfl⟩)
          go_ret
          exact ⟨by first | rfl | (rw [hx]; rfl), Below.refl _ _⟩
      · have h1' := eq_false_of_ne_true h1
        have hx := n2 (by rw [h1']; rfl)
        clear n1 n2
        go_wp2_with (go_at_call 42; refine (within_any _ _ _ _).mono ?_; rintro e w' ⟨rfl, rfl⟩)
        go_ret
        exact ⟨by first | rfl | (rw [hx]; rfl), Below.refl _ _⟩
    · have hx : ls.all rightB = true := by rw [List.take_of_length_le (by omega)] at hall; exact hall
      go_wp2
      go_ret
      exact ⟨by first | rfl | (rw [hx]; rfl), Below.refl _ _⟩
/-- The reference's CheckLights. -/
theorem checkR_any {a : Option Addr} {len : Nat} (cap : Nat) {ls : List Lt} {w : World} (h : Lights w a len ls) : Calls Try.prog 85 #[.slice a len cap] w fun e w' => e = .returned (.int .i64 (lightsErr ls)) ∧ Below w.heap.size w w' := by
  have hl := h.leng
  by_cases h8 : ls.length ≤ 8
  · have e : lightsErr ls = okIf (ls.all rightB) 3 := by simp [lightsErr, h8]
    rw [e]
    rcases h.cells with e | ⟨b, off, rfl, hb, hc⟩
    · subst e
      have : len = 0 := by simpa using hl.symm
      subst this
      exact checkR_nil a cap w
    · exact checkR_row b off len cap ls w hl (by omega) hc
  · have e : lightsErr ls = 2 := by simp [lightsErr, h8]
    rw [e]
    exact checkR_many a len cap w (by omega) h.big

end Go.Proofs.Ytfpkiimlaepnhab
/-
  NEARREF: the reference's NearOf.
-/
namespace Go.Proofs.Ytfpkiimlaepnhab
set_option maxRecDepth 100000
open Go.RowKit Im

/-- Does the light reach the place? -/
def hitB (l : Lt) (u v : Int) : Bool := decide (awayP l.X u 1 + awayP l.Y v 1 < l.R)
/-- One of the first n places of a row; of the first m rows. -/
def rowAny (l : Lt) (x v : Int) : Nat → Bool
  | 0 => false
  | n + 1 => rowAny l x v n || hitB l (x + n) v
def boxAny (l : Lt) (x y : Int) (n : Nat) : Nat → Bool
  | 0 => false
  | m + 1 => boxAny l x y n m || rowAny l x (y + m) n
theorem rowAny_iff (l : Lt) (x v : Int) : ∀ n, rowAny l x v n = true ↔ ∃ i : Nat, i < n ∧ hitB l (x + i) v = true
  | 0 => by simp [rowAny]
  | n + 1 => by
    rw [rowAny, Bool.or_eq_true, rowAny_iff l x v n]
    constructor
    · rintro (⟨i, hi, h⟩ | h)
      · exact ⟨i, by omega, h⟩
      · exact ⟨n, by omega, h⟩
    · rintro ⟨i, hi, h⟩
      rcases Nat.lt_or_ge i n with h' | h'
      · exact .inl ⟨i, h', h⟩
      · have : i = n := by omega
        subst this; exact .inr h
theorem boxAny_iff (l : Lt) (x y : Int) (n : Nat) : ∀ m, boxAny l x y n m = true ↔ ∃ i j : Nat, i < n ∧ j < m ∧ hitB l (x + i) (y + j) = true
  | 0 => by simp [boxAny]
  | m + 1 => by
    rw [boxAny, Bool.or_eq_true, boxAny_iff l x y n m, rowAny_iff]
    constructor
    · rintro (⟨i, j, hi, hj, h⟩ | ⟨i, hi, h⟩)
      · exact ⟨i, j, hi, by omega, h⟩
      · exact ⟨i, m, hi, by omega, h⟩
    · rintro ⟨i, j, hi, hj, h⟩
      rcases Nat.lt_or_ge j m with h' | h'
      · exact .inl ⟨i, j, hi, h', h⟩
      · have : j = m := by omega
        subst this; exact .inr ⟨i, hi, h⟩
/-- The nearest of n columns is one of them. -/
theorem away_near (c f : Int) (n : Nat) (hn : 1 ≤ n) : ∃ i : Nat, i < n ∧ awayP c (f + i) 1 = awayP c f n := by
  by_cases h1 : c < f
  · exact ⟨0, by omega, by unfold awayP; omega⟩
  · by_cases h2 : c - f < n
    · exact ⟨(c - f).toNat, by omega, by unfold awayP; omega⟩
    · exact ⟨n - 1, by omega, by unfold awayP; omega⟩
theorem away_least (c f : Int) (n i : Nat) (hi : i < n) : awayP c f n ≤ awayP c (f + i) 1 := by unfold awayP; omega
theorem box_near (l : Lt) (x y : Int) (n m : Nat) (hn : 1 ≤ n) (hm : 1 ≤ m) : boxAny l x y n m = nearB x y n m l := by
  rw [Bool.eq_iff_iff, boxAny_iff]
  unfold hitB nearB
  simp only [decide_eq_true_eq]
  constructor
  · rintro ⟨i, j, hi, hj, h⟩
    have h1 := away_least l.X x n i hi
    have h2 := away_least l.Y y m j hj
    omega
  · intro h
    obtain ⟨i, hi, e1⟩ := away_near l.X x n hn
    obtain ⟨j, hj, e2⟩ := away_near l.Y y m hm
    exact ⟨i, j, hi, hj, by rw [e1, e2]; exact h⟩

/-- A light's four cells, and all that was there. -/
def LtAt (w0 w' : World) (b o : Nat) (X Y R P : Int) : Prop := Below w0.heap.size w0 w' ∧ w'.cell? ⟨b, o, none⟩ = some (.int .i64 X) ∧ w'.cell? ⟨b, o + 1, none⟩ = some (.int .i64 Y) ∧ w'.cell? ⟨b, o + 2, none⟩ = some (.int .i64 R) ∧ w'.cell? ⟨b, o + 3, none⟩ = some (.int .i64 P)
theorem ltAt {w0 w1 w' : World} {b o : Nat} {X Y R P : Int} (h : LtAt w0 w1 b o X Y R P) (hb : b < w1.heap.size) (hbel : Below w1.heap.size w1 w') :
    Below w1.heap.size w1 w' ∧ w'.cell? ⟨b, o, none⟩ = some (.int .i64 X) ∧ w'.cell? ⟨b, o + 1, none⟩ = some (.int .i64 Y) ∧ w'.cell? ⟨b, o + 2, none⟩ = some (.int .i64 R) ∧ w'.cell? ⟨b, o + 3, none⟩ = some (.int .i64 P) :=
  ⟨hbel, (hbel.cell (p := ⟨b, o, none⟩) hb).trans h.2.1, (hbel.cell (p := ⟨b, o + 1, none⟩) hb).trans h.2.2.1, (hbel.cell (p := ⟨b, o + 2, none⟩) hb).trans h.2.2.2.1, (hbel.cell (p := ⟨b, o + 3, none⟩) hb).trans h.2.2.2.2⟩
theorem viaL {P : Program} {f : FuncId} {args : Array Value} {wX w' : World} {r : Ending} (hb : Below wX.heap.size wX w') (hc : Calls P f args w' fun e w2 => e = r ∧ Below w'.heap.size w' w2) :
    Calls P f args w' fun e w2 => e = r ∧ Below wX.heap.size wX w2 := hc.mono fun _ _ ⟨he, hb2⟩ => ⟨he, below_stepL hb hb2⟩

end Go.Proofs.Ytfpkiimlaepnhab
/-
  LITREF: the reference's LitOf.
-/
namespace Go.Proofs.Ytfpkiimlaepnhab
set_option maxRecDepth 100000
open Go.RowKit Im

/-- An append to a row of the call's own, as one step of a region that draws. -/
theorem step_append_mine {P : Program} {ops : Array Oper} {o : Oper} {a : Act} {w : World} {K : Act → World → Prop} {Q : Exit → Act → World → Prop} {E : Prop}
    (hg : o.guard = none) (s x : Operand) (t : TypeId) (ho : o.op = .call { callee := .builtin .append, args := #[s, x], argTypes := #[t, t] })
    (base : Nat) (e : TypeId) (i : TypeInfo) (z : Value) (size bytes : Nat) (ht : P.underlying t = some (.slice e)) (hi : P.info? e = some i) (hz : i.zero = some z)
    (hsize : i.size = size) (hby : i.bytes = bytes) (hzs : z.cells.size = size) (hsz : 0 < size)
    (v : Value) (n : Nat) (xs : List Value) (hs : a.eval s = v) (hown : w.ownsRow base e size v n xs)
    (ad : Addr) (m c : Nat) (news : List Value) (hx : a.eval x = .slice (some ad) m c) (hl : news.length = m * size) (hnews : ∀ j u, news[j]? = some u → w.cell? (ad.add j) = some u) (h1 : ∀ u ∈ news, u.oneCell' = true)
    (h63 : n + m ≤ maxLen) (hbytes : (n + m) * bytes ≤ 140737488355328) (hbase : base ≤ w.heap.size)
    (hK : ∀ v' w', w'.ownsRow base e size v' (n + m) (xs ++ news) → w.grownBy w' v.ownBlock → K (a.put o.dst v') w') :
    if Region.wanted o (yielded ops a.tmps) = true then Oper.wp P o a w K Q else E := by
  have hw : Region.wanted o (yielded ops a.tmps) = true := by simp [Region.wanted, hg]
  rw [if_pos hw]
  exact wp_append_own w s x t ho base e i z size bytes ht hi hz hsize hby hzs hsz v n xs hs hown ad m c news hx hl hnews h1 h63 hbytes hbase fun v' w' h2 h3 _ => hK v' w' h2 h3

end Go.Proofs.Ytfpkiimlaepnhab
/-
  MADEREF: the reference's Made.
-/
namespace Go.Proofs.Ytfpkiimlaepnhab
set_option maxRecDepth 100000
open Go.RowKit Im

/-- The call's end tells the image r. -/
def ToldM (w : World) (r : Res) (e : Ending) (w' : World) : Prop :=
  ∃ a cap, e = .returned (.agg #[.int .i64 r.W, .int .i64 r.H, .slice a r.ps.length cap]) ∧ Ints w.heap.size w' a r.ps.length r.ps ∧ Below w.heap.size w w'
theorem made_told {w wx w' : World} {b : Nat} {r : Res} {ra : Option Addr} {rc : Nat} (hx : Below w.heap.size w wx) (hlt : b < wx.heap.size) (hb0 : w.heap.size ≤ b) (hi : Ints wx.heap.size w' ra r.ps.length r.ps) (hb : Below wx.heap.size wx w') :
    ToldM w r (.returned (.agg #[.int .i64 r.W, .int .i64 r.H, .slice ra r.ps.length rc])) (((w'.setCell ⟨b, 0, none⟩ (.int .i64 r.W)).setCell ⟨b, 1, none⟩ (.int .i64 r.H)).setCell ⟨b, 2, none⟩ (.slice ra r.ps.length rc)) :=
  ⟨ra, rc, rfl, (((hi.setCell (p := ⟨b, 0, none⟩) hlt _).setCell (p := ⟨b, 1, none⟩) hlt _).setCell (p := ⟨b, 2, none⟩) hlt _).mono hx.size, (((below_step hx hb).setCell (p := ⟨b, 0, none⟩) hb0 _).setCell (p := ⟨b, 1, none⟩) hb0 _).setCell (p := ⟨b, 2, none⟩) hb0 _⟩
end Go.Proofs.Ytfpkiimlaepnhab
/-
  MADEREF2: the reference's Made, of passes that take images.
-/
namespace Go.Proofs.Ytfpkiimlaepnhab
set_option maxRecDepth 100000
open Go.RowKit Im

end Go.Proofs.Ytfpkiimlaepnhab
