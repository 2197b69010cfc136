/- Last, LastRef: joined, in this order. -/
import Derived.Test.YtfpkiimlaepnhaaM37
import Derived.Test.YtfpkiimlaepnhaaM31
import Derived.Test.YtfpkiimlaepnhaaM33
/-
  LAST: need.Last.
-/
namespace Go.Proofs.Ytfpkiimlaepnhaa
set_option maxRecDepth 100000
open Go.RowKit Im Go.Shelf
attribute [local go_sem] Oper.semAt_some

/-- What need.Last tells. -/
def ToldLast (w : World) (f : Fr) (e : Ending) (w' : World) : Prop :=
  e = .returned (.tuple #[.int .i64 (if frameE f = 0 then shownP f else 0), .int .i64 (frameE f)]) ∧ Below w.heap.size w w'
theorem boxed_below {W W' : World} {B n₀ : Nat} {t : TypeId} {v : Value} (h : Go.Boxed W B t v) (hb : Below n₀ W W') (hB : B < n₀) : Go.Boxed W' B t v := (hb.block B hB).trans h
set_option maxHeartbeats 1000000 in
theorem last_err (W H S O : Int) (a : Option Addr) (len cap : Nat) (ps : List Ps) (w : World) (hp : Passes w a len ps) (hE : frameE ⟨W, H, S, O, ps⟩ ≠ 0) :
    Calls Try.prog 47 #[.agg #[.int .i64 W, .int .i64 H, .int .i64 S, .int .i64 O, .slice a len cap]] w (ToldLast w ⟨W, H, S, O, ps⟩) := by
  have hb0 := below_box (below_box (below_box (Below.refl w.heap.size w) (.cells #[.int .i64 W, .int .i64 H, .int .i64 S, .int .i64 O, .slice a len cap] 63)) (.cells #[.int .i64 0] 3)) (.cells #[.int .i64 0] 25)
  have hch := frameCheck_any W H S O a len cap ps _ (hp.below hb0)
  have bX := (Go.Boxed.new (w.alloc (.cells #[.int .i64 W, .int .i64 H, .int .i64 S, .int .i64 O, .slice a len cap] 63)) 3 (.int .i64 0)).alloc (.cells #[.int .i64 0] 25)
  have bY := Go.Boxed.new ((w.alloc (.cells #[.int .i64 W, .int .i64 H, .int .i64 S, .int .i64 O, .slice a len cap] 63)).alloc (.cells #[.int .i64 0] 3)) 25 (.int .i64 0)
  simp only [World.size_alloc] at bX bY
  go_enter Try.func47, Try.ntmps47
  go_wp2_with fail
  refine hch.mono ?_
  clear hch
  rintro e w1 ⟨rfl, b1⟩
  have b2 := below_step hb0 b1
  have c2 := boxed_below bX b1 (by simp)
  have c3 := boxed_below bY b1 (by simp)
  have d2 := c2.cell
  have f2 := c2.frozen
  have d3 := c3.cell
  have f3 := c3.frozen
  go_wp2
  refine bodyPost_ret (v := .tuple #[.int .i64 0, .int .i64 (frameE ⟨W, H, S, O, ps⟩)]) (by simp [results, Try.results47, go_sem, d2, d3]) rfl ?_
  refine ⟨by rw [if_neg hE], (b2.setCell (p := ⟨w.heap.size + 1, 0, none⟩) (show w.heap.size ≤ w.heap.size + 1 by omega) _).setCell (p := ⟨w.heap.size + 1 + 1, 0, none⟩) (show w.heap.size ≤ w.heap.size + 1 + 1 by omega) _⟩
/-- A pass in a block of its own is a matter of cells. -/
theorem pbox_own {X Y : World} {row : Option Nat} {b : Nat} {Op To A B K : Int} {la : Option Addr} {ll lc : Nat} (h : PBox X b Op To A B K la ll lc) (hg : X.grownBy Y row) (hr : ∀ r, row = some r → ∃ o : Obj, X.heap[r]? = some o ∧ o.isCells = false) : PBox Y b Op To A B K la ll lc :=
  ⟨Nat.lt_of_lt_of_le h.lt hg.size, cell_kept h.c0 hg hr, cell_kept h.c1 hg hr, cell_kept h.c2 hg hr, cell_kept h.c3 hg hr, cell_kept h.c4 hg hr, cell_kept h.c5 hg hr⟩
theorem wrt_last {ps : List Ps} {O : Int} {n m : Nat} (hm : m < n) (h1 : (ps.getD m Ps.zero).To = O) (h2 : ∀ j, m < j → j < n → (ps.getD j Ps.zero).To ≠ O) : wrt ps n O = m := by
  induction n with
  | zero => omega
  | succ n ih =>
    show (if (ps.getD n Ps.zero).To = O then (n : Int) else wrt ps n O) = m
    by_cases hn : m = n
    · subst hn; rw [if_pos h1]
    · rw [if_neg (h2 n (by omega) (by omega))]
      exact ih (by omega) (fun j h3 h4 => h2 j h3 (by omega))
theorem bhs_mem (len : Nat) (hl : 0 < len) (pv : Nat → Pv) {k m : Nat} (hm : m < len) (hk : len - 1 - m < k) : ∃ x ∈ bhs len hl pv k, x.1 = (m, pv m) := by
  refine ⟨bh len hl pv (len - 1 - m), ?_, ?_⟩
  · unfold bhs; rw [List.mem_map]; exact ⟨len - 1 - m, by simpa using hk, rfl⟩
  · show (len - 1 - (len - 1 - m), pv (len - 1 - (len - 1 - m))) = (m, pv m)
    rw [show len - 1 - (len - 1 - m) = m by omega]
set_option maxHeartbeats 4000000 in
theorem last_ok (W H S O : Int) (a : Option Addr) (len cap : Nat) (ps : List Ps) (w : World) (hp : Passes w a len ps) (hE : frameE ⟨W, H, S, O, ps⟩ = 0) :
    Calls Try.prog 47 #[.agg #[.int .i64 W, .int .i64 H, .int .i64 S, .int .i64 O, .slice a len cap]] w (ToldLast w ⟨W, H, S, O, ps⟩) := by
  obtain rfl := hp.leng
  obtain ⟨hbnd, hfirst, hsh⟩ := frameE_zero hE
  obtain ⟨_, _, _, _, hL⟩ := boundsE_zero hbnd
  dsimp only at hL
  have hb0 := below_box (below_box (below_box (Below.refl w.heap.size w) (.cells #[.int .i64 W, .int .i64 H, .int .i64 S, .int .i64 O, .slice a ps.length cap] 63)) (.cells #[.int .i64 0] 3)) (.cells #[.int .i64 0] 25)
  have hch := frameCheck_any W H S O a ps.length cap ps _ (hp.below hb0)
  rw [hE] at hch
  obtain ⟨b, off, pv, rfl, hbl, hpv, heq⟩ := hp.pv (by omega)
  have bX := (Go.Boxed.new (w.alloc (.cells #[.int .i64 W, .int .i64 H, .int .i64 S, .int .i64 O, .slice (some ⟨b, off, none⟩) ps.length cap] 63)) 3 (.int .i64 0)).alloc (.cells #[.int .i64 0] 25)
  have bY := Go.Boxed.new ((w.alloc (.cells #[.int .i64 W, .int .i64 H, .int .i64 S, .int .i64 O, .slice (some ⟨b, off, none⟩) ps.length cap] 63)).alloc (.cells #[.int .i64 0] 3)) 25 (.int .i64 0)
  simp only [World.size_alloc] at bX bY
  have hB := ((FBox.new w W H S O (some ⟨b, off, none⟩) ps.length cap).alloc (.cells #[.int .i64 0] 3)).alloc (.cells #[.int .i64 0] 25)
  refine (callsIn_wide (n := 4)).1 ?_
  refine callsIn_of_wp_marks Try.func47 rfl trivial ?_ rfl
  simp only [Try.ntmps47, List.size_toArray, List.length_cons, List.length_nil, Nat.reduceAdd, Nat.reduceSub, Array.replicate_succ, Array.replicate_zero, List.push_toArray, List.append_toArray, List.nil_append, List.cons_append]
  gi_wp2_with (first
    | (refine ⟨trivial, ?_⟩; gi_at_call 44; refine (callsIn_wide.2 hch).mono ?_; rintro e w1 ⟨rfl, b1⟩; have hB1 := hB.below b1; have cX := boxed_below bX b1 (by simp); have cY := boxed_below bY b1 (by simp); have hb1 := below_step hb0 b1; obtain ⟨_, g0, g1, g2, g3, g4⟩ := id hB1)
    | (refine ⟨trivial, ?_⟩; gi_at_call 92; refine (callsIn_wide.2 (fromBehind_any _ _ _ _)).mono ?_; rintro e w2 ⟨rfl, rfl⟩))
  have hpos : 0 < ps.length := by omega
  have bI := Go.Boxed.new w1 61 (.slice (some ⟨b, off, none⟩) ps.length cap)
  have hb2 := below_box hb1 (.cells #[.slice (some ⟨b, off, none⟩) ps.length cap] 61)
  have cX2 := cX.alloc (.cells #[.slice (some ⟨b, off, none⟩) ps.length cap] 61)
  have cY2 := cY.alloc (.cells #[.slice (some ⟨b, off, none⟩) ps.length cap] 61)
  have g32 : (w1.alloc (.cells #[.slice (some ⟨b, off, none⟩) ps.length cap] 61)).cell? ⟨w.heap.size, 3, none⟩ = some (.int .i64 O) := (World.cell?_alloc_lt _ _ _ hB1.lt).trans g3
  have hlw : w.heap.size + 1 + 1 < w1.heap.size := cY.lt
  have hls : (w1.alloc (.cells #[.slice (some ⟨b, off, none⟩) ps.length cap] 61)).heap.size = w1.heap.size + 1 := by simp
  have hpv2 := hpv.below hb2 hbl
  clear hch hB hB1 g0 g1 g2 g3 g4 cX cY bX bY hb0 hb1 b1
  generalize w1.alloc (.cells #[.slice (some ⟨b, off, none⟩) ps.length cap] 61) = W0 at *
  have hbb := @boxed_own Unit
  refine wpIn_rangeFunc_ownH rfl (by decide) (gf := 116) (lb := #[.pointer (some ⟨w1.heap.size, 0, none⟩)]) rfl trivial (enters_of Try.func116 (by kernel_rfl) rfl)
    (behind_stops 3 (by decide) w1.heap.size w.heap.size b off ps.length cap hpos hL.2 pv hbl W0 (by omega) hb2.size bI.cell hpv2) KpB.t (KpB.b hb2.size (by omega)) (Below.refl _ _) (fun _ => rfl)
    (fun pre W' => ((∀ x ∈ pre, x.1.2.To ≠ O) ∧ W'.cell? ⟨w.heap.size, 3, none⟩ = some (.int .i64 O) ∧ Go.Boxed W' (w.heap.size + 1) 3 (.int .i64 0) ∧ Go.Boxed W' (w.heap.size + 1 + 1) 25 (.int .i64 0) ∧ Go.Boxed W' w1.heap.size 61 (.slice (some ⟨b, off, none⟩) ps.length cap)) ∧ Below w.heap.size w W')
    (fun c pre W' => (c = .ret ∧ ∃ pre' x, pre = pre' ++ [x] ∧ (∀ y ∈ pre', y.1.2.To ≠ O) ∧ x.1.2.To = O ∧ Go.Boxed W' (w.heap.size + 1) 3 (.int .i64 (x.1.1 : Int)) ∧ Go.Boxed W' (w.heap.size + 1 + 1) 25 (.int .i64 0)) ∧ Below w.heap.size w W')
    (fun s A B row hs hg hr => ⟨⟨hs.1.1, cell_kept hs.1.2.1 hg (fun r e => (hr r e).2), hbb _ _ (fun _ => _) () A B row hs.1.2.2.1 hg (fun r e => (hr r e).2), hbb _ _ (fun _ => _) () A B row hs.1.2.2.2.1 hg (fun r e => (hr r e).2), hbb _ _ (fun _ => _) () A B row hs.1.2.2.2.2 hg (fun r e => (hr r e).2)⟩, ownFrom_below (β := Unit) (w₀ := w) (Nat.le_refl _) hb2.size () A B row hs.2 hg hr⟩)
    (fun c s A B row hs hg hr => ⟨⟨hs.1.1, by
      obtain ⟨pre', x, h1, h2, h3, h4, h5⟩ := hs.1.2
      exact ⟨pre', x, h1, h2, h3, hbb _ _ (fun _ => _) () A B row h4 hg (fun r e => (hr r e).2), hbb _ _ (fun _ => _) () A B row h5 hg (fun r e => (hr r e).2)⟩⟩, ownFrom_below (β := Unit) (w₀ := w) (Nat.le_refl _) hb2.size () A B row hs.2 hg hr⟩)
    ⟨⟨(fun x hx => by cases hx), g32, cX2, cY2, bI⟩, hb2⟩
    (fun x a' W' => ∃ Bx, w.heap.size + 1 + 1 < Bx ∧ PBox W' Bx x.1.2.Op x.1.2.To x.1.2.A x.1.2.B x.1.2.K x.1.2.la x.1.2.ll x.1.2.lc ∧ a' = { tmps := #[.agg #[.int .i64 W, .int .i64 H, .int .i64 S, .int .i64 O, .slice (some ⟨b, off, none⟩) ps.length cap], .pointer (some ⟨w.heap.size, 0, none⟩), .pointer (some ⟨w.heap.size + 1, 0, none⟩), .pointer (some ⟨w.heap.size + 1 + 1, 0, none⟩), .int .i64 0, .int .i64 (x.1.1 : Int), .pointer (some ⟨Bx, 0, none⟩), .agg #[.int .i64 W, .int .i64 H, .int .i64 S, .int .i64 O, .slice (some ⟨b, off, none⟩) ps.length cap], .int .i64 0, .int .i64 0, .bool false, undef, .pointer (some ⟨w.heap.size, 4, none⟩), .slice (some ⟨b, off, none⟩) ps.length cap, .func (.func 116) #[] #[.pointer (some ⟨w1.heap.size, 0, none⟩)], .int .i64 (x.1.1 : Int), x.1.2.val, undef, undef, undef, undef, undef, undef], defers := [] })
    (fun x a' _ X Y row hs hg hr => by obtain ⟨Bx, h1, h2, h3⟩ := hs; exact ⟨Bx, h1, pbox_own h2 hg (fun r e => (hr r e).2), h3⟩)
    ?assign ?body ?done ?stop
  case assign =>
    rintro l pre x W' K ⟨⟨h1, h2, h3, h4, h5⟩, hB1⟩ hK
    gi_wp2
    have hx3 := h3.lt
    have hx4 := h4.lt
    exact hK _ _ ((KeepsOthers.alloc _ _).from _) ⟨(Below.refl _ W').alloc hB1.size _, World.cell?_alloc_lt _ _ _ h5.lt⟩ ⟨⟨h1, (World.cell?_alloc_lt _ _ _ (show w.heap.size < W'.heap.size by omega)).trans h2, h3.alloc _, h4.alloc _, h5.alloc _⟩, hB1.alloc hB1.size _⟩ ⟨W'.heap.size, hx4, PBox.new W' _ _ _ _ _ _ _ _, rfl⟩
  case body =>
    rintro l pre x a' W' hl ⟨r, hr⟩ ⟨⟨h1, h2, h3, h4, h5⟩, hB1⟩ ⟨Bx, hBx, hPx, rfl⟩ hlt
    obtain ⟨_, p0, p1, p2, p3, p4, p5⟩ := id hPx
    have f3 := h3.frozen
    have d3 := h3.cell
    have f4 := h4.frozen
    have d4 := h4.cell
    by_cases hTo : x.1.2.To = O
    · have hTo' : (x.1.2.To == O) = true := by simpa using hTo
      have hB2 := (hB1.setCell (p := ⟨w.heap.size + 1, 0, none⟩) (show w.heap.size ≤ w.heap.size + 1 by omega) (.int .i64 (x.1.1 : Int))).setCell (p := ⟨w.heap.size + 1 + 1, 0, none⟩) (show w.heap.size ≤ w.heap.size + 1 + 1 by omega) (.int .i64 0)
      have k3 := (h3.set (.int .i64 (x.1.1 : Int))).other (B' := w.heap.size + 1 + 1) (by omega) (.int .i64 0)
      have k4 := (h4.other (B' := w.heap.size + 1) (by omega) (.int .i64 (x.1.1 : Int))).set (.int .i64 0)
      have HTO : Hid (_) := hTo
      clear hTo
      gi_wp2
      exact ⟨((KeepsOthers.setCell _ _ _).trans (KeepsOthers.setCell _ _ _)).from _, ⟨rfl, pre, x, rfl, h1, HTO.out, k3, k4⟩, hB2⟩
    · have hTo' : (x.1.2.To == O) = false := by simpa using hTo
      have HTO : Hid (_) := hTo
      clear hTo
      gi_wp2
      exact ⟨KeepsFrom.refl _ _, ⟨Below.refl _ _, rfl⟩, ⟨(fun y hy => by rcases List.mem_append.1 hy with h | h; exact h1 y h; rw [List.mem_singleton] at h; subst h; exact HTO.out), h2, h3, h4, h5⟩, hB1⟩
  case done =>
    rintro D ys W' hD rfl ⟨⟨hne, _⟩, _⟩ hK
    exfalso
    have e : shownP ⟨W, H, S, O, ps⟩ = wrt ps ps.length O := rfl
    have hbd := wrt_bd ps ps.length O
    rw [e] at hsh
    have hto := wrt_to ps ps.length O hsh
    obtain ⟨x, hx, hx1⟩ := bhs_mem ps.length hpos pv (k := ps.length) (m := (wrt ps ps.length O).toNat) (by omega) (by omega)
    have := hne x hx
    rw [hx1] at this
    exact this ((heq _ (by omega)).2.1.trans hto)
  case stop =>
    rintro D c pre W' hD ⟨k, hk, rfl⟩ ⟨⟨rfl, pre', x, hpre, hne, hxO, h3, h4⟩, hB2⟩ hK
    gi_wp2
    refine ⟨by simp, .inl ⟨_, _, rfl, run_takeDeferred hK, ?_⟩⟩
    rw [bhs_succ] at hpre
    obtain ⟨e1, e2⟩ := List.append_inj' hpre rfl
    have e3 : bh ps.length hpos pv k = x := by injection e2
    subst e1 e3
    have c3 := cell_kept h3.cell (grownBy_putObj' _ D (.deferred none)) (fun r e => by cases e; exact ⟨_, hK, rfl⟩)
    have c4 := cell_kept h4.cell (grownBy_putObj' _ D (.deferred none)) (fun r e => by cases e; exact ⟨_, hK, rfl⟩)
    have hm : (bh ps.length hpos pv k).1 = (ps.length - 1 - k, pv (ps.length - 1 - k)) := rfl
    rw [hm] at hxO c3
    dsimp only at hxO c3
    have hshow : shownP ⟨W, H, S, O, ps⟩ = ((ps.length - 1 - k : Nat) : Int) := by
      show wrt ps ps.length O = _
      refine wrt_last (by omega) ((heq _ (by omega)).2.1.symm.trans hxO) (fun j h1 h2 => ?_)
      obtain ⟨y, hy, hy1⟩ := bhs_mem ps.length hpos pv (k := k) (m := j) h2 (by omega)
      have := hne y hy
      rw [hy1] at this
      exact fun e => this ((heq j h2).2.1.trans e)
    refine ⟨.tuple #[.int .i64 ((ps.length - 1 - k : Nat) : Int), .int .i64 0], ?_, ⟨by rw [hE, if_pos rfl, hshow], hB2.trans (belowK_b (w := w) (Nat.le_refl _) W' D _ _ (by have := hb2.size; omega) hK rfl rfl)⟩⟩
    simp [results, Try.results47, go_sem, c3, c4]
/-- need.Last. -/
theorem last_any (W H S O : Int) (a : Option Addr) (len cap : Nat) (ps : List Ps) (w : World) (hp : Passes w a len ps) :
    Calls Try.prog 47 #[.agg #[.int .i64 W, .int .i64 H, .int .i64 S, .int .i64 O, .slice a len cap]] w (ToldLast w ⟨W, H, S, O, ps⟩) := by
  by_cases hE : frameE ⟨W, H, S, O, ps⟩ = 0
  · exact last_ok W H S O a len cap ps w hp hE
  · exact last_err W H S O a len cap ps w hp hE
end Go.Proofs.Ytfpkiimlaepnhaa
/-
  LASTREF: the reference's LastOf: the pass that made what is shown.
-/
namespace Go.Proofs.Ytfpkiimlaepnhaa
set_option maxRecDepth 100000
open Go.RowKit Im

theorem lastOf_any (W H S O : Int) (a : Option Addr) (len cap : Nat) (ps : List Ps) (w : World) (hp : Passes w a len ps) :
    Calls Try.prog 50 #[.agg #[.int .i64 W, .int .i64 H, .int .i64 S, .int .i64 O, .slice a len cap]] w fun e w' => e = .returned (.int .i64 (shownP ⟨W, H, S, O, ps⟩)) ∧ Below w.heap.size w w' := by
  have hsh : shownP ⟨W, H, S, O, ps⟩ = wrt ps len O := by unfold shownP; rw [← hp.leng]
  have hb0 := below_box (Below.refl w.heap.size w) (.cells #[.int .i64 W, .int .i64 H, .int .i64 S, .int .i64 O, .slice a len cap] 63)
  have hw := writer_any W H S O a len cap ps len O _ (hp.below hb0) (Nat.le_refl _)
  rw [hsh]
  clear hsh
  generalize wrt ps len O = n at hw
  go_enter Try.func50, Try.ntmps50
  go_wp2_with (go_at_call 87; refine hw.mono ?_; rintro e w' ⟨rfl, hb⟩)
  go_ret
  exact ⟨rfl, below_step hb0 hb⟩
end Go.Proofs.Ytfpkiimlaepnhaa
