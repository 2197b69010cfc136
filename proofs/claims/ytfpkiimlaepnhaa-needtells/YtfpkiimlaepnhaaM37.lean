/- RowP, Behind: joined, in this order. -/
import Derived.Test.YtfpkiimlaepnhaaM14
import Derived.Test.YtfpkiimlaepnhaaM26
import Derived.Test.YtfpkiimlaepnhaaM36
import Derived.Deep.Upon
import Derived.Test.YtfpkiimlaepnhaaM13
import Derived.RangeFuncNested
import Derived.RangeFuncBound
import Derived.RangeFuncCalls
import Derived.RangeFuncLeaves
import Derived.Shelf.Abstract
import Derived.Shelf.RegionOpen
import Derived.OwnWalkIn
import Derived.TacticsInMore
import Derived.LoopNIn
import Derived.LoopIn
/-
  ROWP: a growing row of passes, with lights of their own.
-/
namespace Go.Proofs.Ytfpkiimlaepnhaa
set_option maxRecDepth 100000
open Go.RowKit Im

/-- An append of nothing leaves all as it was. -/
theorem list_append_nothing {P : Program} {w : World} {ops : Array Oper} {rest : List Oper} {o : Oper} {a : Act} {Q : Exit → Act → World → Prop} (hgd : o.guard = none) (s x : Operand) (t : TypeId)
    (ho : o.op = .call { callee := .builtin .append, args := #[s, x], argTypes := #[t, t] }) (e : TypeId) (i : TypeInfo) (ht : P.underlying t = some (.slice e)) (hi : P.info? e = some i) (b : Option Addr) (n c : Nat) (hle : n ≤ c) (hs : a.eval s = .slice b n c) (la : Option Addr) (lc : Nat) (hx : a.eval x = .slice la 0 lc)
    (h : wpList P ops Q rest (a.put o.dst (.slice b n c)) w) : wpList P ops Q (o :: rest) a w := by
  refine wpList_plain hgd fun K hK => ?_
  have hrun : (Builtin.append_ #[t, t] o.type #[.slice b n c, .slice la 0 lc]).run P w = .ok (.slice b n c) w := by
    have hs' : Src P i.size t (.slice la 0 lc) 0 [] w := by
      cases la with
      | none => exact Src.ofNil w ht lc
      | some ad => exact Src.ofSlice w ht ad 0 lc [] (by simp) (fun j u h => by simp at h) (fun u hu => by cases hu)
    exact run_append_nothing w t t o.type e i ht hi b n c hle _ hs'
  unfold Oper.wp
  simp [execOp, ho, resolve, invoke, builtin, hs, hx, hrun, Result.andThen]
  exact hK _ _ h
/-- A pass, and where its lights lie. -/
abbrev Lp := List (Ps × Option Addr × Nat)
abbrev lp0 : Ps × Option Addr × Nat := (Ps.zero, none, 0)
def pcells (L : Lp) : List Value := L.flatMap fun x => [.int .i64 x.1.Op, .int .i64 x.1.To, .int .i64 x.1.A, .int .i64 x.1.B, .int .i64 x.1.K, .slice x.2.1 x.1.ls.length x.2.2]
theorem pcells_len (L : Lp) : (pcells L).length = L.length * 6 := by
  induction L with
  | nil => rfl
  | cons x L ih => simp only [pcells, List.flatMap_cons, List.length_append, List.length_cons, List.length_nil] at ih ⊢; rw [ih]; omega
theorem pcells_snoc (L : Lp) (x : Ps × Option Addr × Nat) : pcells (L ++ [x]) = pcells L ++ [.int .i64 x.1.Op, .int .i64 x.1.To, .int .i64 x.1.A, .int .i64 x.1.B, .int .i64 x.1.K, .slice x.2.1 x.1.ls.length x.2.2] := by simp [pcells]
theorem pcells_get (L : Lp) (j : Nat) (h : j < L.length) : (pcells L)[j * 6]? = some (.int .i64 (L.getD j lp0).1.Op) ∧ (pcells L)[j * 6 + 1]? = some (.int .i64 (L.getD j lp0).1.To) ∧ (pcells L)[j * 6 + 2]? = some (.int .i64 (L.getD j lp0).1.A) ∧ (pcells L)[j * 6 + 3]? = some (.int .i64 (L.getD j lp0).1.B) ∧ (pcells L)[j * 6 + 4]? = some (.int .i64 (L.getD j lp0).1.K) ∧ (pcells L)[j * 6 + 5]? = some (.slice (L.getD j lp0).2.1 (L.getD j lp0).1.ls.length (L.getD j lp0).2.2) := by
  induction L generalizing j with
  | nil => simp at h
  | cons x L ih =>
    have e : pcells (x :: L) = .int .i64 x.1.Op :: .int .i64 x.1.To :: .int .i64 x.1.A :: .int .i64 x.1.B :: .int .i64 x.1.K :: .slice x.2.1 x.1.ls.length x.2.2 :: pcells L := rfl
    cases j with
    | zero => rw [e]; exact ⟨rfl, rfl, rfl, rfl, rfl, rfl⟩
    | succ j =>
      have := ih j (by simpa using h)
      rw [e, show (j + 1) * 6 = j * 6 + 1 + 1 + 1 + 1 + 1 + 1 by omega]
      simpa using this
def OwnsP (base : Nat) (w : World) (v : Value) (L : Lp) : Prop := w.ownsRow base 88 6 v L.length (pcells L)
/-- A pass's lights lie in memory, in no block of the row v. -/
def Lx (base : Nat) (w : World) (v : Value) (x : Ps × Option Addr × Nat) : Prop :=
  x.1.ls.length ≤ 9223372036854775807 ∧ (x.1.ls = [] ∨ ∃ b off, x.2.1 = some ⟨b, off, none⟩ ∧ base ≤ b ∧ b < w.heap.size ∧ v.ownBlock ≠ some b ∧ ∀ j, j < x.1.ls.length → w.cell? ⟨b, off + j * 4, none⟩ = some (.int .i64 (x.1.ls.getD j Lt.zero).X) ∧ w.cell? ⟨b, off + j * 4 + 1, none⟩ = some (.int .i64 (x.1.ls.getD j Lt.zero).Y) ∧ w.cell? ⟨b, off + j * 4 + 2, none⟩ = some (.int .i64 (x.1.ls.getD j Lt.zero).R) ∧ w.cell? ⟨b, off + j * 4 + 3, none⟩ = some (.int .i64 (x.1.ls.getD j Lt.zero).P))
theorem Lx.lights {base : Nat} {w : World} {v : Value} {x : Ps × Option Addr × Nat} (h : Lx base w v x) : Lights w x.2.1 x.1.ls.length x.1.ls := by
  obtain ⟨h0, h1⟩ := h
  refine ⟨rfl, h0, ?_⟩
  rcases h1 with h1 | ⟨b, off, ha, hB, hb, _, hc⟩
  · exact .inl h1
  · exact .inr ⟨b, off, ha, hb, hc⟩
theorem Lx.mono {base base' : Nat} {w : World} {v : Value} {x : Ps × Option Addr × Nat} (h : Lx base w v x) (hb : base' ≤ base) : Lx base' w v x := by
  obtain ⟨h0, h1⟩ := h
  refine ⟨h0, ?_⟩
  rcases h1 with h1 | ⟨b, off, ha, hB, r⟩
  · exact .inl h1
  · exact .inr ⟨b, off, ha, Nat.le_trans hb hB, r⟩
theorem Lx.below {base : Nat} {w w' : World} {v : Value} {x : Ps × Option Addr × Nat} (h : Lx base w v x) (hb : Below w.heap.size w w') : Lx base w' v x := by
  obtain ⟨h0, h1⟩ := h
  refine ⟨h0, ?_⟩
  rcases h1 with h1 | ⟨b, off, ha, hB, hl, hv, hc⟩
  · exact .inl h1
  · refine .inr ⟨b, off, ha, hB, Nat.lt_of_lt_of_le hl hb.size, hv, fun j hj => ?_⟩
    obtain ⟨c0, c1, c2, c3⟩ := hc j hj
    exact ⟨(hb.cell (p := ⟨b, off + j * 4, none⟩) hl).trans c0, (hb.cell (p := ⟨b, off + j * 4 + 1, none⟩) hl).trans c1, (hb.cell (p := ⟨b, off + j * 4 + 2, none⟩) hl).trans c2, (hb.cell (p := ⟨b, off + j * 4 + 3, none⟩) hl).trans c3⟩
theorem Lx.setBelow {base : Nat} {w : World} {v : Value} {x : Ps × Option Addr × Nat} (h : Lx base w v x) {p : Addr} (hp : p.block < base) (u : Value) : Lx base (w.setCell p u) v x := by
  obtain ⟨h0, h1⟩ := h
  refine ⟨h0, ?_⟩
  rcases h1 with h1 | ⟨b, off, ha, hB, hl, hv, hc⟩
  · exact .inl h1
  · have hn : ∀ o, p ≠ (⟨b, o, none⟩ : Addr) := fun o e => by rw [e] at hp; exact absurd hp (by simpa using hB)
    refine .inr ⟨b, off, ha, hB, by simpa using hl, hv, fun j hj => ?_⟩
    obtain ⟨c0, c1, c2, c3⟩ := hc j hj
    exact ⟨(set_other _ (hn _)).trans c0, (set_other _ (hn _)).trans c1, (set_other _ (hn _)).trans c2, (set_other _ (hn _)).trans c3⟩
theorem Lx.grown {base : Nat} {w w' : World} {v v' : Value} {x : Ps × Option Addr × Nat} (h : Lx base w v x) (hg : w.grownBy w' v.ownBlock) (hv' : v'.ownBlock = v.ownBlock ∨ v'.ownBlock = some w.heap.size) : Lx base w' v' x := by
  obtain ⟨h0, h1⟩ := h
  refine ⟨h0, ?_⟩
  rcases h1 with h1 | ⟨b, off, ha, hB, hl, hv, hc⟩
  · exact .inl h1
  · have hk := fun o => (grown_cell hg hl (fun e => hv e.symm) o).1
    refine .inr ⟨b, off, ha, hB, Nat.lt_of_lt_of_le hl hg.size, ?_, fun j hj => ?_⟩
    · rcases hv' with e | e
      · rw [e]; exact hv
      · rw [e]; intro e'; injection e' with e'; omega
    · obtain ⟨c0, c1, c2, c3⟩ := hc j hj
      exact ⟨(hk _).trans c0, (hk _).trans c1, (hk _).trans c2, (hk _).trans c3⟩
/-- The row v of passes, and their lights. -/
def RowP (base : Nat) (w : World) (v : Value) (L : Lp) : Prop := OwnsP base w v L ∧ ∀ x ∈ L, Lx base w v x
theorem RowP.nil (base : Nat) (w : World) : RowP base w (.slice none 0 0) [] := ⟨World.ownsRow_nil _ _ _ _, fun x hx => by cases hx⟩
theorem RowP.below {base : Nat} {w w' : World} {v : Value} {L : Lp} (h : RowP base w v L) (hb : Below w.heap.size w w') : RowP base w' v L :=
  ⟨ownsRow_below h.1 hb (Nat.le_refl _), fun x hx => (h.2 x hx).below hb⟩
theorem RowP.setBelow {base : Nat} {w : World} {v : Value} {L : Lp} (h : RowP base w v L) {p : Addr} (hp : p.block < base) (u : Value) : RowP base (w.setCell p u) v L :=
  ⟨ownsRow_setCell_below h.1 hp u, fun x hx => (h.2 x hx).setBelow hp u⟩
theorem RowP.lt {base : Nat} {w : World} {v : Value} {L : Lp} (h : RowP base w v L) : ∀ j, v.ownBlock = some j → base ≤ j ∧ j < w.heap.size := fun j hj => World.ownsRow.lt (w := w) h.1 j hj
theorem RowP.push {base : Nat} {w w1 : World} {v v' : Value} {L : Lp} {x : Ps × Option Addr × Nat} (h : RowP base w v L) (hx : Lx base w v x)
    (h' : w1.ownsRow base 88 6 v' (L.length + 1) (pcells L ++ [.int .i64 x.1.Op, .int .i64 x.1.To, .int .i64 x.1.A, .int .i64 x.1.B, .int .i64 x.1.K, .slice x.2.1 x.1.ls.length x.2.2])) (hg : w.grownBy w1 v.ownBlock) (hl : v'.ownBlock = v.ownBlock ∨ v'.ownBlock = some w.heap.size) : RowP base w1 v' (L ++ [x]) := by
  refine ⟨by unfold OwnsP; rw [pcells_snoc]; simpa using h', fun y hy => ?_⟩
  rcases List.mem_append.1 hy with h1 | h1
  · exact (h.2 y h1).grown hg hl
  · rw [List.mem_singleton] at h1; subst h1; exact hx.grown hg hl
theorem mapP_getD {L : Lp} {ps : List Ps} (h : L.map Prod.fst = ps) (j : Nat) : ps.getD j Ps.zero = (L.getD j lp0).1 := by
  subst h
  simp only [List.getD_eq_getElem?_getD, List.getElem?_map]
  cases L[j]? <;> rfl
theorem RowP.passes {base : Nat} {w : World} {v : Value} {L : Lp} {ps : List Ps} (h : RowP base w v L) (he : L.map Prod.fst = ps) (hb : L.length ≤ 12) : ∃ a cap, v = .slice a ps.length cap ∧ Passes w a ps.length ps := by
  have hrl : ps.length = L.length := by rw [← he]; simp
  obtain ⟨⟨h1, h2⟩, hx⟩ := h
  rcases h2 with ⟨rfl, h0⟩ | ⟨g, cap, cur, rfl, hg, hh, hc, hm, hs, ht⟩
  · have : L = [] := by simpa using h0
    subst this
    subst he
    exact ⟨none, 0, rfl, rfl, by simp, .inl rfl⟩
  · rw [← hrl]
    refine ⟨_, cap, rfl, rfl, by omega, .inr ⟨g, 0, rfl, ?_, fun j hj => ?_⟩⟩
    · rcases Nat.lt_or_ge g w.heap.size with h | h
      · exact h
      · rw [Array.getElem?_eq_none h] at hh; cases hh
    · have hl := pcells_len L
      rw [hrl] at hj
      obtain ⟨k0, k1, k2, k3, k4, k5⟩ := pcells_get L j hj
      have this := fun i hi => World.ownsRow.cellAt (base := base) (e := 88) (size := 6) ⟨h1, .inr ⟨g, cap, cur, rfl, hg, hh, hc, hm, hs, ht⟩⟩ i hi
      have hL := (hx _ (getD_mem hj lp0)).lights
      rw [mapP_getD he j]
      refine ⟨(L.getD j lp0).2.1, (L.getD j lp0).1.ls.length, (L.getD j lp0).2.2, ?_, ?_, ?_, ?_, ?_, ?_, hL⟩
      all_goals rw [Nat.zero_add, this _ (by omega)]
      · exact k0
      · exact k1
      · exact k2
      · exact k3
      · exact k4
      · exact k5
theorem Try.infoPass : (Try.prog.info? 88).map (fun i => (i.zero, i.size, i.bytes)) = some (some (.agg #[.int .i64 0, .int .i64 0, .int .i64 0, .int .i64 0, .int .i64 0, .slice none 0 0]), 6, 64) := by kernel_rfl
theorem cell_six_new (w : World) (v0 v1 v2 v3 v4 v5 : Value) (t : TypeId) : ∀ (j : Nat) (u : Value), [v0, v1, v2, v3, v4, v5][j]? = some u → (w.alloc (.cells #[v0, v1, v2, v3, v4, v5] t)).cell? ((⟨w.heap.size, 0, none⟩ : Addr).add j) = some u := by
  intro j u h
  match j, h with
  | 0, h => simp at h; subst h; simp [go_sem, Addr.add]
  | 1, h => simp at h; subst h; simp [go_sem, Addr.add]
  | 2, h => simp at h; subst h; simp [go_sem, Addr.add]
  | 3, h => simp at h; subst h; simp [go_sem, Addr.add]
  | 4, h => simp at h; subst h; simp [go_sem, Addr.add]
  | 5, h => simp at h; subst h; simp [go_sem, Addr.add]
/-- Lights of the call's own, as a pass's. -/
theorem Lx.of {base B : Nat} {w : World} {v u : Value} {p : Ps} {la : Option Addr} {lc : Nat} (h : OwnsL B w u p.ls) (hu : u = .slice la p.ls.length lc) (h8 : p.ls.length ≤ 8) (hB : base ≤ B) (hv : ∀ j, v.ownBlock = some j → j < B) : Lx base w v (p, la, lc) := by
  refine ⟨by dsimp only; omega, ?_⟩
  obtain ⟨a', cap', e, hL⟩ := id h.lights h8
  rcases h with ⟨h1, h2 | ⟨g, cap, cur, hvv, hg, r⟩⟩
  · left
    have := h2.2
    simpa using this
  · rw [e] at hvv hu
    injection hvv with e1 e2 e3
    injection hu with e4 e5 e6
    subst e1 e4
    rcases hL.cells with e7 | ⟨b, off, ha, hb, hc⟩
    · exact .inl e7
    · injection ha with ha
      injection ha with f1 f2
      subst f1 f2
      exact .inr ⟨g, 0, rfl, Nat.le_trans hB hg, hb, fun e => by have := hv _ e; omega, hc⟩
end Go.Proofs.Ytfpkiimlaepnhaa
/-
  BEHIND: need.fromBehind: the passes, the last one first.
-/
namespace Go.Proofs.Ytfpkiimlaepnhaa
set_option maxRecDepth 100000
open Go.RowKit Im Go.Shelf
attribute [local go_sem] Oper.semAt_some

/-- A pass's fields, as values. -/
structure Pv where
  Op : Int
  To : Int
  A : Int
  B : Int
  K : Int
  la : Option Addr
  ll : Nat
  lc : Nat
abbrev Pv.val (p : Pv) : Value := .agg #[.int .i64 p.Op, .int .i64 p.To, .int .i64 p.A, .int .i64 p.B, .int .i64 p.K, .slice p.la p.ll p.lc]
/-- A pass, with its number. -/
abbrev Pe (len : Nat) := { x : Nat × Pv // x.1 < len }
abbrev peV {len : Nat} (x : Pe len) : Array Value := #[.int .i64 (x.1.1 : Int), x.1.2.val]
/-- What comes as number j, from behind. -/
def bh (len : Nat) (hl : 0 < len) (pv : Nat → Pv) (j : Nat) : Pe len := ⟨(len - 1 - j, pv (len - 1 - j)), by omega⟩
def bhs (len : Nat) (hl : 0 < len) (pv : Nat → Pv) (k : Nat) : List (Pe len) := (List.range k).map (bh len hl pv)
theorem bhs_succ (len : Nat) (hl : 0 < len) (pv : Nat → Pv) (k : Nat) : bhs len hl pv (k + 1) = bhs len hl pv k ++ [bh len hl pv k] := by simp [bhs, List.range_succ]
theorem bhs_length (len : Nat) (hl : 0 < len) (pv : Nat → Pv) (k : Nat) : (bhs len hl pv k).length = k := by simp [bhs]
/-- The passes' cells, in the block b. -/
def PvAt (W : World) (b off len : Nat) (pv : Nat → Pv) : Prop := ∀ j, j < len → W.cell? ⟨b, off + j * 6, none⟩ = some (.int .i64 (pv j).Op) ∧ W.cell? ⟨b, off + j * 6 + 1, none⟩ = some (.int .i64 (pv j).To) ∧ W.cell? ⟨b, off + j * 6 + 2, none⟩ = some (.int .i64 (pv j).A) ∧ W.cell? ⟨b, off + j * 6 + 3, none⟩ = some (.int .i64 (pv j).B) ∧ W.cell? ⟨b, off + j * 6 + 4, none⟩ = some (.int .i64 (pv j).K) ∧ W.cell? ⟨b, off + j * 6 + 5, none⟩ = some (.slice (pv j).la (pv j).ll (pv j).lc)
theorem PvAt.below {W W' : World} {b off len n₀ : Nat} {pv : Nat → Pv} (h : PvAt W b off len pv) (hb : Below n₀ W W') (hl : b < n₀) : PvAt W' b off len pv := fun j hj => by
  obtain ⟨c0, c1, c2, c3, c4, c5⟩ := h j hj
  exact ⟨(hb.cell (p := ⟨b, off + j * 6, none⟩) hl).trans c0, (hb.cell (p := ⟨b, off + j * 6 + 1, none⟩) hl).trans c1, (hb.cell (p := ⟨b, off + j * 6 + 2, none⟩) hl).trans c2, (hb.cell (p := ⟨b, off + j * 6 + 3, none⟩) hl).trans c3, (hb.cell (p := ⟨b, off + j * 6 + 4, none⟩) hl).trans c4, (hb.cell (p := ⟨b, off + j * 6 + 5, none⟩) hl).trans c5⟩
/-- What a round keeps: what lay below n₀, and the iterator's own box. -/
def KpB (n₀ Bs : Nat) (A B : World) : Prop := Below n₀ A B ∧ B.cell? ⟨Bs, 0, none⟩ = A.cell? ⟨Bs, 0, none⟩
set_option maxHeartbeats 2000000 in
theorem behind1_in (n : Nat) (hn : 1 ≤ n) (l Bs n₀ b off len cap : Nat) (hl : 0 < len) (h12 : len ≤ 12) (pv : Nat → Pv) (hb : b < n₀) (J Jx : List (Pe len) → World → Prop)
    (hY : ∀ pre x W, J pre W → pre.length < len → YieldAt Fence.wide (n - 1) Try.prog l (peV x) W fun e W' =>
      (e = .returned (.bool true) ∧ J (pre ++ [x]) W' ∧ KpB n₀ Bs W W') ∨ (e = .returned (.bool false) ∧ Jx (pre ++ [x]) W'))
    (W : World) (hBs : W.cell? ⟨Bs, 0, none⟩ = some (.slice (some ⟨b, off, none⟩) len cap)) (hc : PvAt W b off len pv) (h0 : J [] W) :
    CallsIn Fence.wide n Try.prog 116 #[.func (.yield l) #[] #[], .pointer (some ⟨Bs, 0, none⟩)] W fun e W' => (∃ v, e = .returned v) ∧
      ((∃ ys, ys = bhs len hl pv len ∧ J ys W') ∨ (∃ pre, (∃ k, k < len ∧ pre = bhs len hl pv (k + 1)) ∧ Jx pre W')) := by
  have hw0 : IntKind.i64.wrap ((len : Int) - 1) = (len : Int) - 1 := by rw [IntKind.wrap_i64]; omega
  refine callsIn_of_wp Try.func116 rfl trivial ?_ rfl
  simp only [Try.ntmps116, List.size_toArray, List.length_cons, List.length_nil, Nat.reduceAdd, Nat.reduceSub, Array.replicate_succ, Array.replicate_zero, List.push_toArray, List.append_toArray, List.nil_append, List.cons_append]
  gi_wp2
  gi_loopw [3] (fun i wr => ∃ k : Nat, k ≤ len ∧ i = .int .i64 ((len : Int) - 1 - k) ∧ J (bhs len hl pv k) wr ∧ KpB n₀ Bs W wr) (fun i _ => (intOf i + 1).toNat)
  case atStart => exact ⟨0, Nat.zero_le _, by simp, h0, Below.refl _ _, rfl⟩
  case round =>
    obtain ⟨k, hk, rfl, hJs, hnx, hnb⟩ := hrel
    have hbx := hnb.trans hBs
    by_cases hlt : k < len
    · obtain ⟨m, hm⟩ : ∃ m : Nat, m = len - 1 - k := ⟨_, rfl⟩
      have hmi : (len : Int) - 1 - k = (m : Int) := by omega
      obtain ⟨c0, c1, c2, c3, c4, c5⟩ := (hc.below hnx hb) m (by omega)
      obtain ⟨fn, tmps, assign, body, hy, hR⟩ := hY _ (bh len hl pv k) wr hJs (by rw [bhs_length]; exact hlt)
      have hbk : (bh len hl pv k).1 = (m, pv m) := by unfold bh; rw [hm]
      unfold peV at hy
      rw [hbk] at hy
      dsimp only at hy
      rw [hmi]
      have hml : (m : Int) < (len : Int) := by omega
      have hw1 : IntKind.i64.wrap ((m : Int) - 1) = (m : Int) - 1 := by rw [IntKind.wrap_i64]; omega
      have HMN : Hid ((m : Int) - 1 = (len : Int) - 1 - ((k + 1 : Nat) : Int)) := by show _ = _; omega
      generalize pv m = p at c0 c1 c2 c3 c4 c5 hy
      clear hm hmi hbk hbx
      have hbx := hnb.trans hBs
      gi_wp2
      refine hR.mono ?_
      rintro e W3 (⟨rfl, hJ3, hk3⟩ | ⟨rfl, hJx3⟩)
      · gi_wp2
        go_roundw
        case rel => exact ⟨k + 1, by omega, by rw [HMN.out], by rw [bhs_succ]; exact hJ3, hnx.trans hk3.1, hk3.2.trans hnb⟩
        case measure => show ((m : Int) - 1 + 1).toNat < ((m : Int) + 1).toNat; omega
      · gi_wp2
        refine bodyPost_ret (results_none rfl _ _ _) rfl ?_
        exact ⟨⟨_, rfl⟩, .inr ⟨_, ⟨k, hlt, (bhs_succ _ _ _ _).symm⟩, hJx3⟩⟩
    · obtain rfl : k = len := by omega
      have hz : (k : Int) - 1 - k = -1 := by omega
      rw [hz]
      gi_wp2
      go_end0
      exact ⟨⟨_, rfl⟩, .inl ⟨_, rfl, hJs⟩⟩
/-- need.fromBehind's value goes through the passes, the last one first. -/
theorem behind_stops (n : Nat) (hn : 1 ≤ n) (Bs n₀ b off len cap : Nat) (hl : 0 < len) (h12 : len ≤ 12) (pv : Nat → Pv) (hb : b < n₀) (w : World) (hBs : Bs < w.heap.size) (hn₀ : n₀ ≤ w.heap.size)
    (hc : w.cell? ⟨Bs, 0, none⟩ = some (.slice (some ⟨b, off, none⟩) len cap)) (hI : PvAt w b off len pv) :
    SeqStopsK Fence.wide n Try.prog 116 #[.pointer (some ⟨Bs, 0, none⟩)] (peV (len := len)) (KpB n₀ Bs) (fun ys => ys = bhs len hl pv len) (fun pre => ∃ k, k < len ∧ pre = bhs len hl pv (k + 1)) len w := fun l J Jx W hW _ _ hY h0 =>
  behind1_in n hn l Bs n₀ b off len cap hl h12 pv hb J Jx hY W ((hW.cell (p := ⟨Bs, 0, none⟩) hBs).trans hc) (hI.below (hW.mono hn₀) hb) h0
set_option maxHeartbeats 1000000 in
/-- need.fromBehind. -/
theorem fromBehind_any (a : Option Addr) (len cap : Nat) (w : World) :
    Calls Try.prog 92 #[.slice a len cap] w fun e w' => e = .returned (.func (.func 116) #[] #[.pointer (some ⟨w.heap.size, 0, none⟩)]) ∧ w.alloc (.cells #[.slice a len cap] 61) = w' := by
  have hmf : ∀ (fn : Fn) (first cap : Array Value) (w : World), (Instr.makeFunc fn first cap).run Try.prog w = .ok (.func fn first cap) w := fun _ _ _ _ => rfl
  go_enter Try.func92, Try.ntmps92
  go_wp2
  go_ret
  exact ⟨rfl, rfl⟩
theorem KpB.t {n₀ Bs : Nat} {A B C : World} (h : KpB n₀ Bs A B) (k : KpB n₀ Bs B C) : KpB n₀ Bs A C := ⟨h.1.trans k.1, k.2.trans h.2⟩
theorem KpB.b {n₀ Bs : Nat} {w : World} (hn : n₀ ≤ w.heap.size) (hB : Bs < w.heap.size) (W : World) (l : Nat) (o o' : Obj) (hl : w.heap.size ≤ l) (h : W.heap[l]? = some o) (h1 : o.isCells = false) (h2 : o.isWalk = false) : KpB n₀ Bs W (W.putObj l o') :=
  ⟨belowK_b hn W l o o' hl h h1 h2, (belowK_b (n₀ := w.heap.size) (Nat.le_refl _) W l o o' hl h h1 h2).cell (p := ⟨Bs, 0, none⟩) hB⟩
/-- The passes in memory, each with its fields' values. -/
theorem Passes.pv {w : World} {a : Option Addr} {len : Nat} {ps : List Ps} (h : Passes w a len ps) (hl : 0 < len) : ∃ b off pv, a = some ⟨b, off, none⟩ ∧ b < w.heap.size ∧ PvAt w b off len pv ∧ ∀ j, j < len → (pv j).Op = (ps.getD j Ps.zero).Op ∧ (pv j).To = (ps.getD j Ps.zero).To ∧ (pv j).A = (ps.getD j Ps.zero).A ∧ (pv j).B = (ps.getD j Ps.zero).B ∧ (pv j).K = (ps.getD j Ps.zero).K ∧ Lights w (pv j).la (pv j).ll (ps.getD j Ps.zero).ls := by
  rcases h.cells with e | ⟨b, off, ha, hb, hc⟩
  · have := h.leng; subst e; simp at this; omega
  · have hx : ∀ j, ∃ p : Pv, j < len → (w.cell? ⟨b, off + j * 6, none⟩ = some (.int .i64 p.Op) ∧ w.cell? ⟨b, off + j * 6 + 1, none⟩ = some (.int .i64 p.To) ∧ w.cell? ⟨b, off + j * 6 + 2, none⟩ = some (.int .i64 p.A) ∧ w.cell? ⟨b, off + j * 6 + 3, none⟩ = some (.int .i64 p.B) ∧ w.cell? ⟨b, off + j * 6 + 4, none⟩ = some (.int .i64 p.K) ∧ w.cell? ⟨b, off + j * 6 + 5, none⟩ = some (.slice p.la p.ll p.lc)) ∧ (p.Op = (ps.getD j Ps.zero).Op ∧ p.To = (ps.getD j Ps.zero).To ∧ p.A = (ps.getD j Ps.zero).A ∧ p.B = (ps.getD j Ps.zero).B ∧ p.K = (ps.getD j Ps.zero).K ∧ Lights w p.la p.ll (ps.getD j Ps.zero).ls) := by
      intro j
      by_cases hj : j < len
      · obtain ⟨la, ll, lc, c0, c1, c2, c3, c4, c5, hL⟩ := hc j hj
        exact ⟨⟨_, _, _, _, _, la, ll, lc⟩, fun _ => ⟨⟨c0, c1, c2, c3, c4, c5⟩, rfl, rfl, rfl, rfl, rfl, hL⟩⟩
      · exact ⟨⟨0, 0, 0, 0, 0, none, 0, 0⟩, fun h => absurd h hj⟩
    obtain ⟨pv, hpv⟩ := Classical.axiomOfChoice hx
    exact ⟨b, off, pv, ha, hb, fun j hj => (hpv j hj).1, fun j hj => (hpv j hj).2⟩
end Go.Proofs.Ytfpkiimlaepnhaa
