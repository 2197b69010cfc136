/- ImagesRef, RowP, Cull, NeedMath, Lay: joined, in this order. -/
import Derived.Test.YtfpkiimlaepnhabM09
import Derived.Test.YtfpkiimlaepnhabM07
import Derived.Deep.RegionLaw
import Derived.Test.YtfpkiimlaepnhabM04
import Derived.Deep.Upon
import Derived.Test.YtfpkiimlaepnhabM08
/-
  IMAGESREF: the reference's Images.
-/
namespace Go.Proofs.Ytfpkiimlaepnhab
set_option maxRecDepth 100000
open Go.RowKit Im

/-- An append to a row of the call's own, as one step of a region that draws; and where the row lies behind it. -/
theorem step_append_at {P : Program} {ops : Array Oper} {o : Oper} {a : Act} {w : World} {K : Act → World → Prop} {Q : Exit → Act → World → Prop} {E : Prop}
    (hg : o.guard = none) (s x : Operand) (t : TypeId) (ho : o.op = .call { callee := .builtin .append, args := #[s, x], argTypes := #[t, t] })
    (base : Nat) (e : TypeId) (i : TypeInfo) (z : Value) (size bytes : Nat) (ht : P.underlying t = some (.slice e)) (hi : P.info? e = some i) (hz : i.zero = some z)
    (hsize : i.size = size) (hby : i.bytes = bytes) (hzs : z.cells.size = size) (hsz : 0 < size)
    (v : Value) (n : Nat) (xs : List Value) (hs : a.eval s = v) (hown : w.ownsRow base e size v n xs)
    (ad : Addr) (m c : Nat) (news : List Value) (hx : a.eval x = .slice (some ad) m c) (hl : news.length = m * size) (hnews : ∀ j u, news[j]? = some u → w.cell? (ad.add j) = some u) (h1 : ∀ u ∈ news, u.oneCell' = true)
    (h63 : n + m ≤ maxLen) (hbytes : (n + m) * bytes ≤ 140737488355328) (hbase : base ≤ w.heap.size)
    (hK : ∀ v' w', w'.ownsRow base e size v' (n + m) (xs ++ news) → w.grownBy w' v.ownBlock → (v'.ownBlock = v.ownBlock ∨ v'.ownBlock = some w.heap.size) → K (a.put o.dst v') w') :
    if Region.wanted o (yielded ops a.tmps) = true then Oper.wp P o a w K Q else E := by
  have hw : Region.wanted o (yielded ops a.tmps) = true := by simp [Region.wanted, hg]
  rw [if_pos hw]
  obtain ⟨v', w', hr, h2, h3, h4, h5⟩ := run_append_own_at (P := P) w base t o.type e i z size bytes ht hi hz hsize hby hzs hsz v n xs hown ad m c news hl hnews h1 h63 hbytes hbase
  unfold Oper.wp execOp
  simp only [ho, resolve, invoke, builtin, Sem.run_bind, Sem.run_pure, Result.andThen_ok, List.map_toArray, List.map_cons, List.map_nil, hs, hx, hr]
  exact hK _ _ h2 h3 h5
/-- An image's numbers lie in memory, in no block of the row v. -/
def Px (base : Nat) (w : World) (v : Value) (x : Res × Option Addr × Nat) : Prop :=
  x.1.ps.length ≤ 9223372036854775807 ∧ (x.1.ps = [] ∨ ∃ b off, x.2.1 = some ⟨b, off, none⟩ ∧ base ≤ b ∧ b < w.heap.size ∧ v.ownBlock ≠ some b ∧ ∀ j, j < x.1.ps.length → w.cell? ⟨b, off + j, none⟩ = some (.int .i64 (x.1.ps.getD j 0)))
theorem Px.ints {base : Nat} {w : World} {v : Value} {x : Res × Option Addr × Nat} (h : Px base w v x) : Ints base w x.2.1 x.1.ps.length x.1.ps := by
  obtain ⟨h0, h1⟩ := h
  refine ⟨rfl, h0, ?_⟩
  rcases h1 with h1 | ⟨b, off, ha, hB, hb, _, hc⟩
  · exact .inl h1
  · exact .inr ⟨b, off, ha, hB, hb, hc⟩
theorem Px.mono {base base' : Nat} {w : World} {v : Value} {x : Res × Option Addr × Nat} (h : Px base w v x) (hb : base' ≤ base) : Px base' w v x := by
  obtain ⟨h0, h1⟩ := h
  refine ⟨h0, ?_⟩
  rcases h1 with h1 | ⟨b, off, ha, hB, r⟩
  · exact .inl h1
  · exact .inr ⟨b, off, ha, Nat.le_trans hb hB, r⟩
theorem Px.of {base : Nat} {w : World} {v : Value} {B : Nat} {r : Res} {a : Option Addr} {c : Nat} (h : Ints B w a r.ps.length r.ps) (hB : base ≤ B) (hv : ∀ j, v.ownBlock = some j → j < B) : Px base w v (r, a, c) := by
  refine ⟨h.big, ?_⟩
  rcases h.cells with h1 | ⟨b, off, ha, hb0, hb, hc⟩
  · exact .inl h1
  · exact .inr ⟨b, off, ha, Nat.le_trans hB hb0, hb, fun e => by have := hv b e; omega, hc⟩
theorem Px.below {base : Nat} {w w' : World} {v : Value} {x : Res × Option Addr × Nat} (h : Px base w v x) (hb : Below w.heap.size w w') : Px base w' v x := by
  obtain ⟨h0, h1⟩ := h
  refine ⟨h0, ?_⟩
  rcases h1 with h1 | ⟨b, off, ha, hB, hl, hv, hc⟩
  · exact .inl h1
  · exact .inr ⟨b, off, ha, hB, Nat.lt_of_lt_of_le hl hb.size, hv, fun j hj => (hb.cell (p := ⟨b, off + j, none⟩) hl).trans (hc j hj)⟩
theorem Px.grown {base : Nat} {w w' : World} {v v' : Value} {x : Res × Option Addr × Nat} (h : Px base w v x) (hg : w.grownBy w' v.ownBlock) (hv' : v'.ownBlock = v.ownBlock ∨ v'.ownBlock = some w.heap.size) : Px base w' v' x := by
  obtain ⟨h0, h1⟩ := h
  refine ⟨h0, ?_⟩
  rcases h1 with h1 | ⟨b, off, ha, hB, hl, hv, hc⟩
  · exact .inl h1
  · refine .inr ⟨b, off, ha, hB, Nat.lt_of_lt_of_le hl hg.size, ?_, fun j hj => (grown_cell hg hl (fun e => hv e.symm) (off + j)).1.trans (hc j hj)⟩
    rcases hv' with e | e
    · rw [e]; exact hv
    · rw [e]; intro e'; injection e' with e'; omega
end Go.Proofs.Ytfpkiimlaepnhab
/-
  ROWP: a growing row of passes, with lights of their own.
-/
namespace Go.Proofs.Ytfpkiimlaepnhab
set_option maxRecDepth 100000
open Go.RowKit Im

/-- An append of nothing leaves all as it was. -/
theorem list_append_nothing {P : Program} {w : World} {ops : Array Oper} {rest : List Oper} {o : Oper} {a : Act} {Q : Exit → Act → World → Prop} (hgd : o.guard = none) (s x : Operand) (t : TypeId)
    (ho : o.op = .call { callee := .builtin .append, args := #[s, x], argTypes := #[t, t] }) (e : TypeId) (i : TypeInfo) (ht : P.underlying t = some (.slice e)) (hi : P.info? e = some i) (b : Option Addr) (n c : Nat) (hle : n ≤ c) (hs : a.eval s = .slice b n c) (la : Option Addr) (lc : Nat) (hx : a.eval x = .slice la 0 lc)
    (h : wpList P ops Q rest (a.put o.dst (.slice b n c)) w) : wpList P ops Q (o :: rest) a w := by
  refine wpList_plain hgd fun K hK => ?_
  have hrun : (Builtin.append_ #[t, t] o.type #[.slice b n c, .slice la 0 lc]).run P w = .ok (.slice b n c) w := by
    have hs' : Src P i.size t (.slice la 0 lc) 0 [] w := by
      cases la with
      | none => exact Src.ofNil w ht lc
      | some ad => exact Src.ofSlice w ht ad 0 lc [] (by simp) (fun j u h => by simp at h) (fun u hu => by cases hu)
    exact run_append_nothing w t t o.type e i ht hi b n c hle _ hs'
  unfold Oper.wp
  simp [execOp, ho, resolve, invoke, builtin, hs, hx, hrun, Result.andThen]
  exact hK _ _ h
/-- A pass, and where its lights lie. -/
abbrev Lp := List (Ps × Option Addr × Nat)
abbrev lp0 : Ps × Option Addr × Nat := (Ps.zero, none, 0)
def pcells (L : Lp) : List Value := L.flatMap fun x => [.int .i64 x.1.Op, .int .i64 x.1.To, .int .i64 x.1.A, .int .i64 x.1.B, .int .i64 x.1.K, .slice x.2.1 x.1.ls.length x.2.2]
theorem pcells_len (L : Lp) : (pcells L).length = L.length * 6 := by
  induction L with
  | nil => rfl
  | cons x L ih => simp only [pcells, List.flatMap_cons, List.length_append, List.length_cons, List.length_nil] at ih ⊢; rw [ih]; omega
theorem pcells_snoc (L : Lp) (x : Ps × Option Addr × Nat) : pcells (L ++ [x]) = pcells L ++ [.int .i64 x.1.Op, .int .i64 x.1.To, .int .i64 x.1.A, .int .i64 x.1.B, .int .i64 x.1.K, .slice x.2.1 x.1.ls.length x.2.2] := by simp [pcells]
theorem pcells_get (L : Lp) (j : Nat) (h : j < L.length) : (pcells L)[j * 6]? = some (.int .i64 (L.getD j lp0).1.Op) ∧ (pcells L)[j * 6 + 1]? = some (.int .i64 (L.getD j lp0).1.To) ∧ (pcells L)[j * 6 + 2]? = some (.int .i64 (L.getD j lp0).1.A) ∧ (pcells L)[j * 6 + 3]? = some (.int .i64 (L.getD j lp0).1.B) ∧ (pcells L)[j * 6 + 4]? = some (.int .i64 (L.getD j lp0).1.K) ∧ (pcells L)[j * 6 + 5]? = some (.slice (L.getD j lp0).2.1 (L.getD j lp0).1.ls.length (L.getD j lp0).2.2) := by
  induction L generalizing j with
  | nil => simp at h
  | cons x L ih =>
    have e : pcells (x :: L) = .int .i64 x.1.Op :: .int .i64 x.1.To :: .int .i64 x.1.A :: .int .i64 x.1.B :: .int .i64 x.1.K :: .slice x.2.1 x.1.ls.length x.2.2 :: pcells L := rfl
    cases j with
    | zero => rw [e]; exact ⟨rfl, rfl, rfl, rfl, rfl, rfl⟩
    | succ j =>
      have := ih j (by simpa using h)
      rw [e, show (j + 1) * 6 = j * 6 + 1 + 1 + 1 + 1 + 1 + 1 by omega]
      simpa using this
def OwnsP (base : Nat) (w : World) (v : Value) (L : Lp) : Prop := w.ownsRow base 92 6 v L.length (pcells L)
/-- A pass's lights lie in memory, in no block of the row v. -/
def Lx (base : Nat) (w : World) (v : Value) (x : Ps × Option Addr × Nat) : Prop :=
  x.1.ls.length ≤ 9223372036854775807 ∧ (x.1.ls = [] ∨ ∃ b off, x.2.1 = some ⟨b, off, none⟩ ∧ base ≤ b ∧ b < w.heap.size ∧ v.ownBlock ≠ some b ∧ ∀ j, j < x.1.ls.length → w.cell? ⟨b, off + j * 4, none⟩ = some (.int .i64 (x.1.ls.getD j Lt.zero).X) ∧ w.cell? ⟨b, off + j * 4 + 1, none⟩ = some (.int .i64 (x.1.ls.getD j Lt.zero).Y) ∧ w.cell? ⟨b, off + j * 4 + 2, none⟩ = some (.int .i64 (x.1.ls.getD j Lt.zero).R) ∧ w.cell? ⟨b, off + j * 4 + 3, none⟩ = some (.int .i64 (x.1.ls.getD j Lt.zero).P))
theorem Lx.lights {base : Nat} {w : World} {v : Value} {x : Ps × Option Addr × Nat} (h : Lx base w v x) : Lights w x.2.1 x.1.ls.length x.1.ls := by
  obtain ⟨h0, h1⟩ := h
  refine ⟨rfl, h0, ?_⟩
  rcases h1 with h1 | ⟨b, off, ha, hB, hb, _, hc⟩
  · exact .inl h1
  · exact .inr ⟨b, off, ha, hb, hc⟩
theorem Lx.mono {base base' : Nat} {w : World} {v : Value} {x : Ps × Option Addr × Nat} (h : Lx base w v x) (hb : base' ≤ base) : Lx base' w v x := by
  obtain ⟨h0, h1⟩ := h
  refine ⟨h0, ?_⟩
  rcases h1 with h1 | ⟨b, off, ha, hB, r⟩
  · exact .inl h1
  · exact .inr ⟨b, off, ha, Nat.le_trans hb hB, r⟩
theorem Lx.below {base : Nat} {w w' : World} {v : Value} {x : Ps × Option Addr × Nat} (h : Lx base w v x) (hb : Below w.heap.size w w') : Lx base w' v x := by
  obtain ⟨h0, h1⟩ := h
  refine ⟨h0, ?_⟩
  rcases h1 with h1 | ⟨b, off, ha, hB, hl, hv, hc⟩
  · exact .inl h1
  · refine .inr ⟨b, off, ha, hB, Nat.lt_of_lt_of_le hl hb.size, hv, fun j hj => ?_⟩
    obtain ⟨c0, c1, c2, c3⟩ := hc j hj
    exact ⟨(hb.cell (p := ⟨b, off + j * 4, none⟩) hl).trans c0, (hb.cell (p := ⟨b, off + j * 4 + 1, none⟩) hl).trans c1, (hb.cell (p := ⟨b, off + j * 4 + 2, none⟩) hl).trans c2, (hb.cell (p := ⟨b, off + j * 4 + 3, none⟩) hl).trans c3⟩
theorem Lx.setBelow {base : Nat} {w : World} {v : Value} {x : Ps × Option Addr × Nat} (h : Lx base w v x) {p : Addr} (hp : p.block < base) (u : Value) : Lx base (w.setCell p u) v x := by
  obtain ⟨h0, h1⟩ := h
  refine ⟨h0, ?_⟩
  rcases h1 with h1 | ⟨b, off, ha, hB, hl, hv, hc⟩
  · exact .inl h1
  · have hn : ∀ o, p ≠ (⟨b, o, none⟩ : Addr) := fun o e => by rw [e] at hp; exact absurd hp (by simpa using hB)
    refine .inr ⟨b, off, ha, hB, by simpa using hl, hv, fun j hj => ?_⟩
    obtain ⟨c0, c1, c2, c3⟩ := hc j hj
    exact ⟨(set_other _ (hn _)).trans c0, (set_other _ (hn _)).trans c1, (set_other _ (hn _)).trans c2, (set_other _ (hn _)).trans c3⟩
theorem Lx.grown {base : Nat} {w w' : World} {v v' : Value} {x : Ps × Option Addr × Nat} (h : Lx base w v x) (hg : w.grownBy w' v.ownBlock) (hv' : v'.ownBlock = v.ownBlock ∨ v'.ownBlock = some w.heap.size) : Lx base w' v' x := by
  obtain ⟨h0, h1⟩ := h
  refine ⟨h0, ?_⟩
  rcases h1 with h1 | ⟨b, off, ha, hB, hl, hv, hc⟩
  · exact .inl h1
  · have hk := fun o => (grown_cell hg hl (fun e => hv e.symm) o).1
    refine .inr ⟨b, off, ha, hB, Nat.lt_of_lt_of_le hl hg.size, ?_, fun j hj => ?_⟩
    · rcases hv' with e | e
      · rw [e]; exact hv
      · rw [e]; intro e'; injection e' with e'; omega
    · obtain ⟨c0, c1, c2, c3⟩ := hc j hj
      exact ⟨(hk _).trans c0, (hk _).trans c1, (hk _).trans c2, (hk _).trans c3⟩
/-- The row v of passes, and their lights. -/
def RowP (base : Nat) (w : World) (v : Value) (L : Lp) : Prop := OwnsP base w v L ∧ ∀ x ∈ L, Lx base w v x
theorem RowP.nil (base : Nat) (w : World) : RowP base w (.slice none 0 0) [] := ⟨World.ownsRow_nil _ _ _ _, fun x hx => by cases hx⟩
theorem RowP.below {base : Nat} {w w' : World} {v : Value} {L : Lp} (h : RowP base w v L) (hb : Below w.heap.size w w') : RowP base w' v L :=
  ⟨ownsRow_below h.1 hb (Nat.le_refl _), fun x hx => (h.2 x hx).below hb⟩
theorem RowP.setBelow {base : Nat} {w : World} {v : Value} {L : Lp} (h : RowP base w v L) {p : Addr} (hp : p.block < base) (u : Value) : RowP base (w.setCell p u) v L :=
  ⟨ownsRow_setCell_below h.1 hp u, fun x hx => (h.2 x hx).setBelow hp u⟩
theorem RowP.lt {base : Nat} {w : World} {v : Value} {L : Lp} (h : RowP base w v L) : ∀ j, v.ownBlock = some j → base ≤ j ∧ j < w.heap.size := fun j hj => World.ownsRow.lt (w := w) h.1 j hj
theorem RowP.push {base : Nat} {w w1 : World} {v v' : Value} {L : Lp} {x : Ps × Option Addr × Nat} (h : RowP base w v L) (hx : Lx base w v x)
    (h' : w1.ownsRow base 92 6 v' (L.length + 1) (pcells L ++ [.int .i64 x.1.Op, .int .i64 x.1.To, .int .i64 x.1.A, .int .i64 x.1.B, .int .i64 x.1.K, .slice x.2.1 x.1.ls.length x.2.2])) (hg : w.grownBy w1 v.ownBlock) (hl : v'.ownBlock = v.ownBlock ∨ v'.ownBlock = some w.heap.size) : RowP base w1 v' (L ++ [x]) := by
  refine ⟨by unfold OwnsP; rw [pcells_snoc]; simpa using h', fun y hy => ?_⟩
  rcases List.mem_append.1 hy with h1 | h1
  · exact (h.2 y h1).grown hg hl
  · rw [List.mem_singleton] at h1; subst h1; exact hx.grown hg hl
theorem mapP_getD {L : Lp} {ps : List Ps} (h : L.map Prod.fst = ps) (j : Nat) : ps.getD j Ps.zero = (L.getD j lp0).1 := by
  subst h
  simp only [List.getD_eq_getElem?_getD, List.getElem?_map]
  cases L[j]? <;> rfl
theorem RowP.passes {base : Nat} {w : World} {v : Value} {L : Lp} {ps : List Ps} (h : RowP base w v L) (he : L.map Prod.fst = ps) (hb : L.length ≤ 12) : ∃ a cap, v = .slice a ps.length cap ∧ Passes w a ps.length ps := by
  have hrl : ps.length = L.length := by rw [← he]; simp
  obtain ⟨⟨h1, h2⟩, hx⟩ := h
  rcases h2 with ⟨rfl, h0⟩ | ⟨g, cap, cur, rfl, hg, hh, hc, hm, hs, ht⟩
  · have : L = [] := by simpa using h0
    subst this
    subst he
    exact ⟨none, 0, rfl, rfl, by simp, .inl rfl⟩
  · rw [← hrl]
    refine ⟨_, cap, rfl, rfl, by omega, .inr ⟨g, 0, rfl, ?_, fun j hj => ?_⟩⟩
    · rcases Nat.lt_or_ge g w.heap.size with h | h
      · exact h
      · rw [Array.getElem?_eq_none h] at hh; cases hh
    · have hl := pcells_len L
      rw [hrl] at hj
      obtain ⟨k0, k1, k2, k3, k4, k5⟩ := pcells_get L j hj
      have this := fun i hi => World.ownsRow.cellAt (base := base) (e := 92) (size := 6) ⟨h1, .inr ⟨g, cap, cur, rfl, hg, hh, hc, hm, hs, ht⟩⟩ i hi
      have hL := (hx _ (getD_mem hj lp0)).lights
      rw [mapP_getD he j]
      refine ⟨(L.getD j lp0).2.1, (L.getD j lp0).1.ls.length, (L.getD j lp0).2.2, ?_, ?_, ?_, ?_, ?_, ?_, hL⟩
      all_goals rw [Nat.zero_add, this _ (by omega)]
      · exact k0
      · exact k1
      · exact k2
      · exact k3
      · exact k4
      · exact k5
theorem Try.infoPass : (Try.prog.info? 92).map (fun i => (i.zero, i.size, i.bytes)) = some (some (.agg #[.int .i64 0, .int .i64 0, .int .i64 0, .int .i64 0, .int .i64 0, .slice none 0 0]), 6, 64) := by kernel_rfl
theorem cell_six_new (w : World) (v0 v1 v2 v3 v4 v5 : Value) (t : TypeId) : ∀ (j : Nat) (u : Value), [v0, v1, v2, v3, v4, v5][j]? = some u → (w.alloc (.cells #[v0, v1, v2, v3, v4, v5] t)).cell? ((⟨w.heap.size, 0, none⟩ : Addr).add j) = some u := by
  intro j u h
  match j, h with
  | 0, h => simp at h; subst h; simp [go_sem, Addr.add]
  | 1, h => simp at h; subst h; simp [go_sem, Addr.add]
  | 2, h => simp at h; subst h; simp [go_sem, Addr.add]
  | 3, h => simp at h; subst h; simp [go_sem, Addr.add]
  | 4, h => simp at h; subst h; simp [go_sem, Addr.add]
  | 5, h => simp at h; subst h; simp [go_sem, Addr.add]
/-- Lights of the call's own, as a pass's. -/
theorem Lx.of {base B : Nat} {w : World} {v u : Value} {p : Ps} {la : Option Addr} {lc : Nat} (h : OwnsL B w u p.ls) (hu : u = .slice la p.ls.length lc) (h8 : p.ls.length ≤ 8) (hB : base ≤ B) (hv : ∀ j, v.ownBlock = some j → j < B) : Lx base w v (p, la, lc) := by
  refine ⟨by dsimp only; omega, ?_⟩
  obtain ⟨a', cap', e, hL⟩ := id h.lights h8
  rcases h with ⟨h1, h2 | ⟨g, cap, cur, hvv, hg, r⟩⟩
  · left
    have := h2.2
    simpa using this
  · rw [e] at hvv hu
    injection hvv with e1 e2 e3
    injection hu with e4 e5 e6
    subst e1 e4
    rcases hL.cells with e7 | ⟨b, off, ha, hb, hc⟩
    · exact .inl e7
    · injection ha with ha
      injection ha with f1 f2
      subst f1 f2
      exact .inr ⟨g, 0, rfl, Nat.le_trans hB hg, hb, fun e => by have := hv _ e; omega, hc⟩
end Go.Proofs.Ytfpkiimlaepnhab
/-
  CULL: need.Cull.
-/
namespace Go.Proofs.Ytfpkiimlaepnhab
set_option maxRecDepth 100000
open Go.RowKit Im

/-- The passes that are marked, of the first k. -/
def cullP (ps : List Ps) (g : Nat → Bool) : Nat → List Ps
  | 0 => []
  | k + 1 => cullP ps g k ++ (if g k = true then [ps.getD k Ps.zero] else [])
theorem cullP_le (ps : List Ps) (g : Nat → Bool) (k : Nat) : (cullP ps g k).length ≤ k := by
  induction k with
  | zero => simp [cullP]
  | succ k ih =>
    show (cullP ps g k ++ (if g k = true then [ps.getD k Ps.zero] else [])).length ≤ k + 1
    split <;> simp <;> omega
/-- The passes of a frame that are needed. -/
def culled (f : Fr) : List Ps := cullP f.ps (keptG f.ps f.ps.length (shownP f) f.ps.length) f.ps.length
/-- What need.Cull tells. -/
def ToldCull (w : World) (f : Fr) (e : Ending) (w' : World) : Prop :=
  ((frameE f = 0 ∧ ∃ a cap, e = .returned (.tuple #[.agg #[.int .i64 f.W, .int .i64 f.H, .int .i64 f.S, .int .i64 f.O, .slice a (culled f).length cap], .int .i64 0]) ∧ Passes w' a (culled f).length (culled f)) ∨
   (frameE f ≠ 0 ∧ e = .returned (.tuple #[.agg #[.int .i64 0, .int .i64 0, .int .i64 0, .int .i64 0, .slice none 0 0], .int .i64 (frameE f)]))) ∧ Below w.heap.size w w'
/-- A frame that is nothing, in a block of its own, that may be written. -/
structure ZBox (w : World) (b : Nat) : Prop where
  lt : b < w.heap.size
  c0 : w.cell? ⟨b, 0, none⟩ = some (.int .i64 0)
  c1 : w.cell? ⟨b, 1, none⟩ = some (.int .i64 0)
  c2 : w.cell? ⟨b, 2, none⟩ = some (.int .i64 0)
  c3 : w.cell? ⟨b, 3, none⟩ = some (.int .i64 0)
  c4 : w.cell? ⟨b, 4, none⟩ = some (.slice none 0 0)
  fz : ∀ o, w.frozen? ⟨b, o, none⟩ = false
theorem frozen_new (w : World) (cs : Array Value) (t : TypeId) (o : Nat) : (w.alloc (.cells cs t)).frozen? ⟨w.heap.size, o, none⟩ = false := by
  have k0 : (w.alloc (.cells cs t)).heap[w.heap.size]? = some (.cells cs t (0, 0)) := (MapKept.heap_alloc w _).1
  unfold World.frozen?
  rw [k0]; simp
theorem ZBox.new (w : World) : ZBox (w.alloc (.cells #[.int .i64 0, .int .i64 0, .int .i64 0, .int .i64 0, .slice none 0 0] 24)) w.heap.size :=
  ⟨by simp, by simp [go_sem], by simp [go_sem], by simp [go_sem], by simp [go_sem], by simp [go_sem], fun o => frozen_new w _ _ o⟩
theorem ZBox.below {w w' : World} {b B : Nat} (h : ZBox w b) (hb : Below B w w') (hB : b < B) (hs : w.heap.size ≤ w'.heap.size) : ZBox w' b :=
  ⟨Nat.lt_of_lt_of_le h.lt hs, (hb.cell (p := ⟨b, 0, none⟩) hB).trans h.c0, (hb.cell (p := ⟨b, 1, none⟩) hB).trans h.c1, (hb.cell (p := ⟨b, 2, none⟩) hB).trans h.c2, (hb.cell (p := ⟨b, 3, none⟩) hB).trans h.c3, (hb.cell (p := ⟨b, 4, none⟩) hB).trans h.c4, fun o => (hb.frozen (p := ⟨b, o, none⟩) hB).trans (h.fz o)⟩
theorem lights_cells {w : World} {b off : Nat} {ls : List Lt} (h : ∀ j, j < ls.length → w.cell? ⟨b, off + j * 4, none⟩ = some (.int .i64 (ls.getD j Lt.zero).X) ∧ w.cell? ⟨b, off + j * 4 + 1, none⟩ = some (.int .i64 (ls.getD j Lt.zero).Y) ∧ w.cell? ⟨b, off + j * 4 + 2, none⟩ = some (.int .i64 (ls.getD j Lt.zero).R) ∧ w.cell? ⟨b, off + j * 4 + 3, none⟩ = some (.int .i64 (ls.getD j Lt.zero).P)) :
    ∀ (j : Nat) (u : Value), (lcells ls)[j]? = some u → w.cell? ((⟨b, off, none⟩ : Addr).add j) = some u := by
  intro j u hu
  have hl := lcells_len ls
  have hj : j < (lcells ls).length := by
    rcases Nat.lt_or_ge j (lcells ls).length with h' | h'
    · exact h'
    · rw [List.getElem?_eq_none h'] at hu; cases hu
  have hq : j / 4 < ls.length := by omega
  obtain ⟨c0, c1, c2, c3⟩ := h (j / 4) hq
  obtain ⟨g0, g1, g2, g3⟩ := lcells_get ls (j / 4) hq
  have ea : (⟨b, off, none⟩ : Addr).add j = ⟨b, off + j, none⟩ := by simp [Addr.add]
  rw [ea]
  clear ea
  have : j % 4 = 0 ∨ j % 4 = 1 ∨ j % 4 = 2 ∨ j % 4 = 3 := by omega
  rcases this with e | e | e | e
  · rw [show j = j / 4 * 4 by omega] at hu ⊢; rw [g0] at hu; rw [← hu]; exact c0
  · rw [show j = j / 4 * 4 + 1 by omega] at hu ⊢; rw [g1] at hu; rw [← hu, ← Nat.add_assoc]; exact c1
  · rw [show j = j / 4 * 4 + 2 by omega] at hu ⊢; rw [g2] at hu; rw [← hu, ← Nat.add_assoc]; exact c2
  · rw [show j = j / 4 * 4 + 3 by omega] at hu ⊢; rw [g3] at hu; rw [← hu, ← Nat.add_assoc]; exact c3
theorem lcells_one (ls : List Lt) : ∀ u ∈ lcells ls, u.oneCell' = true := by
  induction ls with
  | nil => intro u hu; cases hu
  | cons l ls ih =>
    intro u hu
    simp only [lcells, List.mem_cons] at hu
    rcases hu with rfl | rfl | rfl | rfl | hu
    · rfl
    · rfl
    · rfl
    · rfl
    · exact ih u hu
theorem few_lights {f : Fr} {k : Nat} (hE : frameE f = 0) (hk : k < f.ps.length) : (f.ps.getD k Ps.zero).ls.length ≤ 8 := by
  obtain ⟨_, hfirst, _⟩ := frameE_zero hE
  have hfk := firstE_down f hfirst (k := k) (by omega)
  have hpE : passE f k = 0 := (firstE_at f hfk).symm.trans (firstE_down f hfirst (k := k + 1) (by omega))
  obtain ⟨o1, _⟩ := passE_zero hpE
  obtain ⟨_, _, _, hl, hbare, _⟩ := ownE_zero o1
  generalize f.ps.getD k Ps.zero = p at *
  by_cases h : hasL p.Op = true
  · exact (lightsErr_zero (hl h)).1
  · unfold bareB at hbare
    rw [eq_false_of_ne_true h] at hbare
    simp only [Bool.and_eq_true, Bool.false_or, decide_eq_true_eq] at hbare
    omega
/-- The box of a frame whose passes grow. -/
structure GBox (w : World) (b : Nat) (W H S O : Int) (v : Value) : Prop where
  lt : b < w.heap.size
  c0 : w.cell? ⟨b, 0, none⟩ = some (.int .i64 W)
  c1 : w.cell? ⟨b, 1, none⟩ = some (.int .i64 H)
  c2 : w.cell? ⟨b, 2, none⟩ = some (.int .i64 S)
  c3 : w.cell? ⟨b, 3, none⟩ = some (.int .i64 O)
  c4 : w.cell? ⟨b, 4, none⟩ = some v
  fz : ∀ o, w.frozen? ⟨b, o, none⟩ = false
theorem GBox.below {w w' : World} {b B : Nat} {W H S O : Int} {v : Value} (h : GBox w b W H S O v) (hb : Below B w w') (hB : b < B) (hs : w.heap.size ≤ w'.heap.size) : GBox w' b W H S O v :=
  ⟨Nat.lt_of_lt_of_le h.lt hs, (hb.cell (p := ⟨b, 0, none⟩) hB).trans h.c0, (hb.cell (p := ⟨b, 1, none⟩) hB).trans h.c1, (hb.cell (p := ⟨b, 2, none⟩) hB).trans h.c2, (hb.cell (p := ⟨b, 3, none⟩) hB).trans h.c3, (hb.cell (p := ⟨b, 4, none⟩) hB).trans h.c4, fun o => (hb.frozen (p := ⟨b, o, none⟩) hB).trans (h.fz o)⟩
theorem GBox.grown {w w' : World} {b : Nat} {W H S O : Int} {v : Value} {row : Option Nat} (h : GBox w b W H S O v) (hg : w.grownBy w' row) (hne : some b ≠ row) : GBox w' b W H S O v :=
  ⟨Nat.lt_of_lt_of_le h.lt hg.size, (grown_cell hg h.lt hne 0).1.trans h.c0, (grown_cell hg h.lt hne 1).1.trans h.c1, (grown_cell hg h.lt hne 2).1.trans h.c2, (grown_cell hg h.lt hne 3).1.trans h.c3, (grown_cell hg h.lt hne 4).1.trans h.c4, fun o => (grown_cell hg h.lt hne o).2.trans (h.fz o)⟩
theorem GBox.set {w : World} {b : Nat} {W H S O : Int} {v : Value} (h : GBox w b W H S O v) {p : Addr} (hp : p.block ≠ b) (u : Value) : GBox (w.setCell p u) b W H S O v := by
  have hn : ∀ o, p ≠ (⟨b, o, none⟩ : Addr) := fun o e => hp (by rw [e])
  exact ⟨by simpa using h.lt, (set_other _ (hn 0)).trans h.c0, (set_other _ (hn 1)).trans h.c1, (set_other _ (hn 2)).trans h.c2, (set_other _ (hn 3)).trans h.c3, (set_other _ (hn 4)).trans h.c4, fun o => by simpa using h.fz o⟩
theorem GBox.put {w : World} {b : Nat} {W H S O : Int} {v : Value} (h : GBox w b W H S O v) (v' : Value) : GBox (w.setCell ⟨b, 4, none⟩ v') b W H S O v' :=
  ⟨by simpa using h.lt, (set_other _ (by simp)).trans h.c0, (set_other _ (by simp)).trans h.c1, (set_other _ (by simp)).trans h.c2, (set_other _ (by simp)).trans h.c3, set_same h.c4, fun o => by simpa using h.fz o⟩
theorem GBox.new (w : World) (W H S O : Int) (v : Value) : GBox (w.alloc (.cells #[.int .i64 W, .int .i64 H, .int .i64 S, .int .i64 O, v] 24)) w.heap.size W H S O v :=
  ⟨by simp, by simp [go_sem], by simp [go_sem], by simp [go_sem], by simp [go_sem], by simp [go_sem], fun o => frozen_new w _ _ o⟩
end Go.Proofs.Ytfpkiimlaepnhab
/-
  NEEDMATH: numbers and lists alone: which passes are needed, and that what is shown does not hang on the others.
-/
namespace Go.Proofs.Ytfpkiimlaepnhab
set_option maxRecDepth 100000
open Go.RowKit Im

/-- Each pass takes what earlier ones made. -/
def SrcOk (ps : List Ps) (n : Nat) : Prop := ∀ m, m < n → ∀ i ∈ srcOf ps m, 0 ≤ i ∧ i < m
theorem srcOk_of {f : Fr} (hE : frameE f = 0) : SrcOk f.ps f.ps.length := fun m hm => by
  obtain ⟨_, hfirst, _⟩ := frameE_zero hE
  have hfk := firstE_down f hfirst (k := m) (by omega)
  have hpE : passE f m = 0 := (firstE_at f hfk).symm.trans (firstE_down f hfirst (k := m + 1) (by omega))
  exact src_bd (passE_zero hpE).2.1
theorem keptG_succ (ps : List Ps) (n : Nat) (last : Int) (k j : Nat) : keptG ps n last (k + 1) j = if keptG ps n last k (n - 1 - k) = true then markG (keptG ps n last k) (srcOf ps (n - 1 - k)) j else keptG ps n last k j := rfl
theorem keptG_up1 {ps : List Ps} {n : Nat} {last : Int} {k j : Nat} (h : keptG ps n last k j = true) : keptG ps n last (k + 1) j = true := by
  rw [keptG_succ]
  split
  · unfold markG; rw [h]; rfl
  · exact h
theorem keptG_up {ps : List Ps} {n : Nat} {last : Int} {k j : Nat} (h : keptG ps n last k j = true) (d : Nat) : keptG ps n last (k + d) j = true := by
  induction d with
  | zero => exact h
  | succ d ih => exact keptG_up1 ih
theorem keptG_le {ps : List Ps} {n : Nat} {last : Int} {k k' j : Nat} (h : keptG ps n last k j = true) (hk : k ≤ k') : keptG ps n last k' j = true := by
  obtain ⟨d, rfl⟩ : ∃ d, k' = k + d := ⟨k' - k, by omega⟩
  exact keptG_up h d
/-- The mark of a pass is settled when it is asked. -/
theorem keptG_stays {ps : List Ps} {n : Nat} {last : Int} (hs : SrcOk ps n) {k j : Nat} (hk : k < n) (hj : n - 1 - k ≤ j) : keptG ps n last (k + 1) j = keptG ps n last k j := by
  rw [keptG_succ]
  split
  · unfold markG
    have : (srcOf ps (n - 1 - k)).any (fun i => decide (i = (j : Int))) = false := by
      rw [List.any_eq_false]
      intro i hi
      have := hs (n - 1 - k) (by omega) i hi
      simp
      omega
    rw [this, Bool.or_false]
  · rfl
theorem keptG_final {ps : List Ps} {n : Nat} {last : Int} (hs : SrcOk ps n) {m : Nat} (hm : m < n) : ∀ d, n - 1 - m + d ≤ n → keptG ps n last (n - 1 - m + d) m = keptG ps n last (n - 1 - m) m
  | 0, _ => rfl
  | d + 1, h => by
    rw [← keptG_final hs hm d (by omega), ← Nat.add_assoc]
    exact keptG_stays hs (by omega) (by omega)
theorem kept_when {ps : List Ps} {n : Nat} {last : Int} (hs : SrcOk ps n) {m : Nat} (hm : m < n) : keptG ps n last n m = keptG ps n last (n - 1 - m) m := by
  have := keptG_final (last := last) hs hm (m + 1) (by omega)
  rwa [show n - 1 - m + (m + 1) = n by omega] at this
/-- What is shown is kept. -/
theorem kept_shown {ps : List Ps} {n N : Nat} : keptG ps n N n N = true := keptG_le (k := 0) (by show decide _ = true; simp) (Nat.zero_le _)
/-- What a kept pass takes is kept. -/
theorem kept_src {ps : List Ps} {n : Nat} {last : Int} (hs : SrcOk ps n) {m : Nat} (hm : m < n) (h : keptG ps n last n m = true) {i : Nat} (hi : (i : Int) ∈ srcOf ps m) : keptG ps n last n i = true := by
  rw [kept_when hs hm] at h
  refine keptG_le (k := n - 1 - m + 1) ?_ (by omega)
  rw [keptG_succ, show n - 1 - (n - 1 - m) = m by omega, if_pos h]
  unfold markG
  have : (srcOf ps m).any (fun x => decide (x = (i : Int))) = true := by
    rw [List.any_eq_true]
    exact ⟨_, hi, by simp⟩
  rw [this, Bool.or_true]
/-- What is kept is shown, or a kept pass takes it. -/
theorem kept_why {ps : List Ps} {n : Nat} {last : Int} : ∀ {k j : Nat}, k ≤ n → keptG ps n last k j = true → last = (j : Int) ∨ ∃ m, m < n ∧ keptG ps n last n m = true ∧ (j : Int) ∈ srcOf ps m
  | 0, j, _, h => by
    left
    have : decide (last = (j : Int)) = true := h
    simpa using this
  | k + 1, j, hk, h => by
    rw [keptG_succ] at h
    by_cases hx : keptG ps n last k (n - 1 - k) = true
    · rw [if_pos hx] at h
      unfold markG at h
      rw [Bool.or_eq_true] at h
      rcases h with h | h
      · exact kept_why (by omega) h
      · rw [List.any_eq_true] at h
        obtain ⟨i, hi, e⟩ := h
        have e' : i = (j : Int) := by simpa using e
        subst e'
        exact .inr ⟨n - 1 - k, by omega, keptG_le hx (by omega), hi⟩
    · rw [if_neg hx] at h
      exact kept_why (by omega) h
end Go.Proofs.Ytfpkiimlaepnhab
/-
  LAY: a frame and a plan: plan.lay.
-/
namespace Go.Proofs.Ytfpkiimlaepnhab
set_option maxRecDepth 100000
open Go.RowKit Im Go.Maps

/-- What plans of a frame are held against. -/
def gpOf (f : Fr) : Gp := ⟨f.ps.length, srcOf f.ps, keptG f.ps f.ps.length (shownP f) f.ps.length, fun k => areaZ ((szs f f.ps.length).getD k Sz.zero), shownP f⟩
theorem gp_right {f : Fr} (hE : frameE f = 0) : (gpOf f).Right := by
  obtain ⟨hb, hf, hs⟩ := frameE_zero hE
  obtain ⟨_, _, _, _, hL⟩ := boundsE_zero hb
  have hl : shownP f < f.ps.length := (wrt_bd f.ps f.ps.length f.O).2
  refine ⟨hL, fun k hk => srcOk_of hE k hk, fun k hk => ?_, ⟨hs, hl⟩, ?_⟩
  · exact area_bd (szs_bd hb hf _ (getD_mem (by rw [szs_length]; exact hk) _))
  · obtain ⟨N, hN⟩ := Int.eq_ofNat_of_zero_le hs
    show keptG f.ps f.ps.length (shownP f) f.ps.length (shownP f).toNat = true
    rw [hN, Int.toNat_natCast]
    exact kept_shown
theorem gp_closed {f : Fr} (hE : frameE f = 0) : ∀ k, k < (gpOf f).N → (gpOf f).kept k = true → ∀ s ∈ (gpOf f).src k, (gpOf f).kept s.toNat = true := by
  intro k hk hK s hs
  have hb := srcOk_of hE k hk s hs
  obtain ⟨i, rfl⟩ := Int.eq_ofNat_of_zero_le hb.1
  rw [Int.toNat_natCast]
  exact kept_src (srcOk_of hE) hk hK hs
/-- The error of a plan, room aside. -/
def planE (f : Fr) (os pl : List Int) : Int := if frameE f = 0 then (if ordB (gpOf f) os pl = true then 0 else 1) else frameE f
theorem planE_zero {f : Fr} {os pl : List Int} (h : planE f os pl = 0) : frameE f = 0 ∧ Ord (gpOf f) os pl := by
  unfold planE at h
  by_cases hE : frameE f = 0
  · rw [if_pos hE] at h
    by_cases ho : ordB (gpOf f) os pl = true
    · exact ⟨hE, ord_iff.1 ho⟩
    · rw [if_neg ho] at h; cases h
  · rw [if_neg hE] at h; exact absurd h hE
abbrev noLay : Value := .agg #[.slice none 0 0, .slice none 0 0, .slice none 0 0]
/-- What plan.lay tells. -/
def ToldLay (w : World) (f : Fr) (os pl : List Int) (ov : Value) (e : Ending) (w' : World) : Prop :=
  ((planE f os pl = 0 ∧ ∃ sb lb, e = .returned (.tuple #[.agg #[ov, .slice (some ⟨sb, 0, none⟩) f.ps.length f.ps.length, .slice (some ⟨lb, 0, none⟩) f.ps.length f.ps.length], .int .i64 0]) ∧ w.heap.size ≤ sb ∧ Sp w' sb f.ps.length (spanP (gpOf f) os) ∧ Sp w' lb f.ps.length (lieP (gpOf f) os pl)) ∨
   (planE f os pl ≠ 0 ∧ e = .returned (.tuple #[noLay, .int .i64 (planE f os pl)]))) ∧ Below w.heap.size w w'
/-- A layout that is nothing, in a block of its own, that may be written. -/
structure NBox (w : World) (b : Nat) : Prop where
  lt : b < w.heap.size
  c0 : w.cell? ⟨b, 0, none⟩ = some (.slice none 0 0)
  c1 : w.cell? ⟨b, 1, none⟩ = some (.slice none 0 0)
  c2 : w.cell? ⟨b, 2, none⟩ = some (.slice none 0 0)
  fz : ∀ o, w.frozen? ⟨b, o, none⟩ = false
theorem NBox.new (w : World) : NBox (w.alloc (.cells #[.slice none 0 0, .slice none 0 0, .slice none 0 0] 70)) w.heap.size :=
  ⟨by simp, by simp [go_sem], by simp [go_sem], by simp [go_sem], fun o => frozen_new w _ _ o⟩
theorem NBox.below {w w' : World} {b : Nat} (h : NBox w b) (hb : Below w.heap.size w w') : NBox w' b :=
  ⟨Nat.lt_of_lt_of_le h.lt hb.size, (hb.cell (p := ⟨b, 0, none⟩) h.lt).trans h.c0, (hb.cell (p := ⟨b, 1, none⟩) h.lt).trans h.c1, (hb.cell (p := ⟨b, 2, none⟩) h.lt).trans h.c2, fun o => (hb.frozen (p := ⟨b, o, none⟩) h.lt).trans (h.fz o)⟩
/-- A plan in a box. -/
structure PlBox (w : World) (b : Nat) (v0 v1 : Value) : Prop where
  lt : b < w.heap.size
  c0 : w.cell? ⟨b, 0, none⟩ = some v0
  c1 : w.cell? ⟨b, 1, none⟩ = some v1
theorem PlBox.below {w w' : World} {b : Nat} {v0 v1 : Value} (h : PlBox w b v0 v1) (hb : Below w.heap.size w w') : PlBox w' b v0 v1 :=
  ⟨Nat.lt_of_lt_of_le h.lt hb.size, (hb.cell (p := ⟨b, 0, none⟩) h.lt).trans h.c0, (hb.cell (p := ⟨b, 1, none⟩) h.lt).trans h.c1⟩
theorem PlBox.new (w : World) (v0 v1 : Value) (t : TypeId) : PlBox (w.alloc (.cells #[v0, v1] t)) w.heap.size v0 v1 := ⟨by simp, by simp [go_sem], by simp [go_sem]⟩
/-- The world in which plan.lay begins. -/
abbrev lw (w : World) (W H S O : Int) (a : Option Addr) (len cap : Nat) (v0 v1 : Value) : World :=
  ((w.alloc (.cells #[.int .i64 W, .int .i64 H, .int .i64 S, .int .i64 O, .slice a len cap] 24)).alloc (.cells #[v0, v1] 27)).alloc (.cells #[.slice none 0 0, .slice none 0 0, .slice none 0 0] 70)
theorem lw_boxes (w : World) (W H S O : Int) (a : Option Addr) (len cap : Nat) (v0 v1 : Value) : Below w.heap.size w (lw w W H S O a len cap v0 v1) ∧ FBox (lw w W H S O a len cap v0 v1) w.heap.size W H S O a len cap ∧ PlBox (lw w W H S O a len cap v0 v1) (w.heap.size + 1) v0 v1 ∧ NBox (lw w W H S O a len cap v0 v1) (w.heap.size + 2) := by
  refine ⟨below_box (below_box (below_box (Below.refl _ _) _) _) _, ((FBox.new w W H S O a len cap).alloc _).alloc _, ?_, ?_⟩
  · have := (PlBox.new (w.alloc (.cells #[.int .i64 W, .int .i64 H, .int .i64 S, .int .i64 O, .slice a len cap] 24)) v0 v1 27).below ((Below.refl _ _).alloc (Nat.le_refl _) (.cells #[.slice none 0 0, .slice none 0 0, .slice none 0 0] 70))
    simpa using this
  · have := NBox.new ((w.alloc (.cells #[.int .i64 W, .int .i64 H, .int .i64 S, .int .i64 O, .slice a len cap] 24)).alloc (.cells #[v0, v1] 27))
    simpa using this
set_option maxHeartbeats 2000000 in
theorem lay_err (W H S O : Int) (a : Option Addr) (len cap : Nat) (ps : List Ps) (w : World) (hp : Passes w a len ps) (v0 v1 : Value) (os pl : List Int) (hE : frameE ⟨W, H, S, O, ps⟩ ≠ 0) :
    Calls Try.prog 39 #[.agg #[.int .i64 W, .int .i64 H, .int .i64 S, .int .i64 O, .slice a len cap], .agg #[v0, v1]] w (ToldLay w ⟨W, H, S, O, ps⟩ os pl v0) := by
  obtain ⟨hb0, hF, hP, hNb⟩ := lw_boxes w W H S O a len cap v0 v1
  have hsz := sizes_any W H S O a len cap ps _ (hp.below hb0)
  have hpe : planE ⟨W, H, S, O, ps⟩ os pl = frameE ⟨W, H, S, O, ps⟩ := by unfold planE; rw [if_neg hE]
  go_enter Try.func39, Try.ntmps39
  go_wp2_with fail
  refine hsz.mono ?_
  clear hsz
  rintro e w1 ⟨⟨v, rfl, hZ⟩, b1⟩
  rw [if_neg hE] at hZ
  obtain ⟨za, zc, rfl, _⟩ := hZ.zs (by simp)
  obtain ⟨_, c0, c1, c2, fz⟩ := hNb.below b1
  have f0 := fz 0
  have f1 := fz 1
  have f2 := fz 2
  have HE : Hid (_) := hE
  have HPE : Hid (_) := hpe
  have hb1 := below_step hb0 b1
  have hbs := ((hb1.setCell (p := ⟨w.heap.size + 2, 0, none⟩) (by simp) (.slice none 0 0)).setCell (p := ⟨w.heap.size + 2, 1, none⟩) (by simp) (.slice none 0 0)).setCell (p := ⟨w.heap.size + 2, 2, none⟩) (by simp) (.slice none 0 0)
  generalize frameE ⟨W, H, S, O, ps⟩ = E at *
  clear fz hpe
  go_wp2
  refine bodyPost_ret (v := .tuple #[noLay, .int .i64 E]) (by simp [results, Try.results39, go_sem, c0, c1, c2]) rfl ⟨.inr ⟨by rw [HPE.out]; exact HE.out, by rw [HPE.out]⟩, hbs⟩
/-- Three stores into another block. -/
theorem set3 {w : World} {b c o : Nat} (x y z : Value) (h : b ≠ c) : (((w.setCell ⟨b, 0, none⟩ x).setCell ⟨b, 1, none⟩ y).setCell ⟨b, 2, none⟩ z).cell? ⟨c, o, none⟩ = w.cell? ⟨c, o, none⟩ := by
  rw [set_other _ (fun e => h (by injection e)), set_other _ (fun e => h (by injection e)), set_other _ (fun e => h (by injection e))]
theorem Sp.set3 {w : World} {b B n : Nat} {g : Nat → Int × Int} (h : Sp w b n g) (x y z : Value) (hB : B ≠ b) : Sp (((w.setCell ⟨B, 0, none⟩ x).setCell ⟨B, 1, none⟩ y).setCell ⟨B, 2, none⟩ z) b n g :=
  ⟨by simpa using h.lt, fun j hj => (Ytfpkiimlaepnhab.set3 x y z hB).trans (h.c0 j hj), fun j hj => (Ytfpkiimlaepnhab.set3 x y z hB).trans (h.c1 j hj), fun o => by simpa using h.froz o⟩
theorem below3 {w wx : World} {B : Nat} (hb : Below w.heap.size w wx) (hB : w.heap.size ≤ B) (x y z : Value) : Below w.heap.size w (((wx.setCell ⟨B, 0, none⟩ x).setCell ⟨B, 1, none⟩ y).setCell ⟨B, 2, none⟩ z) :=
  ((hb.setCell (p := ⟨B, 0, none⟩) hB x).setCell (p := ⟨B, 1, none⟩) hB y).setCell (p := ⟨B, 2, none⟩) hB z
theorem ord_parts {G : Gp} {os pl : List Int} : ordB G os pl = (onceB os G.N && hasAllB G.kept os G.N && behB G.src os G.N && plcB os pl G.N) := rfl
set_option maxHeartbeats 4000000 in
theorem lay_ok (W H S O : Int) (a : Option Addr) (len cap : Nat) (ps : List Ps) (w : World) (hp : Passes w a len ps) (oa : Option Addr) (olen ocap : Nat) (pa : Option Addr) (plen pcap : Nat) (os pl : List Int) (hO : Ints 0 w oa olen os) (hL : Ints 0 w pa plen pl) (hE : frameE ⟨W, H, S, O, ps⟩ = 0) :
    Calls Try.prog 39 #[.agg #[.int .i64 W, .int .i64 H, .int .i64 S, .int .i64 O, .slice a len cap], .agg #[.slice oa olen ocap, .slice pa plen pcap]] w (ToldLay w ⟨W, H, S, O, ps⟩ os pl (.slice oa olen ocap)) := by
  obtain rfl := hp.leng
  have hR := gp_right hE
  obtain ⟨hb0, hF, hP, hNb⟩ := lw_boxes w W H S O a ps.length cap (.slice oa olen ocap) (.slice pa plen pcap)
  have hp0 := hp.below hb0
  have hO0 := hO.below (Nat.le_refl _) hb0
  have hL0 := hL.below (Nat.le_refl _) hb0
  have hsz := sizes_any W H S O a ps.length cap ps _ hp0
  have hso := fun wx hp => sources_any W H S O a ps.length cap ps wx hp
  have hke := fun wx hp => kept_any W H S O a ps.length cap ps wx hp
  have hla := fun wx hp => last_any W H S O a ps.length cap ps wx hp
  have hpe : planE ⟨W, H, S, O, ps⟩ os pl = if ordB (gpOf ⟨W, H, S, O, ps⟩) os pl = true then 0 else 1 := by unfold planE; rw [if_pos hE]
  unfold ToldLast at hla
  rw [hE, if_pos rfl] at hla
  have hs2 : ∀ x ∈ srcs ps ps.length, x.length ≤ 2 := by
    intro x hx
    unfold srcs at hx
    rw [List.mem_map] at hx
    obtain ⟨n, _, rfl⟩ := hx
    unfold srcOf
    rw [List.length_map]
    exact takesP_len _
  obtain ⟨hbnd, hfirst, hsh⟩ := frameE_zero hE
  have hzb := szs_bd hbnd hfirst
  dsimp only at hfirst hzb
  obtain ⟨la, hla'⟩ := Int.eq_ofNat_of_zero_le hsh
  have hlal : la < ps.length := by have := hR.last.2; have e : (gpOf ⟨W, H, S, O, ps⟩).last = la := hla'; rw [e] at this; have e2 : (gpOf ⟨W, H, S, O, ps⟩).N = ps.length := rfl; omega
  rw [hla'] at hla
  clear hO hL hp
  go_enter Try.func39, Try.ntmps39
  go_wp2_with fail
  refine hsz.mono ?_
  clear hsz
  rintro e w1 ⟨⟨v, rfl, hZ⟩, b1⟩
  rw [if_pos hE] at hZ
  rw [hE]
  obtain ⟨za, zc, rfl, hZs⟩ := hZ.zs (by rw [szs_length]; exact hR.hN.2)
  dsimp only at hZs ⊢
  rw [szs_length] at hZs ⊢
  have hF1 := hF.below b1
  have hb1 := below_step hb0 b1
  obtain ⟨_, g0, g1, g2, g3, g4⟩ := id hF1
  clear hZ
  go_wp2_with fail
  refine (hso _ (hp0.below b1)).mono ?_
  rintro e w2 ⟨⟨v2, rfl, hS⟩, b2⟩
  rw [if_pos hE] at hS
  rw [hE]
  obtain ⟨sa, sc, rfl, hSs⟩ := hS.lls hs2
  dsimp only at hSs ⊢
  rw [srcs_length] at hSs ⊢
  have hF2 := hF1.below b2
  have hb2 := below_step hb1 b2
  have hZ2 := hZs.below b2
  clear hS hs2 hso g0 g1 g2 g3 g4 hF1
  obtain ⟨_, g0, g1, g2, g3, g4⟩ := id hF2
  go_wp2_with fail
  refine (hke _ ((hp0.below b1).below b2)).mono ?_
  rintro e w3 ⟨⟨_, kb, rfl, hkb, hK⟩ | ⟨hne, _⟩, b3⟩
  case inr => exact absurd hE hne
  dsimp only at hK ⊢
  have hF3 := hF2.below b3
  have hb3 := below_step hb2 b3
  have hZ3 := hZ2.below b3
  have hS3 := hSs.below b3
  clear hke g0 g1 g2 g3 g4 hF2 hZ2 hZs hSs
  obtain ⟨_, g0, g1, g2, g3, g4⟩ := id hF3
  go_wp2_with fail
  refine (hla _ (((hp0.below b1).below b2).below b3)).mono ?_
  rintro e w4 ⟨rfl, b4⟩
  have hF4 := hF3.below b4
  have hb4 := below_step hb3 b4
  have hZ4 := hZ3.below b4
  have hS4 := hS3.below b4
  have hK4 := hK.below b4 hK.lt b4.size
  have hb04 := below_step (below_step (below_step b1 b2) b3) b4
  have hP4 := hP.below hb04
  have hN4 := hNb.below hb04
  have hO4 := hO0.below (Nat.le_refl _) hb04
  have hL4 := hL0.below (Nat.le_refl _) hb04
  clear hla g0 g1 g2 g3 g4 hF3 hZ3 hS3 hK b1 b2 b3 b4 hp0 hO0 hL0 hF hP hNb hb1 hb2 hb3
  obtain ⟨_, g0, g1, g2, g3, g4⟩ := id hF4
  obtain ⟨_, h0, h1⟩ := id hP4
  have hst := stepsOf_any ocap hO4 (N := ps.length) hR.hN.2
  have HPE : Hid (_) := hpe
  have HOB : Hid (ordB (gpOf ⟨W, H, S, O, ps⟩) os pl = (onceB os ps.length && hasAllB (keptG ps ps.length (shownP ⟨W, H, S, O, ps⟩) ps.length) os ps.length && behB (srcOf ps) os ps.length && plcB os pl ps.length)) := rfl
  have hE1 : ordB (gpOf ⟨W, H, S, O, ps⟩) os pl = false → planE ⟨W, H, S, O, ps⟩ os pl = 1 := fun h => by rw [HPE.out, if_neg (by rw [h]; decide)]
  have HE1 : Hid (_) := hE1
  have hsr : ∀ k, k < ps.length → (srcs ps ps.length).getD k [] = srcOf ps k := fun k hk => srcs_at ps hk
  have hs2 : ∀ k, k < ps.length → (srcOf ps k).length ≤ 2 ∧ ∀ s ∈ srcOf ps k, 0 ≤ s ∧ s < ps.length := fun k hk => ⟨by unfold srcOf; rw [List.length_map]; exact takesP_len _, fun s hs => by have := srcOk_of hE k hk s hs; omega⟩
  clear hpe hE1
  go_wp2_with fail
  refine hst.mono ?_
  clear hst
  rintro e w5 (⟨h1o, ⟨B, rfl, hB, hSt⟩, b5⟩ | ⟨h1o, rfl, b5⟩)
  case inr =>
    obtain ⟨_, c0, c1, c2, fz⟩ := hN4.below b5
    have f0 := fz 0
    have f1 := fz 1
    have f2 := fz 2
    have hbs := below3 (B := w.heap.size + 2) (below_step hb4 b5) (by omega) (.slice none 0 0) (.slice none 0 0) (.slice none 0 0)
    have HX : Hid (planE ⟨W, H, S, O, ps⟩ os pl = 1) := HE1.out (by rw [HOB.out, h1o]; rfl)
    clear fz hF4 hZ4 hS4 hK4 hP4 hN4 hO4 hL4 hsr hs2 hzb g0 g1 g2 g3 g4 h0 h1
    go_wp2
    exact bodyPost_ret (v := .tuple #[noLay, .int .i64 1]) (by simp [results, Try.results39, go_sem, c0, c1, c2]) rfl ⟨.inr ⟨by rw [HX.out]; decide, by rw [HX.out]⟩, hbs⟩
  have hF5 := hF4.below b5
  have hb5 := below_step hb4 b5
  have hZ5 := hZ4.below b5
  have hS5 := hS4.below b5
  have hK5 := hK4.below b5 hK4.lt b5.size
  have hP5 := hP4.below b5
  have hN5 := hN4.below b5
  have hO5 := hO4.below (Nat.le_refl _) b5
  have hL5 := hL4.below (Nat.le_refl _) b5
  clear g0 g1 g2 g3 g4 h0 h1 hF4 hZ4 hS4 hK4 hP4 hN4 hO4 hL4 hb4 hb04
  obtain ⟨_, g0, g1, g2, g3, g4⟩ := id hF5
  obtain ⟨_, h0, h1⟩ := id hP5
  obtain ⟨_, c0, c1, c2, fz⟩ := id hN5
  have f0 := fz 0
  have f1 := fz 1
  have f2 := fz 2
  have hha := hasAll_any (cap := ps.length) hSt hK5 hR.hN.2
  have hbe := isBehind_any (cap := sc) hSt hS5 hR.hN.2 hsr hs2
  have hpl := isPlaced_any (cap := pcap) hSt hL5 (N := ps.length) hR.hN.2
  have hbs := below3 (B := w.heap.size + 2) hb5 (by omega) (.slice none 0 0) (.slice none 0 0) (.slice none 0 0)
  have HON := onceB_iff.1 h1o
  have hol : os.length ≤ ps.length := nodup_len _ _ HON.2 HON.1
  have hol2 : os.length ≤ 12 := Nat.le_trans hol hR.hN.2
  rw [h1o] at HOB
  have HSR : Hid (_) := hsr
  have HS2 : Hid (_) := hs2
  have HZB : Hid (_) := hzb
  have HOI : Hid (_) := HON.1
  clear fz hsr hs2 hzb HON h1o
  generalize hx1 : hasAllB (keptG ps ps.length (shownP ⟨W, H, S, O, ps⟩) ps.length) os ps.length = x1 at *
  generalize hx2 : behB (srcOf ps) os ps.length = x2 at *
  generalize hx3 : plcB os pl ps.length = x3 at *
  clear hx1 hx2 hx3
  cases x1 with
  | false =>
    have HX : Hid (planE ⟨W, H, S, O, ps⟩ os pl = 1) := HE1.out (by rw [HOB.out]; rfl)
    go_wp2_with (first
      | (go_at_call 71; refine hha.mono ?_; rintro e w' ⟨rfl, rfl⟩))
    exact bodyPost_ret (v := .tuple #[noLay, .int .i64 1]) (by simp [results, Try.results39, go_sem, c0, c1, c2]) rfl ⟨.inr ⟨by rw [HX.out]; decide, by rw [HX.out]⟩, hbs⟩
  | true =>
    cases x2 with
    | false =>
      have HX : Hid (planE ⟨W, H, S, O, ps⟩ os pl = 1) := HE1.out (by rw [HOB.out]; rfl)
      go_wp2_with (first
        | (go_at_call 71; refine hha.mono ?_; rintro e w' ⟨rfl, rfl⟩)
        | (go_at_call 72; refine hbe.mono ?_; rintro e w' ⟨rfl, rfl⟩))
      exact bodyPost_ret (v := .tuple #[noLay, .int .i64 1]) (by simp [results, Try.results39, go_sem, c0, c1, c2]) rfl ⟨.inr ⟨by rw [HX.out]; decide, by rw [HX.out]⟩, hbs⟩
    | true =>
      cases x3 with
      | false =>
        have HX : Hid (planE ⟨W, H, S, O, ps⟩ os pl = 1) := HE1.out (by rw [HOB.out]; rfl)
        go_wp2_with (first
          | (go_at_call 71; refine hha.mono ?_; rintro e w' ⟨rfl, rfl⟩)
          | (go_at_call 72; refine hbe.mono ?_; rintro e w' ⟨rfl, rfl⟩)
          | (go_at_call 73; refine hpl.mono ?_; rintro e w' ⟨rfl, rfl⟩))
        exact bodyPost_ret (v := .tuple #[noLay, .int .i64 1]) (by simp [results, Try.results39, go_sem, c0, c1, c2]) rfl ⟨.inr ⟨by rw [HX.out]; decide, by rw [HX.out]⟩, hbs⟩
      | true =>
        have HX : Hid (planE ⟨W, H, S, O, ps⟩ os pl = 0) := by show _ = _; rw [HPE.out, if_pos (by rw [HOB.out]; rfl)]
        have hOrd := (planE_zero HX.out).2
        have hpl' : plen = ps.length := by rw [← hL5.leng]; exact hOrd.len
        subst hpl'
        have hsp := fun wx (h : Below w5.heap.size w5 wx) => spansOf_any (N := ps.length) hR.hN.2 hlal HS2.out HOI.out hol2 ocap sc (hO5.below (Nat.le_refl _) h) (hSt.below h) (hS5.below h) HSR.out
        have hli := fun wx (h : Below w5.heap.size w5 wx) => liesOf_any (N := ps.length) (pl := pl) hR.hN.2 HOI.out hol2 (fun k hk => hOrd.at_ k (by have := HOI.out _ hk; have e2 : (gpOf ⟨W, H, S, O, ps⟩).N = ps.length := rfl; omega) hk) HZB.out ocap pcap zc (hO5.below (Nat.le_refl _) h) (hL5.below (Nat.le_refl _) h) (hZ5.below h)
        have hd := (Below.refl w5.heap.size w5).drew
        have hwl : w.heap.size + 2 < w5.heap.size := hN5.lt
        clear hS5 hSt hO5 hL5 hZ5 hK5 hOrd hF5 c0 c1 c2 f0 f1 f2
        go_wp2_with (first
          | (go_at_call 71; refine hha.mono ?_; rintro e w' ⟨rfl, rfl⟩)
          | (go_at_call 72; refine hbe.mono ?_; rintro e w' ⟨rfl, rfl⟩)
          | (go_at_call 73; refine hpl.mono ?_; rintro e w' ⟨rfl, rfl⟩))
        clear hha hbe hpl g0 g1 g2 g3 g4
        go_region_held3 (fun w' => w'.cell? ⟨w.heap.size + 1, 0, none⟩ = some (.slice oa olen ocap) ∧ w'.cell? ⟨w.heap.size + 1, 1, none⟩ = some (.slice pa ps.length pcap))
          (first | exact ⟨h0, h1⟩ | exact ⟨hP6.c0, hP6.c1⟩ | exact ⟨hP7.c0, hP7.c1⟩ | exact ⟨(set3 _ _ _ (by omega)).trans hP6.c0, (set3 _ _ _ (by omega)).trans hP6.c1⟩ | exact ⟨(set3 _ _ _ (by omega)).trans hP7.c0, (set3 _ _ _ (by omega)).trans hP7.c1⟩)
          (first
            | (go_at_call 74; (with_reducible refine (hsp _ (by first | exact hd | exact B7)).mono ?_); rintro e w6 ⟨⟨sb, rfl, hsb, hSp⟩, b6⟩; have B6 : Below w5.heap.size w5 w6 := (by first | exact hd.trans b6 | exact below_step B7 b6); have hP6 := hP5.below B6; obtain ⟨_, c0, c1, c2, fz6⟩ := hN5.below B6; have f0 := fz6 0; have f1 := fz6 1; have f2 := fz6 2)
            | (go_at_call 75; (with_reducible refine (hli _ (by first | exact hd | exact B6)).mono ?_); rintro e w7 ⟨⟨lb, rfl, hlb, hLi⟩, b7⟩; have B7 : Below w5.heap.size w5 w7 := (by first | exact hd.trans b7 | exact below_step B6 b7); have hP7 := hP5.below B7; obtain ⟨_, d0, d1, d2, fz7⟩ := hN5.below B7; have k0 := fz7 0; have k1 := fz7 1; have k2 := fz7 2))
        have s6 := B6.size
        have s5 : w5.drew.heap.size = w5.heap.size := rfl
        have sw := hb5.size
        have hq1 := (hSp.below b7 hSp.lt b7.size).set3 (B := w.heap.size + 2) (.slice oa olen ocap) (.slice (some ⟨sb, 0, none⟩) ps.length ps.length) (.slice (some ⟨lb, 0, none⟩) ps.length ps.length) (by omega)
        have hq2 := hLi.set3 (B := w.heap.size + 2) (.slice oa olen ocap) (.slice (some ⟨sb, 0, none⟩) ps.length ps.length) (.slice (some ⟨lb, 0, none⟩) ps.length ps.length) (by omega)
        have hq3 := below3 (B := w.heap.size + 2) (below_step hb5 B7) (by omega) (.slice oa olen ocap) (.slice (some ⟨sb, 0, none⟩) ps.length ps.length) (.slice (some ⟨lb, 0, none⟩) ps.length ps.length)
        have e1 : spanP (gpOf ⟨W, H, S, O, ps⟩) os = spanQ (srcOf ps) os la := by
          funext k
          show (stepAt os k, if (k : Int) = shownP ⟨W, H, S, O, ps⟩ then (os.length : Int) - 1 else ltk (srcOf ps) os k (stepAt os k) os.length) = _
          rw [hla']; rfl
        rw [← e1] at hq1
        have hsb' : w.heap.size ≤ sb := by omega
        have HT : Hid (ToldLay w ⟨W, H, S, O, ps⟩ os pl (.slice oa olen ocap) (.returned (.tuple #[.agg #[.slice oa olen ocap, .slice (some ⟨sb, 0, none⟩) ps.length ps.length, .slice (some ⟨lb, 0, none⟩) ps.length ps.length], .int .i64 0])) (((w7.setCell ⟨w.heap.size + 2, 0, none⟩ (.slice oa olen ocap)).setCell ⟨w.heap.size + 2, 1, none⟩ (.slice (some ⟨sb, 0, none⟩) ps.length ps.length)).setCell ⟨w.heap.size + 2, 2, none⟩ (.slice (some ⟨lb, 0, none⟩) ps.length ps.length))) := ⟨.inl ⟨HX.out, sb, lb, rfl, hsb', hq1, hq2⟩, hq3⟩
        clear hq1 hq2 hq3 hSp hLi b6 b7 B6 B7 hP6 hP7 hN5 hP5 hsp hli e1 hla' hbs
        go_wp2
        exact bodyPost_ret (v := .tuple #[.agg #[.slice oa olen ocap, .slice (some ⟨sb, 0, none⟩) ps.length ps.length, .slice (some ⟨lb, 0, none⟩) ps.length ps.length], .int .i64 0]) (by simp [results, Try.results39, go_sem, d0, d1, d2]) rfl HT.out
/-- plan.lay. -/
theorem lay_any (W H S O : Int) (a : Option Addr) (len cap : Nat) (ps : List Ps) (w : World) (hp : Passes w a len ps) (oa : Option Addr) (olen ocap : Nat) (pa : Option Addr) (plen pcap : Nat) (os pl : List Int) (hO : Ints 0 w oa olen os) (hL : Ints 0 w pa plen pl) :
    Calls Try.prog 39 #[.agg #[.int .i64 W, .int .i64 H, .int .i64 S, .int .i64 O, .slice a len cap], .agg #[.slice oa olen ocap, .slice pa plen pcap]] w (ToldLay w ⟨W, H, S, O, ps⟩ os pl (.slice oa olen ocap)) := by
  by_cases hE : frameE ⟨W, H, S, O, ps⟩ = 0
  · exact lay_ok W H S O a len cap ps w hp oa olen ocap pa plen pcap os pl hO hL hE
  · exact lay_err W H S O a len cap ps w hp _ _ os pl hE
end Go.Proofs.Ytfpkiimlaepnhab
