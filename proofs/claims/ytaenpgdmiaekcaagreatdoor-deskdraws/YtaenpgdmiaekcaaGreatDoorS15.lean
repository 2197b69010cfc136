/- ImagesRef, RowP, Behind, Last, LastRef, KeptRef: joined, in this order. -/
import Derived.Test.YtaenpgdmiaekcaaGreatDoorS14
import Derived.Deep.RegionLaw
import Derived.Test.YtaenpgdmiaekcaaGreatDoorS06
import Derived.Test.YtaenpgdmiaekcaaGreatDoorS12
import Derived.Deep.Upon
import Derived.RangeFuncNested
import Derived.RangeFuncBound
import Derived.RangeFuncCalls
import Derived.RangeFuncLeaves
import Derived.Shelf.Abstract
import Derived.Shelf.RegionOpen
import Derived.OwnWalkIn
import Derived.TacticsInMore
import Derived.LoopNIn
import Derived.LoopIn
import Derived.Test.YtaenpgdmiaekcaaGreatDoorS07
import Derived.Test.YtaenpgdmiaekcaaGreatDoorS13
/-
  IMAGESREF: the reference's Images.
-/
namespace Go.Proofs.YtaenpgdmiaekcaaGreatDoor
set_option maxRecDepth 100000
open Go.RowKit Im

/-- An append to a row of the call's own, as one step of a region that draws; and where the row lies behind it. -/
theorem step_append_at {P : Program} {ops : Array Oper} {o : Oper} {a : Act} {w : World} {K : Act → World → Prop} {Q : Exit → Act → World → Prop} {E : Prop}
    (hg : o.guard = none) (s x : Operand) (t : TypeId) (ho : o.op = .call { callee := .builtin .append, args := #[s, x], argTypes := #[t, t] })
    (base : Nat) (e : TypeId) (i : TypeInfo) (z : Value) (size bytes : Nat) (ht : P.underlying t = some (.slice e)) (hi : P.info? e = some i) (hz : i.zero = some z)
    (hsize : i.size = size) (hby : i.bytes = bytes) (hzs : z.cells.size = size) (hsz : 0 < size)
    (v : Value) (n : Nat) (xs : List Value) (hs : a.eval s = v) (hown : w.ownsRow base e size v n xs)
    (ad : Addr) (m c : Nat) (news : List Value) (hx : a.eval x = .slice (some ad) m c) (hl : news.length = m * size) (hnews : ∀ j u, news[j]? = some u → w.cell? (ad.add j) = some u) (h1 : ∀ u ∈ news, u.oneCell' = true)
    (h63 : n + m ≤ maxLen) (hbytes : (n + m) * bytes ≤ 140737488355328) (hbase : base ≤ w.heap.size)
    (hK : ∀ v' w', w'.ownsRow base e size v' (n + m) (xs ++ news) → w.grownBy w' v.ownBlock → (v'.ownBlock = v.ownBlock ∨ v'.ownBlock = some w.heap.size) → K (a.put o.dst v') w') :
    if Region.wanted o (yielded ops a.tmps) = true then Oper.wp P o a w K Q else E := by
  have hw : Region.wanted o (yielded ops a.tmps) = true := by simp [Region.wanted, hg]
  rw [if_pos hw]
  obtain ⟨v', w', hr, h2, h3, h4, h5⟩ := run_append_own_at (P := P) w base t o.type e i z size bytes ht hi hz hsize hby hzs hsz v n xs hown ad m c news hl hnews h1 h63 hbytes hbase
  unfold Oper.wp execOp
  simp only [ho, resolve, invoke, builtin, Sem.run_bind, Sem.run_pure, Result.andThen_ok, List.map_toArray, List.map_cons, List.map_nil, hs, hx, hr]
  exact hK _ _ h2 h3 h5
/-- An image's numbers lie in memory, in no block of the row v. -/
def Px (base : Nat) (w : World) (v : Value) (x : Res × Option Addr × Nat) : Prop :=
  x.1.ps.length ≤ 9223372036854775807 ∧ (x.1.ps = [] ∨ ∃ b off, x.2.1 = some ⟨b, off, none⟩ ∧ base ≤ b ∧ b < w.heap.size ∧ v.ownBlock ≠ some b ∧ ∀ j, j < x.1.ps.length → w.cell? ⟨b, off + j, none⟩ = some (.int .i64 (x.1.ps.getD j 0)))
theorem Px.ints {base : Nat} {w : World} {v : Value} {x : Res × Option Addr × Nat} (h : Px base w v x) : Ints base w x.2.1 x.1.ps.length x.1.ps := by
  obtain ⟨h0, h1⟩ := h
  refine ⟨rfl, h0, ?_⟩
  rcases h1 with h1 | ⟨b, off, ha, hB, hb, _, hc⟩
  · exact .inl h1
  · exact .inr ⟨b, off, ha, hB, hb, hc⟩
theorem Px.mono {base base' : Nat} {w : World} {v : Value} {x : Res × Option Addr × Nat} (h : Px base w v x) (hb : base' ≤ base) : Px base' w v x := by
  obtain ⟨h0, h1⟩ := h
  refine ⟨h0, ?_⟩
  rcases h1 with h1 | ⟨b, off, ha, hB, r⟩
  · exact .inl h1
  · exact .inr ⟨b, off, ha, Nat.le_trans hb hB, r⟩
theorem Px.of {base : Nat} {w : World} {v : Value} {B : Nat} {r : Res} {a : Option Addr} {c : Nat} (h : Ints B w a r.ps.length r.ps) (hB : base ≤ B) (hv : ∀ j, v.ownBlock = some j → j < B) : Px base w v (r, a, c) := by
  refine ⟨h.big, ?_⟩
  rcases h.cells with h1 | ⟨b, off, ha, hb0, hb, hc⟩
  · exact .inl h1
  · exact .inr ⟨b, off, ha, Nat.le_trans hB hb0, hb, fun e => by have := hv b e; omega, hc⟩
theorem Px.below {base : Nat} {w w' : World} {v : Value} {x : Res × Option Addr × Nat} (h : Px base w v x) (hb : Below w.heap.size w w') : Px base w' v x := by
  obtain ⟨h0, h1⟩ := h
  refine ⟨h0, ?_⟩
  rcases h1 with h1 | ⟨b, off, ha, hB, hl, hv, hc⟩
  · exact .inl h1
  · exact .inr ⟨b, off, ha, hB, Nat.lt_of_lt_of_le hl hb.size, hv, fun j hj => (hb.cell (p := ⟨b, off + j, none⟩) hl).trans (hc j hj)⟩
theorem Px.grown {base : Nat} {w w' : World} {v v' : Value} {x : Res × Option Addr × Nat} (h : Px base w v x) (hg : w.grownBy w' v.ownBlock) (hv' : v'.ownBlock = v.ownBlock ∨ v'.ownBlock = some w.heap.size) : Px base w' v' x := by
  obtain ⟨h0, h1⟩ := h
  refine ⟨h0, ?_⟩
  rcases h1 with h1 | ⟨b, off, ha, hB, hl, hv, hc⟩
  · exact .inl h1
  · refine .inr ⟨b, off, ha, hB, Nat.lt_of_lt_of_le hl hg.size, ?_, fun j hj => (grown_cell hg hl (fun e => hv e.symm) (off + j)).1.trans (hc j hj)⟩
    rcases hv' with e | e
    · rw [e]; exact hv
    · rw [e]; intro e'; injection e' with e'; omega
/-- The row v of images, and their numbers. -/
def RowI (base : Nat) (w : World) (v : Value) (L : Lr) : Prop := OwnsR base w v L ∧ ∀ x ∈ L, Px base w v x
theorem RowI.below {base : Nat} {w w' : World} {v : Value} {L : Lr} (h : RowI base w v L) (hb : Below w.heap.size w w') : RowI base w' v L :=
  ⟨ownsRow_below h.1 hb (Nat.le_refl _), fun x hx => (h.2 x hx).below hb⟩
theorem RowI.nil (base : Nat) (w : World) : RowI base w (.slice none 0 0) [] := ⟨World.ownsRow_nil _ _ _ _, fun x hx => by cases hx⟩
theorem RowI.lt {base : Nat} {w : World} {v : Value} {L : Lr} (h : RowI base w v L) : ∀ j, v.ownBlock = some j → base ≤ j ∧ j < w.heap.size := fun j hj => World.ownsRow.lt (w := w) h.1 j hj
theorem RowI.push {base : Nat} {w w1 : World} {v v' : Value} {L : Lr} {x : Res × Option Addr × Nat} (h : RowI base w v L) (hx : Px base w v x)
    (h' : w1.ownsRow base 24 3 v' (L.length + 1) (rcells L ++ [.int .i64 x.1.W, .int .i64 x.1.H, .slice x.2.1 x.1.ps.length x.2.2])) (hg : w.grownBy w1 v.ownBlock) (hl : v'.ownBlock = v.ownBlock ∨ v'.ownBlock = some w.heap.size) : RowI base w1 v' (L ++ [x]) := by
  refine ⟨by unfold OwnsR; rw [rcells_snoc]; simpa using h', fun y hy => ?_⟩
  rcases List.mem_append.1 hy with h1 | h1
  · exact (h.2 y h1).grown hg hl
  · rw [List.mem_singleton] at h1; subst h1; exact hx.grown hg hl
/-- The reference's Made. -/
theorem made_any (W H S O : Int) (a : Option Addr) (len cap : Nat) {Op : Int} (To A B : Int) {K : Int} {la : Option Addr} {ll : Nat} (lc : Nat) {ls : List Lt} {fa : Option Addr} {flen : Nat} (fcap : Nat) {fr : List Res} {bi : Nat} {w : World} {z : Sz} (hk : knownB Op = true) (hL : Lights w la ll ls) (hI : Imgs bi w fa flen fr) (hA : hasA Op = true → 1 ≤ flen) (hB : hasB Op = true → 2 ≤ flen) (hz : Op = 1 ∨ Op = 2 → z = (W, H)) (hr : (paintRes ⟨Op, To, A, B, K, ls⟩ z fr).E = 0) :
    Calls Tryz.prog 92 #[.agg #[.int .i64 W, .int .i64 H, .int .i64 S, .int .i64 O, .slice a len cap], .agg #[.int .i64 Op, .int .i64 To, .int .i64 A, .int .i64 B, .int .i64 K, .slice la ll lc], .slice fa flen fcap] w (ToldM w (paintRes ⟨Op, To, A, B, K, ls⟩ z fr)) := by
  unfold paintRes at hr ⊢
  by_cases h12 : Op = 1 ∨ Op = 2
  · rw [if_pos h12] at hr ⊢
    rw [hz h12] at hr ⊢
    exact made_make W H S O a len cap Op To A B K la ll lc fa flen fcap w h12 hr
  · have hA1 : hasA Op = true := by simp [knownB, withinB] at hk; simp [hasA, withinB]; omega
    have hfl := hA hA1
    obtain ⟨b, off, pa, pc, rfl, hb, d0, d1, d2, hi⟩ := hI.nth (k := 0) (by omega)
    rw [Nat.zero_mul, Nat.add_zero] at d0 d1 d2
    rw [if_neg h12] at hr ⊢
    by_cases hB1 : hasB Op = true
    · have hf2 := hB hB1
      obtain ⟨b', off', qa, qc, e, _, g0, g1, g2, hj⟩ := hI.nth (k := 1) (by omega)
      injection e with e
      injection e with e1 e2
      subst e1 e2
      rw [Nat.one_mul] at g0 g1 g2
      have hop : Op = 4 ∨ Op = 5 ∨ Op = 6 ∨ Op = 7 := by simp [hasB, withinB] at hB1; omega
      rw [if_pos hB1] at hr ⊢
      exact made_two W H S O a len cap Op To A B K la ll lc flen fcap w hop b off hb (by omega) (by omega) _ _ pa pc _ d0 d1 d2 (hi.mono (Nat.zero_le _)) _ _ qa qc _ g0 g1 g2 (hj.mono (Nat.zero_le _)) hr
    · rw [if_neg hB1] at hr ⊢
      by_cases h13 : Op = 13
      · subst h13
        rw [if_pos rfl] at hr ⊢
        exact made_lit W H S O a len cap To A B K la ll lc ls flen fcap w hL b off hb (by omega) _ _ pa pc _ d0 d1 d2 (hi.mono (Nat.zero_le _)) hr
      · rw [if_neg h13] at hr ⊢
        have hop : Op = 3 ∨ Op = 8 ∨ Op = 9 ∨ Op = 10 ∨ Op = 11 ∨ Op = 12 := by simp [hasA, withinB] at hA1; simp [hasB, withinB] at hB1; omega
        exact made_one W H S O a len cap Op To A B K la ll lc flen fcap w hop b off hb (by omega) _ _ pa pc _ d0 d1 d2 (hi.mono (Nat.zero_le _)) hr
end Go.Proofs.YtaenpgdmiaekcaaGreatDoor
/-
  ROWP: a growing row of passes, with lights of their own.
-/
namespace Go.Proofs.YtaenpgdmiaekcaaGreatDoor
set_option maxRecDepth 100000
open Go.RowKit Im

/-- An append of nothing leaves all as it was. -/
theorem list_append_nothing {P : Program} {w : World} {ops : Array Oper} {rest : List Oper} {o : Oper} {a : Act} {Q : Exit → Act → World → Prop} (hgd : o.guard = none) (s x : Operand) (t : TypeId)
    (ho : o.op = .call { callee := .builtin .append, args := #[s, x], argTypes := #[t, t] }) (e : TypeId) (i : TypeInfo) (ht : P.underlying t = some (.slice e)) (hi : P.info? e = some i) (b : Option Addr) (n c : Nat) (hle : n ≤ c) (hs : a.eval s = .slice b n c) (la : Option Addr) (lc : Nat) (hx : a.eval x = .slice la 0 lc)
    (h : wpList P ops Q rest (a.put o.dst (.slice b n c)) w) : wpList P ops Q (o :: rest) a w := by
  refine wpList_plain hgd fun K hK => ?_
  have hrun : (Builtin.append_ #[t, t] o.type #[.slice b n c, .slice la 0 lc]).run P w = .ok (.slice b n c) w := by
    have hs' : Src P i.size t (.slice la 0 lc) 0 [] w := by
      cases la with
      | none => exact Src.ofNil w ht lc
      | some ad => exact Src.ofSlice w ht ad 0 lc [] (by simp) (fun j u h => by simp at h) (fun u hu => by cases hu)
    exact run_append_nothing w t t o.type e i ht hi b n c hle _ hs'
  unfold Oper.wp
  simp [execOp, ho, resolve, invoke, builtin, hs, hx, hrun, Result.andThen]
  exact hK _ _ h
/-- A pass, and where its lights lie. -/
abbrev Lp := List (Ps × Option Addr × Nat)
abbrev lp0 : Ps × Option Addr × Nat := (Ps.zero, none, 0)
def pcells (L : Lp) : List Value := L.flatMap fun x => [.int .i64 x.1.Op, .int .i64 x.1.To, .int .i64 x.1.A, .int .i64 x.1.B, .int .i64 x.1.K, .slice x.2.1 x.1.ls.length x.2.2]
theorem pcells_len (L : Lp) : (pcells L).length = L.length * 6 := by
  induction L with
  | nil => rfl
  | cons x L ih => simp only [pcells, List.flatMap_cons, List.length_append, List.length_cons, List.length_nil] at ih ⊢; rw [ih]; omega
theorem pcells_snoc (L : Lp) (x : Ps × Option Addr × Nat) : pcells (L ++ [x]) = pcells L ++ [.int .i64 x.1.Op, .int .i64 x.1.To, .int .i64 x.1.A, .int .i64 x.1.B, .int .i64 x.1.K, .slice x.2.1 x.1.ls.length x.2.2] := by simp [pcells]
theorem pcells_get (L : Lp) (j : Nat) (h : j < L.length) : (pcells L)[j * 6]? = some (.int .i64 (L.getD j lp0).1.Op) ∧ (pcells L)[j * 6 + 1]? = some (.int .i64 (L.getD j lp0).1.To) ∧ (pcells L)[j * 6 + 2]? = some (.int .i64 (L.getD j lp0).1.A) ∧ (pcells L)[j * 6 + 3]? = some (.int .i64 (L.getD j lp0).1.B) ∧ (pcells L)[j * 6 + 4]? = some (.int .i64 (L.getD j lp0).1.K) ∧ (pcells L)[j * 6 + 5]? = some (.slice (L.getD j lp0).2.1 (L.getD j lp0).1.ls.length (L.getD j lp0).2.2) := by
  induction L generalizing j with
  | nil => simp at h
  | cons x L ih =>
    have e : pcells (x :: L) = .int .i64 x.1.Op :: .int .i64 x.1.To :: .int .i64 x.1.A :: .int .i64 x.1.B :: .int .i64 x.1.K :: .slice x.2.1 x.1.ls.length x.2.2 :: pcells L := rfl
    cases j with
    | zero => rw [e]; exact ⟨rfl, rfl, rfl, rfl, rfl, rfl⟩
    | succ j =>
      have := ih j (by simpa using h)
      rw [e, show (j + 1) * 6 = j * 6 + 1 + 1 + 1 + 1 + 1 + 1 by omega]
      simpa using this
def OwnsP (base : Nat) (w : World) (v : Value) (L : Lp) : Prop := w.ownsRow base 72 6 v L.length (pcells L)
/-- A pass's lights lie in memory, in no block of the row v. -/
def Lx (base : Nat) (w : World) (v : Value) (x : Ps × Option Addr × Nat) : Prop :=
  x.1.ls.length ≤ 9223372036854775807 ∧ (x.1.ls = [] ∨ ∃ b off, x.2.1 = some ⟨b, off, none⟩ ∧ base ≤ b ∧ b < w.heap.size ∧ v.ownBlock ≠ some b ∧ ∀ j, j < x.1.ls.length → w.cell? ⟨b, off + j * 4, none⟩ = some (.int .i64 (x.1.ls.getD j Lt.zero).X) ∧ w.cell? ⟨b, off + j * 4 + 1, none⟩ = some (.int .i64 (x.1.ls.getD j Lt.zero).Y) ∧ w.cell? ⟨b, off + j * 4 + 2, none⟩ = some (.int .i64 (x.1.ls.getD j Lt.zero).R) ∧ w.cell? ⟨b, off + j * 4 + 3, none⟩ = some (.int .i64 (x.1.ls.getD j Lt.zero).P))
theorem Lx.lights {base : Nat} {w : World} {v : Value} {x : Ps × Option Addr × Nat} (h : Lx base w v x) : Lights w x.2.1 x.1.ls.length x.1.ls := by
  obtain ⟨h0, h1⟩ := h
  refine ⟨rfl, h0, ?_⟩
  rcases h1 with h1 | ⟨b, off, ha, hB, hb, _, hc⟩
  · exact .inl h1
  · exact .inr ⟨b, off, ha, hb, hc⟩
theorem Lx.mono {base base' : Nat} {w : World} {v : Value} {x : Ps × Option Addr × Nat} (h : Lx base w v x) (hb : base' ≤ base) : Lx base' w v x := by
  obtain ⟨h0, h1⟩ := h
  refine ⟨h0, ?_⟩
  rcases h1 with h1 | ⟨b, off, ha, hB, r⟩
  · exact .inl h1
  · exact .inr ⟨b, off, ha, Nat.le_trans hb hB, r⟩
theorem Lx.below {base : Nat} {w w' : World} {v : Value} {x : Ps × Option Addr × Nat} (h : Lx base w v x) (hb : Below w.heap.size w w') : Lx base w' v x := by
  obtain ⟨h0, h1⟩ := h
  refine ⟨h0, ?_⟩
  rcases h1 with h1 | ⟨b, off, ha, hB, hl, hv, hc⟩
  · exact .inl h1
  · refine .inr ⟨b, off, ha, hB, Nat.lt_of_lt_of_le hl hb.size, hv, fun j hj => ?_⟩
    obtain ⟨c0, c1, c2, c3⟩ := hc j hj
    exact ⟨(hb.cell (p := ⟨b, off + j * 4, none⟩) hl).trans c0, (hb.cell (p := ⟨b, off + j * 4 + 1, none⟩) hl).trans c1, (hb.cell (p := ⟨b, off + j * 4 + 2, none⟩) hl).trans c2, (hb.cell (p := ⟨b, off + j * 4 + 3, none⟩) hl).trans c3⟩
theorem Lx.setBelow {base : Nat} {w : World} {v : Value} {x : Ps × Option Addr × Nat} (h : Lx base w v x) {p : Addr} (hp : p.block < base) (u : Value) : Lx base (w.setCell p u) v x := by
  obtain ⟨h0, h1⟩ := h
  refine ⟨h0, ?_⟩
  rcases h1 with h1 | ⟨b, off, ha, hB, hl, hv, hc⟩
  · exact .inl h1
  · have hn : ∀ o, p ≠ (⟨b, o, none⟩ : Addr) := fun o e => by rw [e] at hp; exact absurd hp (by simpa using hB)
    refine .inr ⟨b, off, ha, hB, by simpa using hl, hv, fun j hj => ?_⟩
    obtain ⟨c0, c1, c2, c3⟩ := hc j hj
    exact ⟨(set_other _ (hn _)).trans c0, (set_other _ (hn _)).trans c1, (set_other _ (hn _)).trans c2, (set_other _ (hn _)).trans c3⟩
theorem Lx.grown {base : Nat} {w w' : World} {v v' : Value} {x : Ps × Option Addr × Nat} (h : Lx base w v x) (hg : w.grownBy w' v.ownBlock) (hv' : v'.ownBlock = v.ownBlock ∨ v'.ownBlock = some w.heap.size) : Lx base w' v' x := by
  obtain ⟨h0, h1⟩ := h
  refine ⟨h0, ?_⟩
  rcases h1 with h1 | ⟨b, off, ha, hB, hl, hv, hc⟩
  · exact .inl h1
  · have hk := fun o => (grown_cell hg hl (fun e => hv e.symm) o).1
    refine .inr ⟨b, off, ha, hB, Nat.lt_of_lt_of_le hl hg.size, ?_, fun j hj => ?_⟩
    · rcases hv' with e | e
      · rw [e]; exact hv
      · rw [e]; intro e'; injection e' with e'; omega
    · obtain ⟨c0, c1, c2, c3⟩ := hc j hj
      exact ⟨(hk _).trans c0, (hk _).trans c1, (hk _).trans c2, (hk _).trans c3⟩
/-- The row v of passes, and their lights. -/
def RowP (base : Nat) (w : World) (v : Value) (L : Lp) : Prop := OwnsP base w v L ∧ ∀ x ∈ L, Lx base w v x
theorem RowP.nil (base : Nat) (w : World) : RowP base w (.slice none 0 0) [] := ⟨World.ownsRow_nil _ _ _ _, fun x hx => by cases hx⟩
theorem RowP.below {base : Nat} {w w' : World} {v : Value} {L : Lp} (h : RowP base w v L) (hb : Below w.heap.size w w') : RowP base w' v L :=
  ⟨ownsRow_below h.1 hb (Nat.le_refl _), fun x hx => (h.2 x hx).below hb⟩
theorem RowP.setBelow {base : Nat} {w : World} {v : Value} {L : Lp} (h : RowP base w v L) {p : Addr} (hp : p.block < base) (u : Value) : RowP base (w.setCell p u) v L :=
  ⟨ownsRow_setCell_below h.1 hp u, fun x hx => (h.2 x hx).setBelow hp u⟩
theorem RowP.lt {base : Nat} {w : World} {v : Value} {L : Lp} (h : RowP base w v L) : ∀ j, v.ownBlock = some j → base ≤ j ∧ j < w.heap.size := fun j hj => World.ownsRow.lt (w := w) h.1 j hj
theorem RowP.push {base : Nat} {w w1 : World} {v v' : Value} {L : Lp} {x : Ps × Option Addr × Nat} (h : RowP base w v L) (hx : Lx base w v x)
    (h' : w1.ownsRow base 72 6 v' (L.length + 1) (pcells L ++ [.int .i64 x.1.Op, .int .i64 x.1.To, .int .i64 x.1.A, .int .i64 x.1.B, .int .i64 x.1.K, .slice x.2.1 x.1.ls.length x.2.2])) (hg : w.grownBy w1 v.ownBlock) (hl : v'.ownBlock = v.ownBlock ∨ v'.ownBlock = some w.heap.size) : RowP base w1 v' (L ++ [x]) := by
  refine ⟨by unfold OwnsP; rw [pcells_snoc]; simpa using h', fun y hy => ?_⟩
  rcases List.mem_append.1 hy with h1 | h1
  · exact (h.2 y h1).grown hg hl
  · rw [List.mem_singleton] at h1; subst h1; exact hx.grown hg hl
theorem mapP_getD {L : Lp} {ps : List Ps} (h : L.map Prod.fst = ps) (j : Nat) : ps.getD j Ps.zero = (L.getD j lp0).1 := by
  subst h
  simp only [List.getD_eq_getElem?_getD, List.getElem?_map]
  cases L[j]? <;> rfl
theorem RowP.passes {base : Nat} {w : World} {v : Value} {L : Lp} {ps : List Ps} (h : RowP base w v L) (he : L.map Prod.fst = ps) (hb : L.length ≤ 12) : ∃ a cap, v = .slice a ps.length cap ∧ Passes w a ps.length ps := by
  have hrl : ps.length = L.length := by rw [← he]; simp
  obtain ⟨⟨h1, h2⟩, hx⟩ := h
  rcases h2 with ⟨rfl, h0⟩ | ⟨g, cap, cur, rfl, hg, hh, hc, hm, hs, ht⟩
  · have : L = [] := by simpa using h0
    subst this
    subst he
    exact ⟨none, 0, rfl, rfl, by simp, .inl rfl⟩
  · rw [← hrl]
    refine ⟨_, cap, rfl, rfl, by omega, .inr ⟨g, 0, rfl, ?_, fun j hj => ?_⟩⟩
    · rcases Nat.lt_or_ge g w.heap.size with h | h
      · exact h
      · rw [Array.getElem?_eq_none h] at hh; cases hh
    · have hl := pcells_len L
      rw [hrl] at hj
      obtain ⟨k0, k1, k2, k3, k4, k5⟩ := pcells_get L j hj
      have this := fun i hi => World.ownsRow.cellAt (base := base) (e := 72) (size := 6) ⟨h1, .inr ⟨g, cap, cur, rfl, hg, hh, hc, hm, hs, ht⟩⟩ i hi
      have hL := (hx _ (getD_mem hj lp0)).lights
      rw [mapP_getD he j]
      refine ⟨(L.getD j lp0).2.1, (L.getD j lp0).1.ls.length, (L.getD j lp0).2.2, ?_, ?_, ?_, ?_, ?_, ?_, hL⟩
      all_goals rw [Nat.zero_add, this _ (by omega)]
      · exact k0
      · exact k1
      · exact k2
      · exact k3
      · exact k4
      · exact k5
theorem Tryz.infoPass : (Tryz.prog.info? 72).map (fun i => (i.zero, i.size, i.bytes)) = some (some (.agg #[.int .i64 0, .int .i64 0, .int .i64 0, .int .i64 0, .int .i64 0, .slice none 0 0]), 6, 64) := by kernel_rfl
theorem cell_six_new (w : World) (v0 v1 v2 v3 v4 v5 : Value) (t : TypeId) : ∀ (j : Nat) (u : Value), [v0, v1, v2, v3, v4, v5][j]? = some u → (w.alloc (.cells #[v0, v1, v2, v3, v4, v5] t)).cell? ((⟨w.heap.size, 0, none⟩ : Addr).add j) = some u := by
  intro j u h
  match j, h with
  | 0, h => simp at h; subst h; simp [go_sem, Addr.add]
  | 1, h => simp at h; subst h; simp [go_sem, Addr.add]
  | 2, h => simp at h; subst h; simp [go_sem, Addr.add]
  | 3, h => simp at h; subst h; simp [go_sem, Addr.add]
  | 4, h => simp at h; subst h; simp [go_sem, Addr.add]
  | 5, h => simp at h; subst h; simp [go_sem, Addr.add]
/-- Lights of the call's own, as a pass's. -/
theorem Lx.of {base B : Nat} {w : World} {v u : Value} {p : Ps} {la : Option Addr} {lc : Nat} (h : OwnsL B w u p.ls) (hu : u = .slice la p.ls.length lc) (h8 : p.ls.length ≤ 8) (hB : base ≤ B) (hv : ∀ j, v.ownBlock = some j → j < B) : Lx base w v (p, la, lc) := by
  refine ⟨by dsimp only; omega, ?_⟩
  obtain ⟨a', cap', e, hL⟩ := id h.lights h8
  rcases h with ⟨h1, h2 | ⟨g, cap, cur, hvv, hg, r⟩⟩
  · left
    have := h2.2
    simpa using this
  · rw [e] at hvv hu
    injection hvv with e1 e2 e3
    injection hu with e4 e5 e6
    subst e1 e4
    rcases hL.cells with e7 | ⟨b, off, ha, hb, hc⟩
    · exact .inl e7
    · injection ha with ha
      injection ha with f1 f2
      subst f1 f2
      exact .inr ⟨g, 0, rfl, Nat.le_trans hB hg, hb, fun e => by have := hv _ e; omega, hc⟩
end Go.Proofs.YtaenpgdmiaekcaaGreatDoor
/-
  BEHIND: need.fromBehind: the passes, the last one first.
-/
namespace Go.Proofs.YtaenpgdmiaekcaaGreatDoor
set_option maxRecDepth 100000
open Go.RowKit Im Go.Shelf
attribute [local go_sem] Oper.semAt_some

/-- A pass's fields, as values. -/
structure Pv where
  Op : Int
  To : Int
  A : Int
  B : Int
  K : Int
  la : Option Addr
  ll : Nat
  lc : Nat
abbrev Pv.val (p : Pv) : Value := .agg #[.int .i64 p.Op, .int .i64 p.To, .int .i64 p.A, .int .i64 p.B, .int .i64 p.K, .slice p.la p.ll p.lc]
/-- A pass, with its number. -/
abbrev Pe (len : Nat) := { x : Nat × Pv // x.1 < len }
abbrev peV {len : Nat} (x : Pe len) : Array Value := #[.int .i64 (x.1.1 : Int), x.1.2.val]
/-- What comes as number j, from behind. -/
def bh (len : Nat) (hl : 0 < len) (pv : Nat → Pv) (j : Nat) : Pe len := ⟨(len - 1 - j, pv (len - 1 - j)), by omega⟩
def bhs (len : Nat) (hl : 0 < len) (pv : Nat → Pv) (k : Nat) : List (Pe len) := (List.range k).map (bh len hl pv)
theorem bhs_succ (len : Nat) (hl : 0 < len) (pv : Nat → Pv) (k : Nat) : bhs len hl pv (k + 1) = bhs len hl pv k ++ [bh len hl pv k] := by simp [bhs, List.range_succ]
theorem bhs_length (len : Nat) (hl : 0 < len) (pv : Nat → Pv) (k : Nat) : (bhs len hl pv k).length = k := by simp [bhs]
/-- The passes' cells, in the block b. -/
def PvAt (W : World) (b off len : Nat) (pv : Nat → Pv) : Prop := ∀ j, j < len → W.cell? ⟨b, off + j * 6, none⟩ = some (.int .i64 (pv j).Op) ∧ W.cell? ⟨b, off + j * 6 + 1, none⟩ = some (.int .i64 (pv j).To) ∧ W.cell? ⟨b, off + j * 6 + 2, none⟩ = some (.int .i64 (pv j).A) ∧ W.cell? ⟨b, off + j * 6 + 3, none⟩ = some (.int .i64 (pv j).B) ∧ W.cell? ⟨b, off + j * 6 + 4, none⟩ = some (.int .i64 (pv j).K) ∧ W.cell? ⟨b, off + j * 6 + 5, none⟩ = some (.slice (pv j).la (pv j).ll (pv j).lc)
theorem PvAt.below {W W' : World} {b off len n₀ : Nat} {pv : Nat → Pv} (h : PvAt W b off len pv) (hb : Below n₀ W W') (hl : b < n₀) : PvAt W' b off len pv := fun j hj => by
  obtain ⟨c0, c1, c2, c3, c4, c5⟩ := h j hj
  exact ⟨(hb.cell (p := ⟨b, off + j * 6, none⟩) hl).trans c0, (hb.cell (p := ⟨b, off + j * 6 + 1, none⟩) hl).trans c1, (hb.cell (p := ⟨b, off + j * 6 + 2, none⟩) hl).trans c2, (hb.cell (p := ⟨b, off + j * 6 + 3, none⟩) hl).trans c3, (hb.cell (p := ⟨b, off + j * 6 + 4, none⟩) hl).trans c4, (hb.cell (p := ⟨b, off + j * 6 + 5, none⟩) hl).trans c5⟩
/-- What a round keeps: what lay below n₀, and the iterator's own box. -/
def KpB (n₀ Bs : Nat) (A B : World) : Prop := Below n₀ A B ∧ B.cell? ⟨Bs, 0, none⟩ = A.cell? ⟨Bs, 0, none⟩
set_option maxHeartbeats 2000000 in
theorem behind1_in (n : Nat) (hn : 1 ≤ n) (l Bs n₀ b off len cap : Nat) (hl : 0 < len) (h12 : len ≤ 12) (pv : Nat → Pv) (hb : b < n₀) (J Jx : List (Pe len) → World → Prop)
    (hY : ∀ pre x W, J pre W → pre.length < len → YieldAt Fence.wide (n - 1) Tryz.prog l (peV x) W fun e W' =>
      (e = .returned (.bool true) ∧ J (pre ++ [x]) W' ∧ KpB n₀ Bs W W') ∨ (e = .returned (.bool false) ∧ Jx (pre ++ [x]) W'))
    (W : World) (hBs : W.cell? ⟨Bs, 0, none⟩ = some (.slice (some ⟨b, off, none⟩) len cap)) (hc : PvAt W b off len pv) (h0 : J [] W) :
    CallsIn Fence.wide n Tryz.prog 125 #[.func (.yield l) #[] #[], .pointer (some ⟨Bs, 0, none⟩)] W fun e W' => (∃ v, e = .returned v) ∧
      ((∃ ys, ys = bhs len hl pv len ∧ J ys W') ∨ (∃ pre, (∃ k, k < len ∧ pre = bhs len hl pv (k + 1)) ∧ Jx pre W')) := by
  have hw0 : IntKind.i64.wrap ((len : Int) - 1) = (len : Int) - 1 := by rw [IntKind.wrap_i64]; omega
  refine callsIn_of_wp Tryz.func125 rfl trivial ?_ rfl
  simp only [Tryz.ntmps125, List.size_toArray, List.length_cons, List.length_nil, Nat.reduceAdd, Nat.reduceSub, Array.replicate_succ, Array.replicate_zero, List.push_toArray, List.append_toArray, List.nil_append, List.cons_append]
  gi_wp2
  gi_loopw [3] (fun i wr => ∃ k : Nat, k ≤ len ∧ i = .int .i64 ((len : Int) - 1 - k) ∧ J (bhs len hl pv k) wr ∧ KpB n₀ Bs W wr) (fun i _ => (intOf i + 1).toNat)
  case atStart => exact ⟨0, Nat.zero_le _, by simp, h0, Below.refl _ _, rfl⟩
  case round =>
    obtain ⟨k, hk, rfl, hJs, hnx, hnb⟩ := hrel
    have hbx := hnb.trans hBs
    by_cases hlt : k < len
    · obtain ⟨m, hm⟩ : ∃ m : Nat, m = len - 1 - k := ⟨_, rfl⟩
      have hmi : (len : Int) - 1 - k = (m : Int) := by omega
      obtain ⟨c0, c1, c2, c3, c4, c5⟩ := (hc.below hnx hb) m (by omega)
      obtain ⟨fn, tmps, assign, body, hy, hR⟩ := hY _ (bh len hl pv k) wr hJs (by rw [bhs_length]; exact hlt)
      have hbk : (bh len hl pv k).1 = (m, pv m) := by unfold bh; rw [hm]
      unfold peV at hy
      rw [hbk] at hy
      dsimp only at hy
      rw [hmi]
      have hml : (m : Int) < (len : Int) := by omega
      have hw1 : IntKind.i64.wrap ((m : Int) - 1) = (m : Int) - 1 := by rw [IntKind.wrap_i64]; omega
      have HMN : Hid ((m : Int) - 1 = (len : Int) - 1 - ((k + 1 : Nat) : Int)) := by show _ = _; omega
      generalize pv m = p at c0 c1 c2 c3 c4 c5 hy
      clear hm hmi hbk hbx
      have hbx := hnb.trans hBs
      gi_wp2
      refine hR.mono ?_
      rintro e W3 (⟨rfl, hJ3, hk3⟩ | ⟨rfl, hJx3⟩)
      · gi_wp2
        go_roundw
        case rel => exact ⟨k + 1, by omega, by rw [HMN.out], by rw [bhs_succ]; exact hJ3, hnx.trans hk3.1, hk3.2.trans hnb⟩
        case measure => show ((m : Int) - 1 + 1).toNat < ((m : Int) + 1).toNat; omega
      · gi_wp2
        refine bodyPost_ret (results_none rfl _ _ _) rfl ?_
        exact ⟨⟨_, rfl⟩, .inr ⟨_, ⟨k, hlt, (bhs_succ _ _ _ _).symm⟩, hJx3⟩⟩
    · obtain rfl : k = len := by omega
      have hz : (k : Int) - 1 - k = -1 := by omega
      rw [hz]
      gi_wp2
      go_end0
      exact ⟨⟨_, rfl⟩, .inl ⟨_, rfl, hJs⟩⟩
/-- need.fromBehind's value goes through the passes, the last one first. -/
theorem behind_stops (n : Nat) (hn : 1 ≤ n) (Bs n₀ b off len cap : Nat) (hl : 0 < len) (h12 : len ≤ 12) (pv : Nat → Pv) (hb : b < n₀) (w : World) (hBs : Bs < w.heap.size) (hn₀ : n₀ ≤ w.heap.size)
    (hc : w.cell? ⟨Bs, 0, none⟩ = some (.slice (some ⟨b, off, none⟩) len cap)) (hI : PvAt w b off len pv) :
    SeqStopsK Fence.wide n Tryz.prog 125 #[.pointer (some ⟨Bs, 0, none⟩)] (peV (len := len)) (KpB n₀ Bs) (fun ys => ys = bhs len hl pv len) (fun pre => ∃ k, k < len ∧ pre = bhs len hl pv (k + 1)) len w := fun l J Jx W hW _ _ hY h0 =>
  behind1_in n hn l Bs n₀ b off len cap hl h12 pv hb J Jx hY W ((hW.cell (p := ⟨Bs, 0, none⟩) hBs).trans hc) (hI.below (hW.mono hn₀) hb) h0
set_option maxHeartbeats 1000000 in
/-- need.fromBehind. -/
theorem fromBehind_any (a : Option Addr) (len cap : Nat) (w : World) :
    Calls Tryz.prog 74 #[.slice a len cap] w fun e w' => e = .returned (.func (.func 125) #[] #[.pointer (some ⟨w.heap.size, 0, none⟩)]) ∧ w.alloc (.cells #[.slice a len cap] 33) = w' := by
  have hmf : ∀ (fn : Fn) (first cap : Array Value) (w : World), (Instr.makeFunc fn first cap).run Tryz.prog w = .ok (.func fn first cap) w := fun _ _ _ _ => rfl
  go_enter Tryz.func74, Tryz.ntmps74
  go_wp2
  go_ret
  exact ⟨rfl, rfl⟩
theorem KpB.t {n₀ Bs : Nat} {A B C : World} (h : KpB n₀ Bs A B) (k : KpB n₀ Bs B C) : KpB n₀ Bs A C := ⟨h.1.trans k.1, k.2.trans h.2⟩
theorem KpB.b {n₀ Bs : Nat} {w : World} (hn : n₀ ≤ w.heap.size) (hB : Bs < w.heap.size) (W : World) (l : Nat) (o o' : Obj) (hl : w.heap.size ≤ l) (h : W.heap[l]? = some o) (h1 : o.isCells = false) (h2 : o.isWalk = false) : KpB n₀ Bs W (W.putObj l o') :=
  ⟨belowK_b hn W l o o' hl h h1 h2, (belowK_b (n₀ := w.heap.size) (Nat.le_refl _) W l o o' hl h h1 h2).cell (p := ⟨Bs, 0, none⟩) hB⟩
/-- The passes in memory, each with its fields' values. -/
theorem Passes.pv {w : World} {a : Option Addr} {len : Nat} {ps : List Ps} (h : Passes w a len ps) (hl : 0 < len) : ∃ b off pv, a = some ⟨b, off, none⟩ ∧ b < w.heap.size ∧ PvAt w b off len pv ∧ ∀ j, j < len → (pv j).Op = (ps.getD j Ps.zero).Op ∧ (pv j).To = (ps.getD j Ps.zero).To ∧ (pv j).A = (ps.getD j Ps.zero).A ∧ (pv j).B = (ps.getD j Ps.zero).B ∧ (pv j).K = (ps.getD j Ps.zero).K ∧ Lights w (pv j).la (pv j).ll (ps.getD j Ps.zero).ls := by
  rcases h.cells with e | ⟨b, off, ha, hb, hc⟩
  · have := h.leng; subst e; simp at this; omega
  · have hx : ∀ j, ∃ p : Pv, j < len → (w.cell? ⟨b, off + j * 6, none⟩ = some (.int .i64 p.Op) ∧ w.cell? ⟨b, off + j * 6 + 1, none⟩ = some (.int .i64 p.To) ∧ w.cell? ⟨b, off + j * 6 + 2, none⟩ = some (.int .i64 p.A) ∧ w.cell? ⟨b, off + j * 6 + 3, none⟩ = some (.int .i64 p.B) ∧ w.cell? ⟨b, off + j * 6 + 4, none⟩ = some (.int .i64 p.K) ∧ w.cell? ⟨b, off + j * 6 + 5, none⟩ = some (.slice p.la p.ll p.lc)) ∧ (p.Op = (ps.getD j Ps.zero).Op ∧ p.To = (ps.getD j Ps.zero).To ∧ p.A = (ps.getD j Ps.zero).A ∧ p.B = (ps.getD j Ps.zero).B ∧ p.K = (ps.getD j Ps.zero).K ∧ Lights w p.la p.ll (ps.getD j Ps.zero).ls) := by
      intro j
      by_cases hj : j < len
      · obtain ⟨la, ll, lc, c0, c1, c2, c3, c4, c5, hL⟩ := hc j hj
        exact ⟨⟨_, _, _, _, _, la, ll, lc⟩, fun _ => ⟨⟨c0, c1, c2, c3, c4, c5⟩, rfl, rfl, rfl, rfl, rfl, hL⟩⟩
      · exact ⟨⟨0, 0, 0, 0, 0, none, 0, 0⟩, fun h => absurd h hj⟩
    obtain ⟨pv, hpv⟩ := Classical.axiomOfChoice hx
    exact ⟨b, off, pv, ha, hb, fun j hj => (hpv j hj).1, fun j hj => (hpv j hj).2⟩
end Go.Proofs.YtaenpgdmiaekcaaGreatDoor
/-
  LAST: need.Last.
-/
namespace Go.Proofs.YtaenpgdmiaekcaaGreatDoor
set_option maxRecDepth 100000
open Go.RowKit Im Go.Shelf
attribute [local go_sem] Oper.semAt_some

/-- What need.Last tells. -/
def ToldLast (w : World) (f : Fr) (e : Ending) (w' : World) : Prop :=
  e = .returned (.tuple #[.int .i64 (if frameE f = 0 then shownP f else 0), .int .i64 (frameE f)]) ∧ Below w.heap.size w w'
theorem boxed_below {W W' : World} {B n₀ : Nat} {t : TypeId} {v : Value} (h : Go.Boxed W B t v) (hb : Below n₀ W W') (hB : B < n₀) : Go.Boxed W' B t v := (hb.block B hB).trans h
set_option maxHeartbeats 1000000 in
theorem last_err (W H S O : Int) (a : Option Addr) (len cap : Nat) (ps : List Ps) (w : World) (hp : Passes w a len ps) (hE : frameE ⟨W, H, S, O, ps⟩ ≠ 0) :
    Calls Tryz.prog 47 #[.agg #[.int .i64 W, .int .i64 H, .int .i64 S, .int .i64 O, .slice a len cap]] w (ToldLast w ⟨W, H, S, O, ps⟩) := by
  have hb0 := below_box (below_box (below_box (Below.refl w.heap.size w) (.cells #[.int .i64 W, .int .i64 H, .int .i64 S, .int .i64 O, .slice a len cap] 35)) (.cells #[.int .i64 0] 3)) (.cells #[.int .i64 0] 25)
  have hch := frameCheck_any W H S O a len cap ps _ (hp.below hb0)
  have bX := (Go.Boxed.new (w.alloc (.cells #[.int .i64 W, .int .i64 H, .int .i64 S, .int .i64 O, .slice a len cap] 35)) 3 (.int .i64 0)).alloc (.cells #[.int .i64 0] 25)
  have bY := Go.Boxed.new ((w.alloc (.cells #[.int .i64 W, .int .i64 H, .int .i64 S, .int .i64 O, .slice a len cap] 35)).alloc (.cells #[.int .i64 0] 3)) 25 (.int .i64 0)
  simp only [World.size_alloc] at bX bY
  go_enter Tryz.func47, Tryz.ntmps47
  go_wp2_with fail
  refine hch.mono ?_
  clear hch
  rintro e w1 ⟨rfl, b1⟩
  have b2 := below_step hb0 b1
  have c2 := boxed_below bX b1 (by simp)
  have c3 := boxed_below bY b1 (by simp)
  have d2 := c2.cell
  have f2 := c2.frozen
  have d3 := c3.cell
  have f3 := c3.frozen
  go_wp2
  refine bodyPost_ret (v := .tuple #[.int .i64 0, .int .i64 (frameE ⟨W, H, S, O, ps⟩)]) (by simp [results, Tryz.results47, go_sem, d2, d3]) rfl ?_
  refine ⟨by rw [if_neg hE], (b2.setCell (p := ⟨w.heap.size + 1, 0, none⟩) (show w.heap.size ≤ w.heap.size + 1 by omega) _).setCell (p := ⟨w.heap.size + 1 + 1, 0, none⟩) (show w.heap.size ≤ w.heap.size + 1 + 1 by omega) _⟩
/-- A pass in a block of its own is a matter of cells. -/
theorem pbox_own {X Y : World} {row : Option Nat} {b : Nat} {Op To A B K : Int} {la : Option Addr} {ll lc : Nat} (h : PBox X b Op To A B K la ll lc) (hg : X.grownBy Y row) (hr : ∀ r, row = some r → ∃ o : Obj, X.heap[r]? = some o ∧ o.isCells = false) : PBox Y b Op To A B K la ll lc :=
  ⟨Nat.lt_of_lt_of_le h.lt hg.size, cell_kept h.c0 hg hr, cell_kept h.c1 hg hr, cell_kept h.c2 hg hr, cell_kept h.c3 hg hr, cell_kept h.c4 hg hr, cell_kept h.c5 hg hr⟩
theorem wrt_last {ps : List Ps} {O : Int} {n m : Nat} (hm : m < n) (h1 : (ps.getD m Ps.zero).To = O) (h2 : ∀ j, m < j → j < n → (ps.getD j Ps.zero).To ≠ O) : wrt ps n O = m := by
  induction n with
  | zero => omega
  | succ n ih =>
    show (if (ps.getD n Ps.zero).To = O then (n : Int) else wrt ps n O) = m
    by_cases hn : m = n
    · subst hn; rw [if_pos h1]
    · rw [if_neg (h2 n (by omega) (by omega))]
      exact ih (by omega) (fun j h3 h4 => h2 j h3 (by omega))
theorem bhs_mem (len : Nat) (hl : 0 < len) (pv : Nat → Pv) {k m : Nat} (hm : m < len) (hk : len - 1 - m < k) : ∃ x ∈ bhs len hl pv k, x.1 = (m, pv m) := by
  refine ⟨bh len hl pv (len - 1 - m), ?_, ?_⟩
  · unfold bhs; rw [List.mem_map]; exact ⟨len - 1 - m, by simpa using hk, rfl⟩
  · show (len - 1 - (len - 1 - m), pv (len - 1 - (len - 1 - m))) = (m, pv m)
    rw [show len - 1 - (len - 1 - m) = m by omega]
set_option maxHeartbeats 4000000 in
theorem last_ok (W H S O : Int) (a : Option Addr) (len cap : Nat) (ps : List Ps) (w : World) (hp : Passes w a len ps) (hE : frameE ⟨W, H, S, O, ps⟩ = 0) :
    Calls Tryz.prog 47 #[.agg #[.int .i64 W, .int .i64 H, .int .i64 S, .int .i64 O, .slice a len cap]] w (ToldLast w ⟨W, H, S, O, ps⟩) := by
  obtain rfl := hp.leng
  obtain ⟨hbnd, hfirst, hsh⟩ := frameE_zero hE
  obtain ⟨_, _, _, _, hL⟩ := boundsE_zero hbnd
  dsimp only at hL
  have hb0 := below_box (below_box (below_box (Below.refl w.heap.size w) (.cells #[.int .i64 W, .int .i64 H, .int .i64 S, .int .i64 O, .slice a ps.length cap] 35)) (.cells #[.int .i64 0] 3)) (.cells #[.int .i64 0] 25)
  have hch := frameCheck_any W H S O a ps.length cap ps _ (hp.below hb0)
  rw [hE] at hch
  obtain ⟨b, off, pv, rfl, hbl, hpv, heq⟩ := hp.pv (by omega)
  have bX := (Go.Boxed.new (w.alloc (.cells #[.int .i64 W, .int .i64 H, .int .i64 S, .int .i64 O, .slice (some ⟨b, off, none⟩) ps.length cap] 35)) 3 (.int .i64 0)).alloc (.cells #[.int .i64 0] 25)
  have bY := Go.Boxed.new ((w.alloc (.cells #[.int .i64 W, .int .i64 H, .int .i64 S, .int .i64 O, .slice (some ⟨b, off, none⟩) ps.length cap] 35)).alloc (.cells #[.int .i64 0] 3)) 25 (.int .i64 0)
  simp only [World.size_alloc] at bX bY
  have hB := ((FBox.new w W H S O (some ⟨b, off, none⟩) ps.length cap).alloc (.cells #[.int .i64 0] 3)).alloc (.cells #[.int .i64 0] 25)
  refine (callsIn_wide (n := 4)).1 ?_
  refine callsIn_of_wp_marks Tryz.func47 rfl trivial ?_ rfl
  simp only [Tryz.ntmps47, List.size_toArray, List.length_cons, List.length_nil, Nat.reduceAdd, Nat.reduceSub, Array.replicate_succ, Array.replicate_zero, List.push_toArray, List.append_toArray, List.nil_append, List.cons_append]
  gi_wp2_with (first
    | (refine ⟨trivial, ?_⟩; gi_at_call 58; refine (callsIn_wide.2 hch).mono ?_; rintro e w1 ⟨rfl, b1⟩; have hB1 := hB.below b1; have cX := boxed_below bX b1 (by simp); have cY := boxed_below bY b1 (by simp); have hb1 := below_step hb0 b1; obtain ⟨_, g0, g1, g2, g3, g4⟩ := id hB1)
    | (refine ⟨trivial, ?_⟩; gi_at_call 74; refine (callsIn_wide.2 (fromBehind_any _ _ _ _)).mono ?_; rintro e w2 ⟨rfl, rfl⟩))
  have hpos : 0 < ps.length := by omega
  have bI := Go.Boxed.new w1 33 (.slice (some ⟨b, off, none⟩) ps.length cap)
  have hb2 := below_box hb1 (.cells #[.slice (some ⟨b, off, none⟩) ps.length cap] 33)
  have cX2 := cX.alloc (.cells #[.slice (some ⟨b, off, none⟩) ps.length cap] 33)
  have cY2 := cY.alloc (.cells #[.slice (some ⟨b, off, none⟩) ps.length cap] 33)
  have g32 : (w1.alloc (.cells #[.slice (some ⟨b, off, none⟩) ps.length cap] 33)).cell? ⟨w.heap.size, 3, none⟩ = some (.int .i64 O) := (World.cell?_alloc_lt _ _ _ hB1.lt).trans g3
  have hlw : w.heap.size + 1 + 1 < w1.heap.size := cY.lt
  have hls : (w1.alloc (.cells #[.slice (some ⟨b, off, none⟩) ps.length cap] 33)).heap.size = w1.heap.size + 1 := by simp
  have hpv2 := hpv.below hb2 hbl
  clear hch hB hB1 g0 g1 g2 g3 g4 cX cY bX bY hb0 hb1 b1
  generalize w1.alloc (.cells #[.slice (some ⟨b, off, none⟩) ps.length cap] 33) = W0 at *
  have hbb := @boxed_own Unit
  refine wpIn_rangeFunc_ownH rfl (by decide) (gf := 125) (lb := #[.pointer (some ⟨w1.heap.size, 0, none⟩)]) rfl trivial (enters_of Tryz.func125 (by kernel_rfl) rfl)
    (behind_stops 3 (by decide) w1.heap.size w.heap.size b off ps.length cap hpos hL.2 pv hbl W0 (by omega) hb2.size bI.cell hpv2) KpB.t (KpB.b hb2.size (by omega)) (Below.refl _ _) (fun _ => rfl)
    (fun pre W' => ((∀ x ∈ pre, x.1.2.To ≠ O) ∧ W'.cell? ⟨w.heap.size, 3, none⟩ = some (.int .i64 O) ∧ Go.Boxed W' (w.heap.size + 1) 3 (.int .i64 0) ∧ Go.Boxed W' (w.heap.size + 1 + 1) 25 (.int .i64 0) ∧ Go.Boxed W' w1.heap.size 33 (.slice (some ⟨b, off, none⟩) ps.length cap)) ∧ Below w.heap.size w W')
    (fun c pre W' => (c = .ret ∧ ∃ pre' x, pre = pre' ++ [x] ∧ (∀ y ∈ pre', y.1.2.To ≠ O) ∧ x.1.2.To = O ∧ Go.Boxed W' (w.heap.size + 1) 3 (.int .i64 (x.1.1 : Int)) ∧ Go.Boxed W' (w.heap.size + 1 + 1) 25 (.int .i64 0)) ∧ Below w.heap.size w W')
    (fun s A B row hs hg hr => ⟨⟨hs.1.1, cell_kept hs.1.2.1 hg (fun r e => (hr r e).2), hbb _ _ (fun _ => _) () A B row hs.1.2.2.1 hg (fun r e => (hr r e).2), hbb _ _ (fun _ => _) () A B row hs.1.2.2.2.1 hg (fun r e => (hr r e).2), hbb _ _ (fun _ => _) () A B row hs.1.2.2.2.2 hg (fun r e => (hr r e).2)⟩, ownFrom_below (β := Unit) (w₀ := w) (Nat.le_refl _) hb2.size () A B row hs.2 hg hr⟩)
    (fun c s A B row hs hg hr => ⟨⟨hs.1.1, by
      obtain ⟨pre', x, h1, h2, h3, h4, h5⟩ := hs.1.2
      exact ⟨pre', x, h1, h2, h3, hbb _ _ (fun _ => _) () A B row h4 hg (fun r e => (hr r e).2), hbb _ _ (fun _ => _) () A B row h5 hg (fun r e => (hr r e).2)⟩⟩, ownFrom_below (β := Unit) (w₀ := w) (Nat.le_refl _) hb2.size () A B row hs.2 hg hr⟩)
    ⟨⟨(fun x hx => by cases hx), g32, cX2, cY2, bI⟩, hb2⟩
    (fun x a' W' => ∃ Bx, w.heap.size + 1 + 1 < Bx ∧ PBox W' Bx x.1.2.Op x.1.2.To x.1.2.A x.1.2.B x.1.2.K x.1.2.la x.1.2.ll x.1.2.lc ∧ a' = { tmps := #[.agg #[.int .i64 W, .int .i64 H, .int .i64 S, .int .i64 O, .slice (some ⟨b, off, none⟩) ps.length cap], .pointer (some ⟨w.heap.size, 0, none⟩), .pointer (some ⟨w.heap.size + 1, 0, none⟩), .pointer (some ⟨w.heap.size + 1 + 1, 0, none⟩), .int .i64 0, .int .i64 (x.1.1 : Int), .pointer (some ⟨Bx, 0, none⟩), .agg #[.int .i64 W, .int .i64 H, .int .i64 S, .int .i64 O, .slice (some ⟨b, off, none⟩) ps.length cap], .int .i64 0, .int .i64 0, .bool false, undef, .pointer (some ⟨w.heap.size, 4, none⟩), .slice (some ⟨b, off, none⟩) ps.length cap, .func (.func 125) #[] #[.pointer (some ⟨w1.heap.size, 0, none⟩)], .int .i64 (x.1.1 : Int), x.1.2.val, undef, undef, undef, undef, undef, undef], defers := [] })
    (fun x a' _ X Y row hs hg hr => by obtain ⟨Bx, h1, h2, h3⟩ := hs; exact ⟨Bx, h1, pbox_own h2 hg (fun r e => (hr r e).2), h3⟩)
    ?assign ?body ?done ?stop
  case assign =>
    rintro l pre x W' K ⟨⟨h1, h2, h3, h4, h5⟩, hB1⟩ hK
    gi_wp2
    have hx3 := h3.lt
    have hx4 := h4.lt
    exact hK _ _ ((KeepsOthers.alloc _ _).from _) ⟨(Below.refl _ W').alloc hB1.size _, World.cell?_alloc_lt _ _ _ h5.lt⟩ ⟨⟨h1, (World.cell?_alloc_lt _ _ _ (show w.heap.size < W'.heap.size by omega)).trans h2, h3.alloc _, h4.alloc _, h5.alloc _⟩, hB1.alloc hB1.size _⟩ ⟨W'.heap.size, hx4, PBox.new W' _ _ _ _ _ _ _ _, rfl⟩
  case body =>
    rintro l pre x a' W' hl ⟨r, hr⟩ ⟨⟨h1, h2, h3, h4, h5⟩, hB1⟩ ⟨Bx, hBx, hPx, rfl⟩ hlt
    obtain ⟨_, p0, p1, p2, p3, p4, p5⟩ := id hPx
    have f3 := h3.frozen
    have d3 := h3.cell
    have f4 := h4.frozen
    have d4 := h4.cell
    by_cases hTo : x.1.2.To = O
    · have hTo' : (x.1.2.To == O) = true := by simpa using hTo
      have hB2 := (hB1.setCell (p := ⟨w.heap.size + 1, 0, none⟩) (show w.heap.size ≤ w.heap.size + 1 by omega) (.int .i64 (x.1.1 : Int))).setCell (p := ⟨w.heap.size + 1 + 1, 0, none⟩) (show w.heap.size ≤ w.heap.size + 1 + 1 by omega) (.int .i64 0)
      have k3 := (h3.set (.int .i64 (x.1.1 : Int))).other (B' := w.heap.size + 1 + 1) (by omega) (.int .i64 0)
      have k4 := (h4.other (B' := w.heap.size + 1) (by omega) (.int .i64 (x.1.1 : Int))).set (.int .i64 0)
      have HTO : Hid (_) := hTo
      clear hTo
      gi_wp2
      exact ⟨((KeepsOthers.setCell _ _ _).trans (KeepsOthers.setCell _ _ _)).from _, ⟨rfl, pre, x, rfl, h1, HTO.out, k3, k4⟩, hB2⟩
    · have hTo' : (x.1.2.To == O) = false := by simpa using hTo
      have HTO : Hid (_) := hTo
      clear hTo
      gi_wp2
      exact ⟨KeepsFrom.refl _ _, ⟨Below.refl _ _, rfl⟩, ⟨(fun y hy => by rcases List.mem_append.1 hy with h | h; exact h1 y h; rw [List.mem_singleton] at h; subst h; exact HTO.out), h2, h3, h4, h5⟩, hB1⟩
  case done =>
    rintro D ys W' hD rfl ⟨⟨hne, _⟩, _⟩ hK
    exfalso
    have e : shownP ⟨W, H, S, O, ps⟩ = wrt ps ps.length O := rfl
    have hbd := wrt_bd ps ps.length O
    rw [e] at hsh
    have hto := wrt_to ps ps.length O hsh
    obtain ⟨x, hx, hx1⟩ := bhs_mem ps.length hpos pv (k := ps.length) (m := (wrt ps ps.length O).toNat) (by omega) (by omega)
    have := hne x hx
    rw [hx1] at this
    exact this ((heq _ (by omega)).2.1.trans hto)
  case stop =>
    rintro D c pre W' hD ⟨k, hk, rfl⟩ ⟨⟨rfl, pre', x, hpre, hne, hxO, h3, h4⟩, hB2⟩ hK
    gi_wp2
    refine ⟨by simp, .inl ⟨_, _, rfl, run_takeDeferred hK, ?_⟩⟩
    rw [bhs_succ] at hpre
    obtain ⟨e1, e2⟩ := List.append_inj' hpre rfl
    have e3 : bh ps.length hpos pv k = x := by injection e2
    subst e1 e3
    have c3 := cell_kept h3.cell (grownBy_putObj' _ D (.deferred none)) (fun r e => by cases e; exact ⟨_, hK, rfl⟩)
    have c4 := cell_kept h4.cell (grownBy_putObj' _ D (.deferred none)) (fun r e => by cases e; exact ⟨_, hK, rfl⟩)
    have hm : (bh ps.length hpos pv k).1 = (ps.length - 1 - k, pv (ps.length - 1 - k)) := rfl
    rw [hm] at hxO c3
    dsimp only at hxO c3
    have hshow : shownP ⟨W, H, S, O, ps⟩ = ((ps.length - 1 - k : Nat) : Int) := by
      show wrt ps ps.length O = _
      refine wrt_last (by omega) ((heq _ (by omega)).2.1.symm.trans hxO) (fun j h1 h2 => ?_)
      obtain ⟨y, hy, hy1⟩ := bhs_mem ps.length hpos pv (k := k) (m := j) h2 (by omega)
      have := hne y hy
      rw [hy1] at this
      exact fun e => this ((heq j h2).2.1.trans e)
    refine ⟨.tuple #[.int .i64 ((ps.length - 1 - k : Nat) : Int), .int .i64 0], ?_, ⟨by rw [hE, if_pos rfl, hshow], hB2.trans (belowK_b (w := w) (Nat.le_refl _) W' D _ _ (by have := hb2.size; omega) hK rfl rfl)⟩⟩
    simp [results, Tryz.results47, go_sem, c3, c4]
/-- need.Last. -/
theorem last_any (W H S O : Int) (a : Option Addr) (len cap : Nat) (ps : List Ps) (w : World) (hp : Passes w a len ps) :
    Calls Tryz.prog 47 #[.agg #[.int .i64 W, .int .i64 H, .int .i64 S, .int .i64 O, .slice a len cap]] w (ToldLast w ⟨W, H, S, O, ps⟩) := by
  by_cases hE : frameE ⟨W, H, S, O, ps⟩ = 0
  · exact last_ok W H S O a len cap ps w hp hE
  · exact last_err W H S O a len cap ps w hp hE
end Go.Proofs.YtaenpgdmiaekcaaGreatDoor
/-
  LASTREF: the reference's LastOf: the pass that made what is shown.
-/
namespace Go.Proofs.YtaenpgdmiaekcaaGreatDoor
set_option maxRecDepth 100000
open Go.RowKit Im

theorem lastOf_any (W H S O : Int) (a : Option Addr) (len cap : Nat) (ps : List Ps) (w : World) (hp : Passes w a len ps) :
    Calls Tryz.prog 57 #[.agg #[.int .i64 W, .int .i64 H, .int .i64 S, .int .i64 O, .slice a len cap]] w fun e w' => e = .returned (.int .i64 (shownP ⟨W, H, S, O, ps⟩)) ∧ Below w.heap.size w w' := by
  have hsh : shownP ⟨W, H, S, O, ps⟩ = wrt ps len O := by unfold shownP; rw [← hp.leng]
  have hb0 := below_box (Below.refl w.heap.size w) (.cells #[.int .i64 W, .int .i64 H, .int .i64 S, .int .i64 O, .slice a len cap] 35)
  have hw := writer_any W H S O a len cap ps len O _ (hp.below hb0) (Nat.le_refl _)
  rw [hsh]
  clear hsh
  generalize wrt ps len O = n at hw
  go_enter Tryz.func57, Tryz.ntmps57
  go_wp2_with (go_at_call 93; refine hw.mono ?_; rintro e w' ⟨rfl, hb⟩)
  go_ret
  exact ⟨rfl, below_step hb0 hb⟩
end Go.Proofs.YtaenpgdmiaekcaaGreatDoor
/-
  KEPTREF: which passes are needed, as numbers alone; the reference's KeptOf.
-/
namespace Go.Proofs.YtaenpgdmiaekcaaGreatDoor
set_option maxRecDepth 100000
open Go.RowKit Im

/-- The marks g, and those of is besides. -/
def markG (g : Nat → Bool) (is : List Int) (j : Nat) : Bool := g j || is.any fun i => decide (i = (j : Int))
/-- The marks when the last k of n passes have been asked. -/
def keptG (ps : List Ps) (n : Nat) (last : Int) : Nat → Nat → Bool
  | 0, j => decide (last = (j : Int))
  | k + 1, j => if keptG ps n last k (n - 1 - k) = true then markG (keptG ps n last k) (srcOf ps (n - 1 - k)) j else keptG ps n last k j
theorem markG_nil (g : Nat → Bool) : markG g [] = g := by funext j; simp [markG]
theorem markG_take (g : Nat → Bool) (is : List Int) (k : Nat) (hk : k < is.length) (j : Nat) : markG g (is.take (k + 1)) j = if is.getD k 0 = (j : Int) then true else markG g (is.take k) j := by
  unfold markG
  rw [List.take_succ_eq_append_getElem hk, List.any_append, List.getD_eq_getElem?_getD, List.getElem?_eq_getElem hk]
  by_cases h : is[k] = (j : Int) <;> simp [h]
/-- Marks in memory, in a block of their own. -/
structure Bl (w : World) (b n : Nat) (g : Nat → Bool) : Prop where
  lt : b < w.heap.size
  cells : ∀ j, j < n → w.cell? ⟨b, j, none⟩ = some (.bool (g j))
  froz : ∀ o, w.frozen? ⟨b, o, none⟩ = false
theorem Bl.below {w w' : World} {b n B : Nat} {g : Nat → Bool} (h : Bl w b n g) (hb : Below B w w') (hB : b < B) (hs : w.heap.size ≤ w'.heap.size) : Bl w' b n g :=
  ⟨Nat.lt_of_lt_of_le h.lt hs, fun j hj => (hb.cell (p := ⟨b, j, none⟩) hB).trans (h.cells j hj), fun o => (hb.frozen (p := ⟨b, o, none⟩) hB).trans (h.froz o)⟩
theorem Bl.put {w : World} {b n : Nat} {g g' : Nat → Bool} (h : Bl w b n g) (m : Nat) (hm : m < n) (hg : ∀ j, j < n → g' j = if m = j then true else g j) : Bl (w.setCell ⟨b, m, none⟩ (.bool true)) b n g' := by
  refine ⟨by simpa using h.lt, fun j hj => ?_, fun o => by simpa using h.froz o⟩
  rw [hg j hj]
  by_cases e : m = j
  · subst e
    rw [if_pos rfl]
    exact set_same (h.cells m hm)
  · rw [if_neg e, set_other _ (fun e' => e (by injection e'))]
    exact h.cells j hj
theorem Bl.congr {w : World} {b n : Nat} {g g' : Nat → Bool} (h : Bl w b n g) (hg : ∀ j, j < n → g' j = g j) : Bl w b n g' := ⟨h.lt, fun j hj => by rw [hg j hj]; exact h.cells j hj, h.froz⟩
theorem Bl.made {w : World} {base b N cap : Nat} (h : w.ownsRow base 4 1 (.slice (some ⟨b, 0, none⟩) N cap) N (madeCells (Value.bool false).cells (N * 1)).toList) (hb : b < w.heap.size) : Bl w b N (fun _ => false) := by
  refine ⟨hb, fun j hj => ?_, fun o => World.ownsRow.frozenAt h o⟩
  rw [World.ownsRow.cellAt h j (by omega)]
  have e : (Value.bool false).cells = #[.bool false] := rfl
  rw [e]
  simp only [madeCells, Array.toList_map, Array.toList_range, List.getElem?_map, List.getElem?_range (show j < N * 1 by omega), Option.map_some]
  congr 1
  show (#[Value.bool false] : Array Value)[j % 1]! = _
  rw [Nat.mod_one]
  rfl
theorem Tryz.infoBool : (Tryz.prog.info? 4).map (fun i => (i.zero, i.size, i.bytes)) = some (some (.bool false), 1, 1) := by kernel_rfl
/-- The call's end tells the marks g. -/
def ToldK (w : World) (n : Nat) (g : Nat → Bool) (e : Ending) (w' : World) : Prop :=
  (∃ b, e = .returned (.slice (some ⟨b, 0, none⟩) n n) ∧ w.heap.size ≤ b ∧ Bl w' b n g) ∧ Below w.heap.size w w'
set_option maxHeartbeats 4000000 in
theorem keptOf_any (W H S O : Int) (a : Option Addr) (len cap : Nat) (ps : List Ps) (w : World) (hp : Passes w a len ps) (hE : frameE ⟨W, H, S, O, ps⟩ = 0) :
    Calls Tryz.prog 53 #[.agg #[.int .i64 W, .int .i64 H, .int .i64 S, .int .i64 O, .slice a len cap]] w (ToldK w len (keptG ps len (shownP ⟨W, H, S, O, ps⟩) len)) := by
  obtain rfl := hp.leng
  obtain ⟨hbnd, hfirst, hsh⟩ := frameE_zero hE
  dsimp only at hfirst
  obtain ⟨_, _, _, _, hL⟩ := boundsE_zero hbnd
  dsimp only at hL
  obtain ⟨N, hN⟩ := Int.eq_ofNat_of_zero_le hsh
  have hNl : N < ps.length := by have := (wrt_bd ps ps.length O).2; have e : shownP ⟨W, H, S, O, ps⟩ = wrt ps ps.length O := rfl; omega
  obtain ⟨i0, hi, hz0, hz1, hz2⟩ := info_parts Tryz.infoBool
  have hb0 := below_box (Below.refl w.heap.size w) (.cells #[.int .i64 W, .int .i64 H, .int .i64 S, .int .i64 O, .slice a ps.length cap] 35)
  have hB := FBox.new w W H S O a ps.length cap
  have hsr := sourcesOfRef_any W H S O a ps.length cap ps _ (hp.below hb0) hL.2
  have hla := fun wx hp => lastOf_any W H S O a ps.length cap ps wx hp
  rw [hN] at hla ⊢
  have hs2 : ∀ x ∈ srcs ps ps.length, x.length ≤ 2 := by
    intro x hx
    unfold srcs at hx
    rw [List.mem_map] at hx
    obtain ⟨n, _, rfl⟩ := hx
    unfold srcOf
    rw [List.length_map]
    exact takesP_len _
  have hin : ∀ n, n < ps.length → ∀ i ∈ srcOf ps n, 0 ≤ i ∧ i < n := fun n hn => by
    have hfk := firstE_down ⟨W, H, S, O, ps⟩ hfirst (k := n) (by omega)
    have hpE : passE ⟨W, H, S, O, ps⟩ n = 0 := (firstE_at ⟨W, H, S, O, ps⟩ hfk).symm.trans (firstE_down ⟨W, H, S, O, ps⟩ hfirst (k := n + 1) (by omega))
    exact src_bd (passE_zero hpE).2.1
  have HIN : Hid (_) := hin
  have hp0 := hp.below hb0
  clear hN hin hbnd hfirst hsh hp hE
  go_enter Tryz.func53, Tryz.ntmps53
  go_wp2_with fail
  refine hsr.mono ?_
  clear hsr
  rintro e w1 ⟨⟨v1, rfl, hLL⟩, b1⟩
  obtain ⟨sa, scap, rfl, hSs⟩ := hLL.lls hs2
  rw [srcs_length] at hSs ⊢
  have hB1 := hB.below b1
  have hb1 := below_step hb0 b1
  have hp1 := hp0.below b1
  clear hB hb0 b1 hLL hs2 hp0
  obtain ⟨_, g0, g1, g2, g3, g4⟩ := id hB1
  go_upto_region 3 with (at_make; refine wpList_make_full _ rfl _ _ 78 rfl w1.heap.size 4 i0 (.bool false) 1 Tryz.underlying78 hi hz0 hz1 .i64 .i64 _ _ ps.length rfl rfl (by simp) (by simp) (by rw [hz2]; omega) (by unfold maxLen; omega) (Nat.le_refl _) ?_; intro wM hown hgrow)
  have hbM : Below w1.heap.size w1 wM := (Below.refl _ _).grown hgrow (Nat.le_refl _) (fun k hk => by cases hk)
  have hlM := (World.ownsRow.lt (w := wM) hown w1.heap.size rfl).2
  have hKM := Bl.made hown hlM
  clear hown hgrow g0 g1 g2 g3 g4
  have hBM := hB1.below hbM
  obtain ⟨_, g0, g1, g2, g3, g4⟩ := id hBM
  go_wp2_with fail
  refine (hla _ (hp1.below hbM)).mono ?_
  rintro e w2 ⟨rfl, b2⟩
  have hK2 := hKM.below b2 hlM b2.size
  have hbW2 := below_step hbM b2
  have hB2 := hB1.below hbW2
  have k0 := hK2.cells N hNl
  have kf := hK2.froz N
  have hNi : (N : Int) < (ps.length : Int) := by omega
  have hK3 := hK2.put (g' := keptG ps ps.length N 0) N hNl (fun j hj => by
    show decide ((N : Int) = (j : Int)) = _
    by_cases h : N = j
    · subst h; simp
    · have h' : ¬ (N : Int) = (j : Int) := by omega
      simp [h, h'])
  have hbW3 : Below w1.heap.size w1 (w2.setCell ⟨w1.heap.size, N, none⟩ (.bool true)) := hbW2.setCell (p := ⟨w1.heap.size, N, none⟩) (Nat.le_refl _) _
  have hwl : IntKind.i64.wrap ((ps.length : Int) - 1) = (ps.length : Int) - 1 := by rw [IntKind.wrap_i64]; omega
  clear g0 g1 g2 g3 g4 hKM hla hbM hlM hBM b2
  go_wp2
  go_loopw [5] (fun i wr => ∃ k : Nat, k ≤ ps.length ∧ i = .int .i64 ((ps.length : Int) - 1 - k) ∧ Bl wr w1.heap.size ps.length (keptG ps ps.length N k) ∧ Below w1.heap.size w1 wr) (fun i _ => (intOf i + 1).toNat)
  case atStart => exact ⟨0, Nat.zero_le _, by simp, hK3, hbW3⟩
  case round =>
    obtain ⟨k, hk, rfl, hKr, hbr⟩ := hrel
    clear hK2 hK3 hbW2 hbW3 hB2 k0 kf
    by_cases hlt : k < ps.length
    · obtain ⟨m, hm⟩ : ∃ m : Nat, m = ps.length - 1 - k := ⟨_, rfl⟩
      have hmi : (ps.length : Int) - 1 - k = (m : Int) := by omega
      have hml : m < ps.length := by omega
      have hmI : (m : Int) < (ps.length : Int) := by omega
      have hm0 : (0 : Int) ≤ (m : Int) := by omega
      obtain ⟨sb, so, ua, uc, rfl, hsb, qq, hUI⟩ := hSs.nth hml
      rw [srcs_at _ hml] at qq hUI
      have hin := HIN.out m hml
      have HKG : Hid (∀ j, keptG ps ps.length N (k + 1) j = if keptG ps ps.length N k m = true then markG (keptG ps ps.length N k) (srcOf ps m) j else keptG ps ps.length N k j) := fun j => by rw [hm]; rfl
      have hsl : (srcOf ps m).length ≤ 2 := by unfold srcOf; rw [List.length_map]; exact takesP_len _
      have hw1 : IntKind.i64.wrap ((m : Int) - 1) = (m : Int) - 1 := by rw [IntKind.wrap_i64]; omega
      have HMN : Hid ((m : Int) - 1 = (ps.length : Int) - 1 - ((k + 1 : Nat) : Int)) := by show _ = _; omega
      rw [hmi]
      have km := hKr.cells m hml
      generalize keptG ps ps.length N k = g at hKr HKG km
      generalize srcOf ps m = sr at qq hUI hin HKG hsl
      have q0 := (hbr.cell (p := ⟨sb, so + m, none⟩) hsb).trans qq
      clear hm hmi
      have hgm : ∀ k', markG g (sr.take k') m = true ∨ True := fun _ => .inr trivial
      clear hgm
      obtain ⟨wO, e0⟩ : ∃ z, z = wr := ⟨_, rfl⟩
      subst e0
      generalize hx : g m = x at km HKG
      cases x with
      | false =>
        go_wp2
        go_loopw [6] (fun i ws => i = .int .i64 0 ∧ ws = wO) (fun _ _ => 0)
        case atStart => exact ⟨rfl, rfl⟩
        case round =>
          obtain ⟨rfl, rfl⟩ := hrel
          go_wp2
          all_goals go_roundw
          all_goals first
            | exact ⟨k + 1, by omega, by rw [HMN.out], hKr.congr (fun j _ => by rw [HKG.out j, if_neg (by decide)]), hbr⟩
            | (show ((m : Int) - 1 + 1).toNat < ((m : Int) + 1).toNat; omega)
      | true =>
        clear q0 km
        go_wp2
        go_loopw [6] (fun i ws => ∃ t : Nat, t ≤ sr.length ∧ i = .int .i64 t ∧ Bl ws w1.heap.size ps.length (markG g (sr.take t)) ∧ Below w1.heap.size w1 ws) (fun i _ => sr.length - (intOf i).toNat)
        case atStart => exact ⟨0, Nat.zero_le _, rfl, by rw [List.take_zero, markG_nil]; exact hKr, hbr⟩
        case round =>
          obtain ⟨t, ht, rfl, hKt, hbt⟩ := hrel
          have q0 := (hbt.cell (p := ⟨sb, so + m, none⟩) hsb).trans qq
          have km := hKt.cells m hml
          have hgm : markG g (sr.take t) m = true := by unfold markG; rw [hx]; rfl
          rw [hgm] at km
          by_cases htl : t < sr.length
          · obtain ⟨bu, ou, rfl, hcx⟩ := (hUI.below (Nat.le_refl _) hbt).nth htl
            have hr := hin _ (getD_mem htl 0)
            have HS : Hid (∀ j : Nat, markG g (sr.take (t + 1)) j = if sr.getD t 0 = (j : Int) then true else markG g (sr.take t) j) := fun j => markG_take g sr t htl j
            generalize sr.getD t 0 = n at hcx hr HS
            obtain ⟨q, rfl⟩ := Int.eq_ofNat_of_zero_le hr.1
            have hql : q < ps.length := by omega
            have hqI : (q : Int) < (ps.length : Int) := by omega
            have kq := hKt.cells q hql
            have kf := hKt.froz q
            have hK9 := hKt.put (g' := markG g (sr.take (t + 1))) q hql (fun j hj => by
              rw [HS.out j]
              by_cases h : q = j
              · subst h; simp
              · have h' : ¬ (q : Int) = (j : Int) := by omega
                rw [if_neg h, if_neg h'])
            have hb9 := hbt.setCell (p := ⟨w1.heap.size, q, none⟩) (Nat.le_refl _) (.bool true)
            have HK9 : Hid (_) := hK9
            clear hK9 HKG hKr hx hgm
            go_wp2
            go_roundw
            case rel => exact ⟨t + 1, by omega, by go_num, HK9.out, hb9⟩
            case measure => simp [intOf]; omega
          · have hte : t = sr.length := by omega
            subst hte
            rw [List.take_length] at hKt
            clear hx hgm hKr
            go_wp2
            go_roundw
            case rel => exact ⟨k + 1, by omega, by rw [HMN.out], hKt.congr (fun j _ => by rw [HKG.out j, if_pos (by trivial)]), hbt⟩
            case measure => show ((m : Int) - 1 + 1).toNat < ((m : Int) + 1).toNat; omega
    · have hke : k = ps.length := by omega
      subst hke
      have hz : (ps.length : Int) - 1 - (ps.length : Int) = -1 := by omega
      rw [hz]
      go_wp2
      go_ret
      exact ⟨⟨w1.heap.size, rfl, hb1.size, hKr⟩, below_step hb1 hbr⟩
end Go.Proofs.YtaenpgdmiaekcaaGreatDoor
