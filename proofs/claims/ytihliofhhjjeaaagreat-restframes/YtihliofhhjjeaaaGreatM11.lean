/- SizeOf2, Fol, Paint, Paint2, ImgRow, Passes, Follow: joined, in this order. -/
import Derived.Test.YtihliofhhjjeaaaGreatM10
import Derived.Test.YtihliofhhjjeaaaGreatM05
import Derived.Deep.RegionHeld3
set_option maxRecDepth 100000
namespace Go.Proofs.YtihliofhhjjeaaaGreat
open Go.RowKit Im
set_option maxHeartbeats 1000000 in
theorem sizeOf_two (Op : Int) (hop : Op = 4 ∨ Op = 5 ∨ Op = 6 ∨ Op = 7) (W H S O : Int) (fa : Option Addr) (flen fcap : Nat) (To A B K : Int) (la : Option Addr) (ll lc : Nat) (b off len cap : Nat) (w : World) (zw zh yw yh : Int) (hb : b < w.heap.size) (hl0 : 0 < len) (hlI : (1 : Int) < (len : Int))
    (d0 : w.cell? ⟨b, off, none⟩ = some (.int .i64 zw)) (d1 : w.cell? ⟨b, off + 1, none⟩ = some (.int .i64 zh)) (d2 : w.cell? ⟨b, off + 2, none⟩ = some (.int .i64 yw)) (d3 : w.cell? ⟨b, off + 2 + 1, none⟩ = some (.int .i64 yh)) (t : Bool) (ht : decide ((zw, zh) = (yw, yh)) = t) :
    Calls Tryz.prog 65 #[.agg #[.int .i64 W, .int .i64 H, .int .i64 S, .int .i64 O, .slice fa flen fcap], .agg #[.int .i64 Op, .int .i64 To, .int .i64 A, .int .i64 B, .int .i64 K, .slice la ll lc], .slice (some ⟨b, off, none⟩) len cap] w fun e w' => e = .returned (.tuple #[.agg #[.int .i64 zw, .int .i64 zh], .bool t]) ∧ Below w.heap.size w w' := by
  have e0 := fun u v => sz_cells W H S O fa flen fcap Op To A B K la ll lc u v hb d0
  have e1 := fun u v => sz_cells W H S O fa flen fcap Op To A B K la ll lc u v hb d1
  have e2 := fun u v => sz_cells W H S O fa flen fcap Op To A B K la ll lc u v hb d2
  have e3 := fun u v => sz_cells W H S O fa flen fcap Op To A B K la ll lc u v hb d3
  have hc : (yw = zw ∧ yh = zh ∧ t = true) ∨ (yw = zw ∧ (zh == yh) = false ∧ t = false) ∨ ((zw == yw) = false ∧ t = false) := by
    rw [← ht]
    by_cases a1 : zw = yw <;> by_cases a2 : zh = yh <;> simp [a1, a2]
  clear ht
  rcases hc with ⟨rfl, rfl, rfl⟩ | ⟨rfl, hn, rfl⟩ | ⟨hn, rfl⟩
  · rcases hop with rfl | rfl | rfl | rfl
    all_goals
      go_enter Tryz.func65, Tryz.ntmps65
      go_wp2
      go_region_held3 (fun w' => w'.cell? ⟨b, off, none⟩ = some (.int .i64 yw) ∧ w'.cell? ⟨b, off + 1, none⟩ = some (.int .i64 yh) ∧ w'.cell? ⟨b, off + 2, none⟩ = some (.int .i64 yw) ∧ w'.cell? ⟨b, off + 2 + 1, none⟩ = some (.int .i64 yh))
        (exact ⟨e0 _ _, e1 _ _, e2 _ _, e3 _ _⟩)
        (fail)
      all_goals go_wp2
      all_goals exact bodyPost_ret (by simp [results, Tryz.results65, go_sem]) rfl ⟨rfl, (sz_below w _ _ _).drew⟩
  · rcases hop with rfl | rfl | rfl | rfl
    all_goals
      go_enter Tryz.func65, Tryz.ntmps65
      go_wp2
      go_region_held3 (fun w' => w'.cell? ⟨b, off, none⟩ = some (.int .i64 yw) ∧ w'.cell? ⟨b, off + 1, none⟩ = some (.int .i64 zh) ∧ w'.cell? ⟨b, off + 2, none⟩ = some (.int .i64 yw) ∧ w'.cell? ⟨b, off + 2 + 1, none⟩ = some (.int .i64 yh))
        (exact ⟨e0 _ _, e1 _ _, e2 _ _, e3 _ _⟩)
        (fail)
      all_goals go_wp2
      all_goals exact bodyPost_ret (by simp [results, Tryz.results65, go_sem]) rfl ⟨rfl, (sz_below w _ _ _).drew⟩
  · rcases hop with rfl | rfl | rfl | rfl
    all_goals
      go_enter Tryz.func65, Tryz.ntmps65
      go_wp2
      go_region_held3 (fun w' => w'.cell? ⟨b, off, none⟩ = some (.int .i64 zw) ∧ w'.cell? ⟨b, off + 1, none⟩ = some (.int .i64 zh) ∧ w'.cell? ⟨b, off + 2, none⟩ = some (.int .i64 yw) ∧ w'.cell? ⟨b, off + 2 + 1, none⟩ = some (.int .i64 yh))
        (exact ⟨e0 _ _, e1 _ _, e2 _ _, e3 _ _⟩)
        (fail)
      all_goals go_wp2
      all_goals exact bodyPost_ret (by simp [results, Tryz.results65, go_sem]) rfl ⟨rfl, (sz_below w _ _ _).drew⟩
theorem sizeOf_any (Op W H S O : Int) (fa : Option Addr) (flen fcap : Nat) (To A B K : Int) (la : Option Addr) (ll lc : Nat) {a : Option Addr} {len : Nat} (cap : Nat) {zs : List Sz} {w : World} (hz : Zs w a len zs) (hk : knownB Op = true) (hA : hasA Op = true → 1 ≤ len) (hB : hasB Op = true → 2 ≤ len) (hZ : ∀ z ∈ zs, ZB z) :
    Calls Tryz.prog 65 #[.agg #[.int .i64 W, .int .i64 H, .int .i64 S, .int .i64 O, .slice fa flen fcap], .agg #[.int .i64 Op, .int .i64 To, .int .i64 A, .int .i64 B, .int .i64 K, .slice la ll lc], .slice a len cap] w fun e w' => e = .returned (.tuple #[.agg #[.int .i64 (sizeP W H Op zs).1, .int .i64 (sizeP W H Op zs).2], .bool (fitP Op zs)]) ∧ Below w.heap.size w w' := by
  have hl := hz.leng
  by_cases h1 : Op = 1 ∨ Op = 2
  · have e1 : sizeP W H Op zs = (W, H) := by unfold sizeP; rw [if_pos h1]
    have e2 : fitP Op zs = true := by unfold fitP; rw [if_neg (by omega), if_neg (by omega), if_neg (by simp [hasB, withinB]; omega)]
    rw [e1, e2]
    exact sizeOf_new Op h1 W H S O fa flen fcap To A B K la ll lc a len cap w
  · have hA1 : hasA Op = true := by simp [knownB, withinB] at hk; simp [hasA, withinB]; omega
    have hlen := hA hA1
    have hb0 := hZ _ (getD_mem (l := zs) (k := 0) (by omega) Sz.zero)
    obtain ⟨b, off, rfl, hb, d0, d1⟩ := hz.nth (k := 0) (by omega)
    rw [Nat.zero_mul, Nat.add_zero] at d0 d1
    have hwr : ∀ x : Int, 0 ≤ x → x ≤ 64 → IntKind.i64.wrap x = x := fun x g1 g2 => by rw [IntKind.wrap_i64]; omega
    unfold sizeP fitP
    rw [if_neg h1]
    by_cases h2 : Op = 11
    · subst h2
      rw [if_pos rfl, if_pos rfl]
      generalize zs.getD 0 Sz.zero = z at hb0 d0 d1 ⊢
      obtain ⟨zw, zh⟩ := z
      obtain ⟨⟨a1, a2⟩, ⟨a3, a4⟩⟩ := hb0
      dsimp only at a1 a2 a3 a4 d0 d1 ⊢
      have m1 : zw.tmod 2 = zw % 2 := Int.tmod_eq_emod_of_nonneg (by omega)
      have m2 : zh.tmod 2 = zh % 2 := Int.tmod_eq_emod_of_nonneg (by omega)
      have q1 : zw.tdiv 2 = zw / 2 := Int.tdiv_eq_ediv_of_nonneg (by omega)
      have q2 : zh.tdiv 2 = zh / 2 := Int.tdiv_eq_ediv_of_nonneg (by omega)
      exact sizeOf_down W H S O fa flen fcap To A B K la ll lc b off len cap w zw zh hb (by omega) d0 d1 _ _ _ _ q1 q2 (hwr _ (by omega) (by omega)) (hwr _ (by omega) (by omega)) m1 m2 (by omega) (by omega)
    · rw [if_neg h2, if_neg h2]
      by_cases h3 : Op = 12
      · subst h3
        rw [if_pos rfl, if_pos rfl]
        generalize zs.getD 0 Sz.zero = z at hb0 d0 d1 ⊢
        obtain ⟨zw, zh⟩ := z
        obtain ⟨⟨a1, a2⟩, ⟨a3, a4⟩⟩ := hb0
        dsimp only at a1 a2 a3 a4 d0 d1 ⊢
        obtain ⟨m, hm⟩ : ∃ m, (if zw < zh then zh else zw) = m := ⟨_, rfl⟩
        have hm1 : (decide (2 * zw ≤ 16) && decide (2 * zh ≤ 16)) = decide (2 * m ≤ 16) := by
          rw [← hm, ← Bool.decide_and]
          refine decide_eq_decide.2 ?_
          split <;> omega
        have hm2 : 1 ≤ m ∧ m ≤ 16 := by rw [← hm]; split <;> omega
        rw [hm1]
        exact sizeOf_up W H S O fa flen fcap To A B K la ll lc b off len cap w zw zh hb (by omega) d0 d1 m hm (hwr _ (by omega) (by omega)) (hwr _ (by omega) (by omega)) (hwr _ (by omega) (by omega))
      · rw [if_neg h3, if_neg h3]
        by_cases h4 : hasB Op = true
        · rw [if_pos h4]
          have h5 := hB h4
          have hop : Op = 4 ∨ Op = 5 ∨ Op = 6 ∨ Op = 7 := by simp [hasB, withinB] at h4; omega
          obtain ⟨b', off', e, _, d2, d3⟩ := hz.nth (k := 1) (by omega)
          cases e
          rw [Nat.one_mul] at d2 d3
          generalize zs.getD 0 Sz.zero = z at d0 d1 ⊢
          generalize zs.getD 1 Sz.zero = y at d2 d3 ⊢
          obtain ⟨zw, zh⟩ := z
          obtain ⟨yw, yh⟩ := y
          exact sizeOf_two Op hop W H S O fa flen fcap To A B K la ll lc b off len cap w zw zh yw yh hb (by omega) (by omega) d0 d1 d2 d3 _ rfl
        · rw [if_neg h4]
          have hop : Op = 3 ∨ Op = 8 ∨ Op = 9 ∨ Op = 10 ∨ Op = 13 := by
            simp [knownB, withinB] at hk
            simp [hasB, withinB] at h4
            omega
          exact sizeOf_same Op hop W H S O fa flen fcap To A B K la ll lc b off len cap w _ _ hb (by omega) d0 d1
end Go.Proofs.YtihliofhhjjeaaaGreat
namespace Go.Proofs.YtihliofhhjjeaaaGreat
open Go.RowKit Im
theorem rows_apart {w : World} {b1 b2 : Nat} {e1 e2 : TypeId} {s1 s2 : Nat} {v1 v2 : Value} {n1 n2 : Nat} {x1 x2 : List Value} (h1 : w.ownsRow b1 e1 s1 v1 n1 x1) (h2 : w.ownsRow b2 e2 s2 v2 n2 x2) (he : e1 ≠ e2) : v1.ownBlock = none ∨ v1.ownBlock ≠ v2.ownBlock := by
  rcases h1.2 with ⟨rfl, _⟩ | ⟨g1, c1, r1, rfl, _, k1, _⟩
  · exact .inl rfl
  · rcases h2.2 with ⟨rfl, _⟩ | ⟨g2, c2, r2, rfl, _, k2, _⟩
    · exact .inr (by simp [Value.ownBlock])
    · refine .inr fun e => he ?_
      have e' : g1 = g2 := by simpa [Value.ownBlock] using e
      subst e'
      rw [k1] at k2
      cases k2
      rfl
theorem grown_cell {w w' : World} {row : Option Nat} (hg : w.grownBy w' row) {b : Nat} (hb : b < w.heap.size) (hne : some b ≠ row) (o : Nat) : w'.cell? ⟨b, o, none⟩ = w.cell? ⟨b, o, none⟩ ∧ w'.frozen? ⟨b, o, none⟩ = w.frozen? ⟨b, o, none⟩ :=
  ⟨World.cell?_of_block (hg.block b hb hne), World.frozen?_of_block (hg.block b hb hne)⟩
theorem set_same {w : World} {a : Addr} {v u : Value} (h : w.cell? a = some u) : (w.setCell a v).cell? a = some v := World.cell?_setCell_same' w a v (by rw [h]; rfl)
theorem set_other {w : World} {a b : Addr} (v : Value) (h : a ≠ b) : (w.setCell a v).cell? b = w.cell? b := World.cell?_setCell_other w a b v h
def OwnsLL (base : Nat) (w : World) (v : Value) (ss : List (List Int)) : Prop :=
  ∃ us : List Value, w.ownsRow base 25 1 v ss.length us ∧ us.length = ss.length ∧ ∀ (j : Nat) (x : List Int), ss[j]? = some x → ∃ u, us[j]? = some u ∧ Owns base w u x
theorem OwnsLL.nil (base : Nat) (w : World) : OwnsLL base w (.slice none 0 0) [] := ⟨[], World.ownsRow_nil _ _ _ _, rfl, fun j x h => by simp at h⟩
theorem OwnsLL.kept {base : Nat} {w w' : World} {v : Value} {ss : List (List Int)} {row : Option Nat} (h : OwnsLL base w v ss) (hg : w.grownBy w' row) (hne : ∀ e s u n xs, e ≠ 80 → w.ownsRow base e s u n xs → u.ownBlock = none ∨ u.ownBlock ≠ row) : OwnsLL base w' v ss := by
  obtain ⟨us, h1, h2, h3⟩ := h
  refine ⟨us, h1.kept hg (hne _ _ _ _ _ (by decide) h1), h2, fun j x hj => ?_⟩
  obtain ⟨u, hu, ho⟩ := h3 j x hj
  exact ⟨u, hu, World.ownsRow.kept ho hg (hne _ _ _ _ _ (by decide) ho)⟩
theorem ownsRow_below {base B : Nat} {w w' : World} {e : TypeId} {s : Nat} {v : Value} {n : Nat} {xs : List Value} (h : w.ownsRow base e s v n xs) (hb : Below B w w') (hB : w.heap.size ≤ B) : w'.ownsRow base e s v n xs := by
  obtain ⟨h1, h2⟩ := h
  refine ⟨h1, ?_⟩
  rcases h2 with h2 | ⟨g, cap, cur, hv, hg, hh, r⟩
  · exact .inl h2
  · refine .inr ⟨g, cap, cur, hv, hg, ?_, r⟩
    rw [hb.block g ?_]
    · exact hh
    · rcases Nat.lt_or_ge g w.heap.size with h | h
      · omega
      · rw [Array.getElem?_eq_none h] at hh; cases hh
theorem OwnsLL.below {base : Nat} {w w' : World} {v : Value} {ss : List (List Int)} (h : OwnsLL base w v ss) (hb : Below w.heap.size w w') : OwnsLL base w' v ss := by
  obtain ⟨us, h1, h2, h3⟩ := h
  refine ⟨us, ownsRow_below h1 hb (Nat.le_refl _), h2, fun j x hj => ?_⟩
  obtain ⟨u, hu, ho⟩ := h3 j x hj
  exact ⟨u, hu, ownsRow_below ho hb (Nat.le_refl _)⟩
theorem OwnsLL.setCell {base : Nat} {w : World} {v : Value} {ss : List (List Int)} (h : OwnsLL base w v ss) {p : Addr} (hp : p.block < base) (u : Value) : OwnsLL base (w.setCell p u) v ss := by
  obtain ⟨us, h1, h2, h3⟩ := h
  refine ⟨us, ownsRow_setCell_below h1 hp _, h2, fun j x hj => ?_⟩
  obtain ⟨u', hu, ho⟩ := h3 j x hj
  exact ⟨u', hu, ownsRow_setCell_below ho hp _⟩
structure Fol (C : Nat) (w0 wr : World) (v1 v2 : Value) (zs : List Sz) (ss : List (List Int)) (q : Int → Int) : Prop where
  bel : Below C w0 wr
  siz : C + 1 < wr.heap.size
  c0 : wr.cell? ⟨C, 0, none⟩ = some v1
  c1 : wr.cell? ⟨C, 1, none⟩ = some v2
  c2 : wr.cell? ⟨C, 2, none⟩ = some (.int .i64 0)
  cf : ∀ o, wr.frozen? ⟨C, o, none⟩ = false
  sl : ∀ m : Nat, m < 8 → wr.cell? ⟨C + 1, m, none⟩ = some (.int .i64 (q m + 1))
  sf : ∀ o, wr.frozen? ⟨C + 1, o, none⟩ = false
  ownZ : OwnsZ (C + 2) wr v1 zs
  ownS : OwnsLL (C + 2) wr v2 ss
theorem Fol.below {C : Nat} {w0 wr w' : World} {v1 v2 : Value} {zs : List Sz} {ss : List (List Int)} {q : Int → Int} (h : Fol C w0 wr v1 v2 zs ss q) (hb : Below wr.heap.size wr w') : Fol C w0 w' v1 v2 zs ss q := by
  have hs := h.siz
  have e := fun o => hb.cell (p := ⟨C, o, none⟩) (by show C < _; omega)
  have f := fun o => hb.frozen (p := ⟨C, o, none⟩) (by show C < _; omega)
  have e' := fun o => hb.cell (p := ⟨C + 1, o, none⟩) hs
  have f' := fun o => hb.frozen (p := ⟨C + 1, o, none⟩) hs
  exact ⟨h.bel.trans (hb.mono (by omega)), Nat.lt_of_lt_of_le hs hb.size, (e 0).trans h.c0, (e 1).trans h.c1, (e 2).trans h.c2, fun o => (f o).trans (h.cf o), fun m hm => (e' m).trans (h.sl m hm), fun o => (f' o).trans (h.sf o), ownsRow_below h.ownZ hb (Nat.le_refl _), h.ownS.below hb⟩
theorem Fol.alloc {C : Nat} {w0 wr : World} {v1 v2 : Value} {zs : List Sz} {ss : List (List Int)} {q : Int → Int} (h : Fol C w0 wr v1 v2 zs ss q) (o : Obj) : Fol C w0 (wr.alloc o) v1 v2 zs ss q := h.below ((Below.refl _ _).alloc (Nat.le_refl _) _)
theorem Fol.drew {C : Nat} {w0 wr : World} {v1 v2 : Value} {zs : List Sz} {ss : List (List Int)} {q : Int → Int} (h : Fol C w0 wr v1 v2 zs ss q) : Fol C w0 wr.drew v1 v2 zs ss q := h.below (Below.refl _ _).drew
theorem Fol.pushZ {C : Nat} {w0 wr w3 : World} {v1 v2 v' : Value} {zs : List Sz} {ss : List (List Int)} {q : Int → Int} {z : Sz} (h : Fol C w0 wr v1 v2 zs ss q) (hg : wr.grownBy w3 v1.ownBlock)
    (h' : w3.ownsRow (C + 2) 80 2 v' (zs.length + 1) (zcells zs ++ [.int .i64 z.1, .int .i64 z.2])) : w3.cell? ⟨C, 0, none⟩ = some v1 ∧ w3.frozen? ⟨C, 0, none⟩ = false ∧ Fol C w0 (w3.setCell ⟨C, 0, none⟩ v') v' v2 (zs ++ [z]) ss q := by
  have hs := h.siz
  have hrow : ∀ k, v1.ownBlock = some k → C + 2 ≤ k := fun k hk => (World.ownsRow.lt (w := wr) h.ownZ k hk).1
  have n0 : some C ≠ v1.ownBlock := fun e => by have := hrow C e.symm; omega
  have n1 : some (C + 1) ≠ v1.ownBlock := fun e => by have := hrow (C + 1) e.symm; omega
  have g0 := fun o => grown_cell hg (b := C) (by omega) n0 o
  have g1 := fun o => grown_cell hg (b := C + 1) (by omega) n1 o
  refine ⟨(g0 0).1.trans h.c0, (g0 0).2.trans (h.cf 0), ?_⟩
  have hw3 : Below C w0 w3 := h.bel.grown hg (by omega) (fun k hk => by have := hrow k hk; omega)
  refine ⟨hw3.setCell (Nat.le_refl _) _, ?_, ?_, ?_, ?_, fun o => ?_, fun m hm => ?_, fun o => ?_, ?_, ?_⟩
  · have := hg.size; simp [World.setCell]; omega
  · exact set_same ((g0 0).1.trans h.c0)
  · rw [set_other _ (by simp)]; exact (g0 1).1.trans h.c1
  · rw [set_other _ (by simp)]; exact (g0 2).1.trans h.c2
  · rw [World.frozen?_setCell]; exact (g0 o).2.trans (h.cf o)
  · rw [set_other _ (by simp)]; exact (g1 m).1.trans (h.sl m hm)
  · rw [World.frozen?_setCell]; exact (g1 o).2.trans (h.sf o)
  · refine ownsRow_setCell_below (show w3.ownsRow (C + 2) 80 2 v' (zs ++ [z]).length (zcells (zs ++ [z])) by rw [zcells_snoc]; simpa using h') (by simp) _
  · refine OwnsLL.setCell (h.ownS.kept hg fun e s u n xs he ho => rows_apart ho h.ownZ he) (by simp) _
theorem Fol.pushS {C : Nat} {w0 wr w3 : World} {v1 v2 v' u : Value} {zs : List Sz} {ss : List (List Int)} {q : Int → Int} {is : List Int} (h : Fol C w0 wr v1 v2 zs ss q) (hu : Owns (C + 2) wr u is) (hg : wr.grownBy w3 v2.ownBlock)
    {us : List Value} (hus : wr.ownsRow (C + 2) 25 1 v2 ss.length us) (hul : us.length = ss.length) (hue : ∀ (j : Nat) (x : List Int), ss[j]? = some x → ∃ u, us[j]? = some u ∧ Owns (C + 2) wr u x)
    (h' : w3.ownsRow (C + 2) 25 1 v' (ss.length + 1) (us ++ [u])) : w3.cell? ⟨C, 1, none⟩ = some v2 ∧ w3.frozen? ⟨C, 1, none⟩ = false ∧ Fol C w0 (w3.setCell ⟨C, 1, none⟩ v') v1 v' zs (ss ++ [is]) q := by
  have hs := h.siz
  have hrow : ∀ k, v2.ownBlock = some k → C + 2 ≤ k := fun k hk => (World.ownsRow.lt (w := wr) hus k hk).1
  have n0 : some C ≠ v2.ownBlock := fun e => by have := hrow C e.symm; omega
  have n1 : some (C + 1) ≠ v2.ownBlock := fun e => by have := hrow (C + 1) e.symm; omega
  have g0 := fun o => grown_cell hg (b := C) (by omega) n0 o
  have g1 := fun o => grown_cell hg (b := C + 1) (by omega) n1 o
  refine ⟨(g0 1).1.trans h.c1, (g0 1).2.trans (h.cf 1), ?_⟩
  have hw3 : Below C w0 w3 := h.bel.grown hg (by omega) (fun k hk => by have := hrow k hk; omega)
  have keep : ∀ {u : Value} {is : List Int}, Owns (C + 2) wr u is → Owns (C + 2) (w3.setCell ⟨C, 1, none⟩ v') u is := fun ho =>
    ownsRow_setCell_below (World.ownsRow.kept ho hg (rows_apart ho hus (by decide))) (by simp) _
  refine ⟨hw3.setCell (Nat.le_refl _) _, ?_, ?_, ?_, ?_, fun o => ?_, fun m hm => ?_, fun o => ?_, ?_, ?_⟩
  · have := hg.size; simp [World.setCell]; omega
  · rw [set_other _ (by simp)]; exact (g0 0).1.trans h.c0
  · exact set_same ((g0 1).1.trans h.c1)
  · rw [set_other _ (by simp)]; exact (g0 2).1.trans h.c2
  · rw [World.frozen?_setCell]; exact (g0 o).2.trans (h.cf o)
  · rw [set_other _ (by simp)]; exact (g1 m).1.trans (h.sl m hm)
  · rw [World.frozen?_setCell]; exact (g1 o).2.trans (h.sf o)
  · exact ownsRow_setCell_below (World.ownsRow.kept h.ownZ hg (rows_apart h.ownZ hus (by decide))) (by simp) _
  · refine ⟨us ++ [u], ownsRow_setCell_below (by simpa using h') (by simp) _, by simp [hul], fun j x hj => ?_⟩
    by_cases hjl : j < ss.length
    · rw [List.getElem?_append_left hjl] at hj
      obtain ⟨u', hu', ho'⟩ := hue j x hj
      exact ⟨u', by rw [List.getElem?_append_left (by omega)]; exact hu', keep ho'⟩
    · have hje : j = ss.length := by
        rcases Nat.lt_or_ge j (ss ++ [is]).length with hh | hh
        · simp at hh; omega
        · rw [List.getElem?_eq_none hh] at hj; cases hj
      subst hje
      have : x = is := by simpa using hj.symm
      subst this
      exact ⟨u, by rw [← hul]; simp, keep hu⟩
theorem Fol.put {C : Nat} {w0 wr : World} {v1 v2 : Value} {zs : List Sz} {ss : List (List Int)} {q q' : Int → Int} (h : Fol C w0 wr v1 v2 zs ss q) (m : Nat) (n : Int) (hm : m < 8) (hq : ∀ j : Nat, q' j = if (m : Int) = j then n else q j) : Fol C w0 (wr.setCell ⟨C + 1, m, none⟩ (.int .i64 (n + 1))) v1 v2 zs ss q' := by
  have hs := h.siz
  refine ⟨h.bel.setCell (by simp) _, by simpa [World.setCell] using hs, ?_, ?_, ?_, fun o => ?_, fun j hj => ?_, fun o => ?_, ?_, ?_⟩
  · rw [set_other _ (by simp)]; exact h.c0
  · rw [set_other _ (by simp)]; exact h.c1
  · rw [set_other _ (by simp)]; exact h.c2
  · rw [World.frozen?_setCell]; exact h.cf o
  · rw [hq j]
    by_cases e : m = j
    · subst e
      rw [if_pos rfl]
      exact set_same (h.sl m hm)
    · rw [if_neg (by omega), set_other _ (fun h => e (by injection h))]
      exact h.sl j hj
  · rw [World.frozen?_setCell]; exact h.sf o
  · exact ownsRow_setCell_below h.ownZ (by simp) _
  · exact h.ownS.setCell (by simp) _
end Go.Proofs.YtihliofhhjjeaaaGreat
namespace Go.Proofs.YtihliofhhjjeaaaGreat
open Go.RowKit Im
structure Imgs (base : Nat) (w : World) (a : Option Addr) (len : Nat) (rs : List Res) : Prop where
  leng : rs.length = len
  big : len ≤ 9223372036854775807
  cells : rs = [] ∨ ∃ b off, a = some ⟨b, off, none⟩ ∧ b < w.heap.size ∧ ∀ j, j < len → ∃ pa cap, w.cell? ⟨b, off + j * 3, none⟩ = some (.int .i64 (rs.getD j (noRes 0)).W) ∧ w.cell? ⟨b, off + j * 3 + 1, none⟩ = some (.int .i64 (rs.getD j (noRes 0)).H) ∧ w.cell? ⟨b, off + j * 3 + 2, none⟩ = some (.slice pa (rs.getD j (noRes 0)).ps.length cap) ∧ Ints base w pa (rs.getD j (noRes 0)).ps.length (rs.getD j (noRes 0)).ps
theorem Imgs.below {base : Nat} {w w' : World} {a : Option Addr} {len : Nat} {rs : List Res} (h : Imgs base w a len rs) (hb : Below w.heap.size w w') : Imgs base w' a len rs := by
  refine ⟨h.leng, h.big, ?_⟩
  rcases h.cells with e | ⟨b, off, ha, hl, hc⟩
  · exact .inl e
  · refine .inr ⟨b, off, ha, Nat.lt_of_lt_of_le hl hb.size, fun j hj => ?_⟩
    obtain ⟨pa, cap, c0, c1, c2, hi⟩ := hc j hj
    exact ⟨pa, cap, (hb.cell (p := ⟨b, off + j * 3, none⟩) hl).trans c0, (hb.cell (p := ⟨b, off + j * 3 + 1, none⟩) hl).trans c1, (hb.cell (p := ⟨b, off + j * 3 + 2, none⟩) hl).trans c2, hi.below (Nat.le_refl _) hb⟩
theorem Imgs.nth {base : Nat} {w : World} {a : Option Addr} {len : Nat} {rs : List Res} (h : Imgs base w a len rs) {k : Nat} (hk : k < len) : ∃ b off pa cap, a = some ⟨b, off, none⟩ ∧ b < w.heap.size ∧ w.cell? ⟨b, off + k * 3, none⟩ = some (.int .i64 (rs.getD k (noRes 0)).W) ∧ w.cell? ⟨b, off + k * 3 + 1, none⟩ = some (.int .i64 (rs.getD k (noRes 0)).H) ∧ w.cell? ⟨b, off + k * 3 + 2, none⟩ = some (.slice pa (rs.getD k (noRes 0)).ps.length cap) ∧ Ints base w pa (rs.getD k (noRes 0)).ps.length (rs.getD k (noRes 0)).ps := by
  rcases h.cells with e | ⟨b, off, ha, hl, hc⟩
  · have := h.leng; subst e; simp at this; omega
  · obtain ⟨pa, cap, r⟩ := hc k hk
    exact ⟨b, off, pa, cap, ha, hl, r⟩
abbrev pw (w : World) (Op To A B K : Int) (la : Option Addr) (ll lc : Nat) (zw zh : Int) : World :=
  ((w.alloc (.cells #[.int .i64 Op, .int .i64 To, .int .i64 A, .int .i64 B, .int .i64 K, .slice la ll lc] 62)).alloc (.cells #[.int .i64 zw, .int .i64 zh] 80)).alloc (.cells #[.int .i64 0, .int .i64 0, .slice none 0 0] 31)
structure IBox (w : World) (b : Nat) : Prop where
  lt : b < w.heap.size
  c0 : w.cell? ⟨b, 0, none⟩ = some (.int .i64 0)
  c1 : w.cell? ⟨b, 1, none⟩ = some (.int .i64 0)
  c2 : w.cell? ⟨b, 2, none⟩ = some (.slice none 0 0)
  f0 : w.frozen? ⟨b, 0, none⟩ = false
  f1 : w.frozen? ⟨b, 1, none⟩ = false
  f2 : w.frozen? ⟨b, 2, none⟩ = false
theorem IBox.new (w : World) : IBox (w.alloc (.cells #[.int .i64 0, .int .i64 0, .slice none 0 0] 31)) w.heap.size :=
  ⟨by simp, by simp [go_sem], by simp [go_sem], by simp [go_sem], by simp [go_sem], by simp [go_sem], by simp [go_sem]⟩
theorem IBox.below {w w' : World} {b B : Nat} (h : IBox w b) (hb : Below B w w') (hB : b < B) (hs : w.heap.size ≤ w'.heap.size) : IBox w' b :=
  ⟨Nat.lt_of_lt_of_le h.lt hs, (hb.cell (p := ⟨b, 0, none⟩) hB).trans h.c0, (hb.cell (p := ⟨b, 1, none⟩) hB).trans h.c1, (hb.cell (p := ⟨b, 2, none⟩) hB).trans h.c2, (hb.frozen (p := ⟨b, 0, none⟩) hB).trans h.f0, (hb.frozen (p := ⟨b, 1, none⟩) hB).trans h.f1, (hb.frozen (p := ⟨b, 2, none⟩) hB).trans h.f2⟩
theorem pw_below (w : World) (Op To A B K : Int) (la : Option Addr) (ll lc : Nat) (zw zh : Int) : Below w.heap.size w (pw w Op To A B K la ll lc zw zh) := below_box (below_box (below_box (Below.refl _ _) _) _) _
theorem pw_size (w : World) (Op To A B K : Int) (la : Option Addr) (ll lc : Nat) (zw zh : Int) : (pw w Op To A B K la ll lc zw zh).heap.size = w.heap.size + 3 := by simp [pw]
theorem pw_box (w : World) (Op To A B K : Int) (la : Option Addr) (ll lc : Nat) (zw zh : Int) : IBox (pw w Op To A B K la ll lc zw zh) (w.heap.size + 2) := by
  have := IBox.new ((w.alloc (.cells #[.int .i64 Op, .int .i64 To, .int .i64 A, .int .i64 B, .int .i64 K, .slice la ll lc] 62)).alloc (.cells #[.int .i64 zw, .int .i64 zh] 80))
  simpa using this
theorem paint_told {w wx w' : World} {b : Nat} {r : Res} {ra : Option Addr} {rc : Nat} (hx : Below w.heap.size w wx) (hlt : b < wx.heap.size) (hb0 : w.heap.size ≤ b) (hi : Ints wx.heap.size w' ra r.ps.length r.ps) (hb : Below wx.heap.size wx w') :
    Told w r (.returned (.tuple #[.agg #[.int .i64 r.W, .int .i64 r.H, .slice ra r.ps.length rc], .int .i64 r.E])) (((w'.setCell ⟨b, 0, none⟩ (.int .i64 r.W)).setCell ⟨b, 1, none⟩ (.int .i64 r.H)).setCell ⟨b, 2, none⟩ (.slice ra r.ps.length rc)) :=
  ⟨ra, rc, rfl, (((hi.setCell (p := ⟨b, 0, none⟩) hlt _).setCell (p := ⟨b, 1, none⟩) hlt _).setCell (p := ⟨b, 2, none⟩) hlt _).mono hx.size, (((below_step hx hb).setCell (p := ⟨b, 0, none⟩) hb0 _).setCell (p := ⟨b, 1, none⟩) hb0 _).setCell (p := ⟨b, 2, none⟩) hb0 _⟩
set_option maxHeartbeats 1000000 in
theorem paint_make (Op To A B K : Int) (la : Option Addr) (ll lc : Nat) (zw zh : Int) (fa : Option Addr) (flen fcap : Nat) (w : World) (h12 : Op = 1 ∨ Op = 2) {r : Res} (hr : makeRes Op zw zh K = r) :
    Calls Tryz.prog 35 #[.agg #[.int .i64 Op, .int .i64 To, .int .i64 A, .int .i64 B, .int .i64 K, .slice la ll lc], .agg #[.int .i64 zw, .int .i64 zh], .slice fa flen fcap] w (Told w r) := by
  have hm := fun wx => make_told wx hr
  have hbx := pw_below w Op To A B K la ll lc zw zh
  have hbox := pw_box w Op To A B K la ll lc zw zh
  have hsz := pw_size w Op To A B K la ll lc zw zh
  clear hr
  rcases h12 with rfl | rfl
  all_goals
    go_enter Tryz.func35, Tryz.ntmps35
    go_wp2_with fail
    refine (hm _).mono ?_
    rintro e w' ⟨ra, rc, rfl, hri, hb⟩
    obtain ⟨_, c0, c1, c2, f0, f1, f2⟩ := hbox.below hb hbox.lt hb.size
    clear hm
    have hT := paint_told (rc := rc) hbx hbox.lt (by omega) hri hb
    have HT : Hid (_) := hT
    clear hT hri hb hbx hbox
    go_wp2
    refine bodyPost_ret (v := .tuple #[.agg #[.int .i64 r.W, .int .i64 r.H, .slice ra r.ps.length rc], .int .i64 r.E]) (by simp [results, Tryz.results35, go_sem, c0, c1, c2]) rfl HT.out
end Go.Proofs.YtihliofhhjjeaaaGreat
namespace Go.Proofs.YtihliofhhjjeaaaGreat
open Go.RowKit Im
theorem keepI {W3 w' : World} {N b off pb i j : Nat} {x0 x1 x2 y0 y1 : Value} (h : Below N W3 w') (hb : b < N) (hp : pb < N) (e0 : W3.cell? ⟨b, off, none⟩ = some x0) (e1 : W3.cell? ⟨b, off + 1, none⟩ = some x1) (e2 : W3.cell? ⟨b, off + 2, none⟩ = some x2) (p0 : W3.cell? ⟨pb, i, none⟩ = some y0) (p1 : W3.cell? ⟨pb, j, none⟩ = some y1) :
    w'.cell? ⟨b, off, none⟩ = some x0 ∧ w'.cell? ⟨b, off + 1, none⟩ = some x1 ∧ w'.cell? ⟨b, off + 2, none⟩ = some x2 ∧ w'.cell? ⟨pb, i, none⟩ = some y0 ∧ w'.cell? ⟨pb, j, none⟩ = some y1 :=
  ⟨(h.cell (p := ⟨b, off, none⟩) hb).trans e0, (h.cell (p := ⟨b, off + 1, none⟩) hb).trans e1, (h.cell (p := ⟨b, off + 2, none⟩) hb).trans e2, (h.cell (p := ⟨pb, i, none⟩) hp).trans p0, (h.cell (p := ⟨pb, j, none⟩) hp).trans p1⟩
theorem keepI2 {W3 w' : World} {N b off pb i : Nat} {x0 x1 x2 x3 x4 x5 y0 : Value} (h : Below N W3 w') (hb : b < N) (hp : pb < N) (e0 : W3.cell? ⟨b, off, none⟩ = some x0) (e1 : W3.cell? ⟨b, off + 1, none⟩ = some x1) (e2 : W3.cell? ⟨b, off + 2, none⟩ = some x2) (e3 : W3.cell? ⟨b, off + 3, none⟩ = some x3) (e4 : W3.cell? ⟨b, off + 3 + 1, none⟩ = some x4) (e5 : W3.cell? ⟨b, off + 3 + 2, none⟩ = some x5) (p0 : W3.cell? ⟨pb, i, none⟩ = some y0) :
    w'.cell? ⟨b, off, none⟩ = some x0 ∧ w'.cell? ⟨b, off + 1, none⟩ = some x1 ∧ w'.cell? ⟨b, off + 2, none⟩ = some x2 ∧ w'.cell? ⟨b, off + 3, none⟩ = some x3 ∧ w'.cell? ⟨b, off + 3 + 1, none⟩ = some x4 ∧ w'.cell? ⟨b, off + 3 + 2, none⟩ = some x5 ∧ w'.cell? ⟨pb, i, none⟩ = some y0 :=
  ⟨(h.cell (p := ⟨b, off, none⟩) hb).trans e0, (h.cell (p := ⟨b, off + 1, none⟩) hb).trans e1, (h.cell (p := ⟨b, off + 2, none⟩) hb).trans e2, (h.cell (p := ⟨b, off + 3, none⟩) hb).trans e3, (h.cell (p := ⟨b, off + 3 + 1, none⟩) hb).trans e4, (h.cell (p := ⟨b, off + 3 + 2, none⟩) hb).trans e5, (h.cell (p := ⟨pb, i, none⟩) hp).trans p0⟩
set_option maxHeartbeats 2000000 in
theorem paint_one (Op To A B K : Int) (la : Option Addr) (ll lc : Nat) (zw zh : Int) (flen fcap : Nat) (w : World) (hop : Op = 3 ∨ Op = 8 ∨ Op = 9 ∨ Op = 10 ∨ Op = 11 ∨ Op = 12) (b off : Nat) (hb : b < w.heap.size) (hl : 0 < flen) (iw ih : Int) (pa : Option Addr) (cap : Nat) (ps : List Int)
    (d0 : w.cell? ⟨b, off, none⟩ = some (.int .i64 iw)) (d1 : w.cell? ⟨b, off + 1, none⟩ = some (.int .i64 ih)) (d2 : w.cell? ⟨b, off + 2, none⟩ = some (.slice pa ps.length cap)) (hi : Ints 0 w pa ps.length ps) {r : Res} (hr : oneRes Op iw ih ps K = r) :
    Calls Tryz.prog 35 #[.agg #[.int .i64 Op, .int .i64 To, .int .i64 A, .int .i64 B, .int .i64 K, .slice la ll lc], .agg #[.int .i64 zw, .int .i64 zh], .slice (some ⟨b, off, none⟩) flen fcap] w (Told w r) := by
  have hb3 := pw_below w Op To A B K la ll lc zw zh
  have hbx := hb3.drew
  have hbN : b < w.heap.size + 2 := by omega
  have hpN : w.heap.size < w.heap.size + 2 := by omega
  have hm := one_told (op := Op) (W := iw) (H := ih) cap (k := K) (hi.below (Nat.le_refl _) hbx) hr
  have hbox0 := pw_box w Op To A B K la ll lc zw zh
  have hbox := hbox0.below (Below.refl _ _).drew hbox0.lt (Nat.le_refl _)
  clear hbox0
  have hsz := pw_size w Op To A B K la ll lc zw zh
  have hsN : w.heap.size + 2 ≤ (pw w Op To A B K la ll lc zw zh).drew.heap.size := by show _ ≤ (pw w Op To A B K la ll lc zw zh).heap.size; omega
  have e0 := (hb3.cell (p := ⟨b, off, none⟩) hb).trans d0
  have e1 := (hb3.cell (p := ⟨b, off + 1, none⟩) hb).trans d1
  have e2 := (hb3.cell (p := ⟨b, off + 2, none⟩) hb).trans d2
  have hP := ((PBox.new w Op To A B K la ll lc).alloc (.cells #[.int .i64 zw, .int .i64 zh] 80)).alloc (.cells #[.int .i64 0, .int .i64 0, .slice none 0 0] 31)
  obtain ⟨_, p0, p1, p2, p3, p4, p5⟩ := hP
  clear hr d0 d1 d2 hi
  have n1 : ¬ Op = 1 := by omega
  have n2 : ¬ Op = 2 := by omega
  have n4 : ¬ Op = 4 := by omega
  have n5 : ¬ Op = 5 := by omega
  have n6 : ¬ Op = 6 := by omega
  have n7 : ¬ Op = 7 := by omega
  have n13 : ¬ Op = 13 := by omega
  clear hop
  · go_enter Tryz.func35, Tryz.ntmps35
    go_wp2_with fail
    go_region_held3 (fun w' => w'.cell? ⟨b, off, none⟩ = some (.int .i64 iw) ∧ w'.cell? ⟨b, off + 1, none⟩ = some (.int .i64 ih) ∧ w'.cell? ⟨b, off + 2, none⟩ = some (.slice pa ps.length cap) ∧ w'.cell? ⟨w.heap.size, 0, none⟩ = some (.int .i64 Op) ∧ w'.cell? ⟨w.heap.size, 4, none⟩ = some (.int .i64 K))
      (first | exact keepI (Below.refl _ _).drew hbN hpN e0 e1 e2 p0 p4 | exact keepI hbW hbN hpN e0 e1 e2 p0 p4 | exact keepI (((hbW.setCell (Nat.le_refl _) _).setCell (Nat.le_refl _) _).setCell (Nat.le_refl _) _) hbN hpN e0 e1 e2 p0 p4)
      ((go_at_call 72; refine hm.mono ?_; rintro e w' ⟨ra, rc, rfl, hri, hbb⟩; obtain ⟨_, c0, c1, c2, f0, f1, f2⟩ := hbox.below hbb hbox.lt hbb.size; have hbW := (Below.refl (w.heap.size + 2) _).drew.trans (hbb.mono hsN)))
    all_goals
      have HT : Hid (_) := paint_told (rc := rc) hbx hbox.lt (by omega) hri hbb
      clear hri hbb hbx hbox hm e0 e1 e2
      go_wp2
      refine bodyPost_ret (v := .tuple #[.agg #[.int .i64 r.W, .int .i64 r.H, .slice ra r.ps.length rc], .int .i64 r.E]) (by simp [results, Tryz.results35, go_sem, c0, c1, c2]) rfl HT.out
set_option maxHeartbeats 2000000 in
theorem paint_lit (To A B K : Int) (la : Option Addr) (ll lc : Nat) (ls : List Lt) (zw zh : Int) (flen fcap : Nat) (w : World) (hL : Lights w la ll ls) (b off : Nat) (hb : b < w.heap.size) (hl : 0 < flen) (iw ih : Int) (pa : Option Addr) (cap : Nat) (ps : List Int)
    (d0 : w.cell? ⟨b, off, none⟩ = some (.int .i64 iw)) (d1 : w.cell? ⟨b, off + 1, none⟩ = some (.int .i64 ih)) (d2 : w.cell? ⟨b, off + 2, none⟩ = some (.slice pa ps.length cap)) (hi : Ints 0 w pa ps.length ps) {r : Res} (hr : litRes iw ih ps ls K = r) :
    Calls Tryz.prog 35 #[.agg #[.int .i64 13, .int .i64 To, .int .i64 A, .int .i64 B, .int .i64 K, .slice la ll lc], .agg #[.int .i64 zw, .int .i64 zh], .slice (some ⟨b, off, none⟩) flen fcap] w (Told w r) := by
  have hb3 := pw_below w 13 To A B K la ll lc zw zh
  have hbx := hb3.drew
  have hbN : b < w.heap.size + 2 := by omega
  have hpN : w.heap.size < w.heap.size + 2 := by omega
  have hm := lit_told (W := iw) (H := ih) cap lc (tile := K) (hi.below (Nat.le_refl _) hbx) (hL.below hbx) hr
  have hbox0 := pw_box w 13 To A B K la ll lc zw zh
  have hbox := hbox0.below (Below.refl _ _).drew hbox0.lt (Nat.le_refl _)
  clear hbox0
  have hsz := pw_size w 13 To A B K la ll lc zw zh
  have hsN : w.heap.size + 2 ≤ (pw w 13 To A B K la ll lc zw zh).drew.heap.size := by show _ ≤ (pw w 13 To A B K la ll lc zw zh).heap.size; omega
  have e0 := (hb3.cell (p := ⟨b, off, none⟩) hb).trans d0
  have e1 := (hb3.cell (p := ⟨b, off + 1, none⟩) hb).trans d1
  have e2 := (hb3.cell (p := ⟨b, off + 2, none⟩) hb).trans d2
  have hP := ((PBox.new w 13 To A B K la ll lc).alloc (.cells #[.int .i64 zw, .int .i64 zh] 80)).alloc (.cells #[.int .i64 0, .int .i64 0, .slice none 0 0] 31)
  obtain ⟨_, p0, p1, p2, p3, p4, p5⟩ := hP
  clear hr d0 d1 d2 hi
  · go_enter Tryz.func35, Tryz.ntmps35
    go_wp2_with fail
    go_region_held3 (fun w' => w'.cell? ⟨b, off, none⟩ = some (.int .i64 iw) ∧ w'.cell? ⟨b, off + 1, none⟩ = some (.int .i64 ih) ∧ w'.cell? ⟨b, off + 2, none⟩ = some (.slice pa ps.length cap) ∧ w'.cell? ⟨w.heap.size, 4, none⟩ = some (.int .i64 K) ∧ w'.cell? ⟨w.heap.size, 5, none⟩ = some (.slice la ll lc))
      (first | exact keepI (Below.refl _ _).drew hbN hpN e0 e1 e2 p4 p5 | exact keepI hbW hbN hpN e0 e1 e2 p4 p5 | exact keepI (((hbW.setCell (Nat.le_refl _) _).setCell (Nat.le_refl _) _).setCell (Nat.le_refl _) _) hbN hpN e0 e1 e2 p4 p5)
      ((go_at_call 71; refine hm.mono ?_; rintro e w' ⟨ra, rc, rfl, hri, hbb⟩; obtain ⟨_, c0, c1, c2, f0, f1, f2⟩ := hbox.below hbb hbox.lt hbb.size; have hbW := (Below.refl (w.heap.size + 2) _).drew.trans (hbb.mono hsN)))
    all_goals
      have HT : Hid (_) := paint_told (rc := rc) hbx hbox.lt (by omega) hri hbb
      clear hri hbb hbx hbox hm e0 e1 e2
      go_wp2
      refine bodyPost_ret (v := .tuple #[.agg #[.int .i64 r.W, .int .i64 r.H, .slice ra r.ps.length rc], .int .i64 r.E]) (by simp [results, Tryz.results35, go_sem, c0, c1, c2]) rfl HT.out
set_option maxHeartbeats 4000000 in
theorem paint_two (Op To A B K : Int) (la : Option Addr) (ll lc : Nat) (zw zh : Int) (flen fcap : Nat) (w : World) (hop : Op = 4 ∨ Op = 5 ∨ Op = 6 ∨ Op = 7) (b off : Nat) (hb : b < w.heap.size) (hl0 : 0 < flen) (hl : (1 : Int) < (flen : Int)) (iw ih : Int) (pa : Option Addr) (cap : Nat) (ps : List Int)
    (d0 : w.cell? ⟨b, off, none⟩ = some (.int .i64 iw)) (d1 : w.cell? ⟨b, off + 1, none⟩ = some (.int .i64 ih)) (d2 : w.cell? ⟨b, off + 2, none⟩ = some (.slice pa ps.length cap)) (hi : Ints 0 w pa ps.length ps)
    (jw jh : Int) (qa : Option Addr) (qcap : Nat) (qs : List Int) (g0 : w.cell? ⟨b, off + 3, none⟩ = some (.int .i64 jw)) (g1 : w.cell? ⟨b, off + 3 + 1, none⟩ = some (.int .i64 jh)) (g2 : w.cell? ⟨b, off + 3 + 2, none⟩ = some (.slice qa qs.length qcap)) (hj : Ints 0 w qa qs.length qs) {r : Res} (hr : twoRes Op iw ih ps jw jh qs = r) :
    Calls Tryz.prog 35 #[.agg #[.int .i64 Op, .int .i64 To, .int .i64 A, .int .i64 B, .int .i64 K, .slice la ll lc], .agg #[.int .i64 zw, .int .i64 zh], .slice (some ⟨b, off, none⟩) flen fcap] w (Told w r) := by
  have hb3 := pw_below w Op To A B K la ll lc zw zh
  have hbx := hb3.drew
  have hbN : b < w.heap.size + 2 := by omega
  have hpN : w.heap.size < w.heap.size + 2 := by omega
  have hm := two_told (op := Op) (W := iw) (H := ih) (W' := jw) (H' := jh) cap qcap (hi.below (Nat.le_refl _) hbx) (hj.below (Nat.le_refl _) hbx) hr
  have hbox0 := pw_box w Op To A B K la ll lc zw zh
  have hbox := hbox0.below (Below.refl _ _).drew hbox0.lt (Nat.le_refl _)
  clear hbox0
  have hsz := pw_size w Op To A B K la ll lc zw zh
  have hsN : w.heap.size + 2 ≤ (pw w Op To A B K la ll lc zw zh).drew.heap.size := by show _ ≤ (pw w Op To A B K la ll lc zw zh).heap.size; omega
  have e0 := (hb3.cell (p := ⟨b, off, none⟩) hb).trans d0
  have e1 := (hb3.cell (p := ⟨b, off + 1, none⟩) hb).trans d1
  have e2 := (hb3.cell (p := ⟨b, off + 2, none⟩) hb).trans d2
  have e3 := (hb3.cell (p := ⟨b, off + 3, none⟩) hb).trans g0
  have e4 := (hb3.cell (p := ⟨b, off + 3 + 1, none⟩) hb).trans g1
  have e5 := (hb3.cell (p := ⟨b, off + 3 + 2, none⟩) hb).trans g2
  have hP := ((PBox.new w Op To A B K la ll lc).alloc (.cells #[.int .i64 zw, .int .i64 zh] 80)).alloc (.cells #[.int .i64 0, .int .i64 0, .slice none 0 0] 31)
  obtain ⟨_, p0, p1, p2, p3, p4, p5⟩ := hP
  clear hr d0 d1 d2 hi g0 g1 g2 hj
  rcases hop with rfl | rfl | rfl | rfl
  · go_enter Tryz.func35, Tryz.ntmps35
    go_wp2_with fail
    go_region_held3 (fun w' => w'.cell? ⟨b, off, none⟩ = some (.int .i64 iw) ∧ w'.cell? ⟨b, off + 1, none⟩ = some (.int .i64 ih) ∧ w'.cell? ⟨b, off + 2, none⟩ = some (.slice pa ps.length cap) ∧ w'.cell? ⟨b, off + 3, none⟩ = some (.int .i64 jw) ∧ w'.cell? ⟨b, off + 3 + 1, none⟩ = some (.int .i64 jh) ∧ w'.cell? ⟨b, off + 3 + 2, none⟩ = some (.slice qa qs.length qcap) ∧ w'.cell? ⟨w.heap.size, 0, none⟩ = some (.int .i64 4))
      (first | exact keepI2 (Below.refl _ _).drew hbN hpN e0 e1 e2 e3 e4 e5 p0 | exact keepI2 hbW hbN hpN e0 e1 e2 e3 e4 e5 p0 | exact keepI2 (((hbW.setCell (Nat.le_refl _) _).setCell (Nat.le_refl _) _).setCell (Nat.le_refl _) _) hbN hpN e0 e1 e2 e3 e4 e5 p0)
      ((go_at_call 70; refine hm.mono ?_; rintro e w' ⟨ra, rc, rfl, hri, hbb⟩; obtain ⟨_, c0, c1, c2, f0, f1, f2⟩ := hbox.below hbb hbox.lt hbb.size; have hbW := (Below.refl (w.heap.size + 2) _).drew.trans (hbb.mono hsN)))
    all_goals
      have HT : Hid (_) := paint_told (rc := rc) hbx hbox.lt (by omega) hri hbb
      clear hri hbb hbx hbox hm e0 e1 e2 e3 e4 e5
      go_wp2
      refine bodyPost_ret (v := .tuple #[.agg #[.int .i64 r.W, .int .i64 r.H, .slice ra r.ps.length rc], .int .i64 r.E]) (by simp [results, Tryz.results35, go_sem, c0, c1, c2]) rfl HT.out
  · go_enter Tryz.func35, Tryz.ntmps35
    go_wp2_with fail
    go_region_held3 (fun w' => w'.cell? ⟨b, off, none⟩ = some (.int .i64 iw) ∧ w'.cell? ⟨b, off + 1, none⟩ = some (.int .i64 ih) ∧ w'.cell? ⟨b, off + 2, none⟩ = some (.slice pa ps.length cap) ∧ w'.cell? ⟨b, off + 3, none⟩ = some (.int .i64 jw) ∧ w'.cell? ⟨b, off + 3 + 1, none⟩ = some (.int .i64 jh) ∧ w'.cell? ⟨b, off + 3 + 2, none⟩ = some (.slice qa qs.length qcap) ∧ w'.cell? ⟨w.heap.size, 0, none⟩ = some (.int .i64 5))
      (first | exact keepI2 (Below.refl _ _).drew hbN hpN e0 e1 e2 e3 e4 e5 p0 | exact keepI2 hbW hbN hpN e0 e1 e2 e3 e4 e5 p0 | exact keepI2 (((hbW.setCell (Nat.le_refl _) _).setCell (Nat.le_refl _) _).setCell (Nat.le_refl _) _) hbN hpN e0 e1 e2 e3 e4 e5 p0)
      ((go_at_call 70; refine hm.mono ?_; rintro e w' ⟨ra, rc, rfl, hri, hbb⟩; obtain ⟨_, c0, c1, c2, f0, f1, f2⟩ := hbox.below hbb hbox.lt hbb.size; have hbW := (Below.refl (w.heap.size + 2) _).drew.trans (hbb.mono hsN)))
    all_goals
      have HT : Hid (_) := paint_told (rc := rc) hbx hbox.lt (by omega) hri hbb
      clear hri hbb hbx hbox hm e0 e1 e2 e3 e4 e5
      go_wp2
      refine bodyPost_ret (v := .tuple #[.agg #[.int .i64 r.W, .int .i64 r.H, .slice ra r.ps.length rc], .int .i64 r.E]) (by simp [results, Tryz.results35, go_sem, c0, c1, c2]) rfl HT.out
  · go_enter Tryz.func35, Tryz.ntmps35
    go_wp2_with fail
    go_region_held3 (fun w' => w'.cell? ⟨b, off, none⟩ = some (.int .i64 iw) ∧ w'.cell? ⟨b, off + 1, none⟩ = some (.int .i64 ih) ∧ w'.cell? ⟨b, off + 2, none⟩ = some (.slice pa ps.length cap) ∧ w'.cell? ⟨b, off + 3, none⟩ = some (.int .i64 jw) ∧ w'.cell? ⟨b, off + 3 + 1, none⟩ = some (.int .i64 jh) ∧ w'.cell? ⟨b, off + 3 + 2, none⟩ = some (.slice qa qs.length qcap) ∧ w'.cell? ⟨w.heap.size, 0, none⟩ = some (.int .i64 6))
      (first | exact keepI2 (Below.refl _ _).drew hbN hpN e0 e1 e2 e3 e4 e5 p0 | exact keepI2 hbW hbN hpN e0 e1 e2 e3 e4 e5 p0 | exact keepI2 (((hbW.setCell (Nat.le_refl _) _).setCell (Nat.le_refl _) _).setCell (Nat.le_refl _) _) hbN hpN e0 e1 e2 e3 e4 e5 p0)
      ((go_at_call 70; refine hm.mono ?_; rintro e w' ⟨ra, rc, rfl, hri, hbb⟩; obtain ⟨_, c0, c1, c2, f0, f1, f2⟩ := hbox.below hbb hbox.lt hbb.size; have hbW := (Below.refl (w.heap.size + 2) _).drew.trans (hbb.mono hsN)))
    all_goals
      have HT : Hid (_) := paint_told (rc := rc) hbx hbox.lt (by omega) hri hbb
      clear hri hbb hbx hbox hm e0 e1 e2 e3 e4 e5
      go_wp2
      refine bodyPost_ret (v := .tuple #[.agg #[.int .i64 r.W, .int .i64 r.H, .slice ra r.ps.length rc], .int .i64 r.E]) (by simp [results, Tryz.results35, go_sem, c0, c1, c2]) rfl HT.out
  · go_enter Tryz.func35, Tryz.ntmps35
    go_wp2_with fail
    go_region_held3 (fun w' => w'.cell? ⟨b, off, none⟩ = some (.int .i64 iw) ∧ w'.cell? ⟨b, off + 1, none⟩ = some (.int .i64 ih) ∧ w'.cell? ⟨b, off + 2, none⟩ = some (.slice pa ps.length cap) ∧ w'.cell? ⟨b, off + 3, none⟩ = some (.int .i64 jw) ∧ w'.cell? ⟨b, off + 3 + 1, none⟩ = some (.int .i64 jh) ∧ w'.cell? ⟨b, off + 3 + 2, none⟩ = some (.slice qa qs.length qcap) ∧ w'.cell? ⟨w.heap.size, 0, none⟩ = some (.int .i64 7))
      (first | exact keepI2 (Below.refl _ _).drew hbN hpN e0 e1 e2 e3 e4 e5 p0 | exact keepI2 hbW hbN hpN e0 e1 e2 e3 e4 e5 p0 | exact keepI2 (((hbW.setCell (Nat.le_refl _) _).setCell (Nat.le_refl _) _).setCell (Nat.le_refl _) _) hbN hpN e0 e1 e2 e3 e4 e5 p0)
      ((go_at_call 70; refine hm.mono ?_; rintro e w' ⟨ra, rc, rfl, hri, hbb⟩; obtain ⟨_, c0, c1, c2, f0, f1, f2⟩ := hbox.below hbb hbox.lt hbb.size; have hbW := (Below.refl (w.heap.size + 2) _).drew.trans (hbb.mono hsN)))
    all_goals
      have HT : Hid (_) := paint_told (rc := rc) hbx hbox.lt (by omega) hri hbb
      clear hri hbb hbx hbox hm e0 e1 e2 e3 e4 e5
      go_wp2
      refine bodyPost_ret (v := .tuple #[.agg #[.int .i64 r.W, .int .i64 r.H, .slice ra r.ps.length rc], .int .i64 r.E]) (by simp [results, Tryz.results35, go_sem, c0, c1, c2]) rfl HT.out
end Go.Proofs.YtihliofhhjjeaaaGreat
namespace Go.Proofs.YtihliofhhjjeaaaGreat
open Go.RowKit Im
abbrev Lr := List (Res × Option Addr × Nat)
def rcells (L : Lr) : List Value := L.flatMap fun x => [.int .i64 x.1.W, .int .i64 x.1.H, .slice x.2.1 x.1.ps.length x.2.2]
abbrev lr0 : Res × Option Addr × Nat := (noRes 0, none, 0)
theorem rcells_len (L : Lr) : (rcells L).length = L.length * 3 := by
  induction L with
  | nil => rfl
  | cons x L ih => simp only [rcells, List.flatMap_cons, List.length_append, List.length_cons, List.length_nil] at ih ⊢; rw [ih]; omega
theorem rcells_snoc (L : Lr) (x : Res × Option Addr × Nat) : rcells (L ++ [x]) = rcells L ++ [.int .i64 x.1.W, .int .i64 x.1.H, .slice x.2.1 x.1.ps.length x.2.2] := by simp [rcells]
theorem rcells_get (L : Lr) (j : Nat) (h : j < L.length) : (rcells L)[j * 3]? = some (.int .i64 (L.getD j lr0).1.W) ∧ (rcells L)[j * 3 + 1]? = some (.int .i64 (L.getD j lr0).1.H) ∧ (rcells L)[j * 3 + 2]? = some (.slice (L.getD j lr0).2.1 (L.getD j lr0).1.ps.length (L.getD j lr0).2.2) := by
  induction L generalizing j with
  | nil => simp at h
  | cons x L ih =>
    have e : rcells (x :: L) = .int .i64 x.1.W :: .int .i64 x.1.H :: .slice x.2.1 x.1.ps.length x.2.2 :: rcells L := rfl
    cases j with
    | zero => rw [e]; exact ⟨rfl, rfl, rfl⟩
    | succ j =>
      have := ih j (by simpa using h)
      rw [e, show (j + 1) * 3 = j * 3 + 1 + 1 + 1 by omega]
      simpa using this
def OwnsR (base : Nat) (w : World) (v : Value) (L : Lr) : Prop := w.ownsRow base 31 3 v L.length (rcells L)
theorem map_getD {L : Lr} {rs : List Res} (h : L.map Prod.fst = rs) (j : Nat) : rs.getD j (noRes 0) = (L.getD j lr0).1 := by
  subst h
  simp only [List.getD_eq_getElem?_getD, List.getElem?_map]
  cases L[j]? <;> rfl
theorem OwnsR.imgs {base bi : Nat} {w : World} {v : Value} {L : Lr} {rs : List Res} (h : OwnsR base w v L) (he : L.map Prod.fst = rs) (hi : ∀ x ∈ L, Ints bi w x.2.1 x.1.ps.length x.1.ps) (hb : L.length ≤ 12) : ∃ a cap, v = .slice a rs.length cap ∧ Imgs bi w a rs.length rs := by
  have hrl : rs.length = L.length := by rw [← he]; simp
  obtain ⟨h1, h2⟩ := h
  rcases h2 with ⟨rfl, h0⟩ | ⟨g, cap, cur, rfl, hg, hh, hc, hm, hs, ht⟩
  · have : L = [] := by simpa using h0
    subst this
    subst he
    exact ⟨none, 0, rfl, rfl, by simp, .inl rfl⟩
  · rw [← hrl]
    refine ⟨_, cap, rfl, rfl, by omega, .inr ⟨g, 0, rfl, ?_, fun j hj => ?_⟩⟩
    · rcases Nat.lt_or_ge g w.heap.size with h | h
      · exact h
      · rw [Array.getElem?_eq_none h] at hh; cases hh
    · have hl := rcells_len L
      rw [hrl] at hj
      have hg2 := rcells_get L j hj
      have this := fun i hi => World.ownsRow.cellAt (base := base) (e := 31) (size := 3) ⟨h1, .inr ⟨g, cap, cur, rfl, hg, hh, hc, hm, hs, ht⟩⟩ i hi
      rw [map_getD he j]
      refine ⟨(L.getD j lr0).2.1, (L.getD j lr0).2.2, ?_, ?_, ?_, hi _ (getD_mem hj _)⟩
      all_goals rw [Nat.zero_add, this _ (by omega)]
      · exact hg2.1
      · exact hg2.2.1
      · exact hg2.2.2
theorem Tryz.infoImage : (Tryz.prog.info? 31).map (fun i => (i.zero, i.size, i.bytes)) = some (some (.agg #[.int .i64 0, .int .i64 0, .slice none 0 0]), 3, 40) := by kernel_rfl
theorem cell_three_new (w : World) (v0 v1 v2 : Value) (t : TypeId) : ∀ (j : Nat) (u : Value), [v0, v1, v2][j]? = some u → (w.alloc (.cells #[v0, v1, v2] t)).cell? ((⟨w.heap.size, 0, none⟩ : Addr).add j) = some u := by
  intro j u h
  match j, h with
  | 0, h => simp at h; subst h; simp [go_sem, Addr.add]
  | 1, h => simp at h; subst h; simp [go_sem, Addr.add]
  | 2, h => simp at h; subst h; simp [go_sem, Addr.add]
theorem OwnsR.push {base : Nat} {w wx w1 : World} {v v' : Value} {L : Lr} {x : Res × Option Addr × Nat} {B0 : World} {o : Obj} (h : OwnsR base w v L) (hb : Below base B0 w) (hB : base ≤ w.heap.size)
    (h' : w1.ownsRow base 31 3 v' (L.length + 1) (rcells L ++ [.int .i64 x.1.W, .int .i64 x.1.H, .slice x.2.1 x.1.ps.length x.2.2])) (hx : wx = w.alloc o) (hg : wx.grownBy w1 v.ownBlock) : OwnsR base w1 v' (L ++ [x]) ∧ Below base B0 w1 := by
  subst hx
  refine ⟨by unfold OwnsR; rw [rcells_snoc]; simpa using h', ?_⟩
  exact (hb.alloc hB o).grown hg (by simp; omega) (fun j hj => (World.ownsRow.lt (w := w) h j hj).1)
def ToldR (w : World) (rs : List Res) (e : Ending) (w' : World) : Prop :=
  ∃ a cap, e = .returned (.slice a rs.length cap) ∧ Imgs 0 w' a rs.length rs ∧ Below w.heap.size w w'
theorem pickR_succ (rs : List Res) (is : List Int) (k : Nat) (hk : k < is.length) : pickR rs (is.take (k + 1)) = pickR rs (is.take k) ++ [rs.getD (is.getD k 0).toNat (noRes 0)] := by
  unfold pickR
  rw [List.take_succ_eq_append_getElem hk, List.map_append, List.getD_eq_getElem?_getD (l := is), List.getElem?_eq_getElem hk]
  rfl
set_option maxHeartbeats 1000000 in
theorem pickedR_any {a a' : Option Addr} {len len' : Nat} (cap cap' : Nat) {rs : List Res} {is : List Int} {base bi : Nat} {w : World} (hz : Imgs bi w a len rs) (hI : Ints base w a' len' is) (hin : ∀ i ∈ is, 0 ≤ i ∧ i < len) (hl : is.length ≤ 2) :
    Calls Tryz.prog 36 #[.slice a len cap, .slice a' len' cap'] w (ToldR w (pickR rs is)) := by
  obtain ⟨i0, hi, hz0, hz1, hz2⟩ := info_parts Tryz.infoImage
  have hlen := hI.leng
  subst hlen
  go_enter Tryz.func36, Tryz.ntmps36
  go_wp2
  go_loopw [5, 10] (fun v i wr => ∃ (k : Nat) (L : Lr), k ≤ is.length ∧ i = .int .i64 k ∧ OwnsR w.heap.size wr v L ∧ L.map Prod.fst = pickR rs (is.take k) ∧ (∀ x ∈ L, Ints 0 w x.2.1 x.1.ps.length x.1.ps) ∧ Below w.heap.size w wr) (fun _ i _ => is.length - (intOf i).toNat)
  case atStart => exact ⟨0, [], Nat.zero_le _, rfl, World.ownsRow_nil _ _ _ _, rfl, (fun x hx => by cases hx), Below.refl _ _⟩
  case round =>
    obtain ⟨k, L, hk, rfl, hown, hmap, hints, hb⟩ := hrel
    have hLl : L.length = k := by
      have := congrArg List.length hmap
      simp [pickR] at this
      omega
    by_cases hlt : k < is.length
    · obtain ⟨b, off, rfl, hcx⟩ := (hI.below (Nat.le_refl _) hb).nth hlt
      have hr := hin _ (getD_mem hlt 0)
      have HS := pickR_succ rs is k hlt
      generalize is.getD k 0 = n at hcx hr HS
      obtain ⟨m, rfl⟩ := Int.eq_ofNat_of_zero_le hr.1
      obtain ⟨b', off', pa, pcap, rfl, hb', d0, d1, d2, hpi⟩ := hz.nth (k := m) (by omega)
      replace d0 := (hb.cell (p := ⟨b', off' + m * 3, none⟩) hb').trans d0
      replace d1 := (hb.cell (p := ⟨b', off' + m * 3 + 1, none⟩) hb').trans d1
      replace d2 := (hb.cell (p := ⟨b', off' + m * 3 + 2, none⟩) hb').trans d2
      rw [Int.toNat_natCast] at HS
      have HS' : Hid (pickR rs (is.take (k + 1)) = pickR rs (is.take k) ++ [rs.getD m (noRes 0)]) := HS
      have hsz := hb.size
      have HM : Hid (_) := hmap
      have HL : Hid (_) := hLl
      have HI : Hid (_) := hints
      have HP : Hid (_) := hpi.mono (Nat.zero_le _)
      clear HS hin hmap hLl hints hpi
      generalize rs.getD m (noRes 0) = r at d0 d1 d2 HS' HP
      go_wp2_with (at_builtin; refine wpList_append_own _ rfl _ _ 85 rfl w.heap.size 31 i0 _ 3 40 Tryz.underlying85 hi hz0 hz1 hz2 rfl (by decide) _ _ _ rfl (World.ownsRow.alloc hown _) ⟨wr.heap.size, 0, none⟩ 1 1 [.int .i64 r.W, .int .i64 r.H, .slice pa r.ps.length pcap] rfl rfl (cell_three_new _ _ _ _ _) (by intro u hu; simp at hu; rcases hu with rfl | rfl | rfl <;> rfl) (by rw [HL.out]; unfold maxLen; omega) (by rw [HL.out]; omega) (by simp; omega) ?_; intro v' w9 hown9 hgrow9 _)
      have RR := OwnsR.push (x := (r, pa, pcap)) hown hb hsz hown9 rfl hgrow9
      go_roundw
      case rel => exact ⟨k + 1, L ++ [(r, pa, pcap)], by omega, by go_num, RR.1, by rw [HS'.out, List.map_append, HM.out]; rfl, (fun x hx => by rcases List.mem_append.1 hx with h | h; exact HI.out x h; rw [List.mem_singleton] at h; subst h; exact HP.out), RR.2⟩
      case measure => simp [intOf]; omega
    · have hke : k = is.length := by omega
      subst hke
      rw [List.take_length] at hmap
      obtain ⟨sa, scap, rfl, hZ⟩ := hown.imgs hmap (fun x hx => (hints x hx).below (Nat.le_refl _) hb) (by omega)
      have HZ : Hid (_) := hZ
      clear hZ hmap hints hLl hown
      go_wp2
      go_ret
      exact ⟨sa, scap, rfl, HZ.out, hb⟩
end Go.Proofs.YtihliofhhjjeaaaGreat
namespace Go.Proofs.YtihliofhhjjeaaaGreat
open Go.RowKit Im
structure Passes (w : World) (a : Option Addr) (len : Nat) (ps : List Ps) : Prop where
  leng : ps.length = len
  big : len ≤ 9223372036854775807
  cells : ps = [] ∨ ∃ b off, a = some ⟨b, off, none⟩ ∧ b < w.heap.size ∧ ∀ j, j < len → ∃ la ll lc, w.cell? ⟨b, off + j * 6, none⟩ = some (.int .i64 (ps.getD j Ps.zero).Op) ∧ w.cell? ⟨b, off + j * 6 + 1, none⟩ = some (.int .i64 (ps.getD j Ps.zero).To) ∧ w.cell? ⟨b, off + j * 6 + 2, none⟩ = some (.int .i64 (ps.getD j Ps.zero).A) ∧ w.cell? ⟨b, off + j * 6 + 3, none⟩ = some (.int .i64 (ps.getD j Ps.zero).B) ∧ w.cell? ⟨b, off + j * 6 + 4, none⟩ = some (.int .i64 (ps.getD j Ps.zero).K) ∧ w.cell? ⟨b, off + j * 6 + 5, none⟩ = some (.slice la ll lc) ∧ Lights w la ll (ps.getD j Ps.zero).ls
theorem Passes.below {w w' : World} {a : Option Addr} {len : Nat} {ps : List Ps} (h : Passes w a len ps) (hb : Below w.heap.size w w') : Passes w' a len ps := by
  refine ⟨h.leng, h.big, ?_⟩
  rcases h.cells with e | ⟨b, off, ha, hl, hc⟩
  · exact .inl e
  · refine .inr ⟨b, off, ha, Nat.lt_of_lt_of_le hl hb.size, fun j hj => ?_⟩
    obtain ⟨la, ll, lc, c0, c1, c2, c3, c4, c5, hL⟩ := hc j hj
    exact ⟨la, ll, lc, (hb.cell (p := ⟨b, off + j * 6, none⟩) hl).trans c0, (hb.cell (p := ⟨b, off + j * 6 + 1, none⟩) hl).trans c1, (hb.cell (p := ⟨b, off + j * 6 + 2, none⟩) hl).trans c2, (hb.cell (p := ⟨b, off + j * 6 + 3, none⟩) hl).trans c3, (hb.cell (p := ⟨b, off + j * 6 + 4, none⟩) hl).trans c4, (hb.cell (p := ⟨b, off + j * 6 + 5, none⟩) hl).trans c5, hL.below hb⟩
theorem Passes.nth {w : World} {a : Option Addr} {len : Nat} {ps : List Ps} (h : Passes w a len ps) {k : Nat} (hk : k < len) : ∃ b off la ll lc, a = some ⟨b, off, none⟩ ∧ w.cell? ⟨b, off + k * 6, none⟩ = some (.int .i64 (ps.getD k Ps.zero).Op) ∧ w.cell? ⟨b, off + k * 6 + 1, none⟩ = some (.int .i64 (ps.getD k Ps.zero).To) ∧ w.cell? ⟨b, off + k * 6 + 2, none⟩ = some (.int .i64 (ps.getD k Ps.zero).A) ∧ w.cell? ⟨b, off + k * 6 + 3, none⟩ = some (.int .i64 (ps.getD k Ps.zero).B) ∧ w.cell? ⟨b, off + k * 6 + 4, none⟩ = some (.int .i64 (ps.getD k Ps.zero).K) ∧ w.cell? ⟨b, off + k * 6 + 5, none⟩ = some (.slice la ll lc) ∧ Lights w la ll (ps.getD k Ps.zero).ls := by
  rcases h.cells with e | ⟨b, off, ha, hl, hc⟩
  · have := h.leng; subst e; simp at this; omega
  · obtain ⟨la, ll, lc, r⟩ := hc k hk
    exact ⟨b, off, la, ll, lc, ha, r⟩
def srcs (ps : List Ps) (n : Nat) : List (List Int) := (List.range n).map (srcOf ps)
theorem srcs_succ (ps : List Ps) (n : Nat) : srcs ps (n + 1) = srcs ps n ++ [srcOf ps n] := by simp [srcs, List.range_succ]
theorem srcs_length (ps : List Ps) (n : Nat) : (srcs ps n).length = n := by simp [srcs]
def ToldC (w : World) (f : Fr) (e : Ending) (w' : World) : Prop :=
  (frameE f = 0 ∧ (∃ v1 v2, e = .returned (.tuple #[.agg #[v1, v2, .int .i64 (shownP f)], .int .i64 0]) ∧ OwnsZ w.heap.size w' v1 (szs f f.ps.length) ∧ OwnsLL w.heap.size w' v2 (srcs f.ps f.ps.length)) ∧ Below w.heap.size w w') ∨
  (frameE f ≠ 0 ∧ e = .returned (.tuple #[.agg #[.slice none 0 0, .slice none 0 0, .int .i64 0], .int .i64 (frameE f)]) ∧ Below w.heap.size w w')
structure CBox (w : World) (b : Nat) : Prop where
  lt : b < w.heap.size
  c0 : w.cell? ⟨b, 0, none⟩ = some (.slice none 0 0)
  c1 : w.cell? ⟨b, 1, none⟩ = some (.slice none 0 0)
  c2 : w.cell? ⟨b, 2, none⟩ = some (.int .i64 0)
  f0 : w.frozen? ⟨b, 0, none⟩ = false
  f1 : w.frozen? ⟨b, 1, none⟩ = false
  f2 : w.frozen? ⟨b, 2, none⟩ = false
theorem CBox.below {w w' : World} {b B : Nat} (h : CBox w b) (hb : Below B w w') (hB : b < B) (hs : b < w'.heap.size) : CBox w' b :=
  ⟨hs, (hb.cell (p := ⟨b, 0, none⟩) hB).trans h.c0, (hb.cell (p := ⟨b, 1, none⟩) hB).trans h.c1, (hb.cell (p := ⟨b, 2, none⟩) hB).trans h.c2, (hb.frozen (p := ⟨b, 0, none⟩) hB).trans h.f0, (hb.frozen (p := ⟨b, 1, none⟩) hB).trans h.f1, (hb.frozen (p := ⟨b, 2, none⟩) hB).trans h.f2⟩
theorem CBox.new (w : World) : CBox (w.alloc (.cells #[.slice none 0 0, .slice none 0 0, .int .i64 0] 82)) w.heap.size :=
  ⟨by simp, by simp [go_sem], by simp [go_sem], by simp [go_sem], by simp [go_sem], by simp [go_sem], by simp [go_sem]⟩
end Go.Proofs.YtihliofhhjjeaaaGreat
namespace Go.Proofs.YtihliofhhjjeaaaGreat
open Go.RowKit Im
set_option maxHeartbeats 2000000 in
theorem follow_bounds (W H S O : Int) (a : Option Addr) (len cap : Nat) (ps : List Ps) (w : World) (hp : Passes w a len ps) (hE : boundsE ⟨W, H, S, O, ps⟩ ≠ 0) :
    Calls Tryz.prog 34 #[.agg #[.int .i64 W, .int .i64 H, .int .i64 S, .int .i64 O, .slice a len cap]] w (ToldC w ⟨W, H, S, O, ps⟩) := by
  have hcb := fun wx => checkBounds_any W H S O a len cap ps wx hp.leng hp.big
  have hf : frameE ⟨W, H, S, O, ps⟩ = boundsE ⟨W, H, S, O, ps⟩ := by unfold frameE; rw [if_neg hE]
  have HF : Hid (frameE ⟨W, H, S, O, ps⟩ = boundsE ⟨W, H, S, O, ps⟩) := hf
  clear hf
  generalize boundsE ⟨W, H, S, O, ps⟩ = E at hcb hE HF
  have hB := FBox.new w W H S O a len cap
  have hC := CBox.new (w.alloc (.cells #[.int .i64 W, .int .i64 H, .int .i64 S, .int .i64 O, .slice a len cap] 24))
  have hb0 := below_box (below_box (Below.refl w.heap.size w) (.cells #[.int .i64 W, .int .i64 H, .int .i64 S, .int .i64 O, .slice a len cap] 24)) (.cells #[.slice none 0 0, .slice none 0 0, .int .i64 0] 82)
  rw [World.size_alloc] at hC
  go_enter Tryz.func34, Tryz.ntmps34
  go_wp2_with fail
  refine (hcb _).mono ?_
  rintro e w1 ⟨rfl, b1⟩
  obtain ⟨_, d0, d1, d2, f0, f1, f2⟩ := hC.below b1 hC.lt (Nat.lt_of_lt_of_le hC.lt b1.size)
  replace hb0 := below_step hb0 b1
  go_wp2
  refine bodyPost_ret (v := .tuple #[.agg #[.slice none 0 0, .slice none 0 0, .int .i64 0], .int .i64 E]) (by simp [results, Tryz.results34, go_sem, d0, d1, d2]) rfl ?_
  refine .inr ⟨by rw [HF.out]; exact hE, by rw [HF.out], ?_⟩
  exact ((hb0.setCell (by simp) _).setCell (by simp) _).setCell (by simp) _
end Go.Proofs.YtihliofhhjjeaaaGreat
