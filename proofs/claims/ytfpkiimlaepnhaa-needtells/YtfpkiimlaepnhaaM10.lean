/- Pass, Cours: joined, in this order. -/
import Derived.Test.YtfpkiimlaepnhaaM09
import Derived.Test.YtfpkiimlaepnhaaM03
import Derived.Maps.AppendAt
/-
  PASS: frame.checkPass and frame.checkBounds.
-/
namespace Go.Proofs.Ytfpkiimlaepnhaa
set_option maxRecDepth 100000
open Go.RowKit Im

theorem checkBounds_any (W H S O : Int) (a : Option Addr) (len cap : Nat) (ps : List Ps) (w : World) (hl : ps.length = len) (_hbig : len ≤ 9223372036854775807) : Calls Try.prog 106 #[.agg #[.int .i64 W, .int .i64 H, .int .i64 S, .int .i64 O, .slice a len cap]] w fun e w' => e = .returned (.int .i64 (boundsE ⟨W, H, S, O, ps⟩)) ∧ Below w.heap.size w w' := by
  have hb0 := below_box (Below.refl w.heap.size w) (.cells #[.int .i64 W, .int .i64 H, .int .i64 S, .int .i64 O, .slice a len cap] 63)
  have hw := fun n a b wx => fwithin_any n a b wx
  unfold boundsE
  dsimp only
  rw [hl]
  by_cases h1 : sideB W = true
  · have h1' : withinB W 1 16 = true := h1
    by_cases h2 : sideB H = true
    · have h2' : withinB H 1 16 = true := h2
      by_cases h3 : withinB S 1 8 = true
      · have hs := fun n wx => isSlot_any n S wx (by simp [withinB] at h3; exact h3)
        by_cases h4 : slotB O S = true
        · rw [if_pos ⟨h1, h2, h3, h4⟩]
          by_cases h5 : withinB (len : Int) 1 12 = true
          · rw [if_pos h5]
            clear h1 h2
            go_enter Try.func106, Try.ntmps106
            go_wp2_with (first | (go_at_call 117; refine (hw _ _ _ _).mono ?_; rintro e w' ⟨rfl, rfl⟩) | (go_at_call 118; refine (hs _ _).mono ?_; rintro e w' ⟨rfl, rfl⟩))
            go_ret
            exact ⟨rfl, hb0⟩
          · rw [if_neg h5]
            have h5' := eq_false_of_ne_true h5
            clear h1 h2 h5
            go_enter Try.func106, Try.ntmps106
            go_wp2_with (first | (go_at_call 117; refine (hw _ _ _ _).mono ?_; rintro e w' ⟨rfl, rfl⟩) | (go_at_call 118; refine (hs _ _).mono ?_; rintro e w' ⟨rfl, rfl⟩))
            go_ret
            exact ⟨rfl, hb0⟩
        · rw [if_neg (fun h => h4 h.2.2.2)]
          have h4' := eq_false_of_ne_true h4
          clear h1 h2 h4
          go_enter Try.func106, Try.ntmps106
          go_wp2_with (first | (go_at_call 117; refine (hw _ _ _ _).mono ?_; rintro e w' ⟨rfl, rfl⟩) | (go_at_call 118; refine (hs _ _).mono ?_; rintro e w' ⟨rfl, rfl⟩))
          go_ret
          exact ⟨rfl, hb0⟩
      · rw [if_neg (fun h => h3 h.2.2.1)]
        have h3' := eq_false_of_ne_true h3
        clear h1 h2 h3
        go_enter Try.func106, Try.ntmps106
        go_wp2_with (go_at_call 117; refine (hw _ _ _ _).mono ?_; rintro e w' ⟨rfl, rfl⟩)
        go_ret
        exact ⟨rfl, hb0⟩
    · rw [if_neg (fun h => h2 h.2.1)]
      have h2' : withinB H 1 16 = false := eq_false_of_ne_true h2
      clear h1 h2
      go_enter Try.func106, Try.ntmps106
      go_wp2_with (go_at_call 117; refine (hw _ _ _ _).mono ?_; rintro e w' ⟨rfl, rfl⟩)
      go_ret
      exact ⟨rfl, hb0⟩
  · rw [if_neg (fun h => h1 h.1)]
    have h1' : withinB W 1 16 = false := eq_false_of_ne_true h1
    clear h1
    go_enter Try.func106, Try.ntmps106
    go_wp2_with (go_at_call 117; refine (hw _ _ _ _).mono ?_; rintro e w' ⟨rfl, rfl⟩)
    go_ret
    exact ⟨rfl, hb0⟩
/-- The fields that a pass has, in a block of their own. -/
structure HBox (w : World) (b : Nat) (x0 x1 x2 x3 : Bool) : Prop where
  lt : b < w.heap.size
  c0 : w.cell? ⟨b, 0, none⟩ = some (.bool x0)
  c1 : w.cell? ⟨b, 1, none⟩ = some (.bool x1)
  c2 : w.cell? ⟨b, 2, none⟩ = some (.bool x2)
  c3 : w.cell? ⟨b, 3, none⟩ = some (.bool x3)
theorem HBox.below {w w' : World} {b : Nat} {x0 x1 x2 x3 : Bool} (h : HBox w b x0 x1 x2 x3) (hb : Below w.heap.size w w') : HBox w' b x0 x1 x2 x3 :=
  ⟨Nat.lt_of_lt_of_le h.lt hb.size, (hb.cell (p := ⟨b, 0, none⟩) h.lt).trans h.c0, (hb.cell (p := ⟨b, 1, none⟩) h.lt).trans h.c1, (hb.cell (p := ⟨b, 2, none⟩) h.lt).trans h.c2, (hb.cell (p := ⟨b, 3, none⟩) h.lt).trans h.c3⟩
theorem HBox.new (w : World) (x0 x1 x2 x3 : Bool) : HBox (w.alloc (.cells #[.bool x0, .bool x1, .bool x2, .bool x3] 147)) w.heap.size x0 x1 x2 x3 :=
  ⟨by simp, by simp [go_sem], by simp [go_sem], by simp [go_sem], by simp [go_sem]⟩
theorem Lights.alloc' {w : World} {a : Option Addr} {len : Nat} {ls : List Lt} (h : Lights w a len ls) (o : Obj) : Lights (w.alloc o) a len ls := h.below ((Below.refl _ _).alloc (Nat.le_refl _) _)

set_option maxHeartbeats 1000000 in
theorem checkPass_any (Op To A B K : Int) (la : Option Addr) (ll lc : Nat) (ls : List Lt) (S : Int) (w : World) (hS : 1 ≤ S ∧ S ≤ 8) (h : Lights w la ll ls) : Calls Try.prog 107 #[.agg #[.int .i64 Op, .int .i64 To, .int .i64 A, .int .i64 B, .int .i64 K, .slice la ll lc], .int .i64 S] w fun e w' => e = .returned (.int .i64 (ownE ⟨Op, To, A, B, K, ls⟩ S)) ∧ Below w.heap.size w w' := by
  have hP := PBox.new w Op To A B K la ll lc
  have hb0 := below_box (Below.refl w.heap.size w) (.cells #[.int .i64 Op, .int .i64 To, .int .i64 A, .int .i64 B, .int .i64 K, .slice la ll lc] 88)
  have hL := h.alloc' (.cells #[.int .i64 Op, .int .i64 To, .int .i64 A, .int .i64 B, .int .i64 K, .slice la ll lc] 88)
  have hf := fun wx => fieldsOf_any Op wx
  have hh := fun wx => hasSlots_any Op To A B K la ll lc ls S wx hS
  have hk := fun wx => isK_any Op K wx
  have hc := fun wx (hx : Lights wx la ll ls) => checkL_any lc hx
  have hbr := fun wx => isBare_any Op To A B K la ll lc ls wx h.leng h.big
  have how := fun wx => takesOwn_any Op To A B K la ll lc ls wx
  unfold ownE
  dsimp only
  generalize slotsB ⟨Op, To, A, B, K, ls⟩ S = sl at *
  generalize bareB ⟨Op, To, A, B, K, ls⟩ = br at *
  generalize ownB ⟨Op, To, A, B, K, ls⟩ = ow at *
  generalize kB Op K = kb at *
  generalize lightsErr ls = le at *
  generalize hasA Op = xa at *
  generalize hasB Op = xb at *
  generalize hasK Op = xk at *
  generalize hasL Op = xl at *
  generalize knownB Op = kn at *
  go_enter Try.func107, Try.ntmps107
  go_wp2_with fail
  refine (hf _).mono ?_
  rintro e w1 ⟨rfl, b1⟩
  replace hP := (hP.below b1).alloc (.cells #[.bool xa, .bool xb, .bool xk, .bool xl] 147)
  have hH := HBox.new w1 xa xb xk xl
  replace hL := (hL.below b1).alloc' (.cells #[.bool xa, .bool xb, .bool xk, .bool xl] 147)
  replace hb0 := below_box (below_step hb0 b1) (.cells #[.bool xa, .bool xb, .bool xk, .bool xl] 147)
  obtain ⟨_, p0, p1, p2, p3, p4, p5⟩ := id hP
  cases kn
  · go_wp2
    go_ret
    exact ⟨rfl, hb0⟩
  · go_wp2_with fail
    refine (hh _).mono ?_
    rintro e w2 ⟨rfl, b2⟩
    replace hP := hP.below b2
    replace hH := hH.below b2
    replace hL := hL.below b2
    replace hb0 := below_step hb0 b2
    clear p0 p1 p2 p3 p4 p5
    obtain ⟨_, p0, p1, p2, p3, p4, p5⟩ := id hP
    obtain ⟨_, k0, k1, k2, k3⟩ := id hH
    clear hf hh b1 b2
    cases sl
    · go_wp2_with (go_at_call 121; refine (hk _).mono ?_; rintro e w' ⟨rfl, rfl⟩)
      go_ret
      exact ⟨rfl, hb0⟩
    · cases xk
      · cases xl
        · go_wp2_with (go_at_call 121; refine (hk _).mono ?_; rintro e w' ⟨rfl, rfl⟩)
          refine (hbr _).mono ?_
          rintro e w4 ⟨rfl, b4⟩
          replace hP := hP.below b4
          replace hb0 := below_step hb0 b4
          clear p0 p1 p2 p3 p4 p5 k0 k1 k2 k3
          obtain ⟨_, p0, p1, p2, p3, p4, p5⟩ := id hP
          cases br
          · go_wp2
            go_ret
            exact ⟨rfl, hb0⟩
          · go_wp2_with fail
            refine (how _).mono ?_
            rintro e w5 ⟨rfl, b5⟩
            replace hb0 := below_step hb0 b5
            cases ow
            · go_wp2
              go_ret
              exact ⟨rfl, hb0⟩
            · go_wp2
              go_ret
              exact ⟨rfl, hb0⟩
        · go_wp2_with (go_at_call 121; refine (hk _).mono ?_; rintro e w' ⟨rfl, rfl⟩)
          refine (hc _ hL).mono ?_
          rintro e w3 ⟨rfl, b3⟩
          replace hP := hP.below b3
          replace hH := hH.below b3
          replace hb0 := below_step hb0 b3
          clear p0 p1 p2 p3 p4 p5 k0 k1 k2 k3
          obtain ⟨_, p0, p1, p2, p3, p4, p5⟩ := id hP
          obtain ⟨_, k0, k1, k2, k3⟩ := id hH
          by_cases hle : le = 0
          · subst hle
            go_wp2_with fail
            refine (hbr _).mono ?_
            rintro e w4 ⟨rfl, b4⟩
            replace hP := hP.below b4
            replace hb0 := below_step hb0 b4
            clear p0 p1 p2 p3 p4 p5 k0 k1 k2 k3
            obtain ⟨_, p0, p1, p2, p3, p4, p5⟩ := id hP
            cases br
            · go_wp2
              go_ret
              exact ⟨rfl, hb0⟩
            · go_wp2_with fail
              refine (how _).mono ?_
              rintro e w5 ⟨rfl, b5⟩
              replace hb0 := below_step hb0 b5
              cases ow
              · go_wp2
                go_ret
                exact ⟨rfl, hb0⟩
              · go_wp2
                go_ret
                exact ⟨rfl, hb0⟩
          · go_wp2
            go_ret
            exact ⟨rfl, hb0⟩
      · cases kb
        · go_wp2_with (go_at_call 121; refine (hk _).mono ?_; rintro e w' ⟨rfl, rfl⟩)
          go_ret
          exact ⟨rfl, hb0⟩
        · cases xl
          · go_wp2_with (go_at_call 121; refine (hk _).mono ?_; rintro e w' ⟨rfl, rfl⟩)
            refine (hbr _).mono ?_
            rintro e w4 ⟨rfl, b4⟩
            replace hP := hP.below b4
            replace hb0 := below_step hb0 b4
            clear p0 p1 p2 p3 p4 p5 k0 k1 k2 k3
            obtain ⟨_, p0, p1, p2, p3, p4, p5⟩ := id hP
            cases br
            · go_wp2
              go_ret
              exact ⟨rfl, hb0⟩
            · go_wp2_with fail
              refine (how _).mono ?_
              rintro e w5 ⟨rfl, b5⟩
              replace hb0 := below_step hb0 b5
              cases ow
              · go_wp2
                go_ret
                exact ⟨rfl, hb0⟩
              · go_wp2
                go_ret
                exact ⟨rfl, hb0⟩
          · go_wp2_with (go_at_call 121; refine (hk _).mono ?_; rintro e w' ⟨rfl, rfl⟩)
            refine (hc _ hL).mono ?_
            rintro e w3 ⟨rfl, b3⟩
            replace hP := hP.below b3
            replace hH := hH.below b3
            replace hb0 := below_step hb0 b3
            clear p0 p1 p2 p3 p4 p5 k0 k1 k2 k3
            obtain ⟨_, p0, p1, p2, p3, p4, p5⟩ := id hP
            obtain ⟨_, k0, k1, k2, k3⟩ := id hH
            by_cases hle : le = 0
            · subst hle
              go_wp2_with fail
              refine (hbr _).mono ?_
              rintro e w4 ⟨rfl, b4⟩
              replace hP := hP.below b4
              replace hb0 := below_step hb0 b4
              clear p0 p1 p2 p3 p4 p5 k0 k1 k2 k3
              obtain ⟨_, p0, p1, p2, p3, p4, p5⟩ := id hP
              cases br
              · go_wp2
                go_ret
                exact ⟨rfl, hb0⟩
              · go_wp2_with fail
                refine (how _).mono ?_
                rintro e w5 ⟨rfl, b5⟩
                replace hb0 := below_step hb0 b5
                cases ow
                · go_wp2
                  go_ret
                  exact ⟨rfl, hb0⟩
                · go_wp2
                  go_ret
                  exact ⟨rfl, hb0⟩
            · go_wp2
              go_ret
              exact ⟨rfl, hb0⟩
end Go.Proofs.Ytfpkiimlaepnhaa
/-
  COURS: lists of sizes in memory; frame.picked, frame.sizeOf, and what lies in which slot.
-/
namespace Go.Proofs.Ytfpkiimlaepnhaa
set_option maxRecDepth 100000
open Go.RowKit Im

/-- A slice's elements are the sizes zs. -/
structure Zs (w : World) (a : Option Addr) (len : Nat) (zs : List Sz) : Prop where
  leng : zs.length = len
  big : len ≤ 9223372036854775807
  cells : zs = [] ∨ ∃ b off, a = some ⟨b, off, none⟩ ∧ b < w.heap.size ∧ ∀ j, j < len → w.cell? ⟨b, off + j * 2, none⟩ = some (.int .i64 (zs.getD j Sz.zero).1) ∧ w.cell? ⟨b, off + j * 2 + 1, none⟩ = some (.int .i64 (zs.getD j Sz.zero).2)
theorem Zs.below {w w' : World} {a : Option Addr} {len : Nat} {zs : List Sz} (h : Zs w a len zs) (hb : Below w.heap.size w w') : Zs w' a len zs := by
  refine ⟨h.leng, h.big, ?_⟩
  rcases h.cells with e | ⟨b, off, ha, hl, hc⟩
  · exact .inl e
  · refine .inr ⟨b, off, ha, Nat.lt_of_lt_of_le hl hb.size, fun j hj => ?_⟩
    obtain ⟨c0, c1⟩ := hc j hj
    exact ⟨(hb.cell (p := ⟨b, off + j * 2, none⟩) hl).trans c0, (hb.cell (p := ⟨b, off + j * 2 + 1, none⟩) hl).trans c1⟩
theorem Zs.nil (w : World) : Zs w none 0 [] := ⟨rfl, by omega, .inl rfl⟩
theorem Zs.nth {w : World} {a : Option Addr} {len : Nat} {zs : List Sz} (h : Zs w a len zs) {k : Nat} (hk : k < len) : ∃ b off, a = some ⟨b, off, none⟩ ∧ b < w.heap.size ∧ w.cell? ⟨b, off + k * 2, none⟩ = some (.int .i64 (zs.getD k Sz.zero).1) ∧ w.cell? ⟨b, off + k * 2 + 1, none⟩ = some (.int .i64 (zs.getD k Sz.zero).2) := by
  rcases h.cells with e | ⟨b, off, ha, hl, hc⟩
  · have := h.leng; subst e; simp at this; omega
  · exact ⟨b, off, ha, hl, hc k hk⟩
def zcells (zs : List Sz) : List Value := zs.flatMap fun z => [.int .i64 z.1, .int .i64 z.2]
theorem zcells_len (zs : List Sz) : (zcells zs).length = zs.length * 2 := by
  induction zs with
  | nil => rfl
  | cons z zs ih => simp only [zcells, List.flatMap_cons, List.length_append, List.length_cons, List.length_nil] at ih ⊢; rw [ih]; omega
theorem zcells_snoc (zs : List Sz) (z : Sz) : zcells (zs ++ [z]) = zcells zs ++ [.int .i64 z.1, .int .i64 z.2] := by simp [zcells]
theorem zcells_get (zs : List Sz) (j : Nat) (h : j < zs.length) : (zcells zs)[j * 2]? = some (.int .i64 (zs.getD j Sz.zero).1) ∧ (zcells zs)[j * 2 + 1]? = some (.int .i64 (zs.getD j Sz.zero).2) := by
  induction zs generalizing j with
  | nil => simp at h
  | cons z zs ih =>
    have e : zcells (z :: zs) = .int .i64 z.1 :: .int .i64 z.2 :: zcells zs := rfl
    cases j with
    | zero => rw [e]; exact ⟨rfl, rfl⟩
    | succ j =>
      have := ih j (by simpa using h)
      rw [e, show (j + 1) * 2 = j * 2 + 1 + 1 by omega]
      simpa using this
def OwnsZ (base : Nat) (w : World) (v : Value) (zs : List Sz) : Prop := w.ownsRow base 72 2 v zs.length (zcells zs)
theorem OwnsZ.zs {base : Nat} {w : World} {v : Value} {zs : List Sz} (h : OwnsZ base w v zs) (hb : zs.length ≤ 12) : ∃ a cap, v = .slice a zs.length cap ∧ Zs w a zs.length zs := by
  obtain ⟨h1, h2⟩ := h
  rcases h2 with ⟨rfl, h0⟩ | ⟨g, cap, cur, rfl, hg, hh, hc, hm, hs, ht⟩
  · have : zs = [] := by simpa using h0
    subst this
    exact ⟨none, 0, rfl, Zs.nil w⟩
  · refine ⟨_, cap, rfl, rfl, by omega, .inr ⟨g, 0, rfl, ?_, fun j hj => ?_⟩⟩
    · rcases Nat.lt_or_ge g w.heap.size with h | h
      · exact h
      · rw [Array.getElem?_eq_none h] at hh; cases hh
    · have hl := zcells_len zs
      have hg2 := zcells_get zs j hj
      have this := fun i hi => World.ownsRow.cellAt (base := base) (e := 72) (size := 2) ⟨h1, .inr ⟨g, cap, cur, rfl, hg, hh, hc, hm, hs, ht⟩⟩ i hi
      rw [Nat.zero_add, this (j * 2) (by omega), this (j * 2 + 1) (by omega)]
      exact hg2
theorem Try.infoSize : (Try.prog.info? 72).map (fun i => (i.zero, i.size, i.bytes)) = some (some (.agg #[.int .i64 0, .int .i64 0]), 2, 16) := by kernel_rfl
theorem cell_two_new (w : World) (v0 v1 : Value) (t : TypeId) : ∀ (j : Nat) (u : Value), [v0, v1][j]? = some u → (w.alloc (.cells #[v0, v1] t)).cell? ((⟨w.heap.size, 0, none⟩ : Addr).add j) = some u := by
  intro j u h
  have hj : j < 2 := by
    rcases Nat.lt_or_ge j 2 with h4 | h4
    · exact h4
    · rw [List.getElem?_eq_none (by simpa using h4)] at h; cases h
  match j, hj with
  | 0, _ => simp at h; subst h; simp [go_sem]
  | 1, _ => simp at h; subst h; simp [go_sem]
theorem OwnsZ.push {base : Nat} {w wx w1 : World} {v v' : Value} {zs : List Sz} {z : Sz} {B0 : World} {o : Obj} (h : OwnsZ base w v zs) (hb : Below base B0 w) (hB : base ≤ w.heap.size)
    (h' : w1.ownsRow base 72 2 v' (zs.length + 1) (zcells zs ++ [.int .i64 z.1, .int .i64 z.2])) (hx : wx = w.alloc o) (hg : wx.grownBy w1 v.ownBlock) : OwnsZ base w1 v' (zs ++ [z]) ∧ Below base B0 w1 := by
  subst hx
  refine ⟨by unfold OwnsZ; rw [zcells_snoc]; simpa using h', ?_⟩
  exact (hb.alloc hB o).grown hg (by simp; omega) (fun j hj => (World.ownsRow.lt (w := w) h j hj).1)
/-- The call's end tells the sizes zs, in a slice of its own. -/
def ToldZ (w : World) (zs : List Sz) (e : Ending) (w' : World) : Prop :=
  ∃ a cap, e = .returned (.slice a zs.length cap) ∧ Zs w' a zs.length zs ∧ Below w.heap.size w w'
theorem pickZ_succ (zs : List Sz) (is : List Int) (k : Nat) (hk : k < is.length) : pickZ zs (is.take (k + 1)) = pickZ zs (is.take k) ++ [zs.getD (is.getD k 0).toNat Sz.zero] := by
  unfold pickZ
  rw [List.take_succ_eq_append_getElem hk, List.map_append, List.getD_eq_getElem?_getD (l := is), List.getElem?_eq_getElem hk]
  rfl
set_option maxHeartbeats 1000000 in
/-- frame.picked, of sizes. -/
theorem pickedZ_any {a a' : Option Addr} {len len' : Nat} (cap cap' : Nat) {zs : List Sz} {is : List Int} {base : Nat} {w : World} (hz : Zs w a len zs) (hI : Ints base w a' len' is) (hin : ∀ i ∈ is, 0 ≤ i ∧ i < len) (hl : is.length ≤ 2) :
    Calls Try.prog 110 #[.slice a len cap, .slice a' len' cap'] w (ToldZ w (pickZ zs is)) := by
  obtain ⟨i0, hi, hz0, hz1, hz2⟩ := info_parts Try.infoSize
  have hlen := hI.leng
  subst hlen
  go_enter Try.func110, Try.ntmps110
  go_wp2
  go_loopw [5, 10] (fun v i wr => ∃ k : Nat, k ≤ is.length ∧ i = .int .i64 k ∧ OwnsZ w.heap.size wr v (pickZ zs (is.take k)) ∧ Below w.heap.size w wr) (fun _ i _ => is.length - (intOf i).toNat)
  case atStart => exact ⟨0, Nat.zero_le _, rfl, World.ownsRow_nil _ _ _ _, Below.refl _ _⟩
  case round =>
    obtain ⟨k, hk, rfl, hown, hb⟩ := hrel
    by_cases hlt : k < is.length
    · obtain ⟨b, off, rfl, hcx⟩ := (hI.below (Nat.le_refl _) hb).nth hlt
      have hr := hin _ (getD_mem hlt 0)
      have HS := pickZ_succ zs is k hlt
      generalize is.getD k 0 = n at hcx hr HS
      obtain ⟨m, rfl⟩ := Int.eq_ofNat_of_zero_le hr.1
      obtain ⟨b', off', rfl, _, d0, d1⟩ := (hz.below hb).nth (k := m) (by omega)
      rw [Int.toNat_natCast] at HS
      have HS' : Hid (pickZ zs (is.take (k + 1)) = pickZ zs (is.take k) ++ [zs.getD m Sz.zero]) := HS
      have hpl : (pickZ zs (is.take k)).length = k := by simp [pickZ]; omega
      have hsz := hb.size
      generalize zs.getD m Sz.zero = z at d0 d1 HS'
      obtain ⟨zw, zh⟩ := z
      dsimp only at d0 d1
      clear HS hin
      go_wp2_with (at_builtin; refine wpList_append_own _ rfl _ _ 64 rfl w.heap.size 72 i0 _ 2 16 Try.underlying64 hi hz0 hz1 hz2 rfl (by decide) _ _ _ rfl (World.ownsRow.alloc hown _) ⟨wr.heap.size, 0, none⟩ 1 1 [.int .i64 zw, .int .i64 zh] rfl rfl (cell_two_new _ _ _ _) (by intro u hu; simp at hu; rcases hu with rfl | rfl <;> rfl) (by rw [hpl]; unfold maxLen; omega) (by rw [hpl]; omega) (by simp; omega) ?_; intro v' w9 hown9 hgrow9 _)
      have RR := OwnsZ.push (z := (zw, zh)) hown hb hsz hown9 rfl hgrow9
      go_roundw
      case rel => exact ⟨k + 1, by omega, by go_num, by rw [HS'.out]; exact RR.1, RR.2⟩
      case measure => simp [intOf]; omega
    · have hke : k = is.length := by omega
      subst hke
      rw [List.take_length] at hown
      have hpl : (pickZ zs is).length = is.length := by simp [pickZ]
      obtain ⟨sa, scap, rfl, hZ⟩ := hown.zs (by omega)
      go_wp2
      go_ret
      exact ⟨sa, scap, rfl, hZ, hb⟩
end Go.Proofs.Ytfpkiimlaepnhaa
