/- Steps, InRef, Given, At, Near, Tile, Pan, LitIn: joined, in this order. -/
import Derived.Test.YtihliofhhjjeaaaGreatM05
import Derived.Test.YtihliofhhjjeaaaGreatM01
import Derived.Maps.OwnSet
import Derived.Test.YtihliofhhjjeaaaGreatM03
import Derived.Laws.EntriesVeiled
set_option maxRecDepth 100000
namespace Go.Proofs.YtihliofhhjjeaaaGreat
open Go.RowKit Im Go.Maps
theorem intKeyed : Keyed Tryz.prog 3 := int_keyed Tryz.underlying3
theorem zeroInt (w : World) : (zeroValue 3).run Tryz.prog w = .ok (.int .i64 0) w := by kernel_rfl
theorem keyInt {p : Int} (h : -9223372036854775808 ≤ p ∧ p ≤ 9223372036854775807) : keyOf Tryz.prog 3 (.int .i64 p) = some (.int .i64 p) := keyOf_int_mk Tryz.underlying3 (WalkArith.wf_i64 (by omega))
def Steps (w : World) (B : Nat) (os : List Int) : Prop :=
  ∃ D : DataW Unit, w.ownsMap Tryz.prog 3 (plainElem Tryz.prog 3) B os.length D ∧ IsMap D ∧ ∀ p : Int, Maps.has D (.int .i64 p) = decide (0 ≤ stepAt os p) ∧ (0 ≤ stepAt os p → ∀ z, D.atKey (.int .i64 p) z = .lit (.int .i64 (stepAt os p)))
def stepV (os : List Int) (p : Int) : Int := if 0 ≤ stepAt os p then stepAt os p else 0
def stepB (os : List Int) (p : Int) : Bool := decide (0 ≤ stepAt os p)
theorem Steps.made (w : World) : Steps (w.alloc (.map #[] 0)) w.heap.size [] :=
  ⟨.map [], World.ownsMap_made _ _ _ _, isMap_empty, fun p => ⟨by simp [Maps.has, stepAt], fun h => by simp [stepAt] at h⟩⟩
theorem Steps.lt {w : World} {B : Nat} {os : List Int} (h : Steps w B os) : B < w.heap.size := by
  obtain ⟨D, ⟨es, c, hb, _⟩, _⟩ := h
  rcases Nat.lt_or_ge B w.heap.size with h | h
  · exact h
  · rw [Array.getElem?_eq_none h] at hb; cases hb
theorem Steps.below {w w' : World} {B : Nat} {os : List Int} (h : Steps w B os) (hb : Below w.heap.size w w') : Steps w' B os := by
  have hlt := h.lt
  obtain ⟨D, ⟨es, c, he, r⟩, hm, hp⟩ := h
  exact ⟨D, ⟨es, c, (hb.block B hlt).trans he, r⟩, hm, hp⟩
theorem wpList_lookup_steps {P : Program} (hP : P = Tryz.prog) (w : World) {ops : Array Oper} {rest : List Oper} {o : Oper} {a : Act} {Q : Exit → Act → World → Prop} (hg : o.guard = none) (m x : Operand) (hop : o.op = Op.lookup 152 m x true)
    {B : Nat} {os : List Int} (hs : Steps w B os) (hm : a.eval m = .map (some B)) {p : Int} (hx : a.eval x = .int .i64 p) (hp : -9223372036854775808 ≤ p ∧ p ≤ 9223372036854775807)
    (hK : wpList P ops Q rest (a.put o.dst (.tuple #[.int .i64 (stepV os p), .bool (stepB os p)])) w) : wpList P ops Q (o :: rest) a w := by
  subst hP
  obtain ⟨D, hown, hM, hD⟩ := hs
  obtain ⟨h1, h2⟩ := hD p
  refine wpList_lookup_own_ok_int w hg m x 152 hop 3 3 .i64 intKeyed Tryz.underlying152 Tryz.underlying3 (zeroInt _) B os.length D hm hown _ _ hx (keyInt hp) ?_
  intro c hat _
  have e1 : Maps.has D (.int .i64 p) = stepB os p := h1
  have e2 : c = stepV os p := by
    unfold stepV
    by_cases hn : 0 ≤ stepAt os p
    · rw [if_pos hn]
      rw [h2 hn] at hat
      injection hat with hat
      injection hat with _ hat
      exact hat.symm
    · rw [if_neg hn]
      have hf : Maps.has D (.int .i64 p) = false := by rw [h1]; simpa using hn
      rw [atKey_of_not_has hf] at hat
      injection hat with hat
      injection hat with _ hat
      exact hat.symm
  rw [e1, e2]
  exact hK
theorem wpList_update_steps {P : Program} (hP : P = Tryz.prog) (w : World) {ops : Array Oper} {rest : List Oper} {o : Oper} {a : Act} {Q : Exit → Act → World → Prop} (hg : o.guard = none) (m x v : Operand) (hop : o.op = Op.mapUpdate 152 m x v)
    {B : Nat} {os : List Int} (hs : Steps w B os) (hm : a.eval m = .map (some B)) {p : Int} (hx : a.eval x = .int .i64 p) (hv : a.eval v = .int .i64 os.length) (hp : -9223372036854775808 ≤ p ∧ p ≤ 9223372036854775807) (hl : os.length ≤ 100) (hn : p ∉ os)
    (hK : ∀ w', Steps w' B (os ++ [p]) → w.grownBy w' (some B) → wpList P ops Q rest (a.put o.dst undef) w') : wpList P ops Q (o :: rest) a w := by
  subst hP
  obtain ⟨D, hown, hM, hD⟩ := hs
  refine wpList_mapUpdate_own w hg m x v 152 hop 3 3 intKeyed Tryz.underlying152 _ B os.length D hm hown (by unfold maxLen; omega) _ _ _ hx hv (keyInt hp) _ [] (plainElem_int Tryz.underlying3 (WalkArith.wf_i64 (by omega))) ?_
  intro w' hown' hgrow
  refine hK w' ⟨_, by rw [List.length_append]; exact hown', hM.put _ _, fun q => ?_⟩ hgrow
  rw [stepAt_snoc q hn]
  by_cases e : p = q
  · subst e
    rw [if_pos rfl]
    refine ⟨?_, fun _ z => atKey_put_same hM (intKeyed.key (keyInt hp)) _ z⟩
    rw [has_put_same hM (intKeyed.key (keyInt hp))]
    simp
  · rw [if_neg e]
    have hne : (Lit.int .i64 q) ≠ (Lit.int .i64 p) := fun h => e (by injection h with _ h; exact h.symm)
    refine ⟨by rw [has_put_other hne]; exact (hD q).1, fun hq z => ?_⟩
    rw [atKey_put_other hne]
    exact (hD q).2 hq z
def ToldSt (w : World) (os : List Int) (N : Nat) (e : Ending) (w' : World) : Prop :=
  (onceB os N = true ∧ (∃ B, e = .returned (.tuple #[.map (some B), .bool true]) ∧ w.heap.size ≤ B ∧ Steps w' B os) ∧ Below w.heap.size w w') ∨ (onceB os N = false ∧ e = .returned (.tuple #[.map none, .bool false]) ∧ Below w.heap.size w w')
set_option maxHeartbeats 1000000 in
theorem stepsOf_any {a : Option Addr} {len : Nat} (cap : Nat) {os : List Int} {base : Nat} {w : World} (hI : Ints base w a len os) {N : Nat} (hN : N ≤ 12) :
    Calls Tryz.prog 91 #[.slice a len cap, .int .i64 N] w (ToldSt w os N) := by
  have hmm := @run_makeMap Tryz.prog
  obtain rfl := hI.leng
  have hbig := hI.big
  go_enter Tryz.func91, Tryz.ntmps91
  go_wp2
  go_loopw [4, 13] (fun m i wr => ∃ k : Nat, k ≤ os.length ∧ i = .int .i64 k ∧ m = .map (some w.heap.size) ∧ allTo (onceP os N) k = true ∧ Steps wr w.heap.size (os.take k) ∧ Below w.heap.size w wr) (fun _ i _ => os.length - (intOf i).toNat)
  case atStart => exact ⟨0, Nat.zero_le _, rfl, rfl, rfl, Steps.made w, (Below.refl _ _).alloc (Nat.le_refl _) _⟩
  case round =>
    obtain ⟨k, hk, rfl, rfl, hall, hst, hb⟩ := hrel
    by_cases hlt : k < os.length
    · obtain ⟨b, off, rfl, hcx⟩ := (hI.below (Nat.le_refl _) hb).nth hlt
      have hon := (once_to (os := os) (N := N) hk).1 hall
      have hk12 : (os.take k).length ≤ N := nodup_len N _ hon.2 hon.1
      rw [List.length_take] at hk12
      have HSn : Hid (os.take (k + 1) = os.take k ++ [os.getD k 0]) := by
        show _ = _
        rw [List.take_succ_eq_append_getElem hlt, List.getD_eq_getElem?_getD, List.getElem?_eq_getElem hlt]; rfl
      have HA : Hid (onceP os N k = true → allTo (onceP os N) (k + 1) = true) := fun h => allTo_succ hall h
      have HF : Hid (onceP os N k = false → onceB os N = false) := fun h => allTo_not hlt h
      have HP : Hid (onceP os N k = (decide (0 ≤ os.getD k 0) && decide (os.getD k 0 < N) && decide (stepAt (os.take k) (os.getD k 0) < 0))) := rfl
      have hlk : (os.take k).length = k := by rw [List.length_take]; omega
      have HL : Hid ((os.take k).length = k) := hlk
      clear hlk hon hall
      generalize os.getD k 0 = n at hcx HSn HP
      generalize os.take k = l at hst HSn HP HL
      by_cases h1 : n < 0
      · go_wp2
        go_ret2
        exact .inr ⟨HF.out (by rw [HP.out, decide_eq_false (by omega)]; rfl), rfl, hb⟩
      · by_cases h2 : (N : Int) ≤ n
        · go_wp2
          go_ret2
          exact .inr ⟨HF.out (by rw [HP.out, decide_eq_false (show ¬ n < (N : Int) by omega)]; simp), rfl, hb⟩
        · by_cases h3 : 0 ≤ stepAt l n
          · have hsb : stepB l n = true := decide_eq_true h3
            go_wp2_with (at_lookup; refine wpList_lookup_steps rfl _ rfl _ _ rfl hst rfl rfl (by omega) ?_)
            go_ret2
            exact .inr ⟨HF.out (by rw [HP.out, decide_eq_false (show ¬ stepAt l n < 0 by omega)]; simp), rfl, hb⟩
          · have hsb : stepB l n = false := decide_eq_false h3
            have hni : n ∉ l := fun hm => h3 (stepAt_mem.2 hm)
            go_wp2_with (first
              | (at_lookup; refine wpList_lookup_steps rfl _ rfl _ _ rfl hst rfl rfl (by omega) ?_)
              | (at_mapUpdate; refine wpList_update_steps rfl _ rfl _ _ _ rfl hst rfl rfl (by rw [HL.out]; rfl) (by omega) (by rw [HL.out]; omega) hni ?_; intro w1 hst1 hgrow1))
            go_roundw
            case rel => exact ⟨k + 1, by omega, by go_num, rfl, HA.out (by rw [HP.out, decide_eq_true (show 0 ≤ n by omega), decide_eq_true (show n < (N : Int) by omega), decide_eq_true (show stepAt l n < 0 by omega)]; rfl), by rw [HSn.out]; exact hst1, hb.grown hgrow1 hb.size (fun j hj => by cases hj; exact Nat.le_refl _)⟩
            case measure => simp [intOf]; omega
    · have hke : k = os.length := by omega
      subst hke
      rw [List.take_length] at hst
      go_wp2
      go_ret2
      exact .inl ⟨hall, ⟨_, rfl, Nat.le_refl _, hst⟩, hb⟩
end Go.Proofs.YtihliofhhjjeaaaGreat
namespace Go.Proofs.YtihliofhhjjeaaaGreat
open Go.RowKit Im
def inP (f : Fr) (n : Nat) (s : Int) : Sz := if 0 ≤ wrt f.ps n s then (szs f n).getD (wrt f.ps n s).toNat Sz.zero else Sz.zero
theorem inP_some {f : Fr} {n : Nat} {s : Int} (hb : boundsE f = 0) (h : firstE f n = 0) (hw : 0 ≤ wrt f.ps n s) : ZB (inP f n s) := by
  unfold inP
  rw [if_pos hw]
  have := wrt_bd f.ps n s
  exact szs_bd hb h _ (getD_mem (by rw [szs_length]; omega) _)
theorem inP_none {f : Fr} {n : Nat} {s : Int} (hw : ¬ 0 ≤ wrt f.ps n s) : inP f n s = (0, 0) := by unfold inP; rw [if_neg hw]
theorem inP_zero {f : Fr} {n : Nat} {s : Int} (hb : boundsE f = 0) (h : firstE f n = 0) : (inP f n s).1 = 0 ↔ ¬ 0 ≤ wrt f.ps n s := by
  constructor
  · intro e hw
    have := (inP_some hb h hw).1
    omega
  · intro hw
    rw [inP_none hw]
theorem inP_succ (f : Fr) (n : Nat) (s : Int) : inP f (n + 1) s = if (f.ps.getD n Ps.zero).To = s then sizeP f.W f.H (f.ps.getD n Ps.zero).Op (pickZ (szs f n) (srcOf f.ps n)) else inP f n s := by
  have e : szs f (n + 1) = szs f n ++ [sizeP f.W f.H (f.ps.getD n Ps.zero).Op (pickZ (szs f n) (srcOf f.ps n))] := rfl
  have hl := szs_length f n
  have ew : wrt f.ps (n + 1) s = if (f.ps.getD n Ps.zero).To = s then (n : Int) else wrt f.ps n s := rfl
  unfold inP
  rw [ew]
  by_cases ht : (f.ps.getD n Ps.zero).To = s
  · rw [if_pos ht, if_pos ht, if_pos (by omega), e, Int.toNat_natCast, List.getD_eq_getElem?_getD, List.getElem?_append_right (by omega)]
    simp [hl]
  · rw [if_neg ht, if_neg ht]
    by_cases hw : 0 ≤ wrt f.ps n s
    · have := wrt_bd f.ps n s
      rw [if_pos hw, if_pos hw, e, List.getD_eq_getElem?_getD, List.getElem?_append_left (by omega), ← List.getD_eq_getElem?_getD]
    · rw [if_neg hw, if_neg hw]
def refE (p : Ps) (S : Int) (zA zB : Sz) : Int :=
  if ownE p S = 0 then
    if (hasA p.Op = true ∧ zA.1 = 0) ∨ (hasB p.Op = true ∧ zB.1 = 0) then 5
    else if hasB p.Op = true ∧ zA ≠ zB then 6
    else if (p.Op = 11 ∧ (zA.1 % 2 = 1 ∨ zA.2 % 2 = 1)) ∨ (p.Op = 12 ∧ (16 < 2 * zA.1 ∨ 16 < 2 * zA.2)) then 6
    else 0
  else ownE p S
theorem hasB_hasA {op : Int} (h : hasB op = true) : hasA op = true := by simp [hasB, withinB] at h; simp [hasA, withinB]; omega
theorem refE_eq {f : Fr} {n : Nat} (hb : boundsE f = 0) (h : firstE f n = 0) : refE (f.ps.getD n Ps.zero) f.S (inP f n (f.ps.getD n Ps.zero).A) (inP f n (f.ps.getD n Ps.zero).B) = passE f n := by
  have zA := inP_zero (f := f) (n := n) (s := (f.ps.getD n Ps.zero).A) hb h
  have zB := inP_zero (f := f) (n := n) (s := (f.ps.getD n Ps.zero).B) hb h
  have eA : 0 ≤ wrt f.ps n (f.ps.getD n Ps.zero).A → (szs f n).getD (wrt f.ps n (f.ps.getD n Ps.zero).A).toNat Sz.zero = inP f n (f.ps.getD n Ps.zero).A := fun hw => by unfold inP; rw [if_pos hw]
  have eB : 0 ≤ wrt f.ps n (f.ps.getD n Ps.zero).B → (szs f n).getD (wrt f.ps n (f.ps.getD n Ps.zero).B).toNat Sz.zero = inP f n (f.ps.getD n Ps.zero).B := fun hw => by unfold inP; rw [if_pos hw]
  unfold refE passE srcOf thereB
  by_cases ho : ownE (f.ps.getD n Ps.zero) f.S = 0
  · rw [if_pos ho, if_pos ho]
    clear ho
    generalize f.ps.getD n Ps.zero = p at *
    generalize inP f n p.A = za at *
    generalize inP f n p.B = zb at *
    unfold takesP fitP
    rw [List.getD_eq_getElem?_getD] at eA eB
    by_cases hB : hasB p.Op = true
    · have hA := hasB_hasA hB
      have n11 : ¬ p.Op = 11 := by simp [hasB, withinB] at hB; omega
      have n12 : ¬ p.Op = 12 := by simp [hasB, withinB] at hB; omega
      by_cases a1 : 0 ≤ wrt f.ps n p.A
      · have za0 : ¬ za.1 = 0 := fun e => (zA.1 e) a1
        by_cases b1 : 0 ≤ wrt f.ps n p.B
        · have zb0 : ¬ zb.1 = 0 := fun e => (zB.1 e) b1
          by_cases e : za = zb
          · simp [hB, hA, n11, n12, a1, b1, zb0, eA a1, eB b1, pickZ, e]
          · simp [hB, hA, n11, n12, a1, b1, za0, zb0, eA a1, eB b1, pickZ, e]
        · have zb0 := zB.2 b1
          simp [hB, hA, b1, zb0]
      · have za0 := zA.2 a1
        simp [hB, hA, a1, za0]
    · by_cases hA : hasA p.Op = true
      · by_cases a1 : 0 ≤ wrt f.ps n p.A
        · have za0 : ¬ za.1 = 0 := fun e => (zA.1 e) a1
          by_cases h11 : p.Op = 11
          · have x1 : hasA 11 = true := rfl
            have x2 : hasB 11 = false := rfl
            by_cases c1 : za.1 % 2 = 0 <;> by_cases c2 : za.2 % 2 = 0
            all_goals simp [x1, x2, a1, za0, eA a1, pickZ, h11, c1, c2]
            all_goals omega
          · by_cases h12 : p.Op = 12
            · have x1 : hasA 12 = true := rfl
              have x2 : hasB 12 = false := rfl
              by_cases c1 : 2 * za.1 ≤ 16 <;> by_cases c2 : 2 * za.2 ≤ 16
              all_goals simp [x1, x2, a1, za0, eA a1, pickZ, h12, c1, c2]
              all_goals omega
            · simp [hB, hA, a1, za0, h11, h12]
        · have za0 := zA.2 a1
          simp [hB, hA, a1, za0]
      · have n11 : ¬ p.Op = 11 := fun e => hA (by rw [e]; rfl)
        have n12 : ¬ p.Op = 12 := fun e => hA (by rw [e]; rfl)
        simp [hA, hB, n11, n12]
  · rw [if_neg ho, if_neg ho]
end Go.Proofs.YtihliofhhjjeaaaGreat
namespace Go.Proofs.YtihliofhhjjeaaaGreat
open Go.RowKit Im
def awayP (c f n : Int) : Int := max (max (f - c) (c - (f + n - 1))) 0
theorem away_any (c f n : Int) (w : World) (hc : 0 ≤ c ∧ c < 16) (hf : 0 ≤ f ∧ f < 16) (hn : 1 ≤ n ∧ n ≤ 16) : Calls Tryz.prog 144 #[.int .i64 c, .int .i64 f, .int .i64 n] w fun e w' => e = .returned (.int .i64 (awayP c f n)) ∧ w' = w := by
  obtain ⟨m, hm⟩ : ∃ m, m = awayP c f n := ⟨_, rfl⟩
  rw [← hm]
  by_cases h1 : f - c < c - (f + n - 1)
  · by_cases h2 : c - (f + n - 1) < 0
    · have e : m = 0 := by rw [hm]; unfold awayP; omega
      subst e
      clear hm
      go_enter Tryz.func144, Tryz.ntmps144
      go_wp2
      go_ret
      exact ⟨rfl, rfl⟩
    · have e : m = c - (f + n - 1) := by rw [hm]; unfold awayP; omega
      subst e
      clear hm
      go_enter Tryz.func144, Tryz.ntmps144
      go_wp2
      go_ret
      exact ⟨rfl, rfl⟩
  · by_cases h2 : f - c < 0
    · have e : m = 0 := by rw [hm]; unfold awayP; omega
      subst e
      clear hm
      go_enter Tryz.func144, Tryz.ntmps144
      go_wp2
      go_ret
      exact ⟨rfl, rfl⟩
    · have e : m = f - c := by rw [hm]; unfold awayP; omega
      subst e
      clear hm
      go_enter Tryz.func144, Tryz.ntmps144
      go_wp2
      go_ret
      exact ⟨rfl, rfl⟩
theorem away_bd (c f n : Int) (hc : 0 ≤ c ∧ c < 16) (hf : 0 ≤ f ∧ f < 16) (hn : 1 ≤ n ∧ n ≤ 16) : 0 ≤ awayP c f n ∧ awayP c f n ≤ 15 := by unfold awayP; omega
def givenP (l : Lt) (x y : Int) : Int := l.P * max (l.R - (awayP l.X x 1 + awayP l.Y y 1)) 0 / l.R
theorem given_bd {l : Lt} (hl : rightB l = true) (x y : Int) (hx : 0 ≤ x ∧ x < 16) (hy : 0 ≤ y ∧ y < 16) : 0 ≤ givenP l x y ∧ givenP l x y ≤ 65535 := by
  obtain ⟨hX, hY, hR, hP⟩ := (right_iff l).1 hl
  have a1 := away_bd l.X x 1 hX hx (by omega)
  have a2 := away_bd l.Y y 1 hY hy (by omega)
  unfold givenP
  have hd : 0 ≤ awayP l.X x 1 + awayP l.Y y 1 := by omega
  generalize awayP l.X x 1 + awayP l.Y y 1 = d at hd ⊢
  have h1 : 0 ≤ max (l.R - d) 0 ∧ max (l.R - d) 0 ≤ l.R := by omega
  · have m1 : 0 ≤ l.P * max (l.R - d) 0 := Int.mul_nonneg hP.1 h1.1
    have m2 : l.P * max (l.R - d) 0 ≤ 65535 * l.R := Int.mul_le_mul hP.2 h1.2 h1.1 (by omega)
    refine ⟨Int.ediv_nonneg m1 (by omega), ?_⟩
    have : l.P * max (l.R - d) 0 / l.R < 65536 := Int.ediv_lt_of_lt_mul (by omega) (by omega)
    omega
theorem given_any (l : Lt) (x y : Int) (w : World) (hl : rightB l = true) (hx : 0 ≤ x ∧ x < 16) (hy : 0 ≤ y ∧ y < 16) :
    Calls Tryz.prog 117 #[.agg #[.int .i64 l.X, .int .i64 l.Y, .int .i64 l.R, .int .i64 l.P], .int .i64 x, .int .i64 y] w fun e w' => e = .returned (.int .i64 (givenP l x y)) ∧ Below w.heap.size w w' := by
  obtain ⟨hX, hY, hR, hP⟩ := (right_iff l).1 hl
  have c1 := fun wx => away_any l.X x 1 wx hX hx (by omega)
  have c2 := fun wx => away_any l.Y y 1 wx hY hy (by omega)
  have a1 := away_bd l.X x 1 hX hx (by omega)
  have a2 := away_bd l.Y y 1 hY hy (by omega)
  have hg : givenP l x y = l.P * max (l.R - (awayP l.X x 1 + awayP l.Y y 1)) 0 / l.R := rfl
  generalize awayP l.X x 1 = d1 at *
  generalize awayP l.Y y 1 = d2 at *
  obtain ⟨X, Y, R, P⟩ := l
  dsimp only at *
  obtain ⟨m, hm⟩ : ∃ m, (if R - (d1 + d2) < 0 then 0 else R - (d1 + d2)) = m := ⟨_, rfl⟩
  have hm' : max (R - (d1 + d2)) 0 = m := by rw [← hm]; split <;> omega
  rw [hg, hm']
  have b1 : 0 ≤ m ∧ m ≤ 32 := by omega
  have m1 : 0 ≤ P * m := Int.mul_nonneg hP.1 b1.1
  have m2 : P * m ≤ 65535 * 32 := Int.mul_le_mul hP.2 b1.2 b1.1 (by omega)
  clear hg hm' hl
  go_enter Tryz.func117, Tryz.ntmps117
  go_wp2
  go_quiet ((first | (go_at_call 144; with_reducible exact Calls.quiet_of_same (c1 _)) | (go_at_call 144; with_reducible exact Calls.quiet_of_same (c2 _))))
  clear c1 c2
  go_wp2
  go_ret
  exact ⟨rfl, below_drewN ((Below.refl _ _).alloc (Nat.le_refl _) _) _⟩
theorem given_pos {l : Lt} {x y d : Int} (hd : awayP l.X x 1 + awayP l.Y y 1 = d) (h : d < l.R) : givenP l x y = l.P * (l.R - d) / l.R := by
  unfold givenP; rw [hd, show max (l.R - d) 0 = l.R - d by omega]
theorem given_zero {l : Lt} {x y d : Int} (hd : awayP l.X x 1 + awayP l.Y y 1 = d) (h : ¬ d < l.R) : givenP l x y = 0 := by
  unfold givenP; rw [hd, show max (l.R - d) 0 = 0 by omega]; simp
def stretchB (f n : Int) : Bool := placeB f && decide (1 ≤ n) && decide (n ≤ 16 - f)
theorem isStretch_any (f n : Int) (w : World) : Calls Tryz.prog 143 #[.int .i64 f, .int .i64 n] w fun e w' => e = .returned (.bool (stretchB f n)) ∧ w = w' := by
  by_cases h1 : placeB f = true
  · have hf := (place_iff f).1 h1
    by_cases h2 : 1 ≤ n
    · by_cases h3 : n ≤ 16 - f
      · rw [show stretchB f n = true by simp [stretchB, h1, h2, h3]]
        go_enter Tryz.func143, Tryz.ntmps143
        go_wp2_with (go_at_call 160; refine (isPlace_any _ _).mono ?_; rintro e w' ⟨rfl, rfl⟩)
        go_ret
        exact ⟨by first | rfl | simp [h3], rfl⟩
      · rw [show stretchB f n = false by simp [stretchB, h3]]
        have h3' : decide (n ≤ 16 - f) = false := by simpa using h3
        go_enter Tryz.func143, Tryz.ntmps143
        go_wp2_with (go_at_call 160; refine (isPlace_any _ _).mono ?_; rintro e w' ⟨rfl, rfl⟩)
        go_ret
        exact ⟨by first | rfl | simp [h3], rfl⟩
    · rw [show stretchB f n = false by simp [stretchB, h2]]
      go_enter Tryz.func143, Tryz.ntmps143
      go_wp2_with (go_at_call 160; refine (isPlace_any _ _).mono ?_; rintro e w' ⟨rfl, rfl⟩)
      go_ret
      exact ⟨rfl, rfl⟩
  · have h1' := eq_false_of_ne_true h1
    rw [show stretchB f n = false by simp [stretchB, h1']]
    go_enter Tryz.func143, Tryz.ntmps143
    go_wp2_with (go_at_call 160; refine (isPlace_any _ _).mono ?_; rintro e w' ⟨rfl, rfl⟩)
    go_ret
    exact ⟨rfl, rfl⟩
end Go.Proofs.YtihliofhhjjeaaaGreat
namespace Go.Proofs.YtihliofhhjjeaaaGreat
open Go.RowKit Im
def sumG (x y : Int) : List Lt → Int
  | [] => 0
  | l :: r => givenP l x y + sumG x y r
theorem sumG_snoc (x y : Int) (l : Lt) : ∀ ls, sumG x y (ls ++ [l]) = sumG x y ls + givenP l x y
  | [] => by simp [sumG]
  | m :: r => by simp [sumG, sumG_snoc x y l r, Int.add_assoc]
theorem sumG_bd (x y : Int) (hx : 0 ≤ x ∧ x < 16) (hy : 0 ≤ y ∧ y < 16) : ∀ ls : List Lt, ls.all rightB = true → 0 ≤ sumG x y ls ∧ sumG x y ls ≤ 65535 * ls.length
  | [], _ => by simp [sumG]
  | l :: r, h => by
    simp only [List.all_cons, Bool.and_eq_true] at h
    have h1 := sumG_bd x y hx hy r h.2
    have h2 := given_bd h.1 x y hx hy
    simp only [sumG, List.length_cons]
    omega
theorem take_snocL (ls : List Lt) (k : Nat) (hk : k < ls.length) : ls.take (k + 1) = ls.take k ++ [ls.getD k Lt.zero] := by
  rw [List.take_succ_eq_append_getElem hk, List.getD_eq_getElem?_getD, List.getElem?_eq_getElem hk]; rfl
theorem all_take (ls : List Lt) (k : Nat) (h : ls.all rightB = true) : (ls.take k).all rightB = true := by
  rw [List.all_eq_true] at h ⊢
  exact fun x hx => h x (List.mem_of_mem_take hx)
theorem all_getD (ls : List Lt) (k : Nat) (hk : k < ls.length) (h : ls.all rightB = true) : rightB (ls.getD k Lt.zero) = true := by
  rw [List.getD_eq_getElem?_getD, List.getElem?_eq_getElem hk]
  exact List.all_eq_true.1 h _ (List.getElem_mem hk)
theorem lightsErr_zero {ls : List Lt} (h : lightsErr ls = 0) : ls.length ≤ 8 ∧ ls.all rightB = true := by
  unfold lightsErr at h
  by_cases h8 : ls.length ≤ 8
  · rw [if_pos h8] at h
    refine ⟨h8, ?_⟩
    cases hr : ls.all rightB
    · rw [hr] at h; cases h
    · rfl
  · rw [if_neg h8] at h; cases h
end Go.Proofs.YtihliofhhjjeaaaGreat
namespace Go.Proofs.YtihliofhhjjeaaaGreat
open Go.RowKit Im
def nearB (x y pw ph : Int) (l : Lt) : Bool := decide (awayP l.X x pw + awayP l.Y y ph < l.R)
def pickL (f : Lt → Bool) (ls : List Lt) (k : Nat) : List Int := ((List.range k).filter fun i => f (ls.getD i Lt.zero)).map (fun i : Nat => (i : Int))
theorem pickL_yes (f : Lt → Bool) (ls : List Lt) (k : Nat) (h : f (ls.getD k Lt.zero) = true) : pickL f ls (k + 1) = pickL f ls k ++ [(k : Int)] := by
  unfold pickL; rw [List.range_succ, List.filter_append, List.filter_cons, if_pos h]; simp
theorem pickL_no (f : Lt → Bool) (ls : List Lt) (k : Nat) (h : f (ls.getD k Lt.zero) = false) : pickL f ls (k + 1) = pickL f ls k := by
  unfold pickL; rw [List.range_succ, List.filter_append, List.filter_cons, if_neg (by rw [h]; simp)]; simp
theorem pickL_len (f : Lt → Bool) (ls : List Lt) (k : Nat) : (pickL f ls k).length ≤ k := by
  unfold pickL; rw [List.length_map]; exact Nat.le_trans (List.length_filter_le _ _) (by simp)
def ToldL (w : World) (ps : List Int) (E : Int) (e : Ending) (w' : World) : Prop :=
  ∃ a cap, e = .returned (.tuple #[.slice a ps.length cap, .int .i64 E]) ∧ Ints w.heap.size w' a ps.length ps ∧ Below w.heap.size w w'
theorem stretch_iff (f n : Int) : stretchB f n = true ↔ (0 ≤ f ∧ f < 16) ∧ 1 ≤ n ∧ n ≤ 16 - f := by simp [stretchB, place_iff, and_assoc]
set_option maxHeartbeats 1000000 in
theorem near_ok {a : Option Addr} {len : Nat} (cap : Nat) {ls : List Lt} (x y pw ph : Int) {w : World} (h : Lights w a len ls) (h8 : ls.length ≤ 8) (hr : ls.all rightB = true) (hx : stretchB x pw = true) (hy : stretchB y ph = true) :
    Calls Tryz.prog 114 #[.slice a len cap, .int .i64 x, .int .i64 y, .int .i64 pw, .int .i64 ph] w (ToldL w (pickL (nearB x y pw ph) ls len) 0) := by
  obtain ⟨i0, hi, hz0, hz1, hz2⟩ := info_parts Tryz.info3
  have hc := checkL_any cap h
  rw [show lightsErr ls = 0 by simp [lightsErr, h8, hr, okIf]] at hc
  have bx := (stretch_iff x pw).1 hx
  have by' := (stretch_iff y ph).1 hy
  have hl := h.leng
  rcases h.cells with e | ⟨b, off, rfl, hb, hcl⟩
  · subst e
    have : len = 0 := by simpa using hl.symm
    subst this
    go_enter Tryz.func114, Tryz.ntmps114
    go_wp2_with (first | (go_at_call 102; refine hc.mono ?_; rintro e wA ⟨rfl, bA⟩) | (go_at_call 143; refine (isStretch_any _ _ _).mono ?_; rintro e w' ⟨rfl, rfl⟩))
    go_loop [13, 33] (fun s i => s = .slice none 0 0 ∧ i = .int .i64 0) (fun _ _ => 0)
    case atStart => exact ⟨rfl, rfl⟩
    case round =>
      obtain ⟨rfl, rfl⟩ := hrel
      go_wp2
      go_ret2
      exact ⟨none, 0, rfl, Ints.nil _ _, bA⟩
  · go_enter Tryz.func114, Tryz.ntmps114
    go_wp2_with (first | (go_at_call 102; refine hc.mono ?_; rintro e wA ⟨rfl, bA⟩) | (go_at_call 143; refine (isStretch_any _ _ _).mono ?_; rintro e w' ⟨rfl, rfl⟩))
    go_loopw [13, 33] (fun s i wr => ∃ k : Nat, k ≤ len ∧ i = .int .i64 k ∧ Owns w.heap.size wr s (pickL (nearB x y pw ph) ls k) ∧ Below w.heap.size w wr) (fun _ i _ => len - (intOf i).toNat)
    case atStart => exact ⟨0, Nat.zero_le _, rfl, World.ownsRow_nil _ _ _ _, bA⟩
    case round =>
      obtain ⟨k, hk, rfl, hown, hbr⟩ := hrel
      have hlen := pickL_len (nearB x y pw ph) ls k
      by_cases hlt : k < len
      · obtain ⟨c0, c1, c2, c3⟩ := hcl k hlt
        replace c0 := (hbr.cell (p := ⟨b, off + k * 4, none⟩) hb).trans c0
        replace c1 := (hbr.cell (p := ⟨b, off + k * 4 + 1, none⟩) hb).trans c1
        replace c2 := (hbr.cell (p := ⟨b, off + k * 4 + 2, none⟩) hb).trans c2
        replace c3 := (hbr.cell (p := ⟨b, off + k * 4 + 3, none⟩) hb).trans c3
        obtain ⟨hX, hY, hR, _⟩ := (right_iff _).1 (all_getD ls k (by omega) hr)
        have y1 := pickL_yes (nearB x y pw ph) ls k
        have y2 := pickL_no (nearB x y pw ph) ls k
        have d1 := fun wx => away_any (ls.getD k Lt.zero).X x pw wx hX bx.1 (by omega)
        have d2 := fun wx => away_any (ls.getD k Lt.zero).Y y ph wx hY by'.1 (by omega)
        have e1 := away_bd (ls.getD k Lt.zero).X x pw hX bx.1 (by omega)
        have e2 := away_bd (ls.getD k Lt.zero).Y y ph hY by'.1 (by omega)
        have hnb : nearB x y pw ph (ls.getD k Lt.zero) = decide (awayP (ls.getD k Lt.zero).X x pw + awayP (ls.getD k Lt.zero).Y y ph < (ls.getD k Lt.zero).R) := rfl
        rw [hnb] at y1 y2
        clear hnb
        generalize awayP (ls.getD k Lt.zero).X x pw = f1 at d1 e1 y1 y2
        generalize awayP (ls.getD k Lt.zero).Y y ph = f2 at d2 e2 y1 y2
        generalize ls.getD k Lt.zero = l at c0 c1 c2 c3 d1 d2 hX hY hR y1 y2
        obtain ⟨X, Y, R, P⟩ := l
        dsimp only at c0 c1 c2 c3 d1 d2 hX hY hR y1 y2
        clear hcl hc
        have hsz := hbr.size
        by_cases hd : f1 + f2 < R
        · have HS : Hid (pickL (nearB x y pw ph) ls (k + 1) = pickL (nearB x y pw ph) ls k ++ [(k : Int)]) := y1 (by simpa using hd)
          clear y1 y2
          go_wp2
          go_quiet ((first | (go_at_call 144; with_reducible exact Calls.quiet_of_same (d1 _)) | (go_at_call 144; with_reducible exact Calls.quiet_of_same (d2 _))))
          have hown2 := hown.below (below_drewN ((Below.refl _ _).alloc (Nat.le_refl _) (.cells #[.int .i64 X, .int .i64 Y, .int .i64 R, .int .i64 P] 89)) nq) (Nat.le_refl _)
          have hb2 := below_drewN (hbr.alloc hbr.size (.cells #[.int .i64 X, .int .i64 Y, .int .i64 R, .int .i64 P] 89)) nq
          have hs2 := hb2.size
          generalize (wr.alloc (.cells #[.int .i64 X, .int .i64 Y, .int .i64 R, .int .i64 P] 89)).drewN nq = wq at hown2 hb2 hs2 ⊢
          go_wp2_with (at_builtin; refine wpList_append_own _ rfl _ _ 25 rfl w.heap.size 3 i0 (.int .i64 0) 1 8 Tryz.underlying25 hi hz0 hz1 hz2 rfl (by decide) _ _ _ rfl (World.ownsRow.alloc hown2 _) ⟨_, 0, none⟩ 1 1 [.int .i64 k] rfl rfl (cell_one_new _ _ _) (by intro u hu; simp at hu; subst hu; rfl) (by unfold maxLen; omega) (by omega) (by simp; omega) ?_; intro v' w9 hown9 hgrow9 _)
          have R := Owns.push hown2 hb2 hs2 hown9 rfl hgrow9
          go_roundw
          case rel => exact ⟨k + 1, by omega, by go_num, by rw [HS.out]; exact R.1, R.2⟩
          case measure => simp [intOf]; omega
        · have HS : Hid (pickL (nearB x y pw ph) ls (k + 1) = pickL (nearB x y pw ph) ls k) := y2 (by simpa using hd)
          clear y1 y2
          go_wp2
          go_quiet ((first | (go_at_call 144; with_reducible exact Calls.quiet_of_same (d1 _)) | (go_at_call 144; with_reducible exact Calls.quiet_of_same (d2 _))))
          have hown2 := hown.below (below_drewN ((Below.refl _ _).alloc (Nat.le_refl _) (.cells #[.int .i64 X, .int .i64 Y, .int .i64 R, .int .i64 P] 89)) nq) (Nat.le_refl _)
          have hb2 := below_drewN (hbr.alloc hbr.size (.cells #[.int .i64 X, .int .i64 Y, .int .i64 R, .int .i64 P] 89)) nq
          go_wp2
          go_roundw
          case rel => exact ⟨k + 1, by omega, by go_num, by rw [HS.out]; exact hown2, hb2⟩
          case measure => simp [intOf]; omega
      · have e : k = len := by omega
        subst e
        obtain ⟨a', cap', rfl, hints⟩ := hown.ints (by omega)
        go_wp2
        go_ret2
        exact ⟨a', cap', rfl, hints, hbr⟩
end Go.Proofs.YtihliofhhjjeaaaGreat
namespace Go.Proofs.YtihliofhhjjeaaaGreat
open Go.RowKit Im
structure DoesP (n : Nat) (caps : Array Value) (I : (Nat → Prop) → World → Prop) (W x0 y0 pw ph : Nat) : Prop where
  enters : ∀ args w, (callFunc n args).run Tryz.prog w = .ok (.enter n args) w
  does : ∀ (x y : Nat) (D : Nat → Prop) (w1 : World), x0 ≤ x → x < x0 + pw → y0 ≤ y → y < y0 + ph → I D w1 → Calls Tryz.prog n (#[.int .i64 x, .int .i64 y] ++ caps) w1 fun e w2 => e = .returned (.tuple #[]) ∧ I (fun i => D i ∨ (i / W = y ∧ i % W = x)) w2
theorem DoesP.doesI {n : Nat} {caps : Array Value} {I : (Nat → Prop) → World → Prop} {W x0 y0 pw ph : Nat} (h : DoesP n caps I W x0 y0 pw ph) (x y : Nat) (X Y : Int) (hX : X = x) (hY : Y = y) (D : Nat → Prop) (w1 : World) (h1 : x0 ≤ x) (h2 : x < x0 + pw) (h3 : y0 ≤ y) (h4 : y < y0 + ph) (hI : I D w1) :
    Calls Tryz.prog n (#[.int .i64 X, .int .i64 Y] ++ caps) w1 fun e w2 => e = .returned (.tuple #[]) ∧ I (fun i => D i ∨ (i / W = y ∧ i % W = x)) w2 := by
  subst hX hY; exact h.does x y D w1 h1 h2 h3 h4 hI
set_option maxHeartbeats 1000000 in
theorem eachPlace_any (n : Nat) (caps : Array Value) (I : (Nat → Prop) → World → Prop) (W x0 y0 pw ph : Nat) (D : Nat → Prop) (w : World) (hb : x0 ≤ 16 ∧ y0 ≤ 16 ∧ pw ≤ 16 ∧ ph ≤ 16)
    (mono : ∀ (A B : Nat → Prop) (v : World), (∀ i, B i → A i) → I A v → I B v) (hd : DoesP n caps I W x0 y0 pw ph) (hI : I D w) :
    Calls Tryz.prog 115 #[.int .i64 x0, .int .i64 y0, .int .i64 pw, .int .i64 ph, .func (.func n) #[] caps] w fun e w' => e = .returned (.tuple #[]) ∧ I (fun i => D i ∨ (y0 ≤ i / W ∧ i / W < y0 + ph ∧ x0 ≤ i % W ∧ i % W < x0 + pw)) w' := by
  have hent := hd.enters
  obtain ⟨hb1, hb2, hb3, hb4⟩ := hb
  go_enter Tryz.func115, Tryz.ntmps115
  go_wp2
  go_loopw [13] (fun i wr => ∃ j : Nat, j ≤ ph ∧ i = .int .i64 j ∧ I (fun i => D i ∨ (y0 ≤ i / W ∧ i / W < y0 + j ∧ x0 ≤ i % W ∧ i % W < x0 + pw)) wr) (fun i _ => ph - (intOf i).toNat)
  case atStart => exact ⟨0, Nat.zero_le _, rfl, mono _ _ _ (fun i h => by rcases h with h | h; · exact h
                                                                          · omega) hI⟩
  case round =>
    obtain ⟨j, hj, rfl, hIr⟩ := hrel
    by_cases hlt : j < ph
    · go_wp2
      go_loopw [17] (fun i wr => ∃ c : Nat, c ≤ pw ∧ i = .int .i64 c ∧ I (fun i => (D i ∨ (y0 ≤ i / W ∧ i / W < y0 + j ∧ x0 ≤ i % W ∧ i % W < x0 + pw)) ∨ (i / W = y0 + j ∧ x0 ≤ i % W ∧ i % W < x0 + c)) wr) (fun i _ => pw - (intOf i).toNat)
      case atStart => exact ⟨0, Nat.zero_le _, rfl, mono _ _ _ (fun i h => by rcases h with h | h; · exact h
                                                                              · omega) hIr⟩
      case round =>
        obtain ⟨c, hcc, rfl, hIs⟩ := hrel
        by_cases hlc : c < pw
        · go_wp2_with (refine (hd.doesI (x0 + c) (y0 + j) _ _ (by omega) (by omega) _ _ (by omega) (by omega) (by omega) (by omega) hIs).mono ?_; rintro e w2 ⟨rfl, hI2⟩)
          go_roundw
          case rel => exact ⟨c + 1, by omega, by go_num, mono _ _ _ (fun i h => by
            rcases h with h | h
            · exact .inl (.inl h)
            · by_cases e : i % W = x0 + c
              · exact .inr ⟨h.1, e⟩
              · exact .inl (.inr ⟨h.1, h.2.1, by omega⟩)) hI2⟩
          case measure => simp [intOf]; omega
        · have hce : c = pw := by omega
          subst hce
          go_wp2
          go_roundw
          case rel => exact ⟨j + 1, by omega, by go_num, mono _ _ _ (fun i h => by
            rcases h with h | h
            · exact .inl (.inl h)
            · by_cases e : i / W = y0 + j
              · exact .inr ⟨e, h.2.2⟩
              · exact .inl (.inr ⟨h.1, by omega, h.2.2⟩)) hIs⟩
          case measure => simp [intOf]; omega
    · have hje : j = ph := by omega
      subst hje
      go_wp2
      go_end0
      exact ⟨rfl, hIr⟩
structure DoesT (n : Nat) (caps : Array Value) (I : (Nat → Prop) → World → Prop) (W H : Nat) : Prop where
  enters : ∀ args w, (callFunc n args).run Tryz.prog w = .ok (.enter n args) w
  does : ∀ (x y pw ph : Nat) (D : Nat → Prop) (w1 : World), 1 ≤ pw → x + pw ≤ W → 1 ≤ ph → y + ph ≤ H → I D w1 → Calls Tryz.prog n (#[.int .i64 x, .int .i64 y, .int .i64 pw, .int .i64 ph] ++ caps) w1 fun e w2 => e = .returned (.tuple #[]) ∧ I (fun i => D i ∨ (y ≤ i / W ∧ i / W < y + ph ∧ x ≤ i % W ∧ i % W < x + pw)) w2
theorem DoesT.doesI {n : Nat} {caps : Array Value} {I : (Nat → Prop) → World → Prop} {W H : Nat} (h : DoesT n caps I W H) (x y pw ph : Nat) (PW PH : Int) (e1 : PW = pw) (e2 : PH = ph) (D : Nat → Prop) (w1 : World) (h1 : 1 ≤ pw) (h2 : x + pw ≤ W) (h3 : 1 ≤ ph) (h4 : y + ph ≤ H) (hI : I D w1) :
    Calls Tryz.prog n (#[.int .i64 x, .int .i64 y, .int .i64 PW, .int .i64 PH] ++ caps) w1 fun e w2 => e = .returned (.tuple #[]) ∧ I (fun i => D i ∨ (y ≤ i / W ∧ i / W < y + ph ∧ x ≤ i % W ∧ i % W < x + pw)) w2 := by
  subst e1 e2; exact h.does x y pw ph D w1 h1 h2 h3 h4 hI
set_option maxHeartbeats 1000000 in
theorem eachTile_any (n : Nat) (caps : Array Value) (I : (Nat → Prop) → World → Prop) (W H tile : Nat) (w : World) (hW : 1 ≤ W ∧ W ≤ 16) (hH : 1 ≤ H ∧ H ≤ 16) (ht : 1 ≤ tile ∧ tile ≤ 16)
    (mono : ∀ (A B : Nat → Prop) (v : World), (∀ i, B i → A i) → I A v → I B v) (hd : DoesT n caps I W H) (hI : I (fun _ => False) w) :
    Calls Tryz.prog 112 #[.int .i64 W, .int .i64 H, .int .i64 tile, .func (.func n) #[] caps] w fun e w' => e = .returned (.tuple #[]) ∧ I (fun i => i / W < H) w' := by
  have hent := hd.enters
  obtain ⟨hW1, hW2⟩ := hW
  obtain ⟨hH1, hH2⟩ := hH
  obtain ⟨ht1, ht2⟩ := ht
  have hmod : ∀ i, i % W < W := fun i => Nat.mod_lt _ (by omega)
  go_enter Tryz.func112, Tryz.ntmps112
  go_wp2
  go_loopw [8] (fun i wr => ∃ y : Nat, y ≤ H + 16 ∧ i = .int .i64 y ∧ I (fun i => i / W < y ∧ i / W < H) wr) (fun i _ => H + 16 - (intOf i).toNat)
  case atStart => exact ⟨0, by omega, rfl, mono _ _ _ (fun i h => absurd h.1 (Nat.not_lt_zero _)) hI⟩
  case round =>
    obtain ⟨y, hy, rfl, hIr⟩ := hrel
    by_cases hlt : y < H
    · obtain ⟨ph, hph⟩ : ∃ ph, ph = min tile (H - y) := ⟨_, rfl⟩
      have p1 : 1 ≤ ph ∧ y + ph ≤ H ∧ ph ≤ tile := by omega
      have P1 : Hid (y + tile ≤ y + ph ∨ H ≤ y + ph) := by show _ ∨ _; omega
      have hmn : (if (H : Int) - (y : Int) < (tile : Int) then (H : Int) - (y : Int) else (tile : Int)) = (ph : Int) := by rw [hph]; split <;> omega
      clear hph
      go_wp2
      go_loopw [9] (fun i wr => ∃ x : Nat, x ≤ W + 16 ∧ i = .int .i64 x ∧ I (fun i => (i / W < y ∧ i / W < H) ∨ (y ≤ i / W ∧ i / W < y + ph ∧ i % W < x)) wr) (fun i _ => W + 16 - (intOf i).toNat)
      case atStart => exact ⟨0, by omega, rfl, mono _ _ _ (fun i h => by rcases h with h | h; · exact h
                                                                         · exact absurd h.2.2 (Nat.not_lt_zero _)) hIr⟩
      case round =>
        obtain ⟨x, hx, rfl, hIs⟩ := hrel
        by_cases hlx : x < W
        · obtain ⟨pw, hpw⟩ : ∃ pw, pw = min tile (W - x) := ⟨_, rfl⟩
          have p2 : 1 ≤ pw ∧ x + pw ≤ W := by omega
          have P2 : Hid (x + tile ≤ x + pw ∨ W ≤ x + pw) := by show _ ∨ _; omega
          have hmx : (if (W : Int) - (x : Int) < (tile : Int) then (W : Int) - (x : Int) else (tile : Int)) = (pw : Int) := by rw [hpw]; split <;> omega
          clear hpw
          go_wp2_with (refine (hd.doesI x y pw ph _ _ rfl rfl _ _ p2.1 p2.2 p1.1 p1.2.1 hIs).mono ?_; rintro e w2 ⟨rfl, hI2⟩)
          go_roundw
          case rel => exact ⟨x + tile, by omega, by go_num, mono _ _ _ (fun i h => by
            have h2 := P2.out
            have h3 := hmod i
            rcases h with h | h
            · exact .inl (.inl h)
            · by_cases e : i % W < x
              · exact .inl (.inr ⟨h.1, h.2.1, e⟩)
              · exact .inr ⟨h.1, h.2.1, by omega, by omega⟩) hI2⟩
          case measure => simp [intOf]; omega
        · go_wp2
          go_roundw
          case rel => exact ⟨y + tile, by omega, by go_num, mono _ _ _ (fun i h => by
            have h1 := P1.out
            have h3 := hmod i
            by_cases e : i / W < y
            · exact .inl ⟨e, h.2⟩
            · exact .inr ⟨by omega, by omega, by omega⟩) hIs⟩
          case measure => simp [intOf]; omega
    · go_wp2
      go_end0
      exact ⟨rfl, mono _ _ _ (fun i h => ⟨by omega, h⟩) hIr⟩
end Go.Proofs.YtihliofhhjjeaaaGreat
namespace Go.Proofs.YtihliofhhjjeaaaGreat
open Go.RowKit Im
structure Pan (wB w' : World) (L pb : Nat) (q : Nat → Int) : Prop where
  bel : Below wB.heap.size wB w'
  lo : wB.heap.size < pb
  siz : pb < w'.heap.size
  row : ∃ arr : Array Value, w'.heap[wB.heap.size]? = some (.cells arr 3 (0, 0)) ∧ arr.size = L ∧ ∀ j, j < L → arr[j]? = some (.int .i64 (q j))
  box : w'.cell? ⟨pb, 0, none⟩ = some (.slice (some ⟨wB.heap.size, 0, none⟩) L L)
theorem Pan.below {wB w' w2 : World} {L pb : Nat} {q : Nat → Int} (h : Pan wB w' L pb q) (hb : Below w'.heap.size w' w2) : Pan wB w2 L pb q := by
  have hs := h.siz
  have hlo := h.lo
  obtain ⟨arr, h1, h2, h3⟩ := h.row
  refine ⟨h.bel.trans (hb.mono (by omega)), hlo, Nat.lt_of_lt_of_le hs hb.size, ⟨arr, ?_, h2, h3⟩, (hb.cell (p := ⟨pb, 0, none⟩) hs).trans h.box⟩
  rw [hb.block _ (by omega)]; exact h1
theorem Pan.cell {wB w' : World} {L pb : Nat} {q : Nat → Int} (h : Pan wB w' L pb q) (j : Nat) (hj : j < L) : w'.cell? ⟨wB.heap.size, j, none⟩ = some (.int .i64 (q j)) ∧ w'.frozen? ⟨wB.heap.size, j, none⟩ = false := by
  obtain ⟨arr, h1, h2, h3⟩ := h.row
  unfold World.cell? World.frozen?
  rw [h1]
  simp [h3 j hj]
theorem Pan.store {wB w' : World} {L pb : Nat} {q : Nat → Int} (h : Pan wB w' L pb q) (j : Nat) (v : Int) (hj : j < L) : Pan wB (w'.setCell ⟨wB.heap.size, j, none⟩ (.int .i64 v)) L pb (fun i => if i = j then v else q i) := by
  obtain ⟨arr, h1, h2, h3⟩ := h.row
  have hlo := h.lo
  refine ⟨h.bel.setCell (Nat.le_refl _) _, hlo, by simpa [World.setCell] using h.siz, ⟨arr.setIfInBounds j (.int .i64 v), ?_, by simpa using h2, fun i hi => ?_⟩, ?_⟩
  · simp [World.setCell, Array.getElem?_modify, h1]
  · rw [Array.getElem?_setIfInBounds]
    by_cases e : j = i
    · subst e; simp [h2, hj]
    · rw [if_neg e, if_neg (fun h => e h.symm)]; exact h3 i hi
  · rw [World.cell?_of_block (w := w') (Below.heap_setCell w' _ _ _ (by show pb ≠ wB.heap.size; omega))]; exact h.box
def Done (wB : World) (L pb : Nat) (G : Nat → Int) (D : Nat → Prop) (w' : World) : Prop := ∃ q, Pan wB w' L pb q ∧ ∀ i, i < L → D i → q i = G i
def sumN (x y : Int) (ls : List Lt) : List Int → Int
  | [] => 0
  | i :: r => givenP (ls.getD i.toNat Lt.zero) x y + sumN x y ls r
theorem sumN_snoc (x y : Int) (ls : List Lt) (i : Int) : ∀ l, sumN x y ls (l ++ [i]) = sumN x y ls l + givenP (ls.getD i.toNat Lt.zero) x y
  | [] => by simp [sumN]
  | m :: r => by simp [sumN, sumN_snoc x y ls i r, Int.add_assoc]
theorem sumN_pick (x y : Int) (f : Lt → Bool) (ls : List Lt) : ∀ n, n ≤ ls.length → (∀ k, k < n → f (ls.getD k Lt.zero) = false → givenP (ls.getD k Lt.zero) x y = 0) → sumN x y ls (pickL f ls n) = sumG x y (ls.take n)
  | 0, _, _ => by simp [pickL, sumN, sumG]
  | n + 1, hn, h => by
    have ih := sumN_pick x y f ls n (by omega) (fun k hk => h k (by omega))
    rw [take_snocL ls n (by omega), sumG_snoc]
    cases hf : f (ls.getD n Lt.zero) with
    | true => rw [pickL_yes f ls n hf, sumN_snoc, ih]; simp
    | false => rw [pickL_no f ls n hf, ih, h n (by omega) hf, Int.add_zero]
theorem pickL_get (f : Lt → Bool) (ls : List Lt) (n t : Nat) (ht : t < (pickL f ls n).length) : ∃ m : Nat, m < n ∧ (pickL f ls n).getD t 0 = m := by
  have hm : (pickL f ls n).getD t 0 ∈ pickL f ls n := by
    rw [List.getD_eq_getElem?_getD, List.getElem?_eq_getElem ht]; exact List.getElem_mem ht
  unfold pickL at hm
  simp only [List.mem_map, List.mem_filter, List.mem_range] at hm
  obtain ⟨m, ⟨h1, _⟩, h2⟩ := hm
  exact ⟨m, h1, h2.symm⟩
theorem not_near {l : Lt} (x0 y0 : Int) (pw ph : Nat) (x y : Nat) (hx : x < pw) (hy : y < ph) (h : nearB x0 y0 pw ph l = false) : givenP l (x0 + x) (y0 + y) = 0 := by
  unfold nearB at h
  simp only [decide_eq_false_iff_not] at h
  refine given_zero rfl (fun hd => h ?_)
  have h1 : awayP l.X x0 pw ≤ awayP l.X (x0 + x) 1 := by unfold awayP; omega
  have h2 : awayP l.Y y0 ph ≤ awayP l.Y (y0 + y) 1 := by unfold awayP; omega
  omega
end Go.Proofs.YtihliofhhjjeaaaGreat
namespace Go.Proofs.YtihliofhhjjeaaaGreat
open Go.RowKit Im
theorem lit11_enters : ∀ args w, (callFunc 116 args).run Tryz.prog w = .ok (.enter 116 args) w := fun _ _ => by kernel_rfl
theorem lit1_enters : ∀ args w, (callFunc 113 args).run Tryz.prog w = .ok (.enter 113 args) w := fun _ _ => by kernel_rfl
structure Scene (wB : World) (ab lb b off cap W H : Nat) (ps : List Int) (la : Option Addr) (llen lcap : Nat) (ls : List Lt) : Prop where
  box : Boxed wB ab b off cap W H
  fine : Fine wB b off W H ps
  llt : lb < wB.heap.size
  lc : wB.cell? ⟨lb, 0, none⟩ = some (.slice la llen lcap)
  lights : Lights wB la llen ls
  h8 : ls.length ≤ 8
  hr : ls.all rightB = true
theorem Scene.below {wB w' : World} {ab lb b off cap W H : Nat} {ps : List Int} {la : Option Addr} {llen lcap : Nat} {ls : List Lt} (h : Scene wB ab lb b off cap W H ps la llen lcap ls) (hb : Below wB.heap.size wB w') : Scene w' ab lb b off cap W H ps la llen lcap ls :=
  ⟨h.box.below hb, h.fine.below hb, Nat.lt_of_lt_of_le h.llt hb.size, (hb.cell (p := ⟨lb, 0, none⟩) h.llt).trans h.lc, h.lights.below hb, h.h8, h.hr⟩
def litG (W : Nat) (ps : List Int) (ls : List Lt) (x y : Nat) : Int := min (px W ps x y + sumG x y ls) 65535
set_option maxHeartbeats 1000000 in
theorem litPlace {wB w1 : World} {ab lb nb pb b off cap W H : Nat} {ps : List Int} {la : Option Addr} {llen lcap : Nat} {ls : List Lt} {q : Nat → Int} {na : Option Addr} {ncap : Nat} {near : List Int}
    (hS : Scene wB ab lb b off cap W H ps la llen lcap ls) (hp : Pan wB w1 (W * H) pb q) (hnc : w1.cell? ⟨nb, 0, none⟩ = some (.slice na near.length ncap)) (hni : Ints 0 w1 na near.length near)
    (hg : ∀ t, t < near.length → ∃ m : Nat, m < ls.length ∧ near.getD t 0 = m) (x y : Nat) (hx : x < W) (hy : y < H) (hsum : sumN x y ls near = sumG x y ls) (hn8 : near.length ≤ 8) :
    Calls Tryz.prog 116 #[.int .i64 x, .int .i64 y, .pointer (some ⟨ab, 0, none⟩), .pointer (some ⟨nb, 0, none⟩), .pointer (some ⟨lb, 0, none⟩), .pointer (some ⟨pb, 0, none⟩)] w1 fun e w2 =>
      e = .returned (.tuple #[]) ∧ ∃ w3, Below w1.heap.size w1 w3 ∧ w2 = w3.setCell ⟨wB.heap.size, y * W + x, none⟩ (.int .i64 (litG W ps ls x y)) := by
  have hS1 := hS.below hp.bel
  have hpl := place_lt hx hy
  obtain ⟨hm, hM⟩ := hS.fine.small
  have hb1 := hS.fine.hW
  have hb2 := hS.fine.hH
  have bx : 0 ≤ (x : Int) ∧ (x : Int) < 16 := by omega
  have by' : 0 ≤ (y : Int) ∧ (y : Int) < 16 := by omega
  have hpi : (y : Int) * (W : Int) + (x : Int) < (W : Int) * (H : Int) := by rw [← Int.natCast_mul, ← Int.natCast_mul]; omega
  have hp0 : 0 ≤ (y : Int) * (W : Int) := Int.mul_nonneg (by omega) (by omega)
  have hpM : (W : Int) * (H : Int) ≤ 256 := by rw [← Int.natCast_mul]; omega
  have hpb := hS.fine.px_bd x y hx hy
  have hcell := hS1.fine.cell (y * W + x) hpl
  obtain ⟨_, k0, k1, k2⟩ := hS1.box
  have hlc := hS1.lc
  have hbox := hp.box
  obtain ⟨hst, hfz⟩ := hp.cell (y * W + x) hpl
  have hs1 := hp.siz
  have hlo := hp.lo
  have habl := hS1.box.lt
  have hlbl := hS1.llt
  have hnbl : nb < w1.heap.size := by
    have := World.block_lt_of_cell? w1 _ hnc
    simpa using this
  obtain ⟨pv, hpv⟩ : ∃ pv, pv = px W ps x y := ⟨_, rfl⟩
  have hcell' : w1.cell? ⟨b, off + (y * W + x), none⟩ = some (.int .i64 pv) := by rw [hpv]; exact hcell
  have hG : Hid (litG W ps ls x y = min (pv + sumG x y ls) 65535) := by show _ = _; rw [hpv]; rfl
  rw [← hpv] at hpb
  have sb := sumG_bd x y bx by' ls hS.hr
  have sb2 : sumG x y ls ≤ 65535 * 8 := by have := hS.h8; omega
  obtain ⟨gx, hgx⟩ : ∃ gx, litG W ps ls x y = gx := ⟨_, rfl⟩
  rw [hgx] at hG ⊢
  have hmin : (if 65535 < pv + sumG x y ls then 65535 else pv + sumG x y ls) = gx := by rw [hG.out]; split <;> omega
  clear hcell hpv hG hgx hm
  by_cases hnil : near = []
  · subst hnil
    have hz : sumG x y ls = 0 := by rw [← hsum]; rfl
    rw [hz, Int.add_zero] at hmin
    have hgp : gx = pv := by rw [← hmin, if_neg (by omega)]
    subst hgp
    clear hz hsum sb sb2 hmin
    simp only [List.length_nil] at hnc
    go_enter Tryz.func116, Tryz.ntmps116
    go_wp2
    go_loop [8, 23] (fun s i => s = .int .i64 gx ∧ i = .int .i64 0) (fun _ _ => 0)
    case atStart => exact ⟨rfl, rfl⟩
    case round =>
      obtain ⟨rfl, rfl⟩ := hrel
      go_wp2
      go_end0
      exact ⟨rfl, w1, Below.refl _ _, rfl⟩
  · have hpos : 0 < near.length := List.length_pos_iff.2 hnil
    rcases hni.cells with e | ⟨nbb, noff, rfl, _, hnl, hncell⟩
    · exact absurd e hnil
    rcases hS.lights.cells with e | ⟨lbb, loff, rfl, hll, hlcell⟩
    · subst e
      have := hg 0 hpos
      obtain ⟨m, hm, _⟩ := this
      simp at hm
    · have hll1 := Nat.lt_of_lt_of_le hll hp.bel.size
      have hlw := fun (w2 : World) (hb2 : Below w1.heap.size w1 w2) (m : Nat) (hm : m < llen) => (show w2.cell? ⟨lbb, loff + m * 4, none⟩ = some (.int .i64 (ls.getD m Lt.zero).X) ∧ w2.cell? ⟨lbb, loff + m * 4 + 1, none⟩ = some (.int .i64 (ls.getD m Lt.zero).Y) ∧ w2.cell? ⟨lbb, loff + m * 4 + 2, none⟩ = some (.int .i64 (ls.getD m Lt.zero).R) ∧ w2.cell? ⟨lbb, loff + m * 4 + 3, none⟩ = some (.int .i64 (ls.getD m Lt.zero).P) from ⟨(hb2.cell (p := ⟨lbb, loff + m * 4, none⟩) hll1).trans ((hp.bel.cell (p := ⟨lbb, loff + m * 4, none⟩) hll).trans (hlcell m hm).1), (hb2.cell (p := ⟨lbb, loff + m * 4 + 1, none⟩) hll1).trans ((hp.bel.cell (p := ⟨lbb, loff + m * 4 + 1, none⟩) hll).trans (hlcell m hm).2.1), (hb2.cell (p := ⟨lbb, loff + m * 4 + 2, none⟩) hll1).trans ((hp.bel.cell (p := ⟨lbb, loff + m * 4 + 2, none⟩) hll).trans (hlcell m hm).2.2.1), (hb2.cell (p := ⟨lbb, loff + m * 4 + 3, none⟩) hll1).trans ((hp.bel.cell (p := ⟨lbb, loff + m * 4 + 3, none⟩) hll).trans (hlcell m hm).2.2.2)⟩)
      have hlen := hS.lights.leng
      have hall := hS.hr
      have hsteps : ∀ t, t < near.length → sumN x y ls (near.take (t + 1)) = sumN x y ls (near.take t) + givenP (ls.getD (near.getD t 0).toNat Lt.zero) x y := fun t ht => by
        have e : near.getD t 0 = near[t] := by rw [List.getD_eq_getElem?_getD, List.getElem?_eq_getElem ht]; rfl
        rw [List.take_succ_eq_append_getElem ht, sumN_snoc, e]
      have hnbd : ∀ t, t ≤ near.length → 0 ≤ sumN x y ls (near.take t) ∧ sumN x y ls (near.take t) ≤ 65535 * t := fun t => by
        induction t with
        | zero => intro _; simp [sumN]
        | succ t ih =>
          intro ht
          have h1 := ih (by omega)
          obtain ⟨m, hm, hmt⟩ := hg t (by omega)
          have h2 := given_bd (all_getD ls m hm hall) x y bx by'
          rw [hsteps t (by omega), hmt, Int.toNat_natCast]
          omega
      have hfull : near.take near.length = near := List.take_length
      clear hS hS1 hlcell
      go_enter Tryz.func116, Tryz.ntmps116
      go_wp2
      go_loopw [8, 23] (fun s i wr => ∃ t : Nat, t ≤ near.length ∧ i = .int .i64 t ∧ s = .int .i64 (pv + sumN x y ls (near.take t)) ∧ Below w1.heap.size w1 wr) (fun _ i _ => near.length - (intOf i).toNat)
      case atStart => exact ⟨0, Nat.zero_le _, rfl, by simp [sumN], Below.refl _ _⟩
      case round =>
        obtain ⟨t, ht, rfl, rfl, hbr⟩ := hrel
        have nb0 := hnbd t ht
        have nb1 : sumN x y ls (near.take t) ≤ 65535 * 8 := by omega
        have kl : wr.cell? ⟨lb, 0, none⟩ = some (.slice (some ⟨lbb, loff, none⟩) llen lcap) := (hbr.cell (p := ⟨lb, 0, none⟩) hlbl).trans hlc
        by_cases hlt : t < near.length
        · obtain ⟨m, hm, hmt⟩ := hg t hlt
          have hcn := (hbr.cell (p := ⟨nbb, noff + t, none⟩) hnl).trans (hncell t hlt)
          rw [hmt] at hcn
          have hstep := hsteps t hlt
          rw [hmt, Int.toNat_natCast] at hstep
          obtain ⟨c0, c1, c2, c3⟩ := hlw wr hbr m (by omega)
          have hrk := all_getD ls m hm hall
          have hgv := fun wx => given_any (ls.getD m Lt.zero) x y wx hrk bx by'
          have hgb := given_bd hrk x y bx by'
          generalize givenP (ls.getD m Lt.zero) x y = gv at hgv hgb hstep
          generalize ls.getD m Lt.zero = l at c0 c1 c2 c3 hgv
          obtain ⟨X, Y, R, P⟩ := l
          dsimp only at c0 c1 c2 c3 hgv
          have HS : Hid (sumN x y ls (near.take (t + 1)) = sumN x y ls (near.take t) + gv) := hstep
          have hml : (m : Int) < (llen : Int) := by omega
          clear hstep hrk hncell hlw hsteps hnbd hg hmt hfull hnil
          go_wp2_with (go_at_call 117; refine (hgv _).mono ?_; rintro e w2 ⟨rfl, hb2⟩)
          have hbn := below_stepL hbr hb2
          go_roundw
          case rel => exact ⟨t + 1, by omega, by go_num, by rw [HS.out]; go_num, hbn⟩
          case measure => simp [intOf]; omega
        · have e : t = near.length := by omega
          subst e
          rw [hfull, hsum]
          obtain ⟨cc, ff⟩ := bcell hbr
          have g0 := (cc ab 0 habl).trans k0
          have g5 := (cc pb 0 hs1).trans hbox
          have gs := (cc wB.heap.size (y * W + x) (by omega)).trans hst
          have gf := (ff wB.heap.size (y * W + x) (by omega)).trans hfz
          clear cc ff hncell hlw hsteps hnbd hg
          go_wp2
          go_end0
          exact ⟨rfl, wr, hbr, rfl⟩
end Go.Proofs.YtihliofhhjjeaaaGreat
