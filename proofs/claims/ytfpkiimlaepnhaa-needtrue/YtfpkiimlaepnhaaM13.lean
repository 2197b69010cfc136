/- NearRef, LitRef, FrameRef, MadeRef, MadeRef2: joined, in this order. -/
import Derived.Test.YtfpkiimlaepnhaaM12
import Derived.Deep.RegionHeld3
import Derived.Test.YtfpkiimlaepnhaaM07
import Derived.Deep.RegionLaw
import Derived.Test.YtfpkiimlaepnhaaM05
/-
  NEARREF: the reference's NearOf.
-/
namespace Go.Proofs.Ytfpkiimlaepnhaa
set_option maxRecDepth 100000
open Go.RowKit Im

/-- Does the light reach the place? -/
def hitB (l : Lt) (u v : Int) : Bool := decide (awayP l.X u 1 + awayP l.Y v 1 < l.R)
/-- One of the first n places of a row; of the first m rows. -/
def rowAny (l : Lt) (x v : Int) : Nat → Bool
  | 0 => false
  | n + 1 => rowAny l x v n || hitB l (x + n) v
def boxAny (l : Lt) (x y : Int) (n : Nat) : Nat → Bool
  | 0 => false
  | m + 1 => boxAny l x y n m || rowAny l x (y + m) n
theorem rowAny_iff (l : Lt) (x v : Int) : ∀ n, rowAny l x v n = true ↔ ∃ i : Nat, i < n ∧ hitB l (x + i) v = true
  | 0 => by simp [rowAny]
  | n + 1 => by
    rw [rowAny, Bool.or_eq_true, rowAny_iff l x v n]
    constructor
    · rintro (⟨i, hi, h⟩ | h)
      · exact ⟨i, by omega, h⟩
      · exact ⟨n, by omega, h⟩
    · rintro ⟨i, hi, h⟩
      rcases Nat.lt_or_ge i n with h' | h'
      · exact .inl ⟨i, h', h⟩
      · have : i = n := by omega
        subst this; exact .inr h
theorem boxAny_iff (l : Lt) (x y : Int) (n : Nat) : ∀ m, boxAny l x y n m = true ↔ ∃ i j : Nat, i < n ∧ j < m ∧ hitB l (x + i) (y + j) = true
  | 0 => by simp [boxAny]
  | m + 1 => by
    rw [boxAny, Bool.or_eq_true, boxAny_iff l x y n m, rowAny_iff]
    constructor
    · rintro (⟨i, j, hi, hj, h⟩ | ⟨i, hi, h⟩)
      · exact ⟨i, j, hi, by omega, h⟩
      · exact ⟨i, m, hi, by omega, h⟩
    · rintro ⟨i, j, hi, hj, h⟩
      rcases Nat.lt_or_ge j m with h' | h'
      · exact .inl ⟨i, j, hi, h', h⟩
      · have : j = m := by omega
        subst this; exact .inr ⟨i, hi, h⟩
/-- The nearest of n columns is one of them. -/
theorem away_near (c f : Int) (n : Nat) (hn : 1 ≤ n) : ∃ i : Nat, i < n ∧ awayP c (f + i) 1 = awayP c f n := by
  by_cases h1 : c < f
  · exact ⟨0, by omega, by unfold awayP; omega⟩
  · by_cases h2 : c - f < n
    · exact ⟨(c - f).toNat, by omega, by unfold awayP; omega⟩
    · exact ⟨n - 1, by omega, by unfold awayP; omega⟩
theorem away_least (c f : Int) (n i : Nat) (hi : i < n) : awayP c f n ≤ awayP c (f + i) 1 := by unfold awayP; omega
theorem box_near (l : Lt) (x y : Int) (n m : Nat) (hn : 1 ≤ n) (hm : 1 ≤ m) : boxAny l x y n m = nearB x y n m l := by
  rw [Bool.eq_iff_iff, boxAny_iff]
  unfold hitB nearB
  simp only [decide_eq_true_eq]
  constructor
  · rintro ⟨i, j, hi, hj, h⟩
    have h1 := away_least l.X x n i hi
    have h2 := away_least l.Y y m j hj
    omega
  · intro h
    obtain ⟨i, hi, e1⟩ := away_near l.X x n hn
    obtain ⟨j, hj, e2⟩ := away_near l.Y y m hm
    exact ⟨i, j, hi, hj, by rw [e1, e2]; exact h⟩

/-- A light's four cells, and all that was there. -/
def LtAt (w0 w' : World) (b o : Nat) (X Y R P : Int) : Prop := Below w0.heap.size w0 w' ∧ w'.cell? ⟨b, o, none⟩ = some (.int .i64 X) ∧ w'.cell? ⟨b, o + 1, none⟩ = some (.int .i64 Y) ∧ w'.cell? ⟨b, o + 2, none⟩ = some (.int .i64 R) ∧ w'.cell? ⟨b, o + 3, none⟩ = some (.int .i64 P)
theorem ltAt {w0 w1 w' : World} {b o : Nat} {X Y R P : Int} (h : LtAt w0 w1 b o X Y R P) (hb : b < w1.heap.size) (hbel : Below w1.heap.size w1 w') :
    Below w1.heap.size w1 w' ∧ w'.cell? ⟨b, o, none⟩ = some (.int .i64 X) ∧ w'.cell? ⟨b, o + 1, none⟩ = some (.int .i64 Y) ∧ w'.cell? ⟨b, o + 2, none⟩ = some (.int .i64 R) ∧ w'.cell? ⟨b, o + 3, none⟩ = some (.int .i64 P) :=
  ⟨hbel, (hbel.cell (p := ⟨b, o, none⟩) hb).trans h.2.1, (hbel.cell (p := ⟨b, o + 1, none⟩) hb).trans h.2.2.1, (hbel.cell (p := ⟨b, o + 2, none⟩) hb).trans h.2.2.2.1, (hbel.cell (p := ⟨b, o + 3, none⟩) hb).trans h.2.2.2.2⟩
theorem viaL {P : Program} {f : FuncId} {args : Array Value} {wX w' : World} {r : Ending} (hb : Below wX.heap.size wX w') (hc : Calls P f args w' fun e w2 => e = r ∧ Below w'.heap.size w' w2) :
    Calls P f args w' fun e w2 => e = r ∧ Below wX.heap.size wX w2 := hc.mono fun _ _ ⟨he, hb2⟩ => ⟨he, below_stepL hb hb2⟩

set_option maxHeartbeats 2000000 in
theorem nearOf_any {a : Option Addr} {len : Nat} (cap : Nat) {ls : List Lt} (x y : Int) (pw ph : Nat) {w : World} (h : Lights w a len ls) (h8 : ls.length ≤ 8) (hr : ls.all rightB = true) (hx : stretchB x pw = true) (hy : stretchB y ph = true) :
    Calls Try.prog 33 #[.slice a len cap, .int .i64 x, .int .i64 y, .int .i64 pw, .int .i64 ph] w fun e w' =>
      ∃ a' cap', e = .returned (.slice a' (pickL (nearB x y pw ph) ls len).length cap') ∧ Ints w.heap.size w' a' (pickL (nearB x y pw ph) ls len).length (pickL (nearB x y pw ph) ls len) ∧ Below w.heap.size w w' := by
  obtain ⟨i0, hi, hz0, hz1, hz2⟩ := info_parts Try.info3
  have bx := (stretch_iff x pw).1 hx
  have by' := (stretch_iff y ph).1 hy
  have hl := h.leng
  rcases h.cells with e | ⟨b, off, rfl, hb, hcl⟩
  · subst e
    have : len = 0 := by simpa using hl.symm
    subst this
    suffices hs : Calls Try.prog 33 #[.slice a 0 cap, .int .i64 x, .int .i64 y, .int .i64 pw, .int .i64 ph] w fun e w' => e = .returned (.slice none 0 0) ∧ Below w.heap.size w w' from
      hs.mono fun e w' ⟨he, hb⟩ => ⟨none, 0, he, Ints.nil _ _, hb⟩
    go_enter Try.func33, Try.ntmps33
    go_wp2
    go_loop [11, 12] (fun s i => s = .slice none 0 0 ∧ i = .int .i64 0) (fun _ _ => 0)
    case atStart => exact ⟨rfl, rfl⟩
    case round =>
      obtain ⟨rfl, rfl⟩ := hrel
      go_wp2
      go_ret
      exact ⟨rfl, Below.refl _ _⟩
  · go_enter Try.func33, Try.ntmps33
    go_wp2
    go_loopw [11, 12] (fun s i wr => ∃ k : Nat, k ≤ len ∧ i = .int .i64 k ∧ Owns w.heap.size wr s (pickL (nearB x y pw ph) ls k) ∧ Below w.heap.size w wr) (fun _ i _ => len - (intOf i).toNat)
    case atStart => exact ⟨0, Nat.zero_le _, rfl, World.ownsRow_nil _ _ _ _, Below.refl _ _⟩
    case round =>
      obtain ⟨k, hk, rfl, hown, hbr⟩ := hrel
      obtain ⟨w1, e1⟩ : ∃ z, z = wr := ⟨_, rfl⟩
      subst e1
      have hlen := pickL_len (nearB x y pw ph) ls k
      by_cases hlt : k < len
      · have hat : LtAt w w1 b (off + k * 4) (ls.getD k Lt.zero).X (ls.getD k Lt.zero).Y (ls.getD k Lt.zero).R (ls.getD k Lt.zero).P := ⟨hbr, (hbr.cell (p := ⟨b, off + k * 4, none⟩) hb).trans (hcl k hlt).1, (hbr.cell (p := ⟨b, off + k * 4 + 1, none⟩) hb).trans (hcl k hlt).2.1, (hbr.cell (p := ⟨b, off + k * 4 + 2, none⟩) hb).trans (hcl k hlt).2.2.1, (hbr.cell (p := ⟨b, off + k * 4 + 3, none⟩) hb).trans (hcl k hlt).2.2.2⟩
        have hbw : b < w1.heap.size := Nat.lt_of_lt_of_le hb hbr.size
        have y1 := pickL_yes (nearB x y pw ph) ls k
        have y2 := pickL_no (nearB x y pw ph) ls k
        rw [← box_near _ x y pw ph (by omega) (by omega)] at y1 y2
        have hrk := all_getD ls k (by omega) hr
        have hfar := fun wx u v (hu : 0 ≤ u ∧ u < 16) (hv : 0 ≤ v ∧ v < 16) => far_any (ls.getD k Lt.zero) u v wx hrk hu hv
        obtain ⟨hX, hY, hR, hP⟩ := (right_iff _).1 hrk
        clear hcl hrk
        have hhit : ∀ u v, hitB (ls.getD k Lt.zero) u v = decide (awayP (ls.getD k Lt.zero).X u 1 + awayP (ls.getD k Lt.zero).Y v 1 < (ls.getD k Lt.zero).R) := fun u v => rfl
        generalize ls.getD k Lt.zero = l at hat y1 y2 hfar hX hY hR hhit
        have hxa : (x : Int) + pw ≤ 16 := by omega
        have hya : (y : Int) + ph ≤ 16 := by omega
        go_wp2
        go_loopw [13, 14] (fun s v ws => ∃ j : Nat, j ≤ ph ∧ v = .int .i64 (y + (j : Int)) ∧ s = .bool (boxAny l x y pw j) ∧ Below w1.heap.size w1 ws) (fun _ v _ => ph - (intOf v - y).toNat)
        case atStart => exact ⟨0, Nat.zero_le _, by simp, rfl, Below.refl _ _⟩
        case round =>
          obtain ⟨j, hj, rfl, rfl, hbs⟩ := hrel
          by_cases hlj : j < ph
          · have hle : y + (j : Int) < y + (ph : Int) := by omega
            go_wp2
            go_loopw [13, 15] (fun s u ws => ∃ i : Nat, i ≤ pw ∧ u = .int .i64 (x + (i : Int)) ∧ s = .bool (boxAny l x y pw j || rowAny l x (y + j) i) ∧ Below w1.heap.size w1 ws) (fun _ u _ => pw - (intOf u - x).toNat)
            case atStart => exact ⟨0, Nat.zero_le _, by simp, by simp [rowAny], hbs⟩
            case round =>
              obtain ⟨i, hii, rfl, rfl, hbt⟩ := hrel
              by_cases hli : i < pw
              · have hlu : x + (i : Int) < x + (pw : Int) := by omega
                obtain ⟨fl, hfl⟩ : ∃ fl, fl = (boxAny l x y pw j || rowAny l x (y + j) i) := ⟨_, rfl⟩
                rw [← hfl]
                have HR : Hid ((boxAny l x y pw j || rowAny l x (y + j) (i + 1)) = (fl || hitB l (x + i) (y + j))) := by show _ = _; rw [hfl, rowAny, Bool.or_assoc]
                clear hfl
                have hft := ltAt hat hbw hbt
                cases fl with
                | true =>
                  rw [Bool.true_or] at HR
                  obtain ⟨_, z0, z1, z2, z3⟩ := hft
                  go_wp2
                  go_quiet (fail)
                  go_wp2
                  go_roundw
                  case rel => exact ⟨i + 1, by omega, by go_num, by rw [HR.out], below_drewN hbt _⟩
                  case measure => simp [intOf]; omega
                | false =>
                  rw [Bool.false_or] at HR
                  have hfc := fun wx => hfar wx (x + i) (y + j) (by omega) (by omega)
                  have hh := hhit (x + i) (y + j)
                  obtain ⟨X, Y, R, P⟩ := l
                  dsimp only at hfc hh hft hX hY hR
                  rw [hh] at HR
                  generalize awayP X (x + i) 1 + awayP Y (y + j) 1 = d at hfc HR
                  clear hh hft
                  by_cases hd : d < R
                  · rw [decide_eq_true hd] at HR
                    go_wp2
                    go_region_held3 (fun w' => Below w1.heap.size w1 w' ∧ w'.cell? ⟨b, off + k * 4, none⟩ = some (.int .i64 X) ∧ w'.cell? ⟨b, off + k * 4 + 1, none⟩ = some (.int .i64 Y) ∧ w'.cell? ⟨b, off + k * 4 + 2, none⟩ = some (.int .i64 R) ∧ w'.cell? ⟨b, off + k * 4 + 3, none⟩ = some (.int .i64 P))
                      (first | exact ltAt hat hbw (hbt.drew) | exact ltAt hat hbw (by assumption))
                      (first | (go_at_call 76; refine (viaL (And.left (b := _) (by assumption)) (hfc _)).mono ?_; rintro e w2 ⟨rfl, hb2⟩))
                    go_wp2
                    go_roundw
                    case rel => exact ⟨i + 1, by omega, by go_num, by rw [HR.out], by assumption⟩
                    case measure => simp [intOf]; omega
                  · rw [decide_eq_false hd] at HR
                    have hd' : decide (d < R) = false := decide_eq_false hd
                    go_wp2
                    go_region_held3 (fun w' => Below w1.heap.size w1 w' ∧ w'.cell? ⟨b, off + k * 4, none⟩ = some (.int .i64 X) ∧ w'.cell? ⟨b, off + k * 4 + 1, none⟩ = some (.int .i64 Y) ∧ w'.cell? ⟨b, off + k * 4 + 2, none⟩ = some (.int .i64 R) ∧ w'.cell? ⟨b, off + k * 4 + 3, none⟩ = some (.int .i64 P))
                      (first | exact ltAt hat hbw (hbt.drew) | exact ltAt hat hbw (by assumption))
                      (first | (go_at_call 76; refine (viaL (And.left (b := _) (by assumption)) (hfc _)).mono ?_; rintro e w2 ⟨rfl, hb2⟩))
                    go_wp2
                    go_roundw
                    case rel => exact ⟨i + 1, by omega, by go_num, by rw [HR.out], by assumption⟩
                    case measure => simp [intOf]; omega
              · have hie : i = pw := by omega
                subst hie
                go_wp2
                go_roundw
                case rel => exact ⟨j + 1, by omega, by go_num, rfl, hbt⟩
                case measure => simp [intOf]; omega
          · have hje : j = ph := by omega
            subst hje
            have hbw2 := below_stepL hbr hbs
            have hown2 := hown.below hbs (Nat.le_refl _)
            have hs2 := hbw2.size
            clear hat hfar hhit
            cases hbx : boxAny l x y pw j with
            | true =>
              have HS : Hid (pickL (nearB x y pw j) ls (k + 1) = pickL (nearB x y pw j) ls k ++ [(k : Int)]) := y1 hbx
              clear y1 y2 hbx
              go_wp2_with (at_builtin; refine wpList_append_own _ rfl _ _ 22 rfl w.heap.size 3 i0 (.int .i64 0) 1 8 Try.underlying22 hi hz0 hz1 hz2 rfl (by decide) _ _ _ rfl (World.ownsRow.alloc hown2 _) ⟨wr.heap.size, 0, none⟩ 1 1 [.int .i64 k] rfl rfl (cell_one_new _ _ _) (by intro u hu; simp at hu; subst hu; rfl) (by unfold maxLen; omega) (by omega) (by simp; omega) ?_; intro v' w9 hown9 hgrow9 _)
              have R := Owns.push hown2 hbw2 hs2 hown9 rfl hgrow9
              go_roundw
              case rel => exact ⟨k + 1, by omega, by go_num, by rw [HS.out]; exact R.1, R.2⟩
              case measure => simp [intOf]; omega
            | false =>
              have HS : Hid (pickL (nearB x y pw j) ls (k + 1) = pickL (nearB x y pw j) ls k) := y2 hbx
              clear y1 y2 hbx
              go_wp2
              go_roundw
              case rel => exact ⟨k + 1, by omega, by go_num, by rw [HS.out]; exact hown2, hbw2⟩
              case measure => simp [intOf]; omega
      · have e : k = len := by omega
        subst e
        obtain ⟨a', cap', rfl, hints⟩ := hown.ints (by omega)
        go_wp2
        go_ret
        exact ⟨a', cap', rfl, hints, hbr⟩
end Go.Proofs.Ytfpkiimlaepnhaa
/-
  LITREF: the reference's LitOf.
-/
namespace Go.Proofs.Ytfpkiimlaepnhaa
set_option maxRecDepth 100000
open Go.RowKit Im

/-- An append to a row of the call's own, as one step of a region that draws. -/
theorem step_append_mine {P : Program} {ops : Array Oper} {o : Oper} {a : Act} {w : World} {K : Act → World → Prop} {Q : Exit → Act → World → Prop} {E : Prop}
    (hg : o.guard = none) (s x : Operand) (t : TypeId) (ho : o.op = .call { callee := .builtin .append, args := #[s, x], argTypes := #[t, t] })
    (base : Nat) (e : TypeId) (i : TypeInfo) (z : Value) (size bytes : Nat) (ht : P.underlying t = some (.slice e)) (hi : P.info? e = some i) (hz : i.zero = some z)
    (hsize : i.size = size) (hby : i.bytes = bytes) (hzs : z.cells.size = size) (hsz : 0 < size)
    (v : Value) (n : Nat) (xs : List Value) (hs : a.eval s = v) (hown : w.ownsRow base e size v n xs)
    (ad : Addr) (m c : Nat) (news : List Value) (hx : a.eval x = .slice (some ad) m c) (hl : news.length = m * size) (hnews : ∀ j u, news[j]? = some u → w.cell? (ad.add j) = some u) (h1 : ∀ u ∈ news, u.oneCell' = true)
    (h63 : n + m ≤ maxLen) (hbytes : (n + m) * bytes ≤ 140737488355328) (hbase : base ≤ w.heap.size)
    (hK : ∀ v' w', w'.ownsRow base e size v' (n + m) (xs ++ news) → w.grownBy w' v.ownBlock → K (a.put o.dst v') w') :
    if Region.wanted o (yielded ops a.tmps) = true then Oper.wp P o a w K Q else E := by
  have hw : Region.wanted o (yielded ops a.tmps) = true := by simp [Region.wanted, hg]
  rw [if_pos hw]
  exact wp_append_own w s x t ho base e i z size bytes ht hi hz hsize hby hzs hsz v n xs hs hown ad m c news hx hl hnews h1 h63 hbytes hbase fun v' w' h2 h3 _ => hK v' w' h2 h3

/-- Behind a call from the round on. -/
theorem Acc.call {c : Nat} {w0 wr w1 w2 : World} {W H : Int} {v : Value} {qs : List Int} (h : Acc c w0 wr W H v qs) (h1 : Below wr.heap.size wr w1) (h2 : Below w1.heap.size w1 w2) : Below wr.heap.size wr w2 ∧ w2.cell? ⟨c, 2, none⟩ = some v ∧ c < w2.heap.size := by
  have hb := below_stepL h1 h2
  have ha := h.below hb
  exact ⟨hb, ha.cells.2.2.1, ha.siz⟩

set_option maxRecDepth 100000 in
set_option maxHeartbeats 2000000 in
theorem litOf_any {w : World} {b off cap W H : Nat} {ps : List Int} {la : Option Addr} {llen : Nat} (lcap : Nat) {ls : List Lt} (hF : Fine w b off W H ps) (hl : Lights w la llen ls) (h8 : ls.length ≤ 8) (hr : ls.all rightB = true) :
    Calls Try.prog 38 #[.agg #[.int .i64 W, .int .i64 H, .slice (some ⟨b, off, none⟩) (W * H) cap], .slice la llen lcap] w fun e w' =>
      ∃ a cap', e = .returned (.agg #[.int .i64 W, .int .i64 H, .slice a (W * H) cap']) ∧ Ints w.heap.size w' a (W * H) (pix W (litG W ps ls) (W * H)) ∧ Below w.heap.size w w' := by
  obtain ⟨i0, hi, hz0, hz1, hz2⟩ := info_parts Try.info3
  obtain ⟨hw1, hw2⟩ := hF.hW
  obtain ⟨hh1, hh2⟩ := hF.hH
  have hWH : W * H ≤ 256 := Nat.mul_le_mul hw2 hh2
  have hB0 : Below w.heap.size w (((w.alloc (.cells #[.int .i64 W, .int .i64 H, .slice (some ⟨b, off, none⟩) (W * H) cap] 24)).alloc (.cells #[.int .i64 0, .int .i64 0, .slice none 0 0] 24)).alloc (.cells #[.int .i64 W, .int .i64 H, .slice none 0 0] 24)) := lit_B w _ _ _
  have hBx : Boxed (((w.alloc (.cells #[.int .i64 W, .int .i64 H, .slice (some ⟨b, off, none⟩) (W * H) cap] 24)).alloc (.cells #[.int .i64 0, .int .i64 0, .slice none 0 0] 24)).alloc (.cells #[.int .i64 W, .int .i64 H, .slice none 0 0] 24)) w.heap.size b off cap W H := ⟨by simp; omega, by simp [go_sem], by simp [go_sem], by simp [go_sem]⟩
  have hst := Acc.start ((w.alloc (.cells #[.int .i64 W, .int .i64 H, .slice (some ⟨b, off, none⟩) (W * H) cap] 24)).alloc (.cells #[.int .i64 0, .int .i64 0, .slice none 0 0] 24)) (w.heap.size + 1 + 1) W H (by simp)
  have z0 : (((w.alloc (.cells #[.int .i64 W, .int .i64 H, .slice (some ⟨b, off, none⟩) (W * H) cap] 24)).alloc (.cells #[.int .i64 0, .int .i64 0, .slice none 0 0] 24)).alloc (.cells #[.int .i64 W, .int .i64 H, .slice none 0 0] 24)).cell? ⟨w.heap.size + 1, 0, none⟩ = some (.int .i64 0) := by simp [go_sem]
  have z1 : (((w.alloc (.cells #[.int .i64 W, .int .i64 H, .slice (some ⟨b, off, none⟩) (W * H) cap] 24)).alloc (.cells #[.int .i64 0, .int .i64 0, .slice none 0 0] 24)).alloc (.cells #[.int .i64 W, .int .i64 H, .slice none 0 0] 24)).cell? ⟨w.heap.size + 1, 1, none⟩ = some (.int .i64 0) := by simp [go_sem]
  have z2 : (((w.alloc (.cells #[.int .i64 W, .int .i64 H, .slice (some ⟨b, off, none⟩) (W * H) cap] 24)).alloc (.cells #[.int .i64 0, .int .i64 0, .slice none 0 0] 24)).alloc (.cells #[.int .i64 W, .int .i64 H, .slice none 0 0] 24)).cell? ⟨w.heap.size + 1, 2, none⟩ = some (.slice none 0 0) := by simp [go_sem]
  have y0 : ∀ o, (((w.alloc (.cells #[.int .i64 W, .int .i64 H, .slice (some ⟨b, off, none⟩) (W * H) cap] 24)).alloc (.cells #[.int .i64 0, .int .i64 0, .slice none 0 0] 24)).alloc (.cells #[.int .i64 W, .int .i64 H, .slice none 0 0] 24)).frozen? ⟨w.heap.size + 1, o, none⟩ = false := fun o => by simp [go_sem]
  go_enter Try.func38, Try.ntmps38
  go_wp2
  generalize hw0 : (((w.alloc (.cells #[.int .i64 W, .int .i64 H, .slice (some ⟨b, off, none⟩) (W * H) cap] 24)).alloc (.cells #[.int .i64 0, .int .i64 0, .slice none 0 0] 24)).alloc (.cells #[.int .i64 W, .int .i64 H, .slice none 0 0] 24)) = w0 at hB0 hBx hst z0 z1 z2 y0 ⊢
  clear hw0
  go_loopw [6] (fun i wr => ∃ (y : Nat) (v : Value), y ≤ H ∧ i = .int .i64 y ∧ Acc (w.heap.size + 1 + 1) w0 wr W H v (pix W (litG W ps ls) (y * W))) (fun i _ => H - (intOf i).toNat)
  case atStart => exact ⟨0, .slice none 0 0, Nat.zero_le _, rfl, by rw [Nat.zero_mul]; exact hst⟩
  case round =>
    obtain ⟨y, v, hy, rfl, hacc⟩ := hrel
    obtain ⟨q0, q1, q2, qf⟩ := hacc.cells
    obtain ⟨_, k0, k1, k2⟩ := hBx.belowN hacc.bel (by omega)
    by_cases hlt : y < H
    · go_wp2
      go_loopw [7] (fun i ws => ∃ (x : Nat) (v : Value), x ≤ W ∧ i = .int .i64 x ∧ Acc (w.heap.size + 1 + 1) w0 ws W H v (pix W (litG W ps ls) (y * W + x))) (fun i _ => W - (intOf i).toNat)
      case atStart => exact ⟨0, v, Nat.zero_le _, rfl, hacc⟩
      case round =>
        obtain ⟨x, v2, hx, rfl, hacs⟩ := hrel
        obtain ⟨w1, e1⟩ : ∃ z, z = wr := ⟨_, rfl⟩
        subst e1
        clear k0 k1 k2 q0 q1 q2 qf
        obtain ⟨c0, c1, c2, cf⟩ := hacs.cells
        have hBr := hBx.belowN hacs.bel (by omega)
        by_cases hlx : x < W
        · have hsz := hacs.siz
          have hbW : Below w.heap.size w w1 := hB0.trans (hacs.bel.mono (by omega))
          have hFr := hF.below hbW
          have hLr := hl.below hbW
          obtain ⟨_, k0, k1, k2⟩ := id hBr
          have hpl : y * W + x < W * H := place_lt hlx hlt
          have hlen : (pix W (litG W ps ls) (y * W + x)).length = y * W + x := pix_length _ _ _
          have hpb := hFr.px_bd x y hlx hlt
          have hsb := sumG_bd x y (by omega) (by omega) ls hr
          obtain ⟨pv, hpv⟩ : ∃ pv, pv = px W ps x y := ⟨_, rfl⟩
          obtain ⟨sv, hsv⟩ : ∃ sv, sv = sumG x y ls := ⟨_, rfl⟩
          have hcall1 := fun w' hb' => at_any (cap := cap) (hFr.below (w' := w') hb') x y x y rfl rfl hlx hlt
          have hcall2 := fun w' hb' => lightAt_any lcap x y (hLr.below (w' := w') hb') h8 hr (by omega) (by omega)
          obtain ⟨gx, hgx⟩ : ∃ gx, (if pv + sv < 65535 then pv + sv else 65535) = gx := ⟨_, rfl⟩
          have HG : Hid (gx = litG W ps ls x y) := by show gx = _; rw [← hgx, hpv, hsv]; unfold litG; split <;> omega
          rw [← hpv] at hcall1 hpb
          rw [← hsv] at hcall2 hsb
          clear hpv hsv
          have hwr : IntKind.i64.wrap (pv + sv) = pv + sv := by rw [IntKind.wrap_i64]; omega
          have hb1 : Below w1.heap.size w1 w1.drew := (Below.refl _ _).drew
          go_wp2
          go_region_law (first
              | (go_simp; go_at_call 67; refine (hcall1 _ (by assumption)).mono ?_; rintro e w2 ⟨rfl, hb2⟩; obtain ⟨hbn, hvn, hsn⟩ := hacs.call (by assumption) hb2; go_wp2_with fail)
              | (go_simp; go_at_call 32; refine (hcall2 _ (by assumption)).mono ?_; rintro e w3 ⟨rfl, hb3⟩; obtain ⟨hbm, hvm, hsm⟩ := hacs.call (by assumption) hb3; go_wp2_with fail)
              | (refine step_append_mine rfl _ _ 22 rfl (w.heap.size + 1 + 1 + 1) 3 i0 (.int .i64 0) 1 8 Try.underlying22 hi hz0 hz1 hz2 rfl (by decide) v2 _ _ rfl (World.ownsRow.alloc (hacs.below hbm).own _) ⟨w3.heap.size, 0, none⟩ 1 1 [.int .i64 gx] rfl rfl (cell_one_new _ _ _) (by intro u hu; simp at hu; subst hu; rfl) (by rw [hlen]; unfold maxLen; omega) (by rw [hlen]; omega) (by simp; omega) ?_; intro v' w9 hown9 hgrow9; obtain ⟨hm, m2, m3⟩ := (hacs.below hbm).mid hgrow9; have R := (hacs.below hbm).push hgrow9 hown9; obtain ⟨a', cap', hv'⟩ := owns_slice hown9; subst hv'))
          all_goals go_wp2
          all_goals rw [hlen] at R
          all_goals refine ⟨⟨x + 1, _, by omega, by go_num, by rw [← Nat.add_assoc, pix_succ W _ x y hlx, ← HG.out]; exact R⟩, by simp [intOf]; omega⟩
        · have hxW : x = W := by omega
          subst hxW
          obtain ⟨_, k0, k1, k2⟩ := hBr
          go_wp2
          go_roundw
          case rel => exact ⟨y + 1, v2, by omega, by go_num, by rw [Nat.add_mul, Nat.one_mul]; exact hacs⟩
          case measure => simp [intOf]; omega
    · have hyH : y = H := by omega
      subst hyH
      have hlen : (pix W (litG W ps ls) (y * W)).length = y * W := pix_length _ _ _
      obtain ⟨a, cap', rfl, hints⟩ := hacc.ints (by rw [hlen, Nat.mul_comm]; omega)
      have hsz := hacc.siz
      have d0 : wr.cell? ⟨w.heap.size + 1, 0, none⟩ = some (.int .i64 0) := (hacc.bel.cell (by simp)).trans z0
      have d1 : wr.cell? ⟨w.heap.size + 1, 1, none⟩ = some (.int .i64 0) := (hacc.bel.cell (by simp)).trans z1
      have d2 : wr.cell? ⟨w.heap.size + 1, 2, none⟩ = some (.slice none 0 0) := (hacc.bel.cell (by simp)).trans z2
      have f0 : wr.frozen? ⟨w.heap.size + 1, 0, none⟩ = false := (hacc.bel.frozen (by simp)).trans (y0 0)
      have f1 : wr.frozen? ⟨w.heap.size + 1, 1, none⟩ = false := (hacc.bel.frozen (by simp)).trans (y0 1)
      have f2 : wr.frozen? ⟨w.heap.size + 1, 2, none⟩ = false := (hacc.bel.frozen (by simp)).trans (y0 2)
      go_wp2
      rw [hlen, Nat.mul_comm] at hints
      refine bodyPost_ret (v := .agg #[.int .i64 W, .int .i64 y, .slice a (W * y) cap']) (by simp [results, Try.results38, go_sem, d0, d1, d2]; exact Nat.mul_comm _ _) rfl ⟨a, cap', rfl, ?_, ?_⟩
      · exact (((hints.setCell (by simp) _).setCell (by simp) _).setCell (by simp) _).mono (by omega)
      · exact (((hB0.trans (hacc.bel.mono (by omega))).setCell (by simp) _).setCell (by simp) _).setCell (by simp) _
end Go.Proofs.Ytfpkiimlaepnhaa
/-
  FRAMEREF: the reference's small functions of frames.
-/
namespace Go.Proofs.Ytfpkiimlaepnhaa
set_option maxRecDepth 100000
open Go.RowKit Im

theorem isTwo_any' (op : Int) (w : World) : Calls Try.prog 26 #[.int .i64 op] w fun e w' => e = .returned (.bool (hasB op)) ∧ w = w' := by
  go_enter Try.func26, Try.ntmps26
  go_wp2_with (go_at_call 61; refine (within_any _ _ _ _).mono ?_; rintro e w' ⟨rfl, rfl⟩)
  go_ret
  exact ⟨rfl, rfl⟩
theorem kFine_any (Op To A B K : Int) (la : Option Addr) (ll lc : Nat) (w : World) : Calls Try.prog 114 #[.agg #[.int .i64 Op, .int .i64 To, .int .i64 A, .int .i64 B, .int .i64 K, .slice la ll lc]] w fun e w' => e = .returned (.bool (if hasK Op = true then kB Op K else true)) ∧ Below w.heap.size w w' := by
  have hb0 := below_box (Below.refl w.heap.size w) (.cells #[.int .i64 Op, .int .i64 To, .int .i64 A, .int .i64 B, .int .i64 K, .slice la ll lc] 88)
  by_cases h1 : Op = 1 ∨ Op = 2 ∨ Op = 8
  · have e1 : hasK Op = true := by rcases h1 with rfl | rfl | rfl <;> rfl
    have e2 : kB Op K = withinB K 0 65535 := by unfold kB; rw [if_neg (by omega), if_neg (by omega)]
    rw [if_pos e1, e2]
    clear e1 e2
    rcases h1 with rfl | rfl | rfl
    all_goals
      go_enter Try.func114, Try.ntmps114
      go_wp2_with (go_at_call 61; refine (within_any _ _ _ _).mono ?_; rintro e w' ⟨rfl, rfl⟩)
      go_ret
      exact ⟨rfl, hb0⟩
  · by_cases h2 : Op = 9 ∨ Op = 13
    · rcases h2 with rfl | rfl
      all_goals
        rw [if_pos (by decide)]
        unfold kB
        go_enter Try.func114, Try.ntmps114
        go_wp2_with (go_at_call 61; refine (within_any _ _ _ _).mono ?_; rintro e w' ⟨rfl, rfl⟩)
        go_ret
        exact ⟨rfl, hb0⟩
    · have e1 : ¬ hasK Op = true := by simp [hasK]; omega
      rw [if_neg e1]
      have n1 : ¬ Op = 1 := by omega
      have n2 : ¬ Op = 2 := by omega
      have n8 : ¬ Op = 8 := by omega
      have n9 : ¬ Op = 9 := by omega
      have n13 : ¬ Op = 13 := by omega
      clear h1 h2 e1
      go_enter Try.func114, Try.ntmps114
      go_wp2
      go_ret
      exact ⟨rfl, hb0⟩
/-- The reference's writer: the last pass ahead of n that made what lies in a slot. -/
theorem writer_any (W H S O : Int) (a : Option Addr) (len cap : Nat) (ps : List Ps) (n : Nat) (s : Int) (w : World) (hp : Passes w a len ps) (hn : n ≤ len) :
    Calls Try.prog 87 #[.agg #[.int .i64 W, .int .i64 H, .int .i64 S, .int .i64 O, .slice a len cap], .int .i64 n, .int .i64 s] w fun e w' => e = .returned (.int .i64 (wrt ps n s)) ∧ Below w.heap.size w w' := by
  have hbig := hp.big
  have hB := FBox.new w W H S O a len cap
  have hb0 := below_box (Below.refl w.heap.size w) (.cells #[.int .i64 W, .int .i64 H, .int .i64 S, .int .i64 O, .slice a len cap] 63)
  have hp1 := hp.below hb0
  have hw0 : IntKind.i64.wrap ((n : Int) - 1) = (n : Int) - 1 := by rw [IntKind.wrap_i64]; omega
  obtain ⟨_, g0, g1, g2, g3, g4⟩ := hB
  go_enter Try.func87, Try.ntmps87
  go_wp2
  go_loop [7] (fun i => ∃ k : Nat, k ≤ n ∧ i = .int .i64 ((k : Int) - 1) ∧ wrt ps n s = wrt ps k s) (fun i => (intOf i + 1).toNat)
  case atStart => exact ⟨n, Nat.le_refl _, rfl, rfl⟩
  case round =>
    obtain ⟨k, hk, rfl, hall⟩ := hrel
    cases k with
    | zero =>
      have HA : Hid (wrt ps n s = -1) := hall
      clear hall
      go_wp2
      go_ret
      exact ⟨by rw [HA.out]; rfl, hb0⟩
    | succ k =>
      have HA : Hid (wrt ps n s = if (ps.getD k Ps.zero).To = s then (k : Int) else wrt ps k s) := hall
      clear hall
      obtain ⟨b, off, la, ll, lc, rfl, p0, p1, p2, p3, p4, p5, _⟩ := hp1.nth (k := k) (by omega)
      generalize (ps.getD k Ps.zero).To = t at p1 HA
      rw [show ((k + 1 : Nat) : Int) - 1 = (k : Int) by omega]
      have hwk : IntKind.i64.wrap ((k : Int) - 1) = (k : Int) - 1 := by rw [IntKind.wrap_i64]; omega
      have hk0 : (0 : Int) ≤ (k : Int) := by omega
      by_cases ht : t = s
      · have HB : Hid (wrt ps n s = k) := by show _ = _; rw [HA.out, if_pos ht]
        subst ht
        go_wp2
        go_ret
        exact ⟨by rw [HB.out]; rfl, hb0⟩
      · have HB : Hid (wrt ps n s = wrt ps k s) := by show _ = _; rw [HA.out, if_neg ht]
        go_wp2
        go_round
        case rel => exact ⟨k, by omega, rfl, HB.out⟩
        case measure => simp [intOf]
end Go.Proofs.Ytfpkiimlaepnhaa
/-
  MADEREF: the reference's Made.
-/
namespace Go.Proofs.Ytfpkiimlaepnhaa
set_option maxRecDepth 100000
open Go.RowKit Im

/-- The call's end tells the image r. -/
def ToldM (w : World) (r : Res) (e : Ending) (w' : World) : Prop :=
  ∃ a cap, e = .returned (.agg #[.int .i64 r.W, .int .i64 r.H, .slice a r.ps.length cap]) ∧ Ints w.heap.size w' a r.ps.length r.ps ∧ Below w.heap.size w w'
theorem makeOf_told {op W H k : Int} (w : World) (h : (makeRes op W H k).E = 0) : Calls Try.prog 17 #[.int .i64 op, .int .i64 W, .int .i64 H, .int .i64 k] w (ToldM w (makeRes op W H k)) := by
  unfold makeRes at h ⊢
  by_cases hE : makeErr op W H k = 0
  · rw [if_pos hE] at h ⊢
    obtain ⟨W1, H1, rfl, rfl, hop, h1, h2, h3⟩ := makeErr_zero hE
    simp only [Int.toNat_natCast]
    have b1 := (side_iff _).1 h1
    have b2 := (side_iff _).1 h2
    have b3 := (num_iff _).1 h3
    refine (makeOf_any op W1 H1 k w hop (by omega) (by omega) b3).mono fun e w' ⟨a, cap', he, hi, hb⟩ => ⟨a, cap', ?_, ?_, hb⟩
    · simp only [pix_length]; exact he
    · simp only [pix_length]; exact hi
  · rw [if_neg hE] at h; exact absurd h hE
theorem oneOf_told {op W H : Int} {a : Option Addr} {len : Nat} (cap : Nat) {k : Int} {ps : List Int} {w : World} (h : Ints 0 w a len ps) (hr : (oneRes op W H ps k).E = 0) :
    Calls Try.prog 24 #[.int .i64 op, .agg #[.int .i64 W, .int .i64 H, .slice a len cap], .int .i64 k] w (ToldM w (oneRes op W H ps k)) := by
  unfold oneRes at hr ⊢
  by_cases hf : fineB W H ps = true
  · rw [if_pos hf] at hr ⊢
    obtain ⟨W', H', b, off, rfl, rfl, rfl, rfl, hF⟩ := fine_of h hf
    simp only [Int.toNat_natCast] at hr ⊢
    by_cases hE : oneErr op W' H' k = 0
    · rw [if_pos hE]
      refine (oneOf_any op cap k hF hE).mono fun e w' ⟨a, cap', he, hi, hb⟩ => ⟨a, cap', ?_, ?_, hb⟩
      · simp only [pix_length]; exact he
      · simp only [pix_length]; exact hi
    · rw [if_neg hE] at hr; exact absurd hr hE
  · rw [if_neg hf] at hr; cases hr
theorem twoOf_told {op W H W' H' : Int} {a a' : Option Addr} {len len' : Nat} (cap cap' : Nat) {ps qs : List Int} {w : World} (h : Ints 0 w a len ps) (h' : Ints 0 w a' len' qs) (hr : (twoRes op W H ps W' H' qs).E = 0) :
    Calls Try.prog 27 #[.int .i64 op, .agg #[.int .i64 W, .int .i64 H, .slice a len cap], .agg #[.int .i64 W', .int .i64 H', .slice a' len' cap']] w (ToldM w (twoRes op W H ps W' H' qs)) := by
  unfold twoRes at hr ⊢
  by_cases hf : (fineB W H ps && fineB W' H' qs) = true
  · rw [if_pos hf] at hr ⊢
    rw [Bool.and_eq_true] at hf
    by_cases hw : withinB op 4 7 = true
    · rw [if_pos hw] at hr ⊢
      have hop : op = 4 ∨ op = 5 ∨ op = 6 ∨ op = 7 := by simp [withinB] at hw; omega
      by_cases hs : W = W' ∧ H = H'
      · rw [if_pos hs]
        obtain ⟨rfl, rfl⟩ := hs
        obtain ⟨W1, H1, b, off, rfl, rfl, rfl, rfl, hF⟩ := fine_of h hf.1
        obtain ⟨W2, H2, b', off', e1, e2, rfl, rfl, hG⟩ := fine_of h' hf.2
        obtain rfl : W1 = W2 := by omega
        obtain rfl : H1 = H2 := by omega
        simp only [Int.toNat_natCast]
        refine (twoOf_any op cap cap' hF hG hop).mono fun e w' ⟨a, cap', he, hi, hb⟩ => ⟨a, cap', ?_, ?_, hb⟩
        · simp only [pix_length]; exact he
        · simp only [pix_length]; exact hi
      · rw [if_neg hs] at hr; cases hr
    · rw [if_neg hw] at hr; cases hr
  · rw [if_neg hf] at hr; cases hr
theorem litOf_told {W H : Int} {a : Option Addr} {len : Nat} (cap : Nat) {ps : List Int} {la : Option Addr} {llen : Nat} (lcap : Nat) {ls : List Lt} {tile : Int} {w : World} (h : Ints 0 w a len ps) (hl : Lights w la llen ls) (hr : (litRes W H ps ls tile).E = 0) :
    Calls Try.prog 38 #[.agg #[.int .i64 W, .int .i64 H, .slice a len cap], .slice la llen lcap] w (ToldM w (litRes W H ps ls tile)) := by
  unfold litRes at hr ⊢
  by_cases hf : fineB W H ps = true
  · rw [if_pos hf] at hr ⊢
    obtain ⟨W', H', b, off, rfl, rfl, rfl, rfl, hF⟩ := fine_of h hf
    simp only [Int.toNat_natCast] at hr ⊢
    by_cases hE : lightsErr ls = 0
    · rw [if_pos hE] at hr ⊢
      have h8 := lightsErr_zero hE
      by_cases ht : 1 ≤ tile ∧ tile ≤ 16
      · rw [if_pos ht]
        refine (litOf_any lcap hF hl h8.1 h8.2).mono fun e w' ⟨a, cap', he, hi, hb⟩ => ⟨a, cap', ?_, ?_, hb⟩
        · simp only [pix_length]; exact he
        · simp only [pix_length]; exact hi
      · rw [if_neg ht] at hr; cases hr
    · rw [if_neg hE] at hr; exact absurd hr hE
  · rw [if_neg hf] at hr; cases hr
/-- The world behind Made's boxes. -/
abbrev mw (w : World) (W H S O : Int) (a : Option Addr) (len cap : Nat) (Op To A B K : Int) (la : Option Addr) (ll lc : Nat) : World :=
  ((w.alloc (.cells #[.int .i64 W, .int .i64 H, .int .i64 S, .int .i64 O, .slice a len cap] 63)).alloc (.cells #[.int .i64 Op, .int .i64 To, .int .i64 A, .int .i64 B, .int .i64 K, .slice la ll lc] 88)).alloc (.cells #[.int .i64 0, .int .i64 0, .slice none 0 0] 24)
theorem mw_below (w : World) (W H S O : Int) (a : Option Addr) (len cap : Nat) (Op To A B K : Int) (la : Option Addr) (ll lc : Nat) : Below w.heap.size w (mw w W H S O a len cap Op To A B K la ll lc) := below_box (below_box (below_box (Below.refl _ _) _) _) _
theorem mw_size (w : World) (W H S O : Int) (a : Option Addr) (len cap : Nat) (Op To A B K : Int) (la : Option Addr) (ll lc : Nat) : (mw w W H S O a len cap Op To A B K la ll lc).heap.size = w.heap.size + 3 := by simp [mw]
theorem mw_box (w : World) (W H S O : Int) (a : Option Addr) (len cap : Nat) (Op To A B K : Int) (la : Option Addr) (ll lc : Nat) : IBox (mw w W H S O a len cap Op To A B K la ll lc) (w.heap.size + 2) := by
  have := IBox.new ((w.alloc (.cells #[.int .i64 W, .int .i64 H, .int .i64 S, .int .i64 O, .slice a len cap] 63)).alloc (.cells #[.int .i64 Op, .int .i64 To, .int .i64 A, .int .i64 B, .int .i64 K, .slice la ll lc] 88))
  simpa using this
theorem mw_pass (w : World) (W H S O : Int) (a : Option Addr) (len cap : Nat) (Op To A B K : Int) (la : Option Addr) (ll lc : Nat) : PBox (mw w W H S O a len cap Op To A B K la ll lc) (w.heap.size + 1) Op To A B K la ll lc := by
  have := (PBox.new (w.alloc (.cells #[.int .i64 W, .int .i64 H, .int .i64 S, .int .i64 O, .slice a len cap] 63)) Op To A B K la ll lc).alloc (.cells #[.int .i64 0, .int .i64 0, .slice none 0 0] 24)
  simpa using this
theorem made_told {w wx w' : World} {b : Nat} {r : Res} {ra : Option Addr} {rc : Nat} (hx : Below w.heap.size w wx) (hlt : b < wx.heap.size) (hb0 : w.heap.size ≤ b) (hi : Ints wx.heap.size w' ra r.ps.length r.ps) (hb : Below wx.heap.size wx w') :
    ToldM w r (.returned (.agg #[.int .i64 r.W, .int .i64 r.H, .slice ra r.ps.length rc])) (((w'.setCell ⟨b, 0, none⟩ (.int .i64 r.W)).setCell ⟨b, 1, none⟩ (.int .i64 r.H)).setCell ⟨b, 2, none⟩ (.slice ra r.ps.length rc)) :=
  ⟨ra, rc, rfl, (((hi.setCell (p := ⟨b, 0, none⟩) hlt _).setCell (p := ⟨b, 1, none⟩) hlt _).setCell (p := ⟨b, 2, none⟩) hlt _).mono hx.size, (((below_step hx hb).setCell (p := ⟨b, 0, none⟩) hb0 _).setCell (p := ⟨b, 1, none⟩) hb0 _).setCell (p := ⟨b, 2, none⟩) hb0 _⟩
set_option maxHeartbeats 1000000 in
theorem made_make (W H S O : Int) (a : Option Addr) (len cap : Nat) (Op To A B K : Int) (la : Option Addr) (ll lc : Nat) (fa : Option Addr) (flen fcap : Nat) (w : World) (h12 : Op = 1 ∨ Op = 2) (hr : (makeRes Op W H K).E = 0) :
    Calls Try.prog 115 #[.agg #[.int .i64 W, .int .i64 H, .int .i64 S, .int .i64 O, .slice a len cap], .agg #[.int .i64 Op, .int .i64 To, .int .i64 A, .int .i64 B, .int .i64 K, .slice la ll lc], .slice fa flen fcap] w (ToldM w (makeRes Op W H K)) := by
  have hm := fun wx => makeOf_told wx hr
  have hbx := mw_below w W H S O a len cap Op To A B K la ll lc
  have hbox := mw_box w W H S O a len cap Op To A B K la ll lc
  have hsz := mw_size w W H S O a len cap Op To A B K la ll lc
  clear hr
  generalize hrr : makeRes Op W H K = r at *
  clear hrr
  rcases h12 with rfl | rfl
  all_goals
    go_enter Try.func115, Try.ntmps115
    go_wp2_with fail
    refine (hm _).mono ?_
    rintro e w' ⟨ra, rc, rfl, hri, hb⟩
    obtain ⟨_, c0, c1, c2, f0, f1, f2⟩ := hbox.below hb hbox.lt hb.size
    clear hm
    have HT : Hid (_) := made_told (rc := rc) hbx hbox.lt (by omega) hri hb
    clear hri hb hbx hbox
    go_wp2
    refine bodyPost_ret (v := .agg #[.int .i64 r.W, .int .i64 r.H, .slice ra r.ps.length rc]) (by simp [results, Try.results115, go_sem, c0, c1, c2]) rfl HT.out
end Go.Proofs.Ytfpkiimlaepnhaa
/-
  MADEREF2: the reference's Made, of passes that take images.
-/
namespace Go.Proofs.Ytfpkiimlaepnhaa
set_option maxRecDepth 100000
open Go.RowKit Im

set_option maxHeartbeats 2000000 in
theorem made_one (W H S O : Int) (a : Option Addr) (len cap0 : Nat) (Op To A B K : Int) (la : Option Addr) (ll lc : Nat) (flen fcap : Nat) (w : World) (hop : Op = 3 ∨ Op = 8 ∨ Op = 9 ∨ Op = 10 ∨ Op = 11 ∨ Op = 12) (b off : Nat) (hb : b < w.heap.size) (hl : 0 < flen) (iw ih : Int) (pa : Option Addr) (cap : Nat) (ps : List Int)
    (d0 : w.cell? ⟨b, off, none⟩ = some (.int .i64 iw)) (d1 : w.cell? ⟨b, off + 1, none⟩ = some (.int .i64 ih)) (d2 : w.cell? ⟨b, off + 2, none⟩ = some (.slice pa ps.length cap)) (hi : Ints 0 w pa ps.length ps) (hr : (oneRes Op iw ih ps K).E = 0) :
    Calls Try.prog 115 #[.agg #[.int .i64 W, .int .i64 H, .int .i64 S, .int .i64 O, .slice a len cap0], .agg #[.int .i64 Op, .int .i64 To, .int .i64 A, .int .i64 B, .int .i64 K, .slice la ll lc], .slice (some ⟨b, off, none⟩) flen fcap] w (ToldM w (oneRes Op iw ih ps K)) := by
  have htwo := fun wx => isTwo_any' Op wx
  rw [show hasB Op = false by simp [hasB, withinB]; omega] at htwo
  have hb3 := mw_below w W H S O a len cap0 Op To A B K la ll lc
  have hbx := hb3.drew
  have hbN : b < w.heap.size + 2 := by omega
  have hpN : w.heap.size + 1 < w.heap.size + 2 := by omega
  have hm := oneOf_told (op := Op) (W := iw) (H := ih) cap (k := K) (hi.below (Nat.le_refl _) hbx) hr
  have hbox0 := mw_box w W H S O a len cap0 Op To A B K la ll lc
  have hbox := hbox0.below (Below.refl _ _).drew hbox0.lt (Nat.le_refl _)
  clear hbox0
  have hsz := mw_size w W H S O a len cap0 Op To A B K la ll lc
  have hsN : w.heap.size + 2 ≤ (mw w W H S O a len cap0 Op To A B K la ll lc).drew.heap.size := by show _ ≤ (mw w W H S O a len cap0 Op To A B K la ll lc).heap.size; omega
  have e0 := (hb3.cell (p := ⟨b, off, none⟩) hb).trans d0
  have e1 := (hb3.cell (p := ⟨b, off + 1, none⟩) hb).trans d1
  have e2 := (hb3.cell (p := ⟨b, off + 2, none⟩) hb).trans d2
  have hP := mw_pass w W H S O a len cap0 Op To A B K la ll lc
  obtain ⟨_, p0, p1, p2, p3, p4, p5⟩ := hP
  clear hr
  generalize hrr : oneRes Op iw ih ps K = r at *
  clear hrr d0 d1 d2 hi
  have n1 : ¬ Op = 1 := by omega
  have n2 : ¬ Op = 2 := by omega
  have n13 : ¬ Op = 13 := by omega
  have m1 : (Op == 1) = false := by simpa using n1
  have m2 : (Op == 2) = false := by simpa using n2
  have m13 : (Op == 13) = false := by simpa using n13
  clear hop
  · go_enter Try.func115, Try.ntmps115
    go_wp2_with (go_at_call 26; refine (htwo _).mono ?_; rintro e w' ⟨rfl, rfl⟩)
    go_region_held3 (fun w' => w'.cell? ⟨b, off, none⟩ = some (.int .i64 iw) ∧ w'.cell? ⟨b, off + 1, none⟩ = some (.int .i64 ih) ∧ w'.cell? ⟨b, off + 2, none⟩ = some (.slice pa ps.length cap) ∧ w'.cell? ⟨w.heap.size + 1, 0, none⟩ = some (.int .i64 Op) ∧ w'.cell? ⟨w.heap.size + 1, 4, none⟩ = some (.int .i64 K))
      (first | exact keepI (Below.refl _ _).drew hbN hpN e0 e1 e2 p0 p4 | exact keepI hbW hbN hpN e0 e1 e2 p0 p4 | exact keepI (((hbW.setCell (Nat.le_refl _) _).setCell (Nat.le_refl _) _).setCell (Nat.le_refl _) _) hbN hpN e0 e1 e2 p0 p4)
      ((go_at_call 24; refine hm.mono ?_; rintro e w' ⟨ra, rc, rfl, hri, hbb⟩; obtain ⟨_, c0, c1, c2, f0, f1, f2⟩ := hbox.below hbb hbox.lt hbb.size; have hbW := (Below.refl (w.heap.size + 2) _).drew.trans (hbb.mono hsN)))
    all_goals
      have HT : Hid (_) := made_told (rc := rc) hbx hbox.lt (by omega) hri hbb
      clear hri hbb hbx hbox hm e0 e1 e2
      go_wp2
      refine bodyPost_ret (v := .agg #[.int .i64 r.W, .int .i64 r.H, .slice ra r.ps.length rc]) (by simp [results, Try.results115, go_sem, c0, c1, c2]) rfl HT.out
set_option maxHeartbeats 2000000 in
theorem made_lit (W H S O : Int) (a : Option Addr) (len cap0 : Nat) (To A B K : Int) (la : Option Addr) (ll lc : Nat) (ls : List Lt) (flen fcap : Nat) (w : World) (hL : Lights w la ll ls) (b off : Nat) (hb : b < w.heap.size) (hl : 0 < flen) (iw ih : Int) (pa : Option Addr) (cap : Nat) (ps : List Int)
    (d0 : w.cell? ⟨b, off, none⟩ = some (.int .i64 iw)) (d1 : w.cell? ⟨b, off + 1, none⟩ = some (.int .i64 ih)) (d2 : w.cell? ⟨b, off + 2, none⟩ = some (.slice pa ps.length cap)) (hi : Ints 0 w pa ps.length ps) (hr : (litRes iw ih ps ls K).E = 0) :
    Calls Try.prog 115 #[.agg #[.int .i64 W, .int .i64 H, .int .i64 S, .int .i64 O, .slice a len cap0], .agg #[.int .i64 13, .int .i64 To, .int .i64 A, .int .i64 B, .int .i64 K, .slice la ll lc], .slice (some ⟨b, off, none⟩) flen fcap] w (ToldM w (litRes iw ih ps ls K)) := by
  have htwo := fun wx => isTwo_any' 13 wx
  rw [show hasB 13 = false from rfl] at htwo
  have hb3 := mw_below w W H S O a len cap0 13 To A B K la ll lc
  have hbx := hb3.drew
  have hbN : b < w.heap.size + 2 := by omega
  have hpN : w.heap.size + 1 < w.heap.size + 2 := by omega
  have hm := litOf_told (W := iw) (H := ih) cap lc (tile := K) (hi.below (Nat.le_refl _) hbx) (hL.below hbx) hr
  have hbox0 := mw_box w W H S O a len cap0 13 To A B K la ll lc
  have hbox := hbox0.below (Below.refl _ _).drew hbox0.lt (Nat.le_refl _)
  clear hbox0
  have hsz := mw_size w W H S O a len cap0 13 To A B K la ll lc
  have hsN : w.heap.size + 2 ≤ (mw w W H S O a len cap0 13 To A B K la ll lc).drew.heap.size := by show _ ≤ (mw w W H S O a len cap0 13 To A B K la ll lc).heap.size; omega
  have e0 := (hb3.cell (p := ⟨b, off, none⟩) hb).trans d0
  have e1 := (hb3.cell (p := ⟨b, off + 1, none⟩) hb).trans d1
  have e2 := (hb3.cell (p := ⟨b, off + 2, none⟩) hb).trans d2
  have hP := mw_pass w W H S O a len cap0 13 To A B K la ll lc
  obtain ⟨_, p0, p1, p2, p3, p4, p5⟩ := hP
  clear hr
  generalize hrr : litRes iw ih ps ls K = r at *
  clear hrr d0 d1 d2 hi
  · go_enter Try.func115, Try.ntmps115
    go_wp2_with (go_at_call 26; refine (htwo _).mono ?_; rintro e w' ⟨rfl, rfl⟩)
    go_region_held3 (fun w' => w'.cell? ⟨b, off, none⟩ = some (.int .i64 iw) ∧ w'.cell? ⟨b, off + 1, none⟩ = some (.int .i64 ih) ∧ w'.cell? ⟨b, off + 2, none⟩ = some (.slice pa ps.length cap) ∧ w'.cell? ⟨w.heap.size + 1, 4, none⟩ = some (.int .i64 K) ∧ w'.cell? ⟨w.heap.size + 1, 5, none⟩ = some (.slice la ll lc))
      (first | exact keepI (Below.refl _ _).drew hbN hpN e0 e1 e2 p4 p5 | exact keepI hbW hbN hpN e0 e1 e2 p4 p5 | exact keepI (((hbW.setCell (Nat.le_refl _) _).setCell (Nat.le_refl _) _).setCell (Nat.le_refl _) _) hbN hpN e0 e1 e2 p4 p5)
      ((go_at_call 38; refine hm.mono ?_; rintro e w' ⟨ra, rc, rfl, hri, hbb⟩; obtain ⟨_, c0, c1, c2, f0, f1, f2⟩ := hbox.below hbb hbox.lt hbb.size; have hbW := (Below.refl (w.heap.size + 2) _).drew.trans (hbb.mono hsN)))
    all_goals
      have HT : Hid (_) := made_told (rc := rc) hbx hbox.lt (by omega) hri hbb
      clear hri hbb hbx hbox hm e0 e1 e2
      go_wp2
      refine bodyPost_ret (v := .agg #[.int .i64 r.W, .int .i64 r.H, .slice ra r.ps.length rc]) (by simp [results, Try.results115, go_sem, c0, c1, c2]) rfl HT.out
set_option maxHeartbeats 4000000 in
theorem made_two (W H S O : Int) (a : Option Addr) (len cap0 : Nat) (Op To A B K : Int) (la : Option Addr) (ll lc : Nat) (flen fcap : Nat) (w : World) (hop : Op = 4 ∨ Op = 5 ∨ Op = 6 ∨ Op = 7) (b off : Nat) (hb : b < w.heap.size) (hl0 : 0 < flen) (hl : (1 : Int) < (flen : Int)) (iw ih : Int) (pa : Option Addr) (cap : Nat) (ps : List Int)
    (d0 : w.cell? ⟨b, off, none⟩ = some (.int .i64 iw)) (d1 : w.cell? ⟨b, off + 1, none⟩ = some (.int .i64 ih)) (d2 : w.cell? ⟨b, off + 2, none⟩ = some (.slice pa ps.length cap)) (hi : Ints 0 w pa ps.length ps)
    (jw jh : Int) (qa : Option Addr) (qcap : Nat) (qs : List Int) (g0 : w.cell? ⟨b, off + 3, none⟩ = some (.int .i64 jw)) (g1 : w.cell? ⟨b, off + 3 + 1, none⟩ = some (.int .i64 jh)) (g2 : w.cell? ⟨b, off + 3 + 2, none⟩ = some (.slice qa qs.length qcap)) (hj : Ints 0 w qa qs.length qs) (hr : (twoRes Op iw ih ps jw jh qs).E = 0) :
    Calls Try.prog 115 #[.agg #[.int .i64 W, .int .i64 H, .int .i64 S, .int .i64 O, .slice a len cap0], .agg #[.int .i64 Op, .int .i64 To, .int .i64 A, .int .i64 B, .int .i64 K, .slice la ll lc], .slice (some ⟨b, off, none⟩) flen fcap] w (ToldM w (twoRes Op iw ih ps jw jh qs)) := by
  have htwo := fun wx => isTwo_any' Op wx
  rw [show hasB Op = true by rcases hop with rfl | rfl | rfl | rfl <;> rfl] at htwo
  have hb3 := mw_below w W H S O a len cap0 Op To A B K la ll lc
  have hbx := hb3.drew
  have hbN : b < w.heap.size + 2 := by omega
  have hpN : w.heap.size + 1 < w.heap.size + 2 := by omega
  have hm := twoOf_told (op := Op) (W := iw) (H := ih) (W' := jw) (H' := jh) cap qcap (hi.below (Nat.le_refl _) hbx) (hj.below (Nat.le_refl _) hbx) hr
  have hbox0 := mw_box w W H S O a len cap0 Op To A B K la ll lc
  have hbox := hbox0.below (Below.refl _ _).drew hbox0.lt (Nat.le_refl _)
  clear hbox0
  have hsz := mw_size w W H S O a len cap0 Op To A B K la ll lc
  have hsN : w.heap.size + 2 ≤ (mw w W H S O a len cap0 Op To A B K la ll lc).drew.heap.size := by show _ ≤ (mw w W H S O a len cap0 Op To A B K la ll lc).heap.size; omega
  have e0 := (hb3.cell (p := ⟨b, off, none⟩) hb).trans d0
  have e1 := (hb3.cell (p := ⟨b, off + 1, none⟩) hb).trans d1
  have e2 := (hb3.cell (p := ⟨b, off + 2, none⟩) hb).trans d2
  have e3 := (hb3.cell (p := ⟨b, off + 3, none⟩) hb).trans g0
  have e4 := (hb3.cell (p := ⟨b, off + 3 + 1, none⟩) hb).trans g1
  have e5 := (hb3.cell (p := ⟨b, off + 3 + 2, none⟩) hb).trans g2
  have hP := mw_pass w W H S O a len cap0 Op To A B K la ll lc
  obtain ⟨_, p0, p1, p2, p3, p4, p5⟩ := hP
  clear hr
  generalize hrr : twoRes Op iw ih ps jw jh qs = r at *
  clear hrr d0 d1 d2 hi g0 g1 g2 hj
  rcases hop with rfl | rfl | rfl | rfl
  · go_enter Try.func115, Try.ntmps115
    go_wp2_with (go_at_call 26; refine (htwo _).mono ?_; rintro e w' ⟨rfl, rfl⟩)
    go_region_held3 (fun w' => w'.cell? ⟨b, off, none⟩ = some (.int .i64 iw) ∧ w'.cell? ⟨b, off + 1, none⟩ = some (.int .i64 ih) ∧ w'.cell? ⟨b, off + 2, none⟩ = some (.slice pa ps.length cap) ∧ w'.cell? ⟨b, off + 3, none⟩ = some (.int .i64 jw) ∧ w'.cell? ⟨b, off + 3 + 1, none⟩ = some (.int .i64 jh) ∧ w'.cell? ⟨b, off + 3 + 2, none⟩ = some (.slice qa qs.length qcap) ∧ w'.cell? ⟨w.heap.size + 1, 0, none⟩ = some (.int .i64 4))
      (first | exact keepI2 (Below.refl _ _).drew hbN hpN e0 e1 e2 e3 e4 e5 p0 | exact keepI2 hbW hbN hpN e0 e1 e2 e3 e4 e5 p0 | exact keepI2 (((hbW.setCell (Nat.le_refl _) _).setCell (Nat.le_refl _) _).setCell (Nat.le_refl _) _) hbN hpN e0 e1 e2 e3 e4 e5 p0)
      ((go_at_call 27; refine hm.mono ?_; rintro e w' ⟨ra, rc, rfl, hri, hbb⟩; obtain ⟨_, c0, c1, c2, f0, f1, f2⟩ := hbox.below hbb hbox.lt hbb.size; have hbW := (Below.refl (w.heap.size + 2) _).drew.trans (hbb.mono hsN)))
    all_goals
      have HT : Hid (_) := made_told (rc := rc) hbx hbox.lt (by omega) hri hbb
      clear hri hbb hbx hbox hm e0 e1 e2 e3 e4 e5
      go_wp2
      refine bodyPost_ret (v := .agg #[.int .i64 r.W, .int .i64 r.H, .slice ra r.ps.length rc]) (by simp [results, Try.results115, go_sem, c0, c1, c2]) rfl HT.out
  · go_enter Try.func115, Try.ntmps115
    go_wp2_with (go_at_call 26; refine (htwo _).mono ?_; rintro e w' ⟨rfl, rfl⟩)
    go_region_held3 (fun w' => w'.cell? ⟨b, off, none⟩ = some (.int .i64 iw) ∧ w'.cell? ⟨b, off + 1, none⟩ = some (.int .i64 ih) ∧ w'.cell? ⟨b, off + 2, none⟩ = some (.slice pa ps.length cap) ∧ w'.cell? ⟨b, off + 3, none⟩ = some (.int .i64 jw) ∧ w'.cell? ⟨b, off + 3 + 1, none⟩ = some (.int .i64 jh) ∧ w'.cell? ⟨b, off + 3 + 2, none⟩ = some (.slice qa qs.length qcap) ∧ w'.cell? ⟨w.heap.size + 1, 0, none⟩ = some (.int .i64 5))
      (first | exact keepI2 (Below.refl _ _).drew hbN hpN e0 e1 e2 e3 e4 e5 p0 | exact keepI2 hbW hbN hpN e0 e1 e2 e3 e4 e5 p0 | exact keepI2 (((hbW.setCell (Nat.le_refl _) _).setCell (Nat.le_refl _) _).setCell (Nat.le_refl _) _) hbN hpN e0 e1 e2 e3 e4 e5 p0)
      ((go_at_call 27; refine hm.mono ?_; rintro e w' ⟨ra, rc, rfl, hri, hbb⟩; obtain ⟨_, c0, c1, c2, f0, f1, f2⟩ := hbox.below hbb hbox.lt hbb.size; have hbW := (Below.refl (w.heap.size + 2) _).drew.trans (hbb.mono hsN)))
    all_goals
      have HT : Hid (_) := made_told (rc := rc) hbx hbox.lt (by omega) hri hbb
      clear hri hbb hbx hbox hm e0 e1 e2 e3 e4 e5
      go_wp2
      refine bodyPost_ret (v := .agg #[.int .i64 r.W, .int .i64 r.H, .slice ra r.ps.length rc]) (by simp [results, Try.results115, go_sem, c0, c1, c2]) rfl HT.out
  · go_enter Try.func115, Try.ntmps115
    go_wp2_with (go_at_call 26; refine (htwo _).mono ?_; rintro e w' ⟨rfl, rfl⟩)
    go_region_held3 (fun w' => w'.cell? ⟨b, off, none⟩ = some (.int .i64 iw) ∧ w'.cell? ⟨b, off + 1, none⟩ = some (.int .i64 ih) ∧ w'.cell? ⟨b, off + 2, none⟩ = some (.slice pa ps.length cap) ∧ w'.cell? ⟨b, off + 3, none⟩ = some (.int .i64 jw) ∧ w'.cell? ⟨b, off + 3 + 1, none⟩ = some (.int .i64 jh) ∧ w'.cell? ⟨b, off + 3 + 2, none⟩ = some (.slice qa qs.length qcap) ∧ w'.cell? ⟨w.heap.size + 1, 0, none⟩ = some (.int .i64 6))
      (first | exact keepI2 (Below.refl _ _).drew hbN hpN e0 e1 e2 e3 e4 e5 p0 | exact keepI2 hbW hbN hpN e0 e1 e2 e3 e4 e5 p0 | exact keepI2 (((hbW.setCell (Nat.le_refl _) _).setCell (Nat.le_refl _) _).setCell (Nat.le_refl _) _) hbN hpN e0 e1 e2 e3 e4 e5 p0)
      ((go_at_call 27; refine hm.mono ?_; rintro e w' ⟨ra, rc, rfl, hri, hbb⟩; obtain ⟨_, c0, c1, c2, f0, f1, f2⟩ := hbox.below hbb hbox.lt hbb.size; have hbW := (Below.refl (w.heap.size + 2) _).drew.trans (hbb.mono hsN)))
    all_goals
      have HT : Hid (_) := made_told (rc := rc) hbx hbox.lt (by omega) hri hbb
      clear hri hbb hbx hbox hm e0 e1 e2 e3 e4 e5
      go_wp2
      refine bodyPost_ret (v := .agg #[.int .i64 r.W, .int .i64 r.H, .slice ra r.ps.length rc]) (by simp [results, Try.results115, go_sem, c0, c1, c2]) rfl HT.out
  · go_enter Try.func115, Try.ntmps115
    go_wp2_with (go_at_call 26; refine (htwo _).mono ?_; rintro e w' ⟨rfl, rfl⟩)
    go_region_held3 (fun w' => w'.cell? ⟨b, off, none⟩ = some (.int .i64 iw) ∧ w'.cell? ⟨b, off + 1, none⟩ = some (.int .i64 ih) ∧ w'.cell? ⟨b, off + 2, none⟩ = some (.slice pa ps.length cap) ∧ w'.cell? ⟨b, off + 3, none⟩ = some (.int .i64 jw) ∧ w'.cell? ⟨b, off + 3 + 1, none⟩ = some (.int .i64 jh) ∧ w'.cell? ⟨b, off + 3 + 2, none⟩ = some (.slice qa qs.length qcap) ∧ w'.cell? ⟨w.heap.size + 1, 0, none⟩ = some (.int .i64 7))
      (first | exact keepI2 (Below.refl _ _).drew hbN hpN e0 e1 e2 e3 e4 e5 p0 | exact keepI2 hbW hbN hpN e0 e1 e2 e3 e4 e5 p0 | exact keepI2 (((hbW.setCell (Nat.le_refl _) _).setCell (Nat.le_refl _) _).setCell (Nat.le_refl _) _) hbN hpN e0 e1 e2 e3 e4 e5 p0)
      ((go_at_call 27; refine hm.mono ?_; rintro e w' ⟨ra, rc, rfl, hri, hbb⟩; obtain ⟨_, c0, c1, c2, f0, f1, f2⟩ := hbox.below hbb hbox.lt hbb.size; have hbW := (Below.refl (w.heap.size + 2) _).drew.trans (hbb.mono hsN)))
    all_goals
      have HT : Hid (_) := made_told (rc := rc) hbx hbox.lt (by omega) hri hbb
      clear hri hbb hbx hbox hm e0 e1 e2 e3 e4 e5
      go_wp2
      refine bodyPost_ret (v := .agg #[.int .i64 r.W, .int .i64 r.H, .slice ra r.ps.length rc]) (by simp [results, Try.results115, go_sem, c0, c1, c2]) rfl HT.out
end Go.Proofs.Ytfpkiimlaepnhaa
