/- LightRef, NearRef, LitRef, FrameRef, MadeRef, MadeRef2, Render, HasRef, SourcesRef, ImagesRef, RowP, Behind, Last, LastRef, KeptRef, Kept: joined, in this order. -/
import Derived.Test.YtbcicopgcmiaaaaM05
import Derived.Deep.RegionHeld3
import Derived.Deep.RegionLaw
import Derived.Test.YtbcicopgcmiaaaaM03
import Derived.Test.YtbcicopgcmiaaaaM06
import Derived.Deep.CutRange
import Derived.Test.YtbcicopgcmiaaaaM04
import Derived.Deep.Upon
import Derived.RangeFuncNested
import Derived.RangeFuncBound
import Derived.RangeFuncCalls
import Derived.RangeFuncLeaves
import Derived.Shelf.Abstract
import Derived.Shelf.RegionOpen
import Derived.OwnWalkIn
import Derived.TacticsInMore
import Derived.LoopNIn
import Derived.LoopIn
/-
  LIGHTREF: the reference's CheckLights, far and LightAt.
-/
namespace Go.Proofs.Ytbcicopgcmiaaaa
set_option maxRecDepth 100000
open Go.RowKit Im

theorem rightW (l : Lt) : rightB l = (withinB l.X 0 15 && withinB l.Y 0 15 && withinB l.R 1 32 && withinB l.P 0 65535) := by
  rw [Bool.eq_iff_iff, right_iff]; simp [withinB]; omega
theorem checkR_many (a : Option Addr) (len cap : Nat) (w : World) (h : 8 < len) (_hb : len ≤ 9223372036854775807) : Calls Try.prog 26 #[.slice a len cap] w fun e w' => e = .returned (.int .i64 2) ∧ Below w.heap.size w w' := by
  have h' : (8 : Int) < (len : Int) := by omega
  go_enter Try.func26, Try.ntmps26
  go_wp2
  go_ret
  exact ⟨rfl, Below.refl _ _⟩
theorem checkR_nil (a : Option Addr) (cap : Nat) (w : World) : Calls Try.prog 26 #[.slice a 0 cap] w fun e w' => e = .returned (.int .i64 0) ∧ Below w.heap.size w w' := by
  go_enter Try.func26, Try.ntmps26
  go_wp2
  go_loop [3] (fun i => i = .int .i64 0) (fun _ => 0)
  case atStart => rfl
  case round =>
    subst hrel
    go_wp2
    go_ret
    exact ⟨rfl, Below.refl _ _⟩
set_option maxHeartbeats 1000000 in
theorem checkR_row (b off len cap : Nat) (ls : List Lt) (w : World) (hl : ls.length = len) (h8 : len ≤ 8) (hc : ∀ j, j < len → w.cell? ⟨b, off + j * 4, none⟩ = some (.int .i64 (ls.getD j Lt.zero).X) ∧ w.cell? ⟨b, off + j * 4 + 1, none⟩ = some (.int .i64 (ls.getD j Lt.zero).Y) ∧ w.cell? ⟨b, off + j * 4 + 2, none⟩ = some (.int .i64 (ls.getD j Lt.zero).R) ∧ w.cell? ⟨b, off + j * 4 + 3, none⟩ = some (.int .i64 (ls.getD j Lt.zero).P)) :
    Calls Try.prog 26 #[.slice (some ⟨b, off, none⟩) len cap] w fun e w' => e = .returned (.int .i64 (okIf (ls.all rightB) 3)) ∧ Below w.heap.size w w' := by
  have h8' : ¬ (8 : Int) < (len : Int) := by omega
  go_enter Try.func26, Try.ntmps26
  go_wp2
  go_loop [3] (fun i => ∃ k : Nat, k ≤ len ∧ i = .int .i64 k ∧ (ls.take k).all rightB = true) (fun i => len - (intOf i).toNat)
  case atStart => exact ⟨0, Nat.zero_le _, rfl, rfl⟩
  case round =>
    obtain ⟨k, hk, rfl, hall⟩ := hrel
    by_cases hlt : k < len
    · obtain ⟨c0, c1, c2, c3⟩ := hc k hlt
      have n1 := rall_succ ls k (by omega) hall
      have n2 := rall_not ls k (by omega)
      rw [rightW] at n1 n2
      generalize ls.getD k Lt.zero = l at c0 c1 c2 c3 n1 n2
      obtain ⟨X, Y, R, P⟩ := l
      dsimp only at c0 c1 c2 c3 n1 n2
      clear hc
      by_cases h1 : withinB X 0 15 = true
      · by_cases h2 : withinB Y 0 15 = true
        · by_cases h3 : withinB R 1 32 = true
          · by_cases h4 : withinB P 0 65535 = true
            · have hx := n1 (by rw [h1, h2, h3, h4]; rfl)
              clear n1 n2
              go_wp2_with (go_at_call 14; refine (within_any _ _ _ _).mono ?_; rintro e w' ⟨rfl, rfl⟩)
              go_round
              case rel => exact ⟨k + 1, by omega, by go_num, hx⟩
              case measure => simp [intOf]; omega
            · have h4' := eq_false_of_ne_true h4
              have hx := n2 (by rw [h1, h2, h3, h4']; rfl)
              clear n1 n2
              go_wp2_with (go_at_call 14; refine (within_any _ _ _ _).mono ?_; rintro e w' ⟨rfl, rfl⟩)
              go_ret
              exact ⟨by first | rfl | (rw [hx]; rfl), Below.refl _ _⟩
          · have h3' := eq_false_of_ne_true h3
            have hx := n2 (by rw [h1, h2, h3']; rfl)
            clear n1 n2
            go_wp2_with (go_at_call 14; refine (within_any _ _ _ _).mono ?_; rintro e w' ⟨rfl, rfl⟩)
            go_ret
            exact ⟨by first | rfl | (rw [hx]; rfl), Below.refl _ _⟩
        · have h2' := eq_false_of_ne_true h2
          have hx := n2 (by rw [h1, h2']; rfl)
          clear n1 n2
          go_wp2_with (go_at_call 14; refine (within_any _ _ _ _).mono ?_; rintro e w' ⟨rfl, rfl⟩)
          go_ret
          exact ⟨by first | rfl | (rw [hx]; rfl), Below.refl _ _⟩
      · have h1' := eq_false_of_ne_true h1
        have hx := n2 (by rw [h1']; rfl)
        clear n1 n2
        go_wp2_with (go_at_call 14; refine (within_any _ _ _ _).mono ?_; rintro e w' ⟨rfl, rfl⟩)
        go_ret
        exact ⟨by first | rfl | (rw [hx]; rfl), Below.refl _ _⟩
    · have hx : ls.all rightB = true := by rw [List.take_of_length_le (by omega)] at hall; exact hall
      go_wp2
      go_ret
      exact ⟨by first | rfl | (rw [hx]; rfl), Below.refl _ _⟩
/-- The reference's CheckLights. -/
theorem checkR_any {a : Option Addr} {len : Nat} (cap : Nat) {ls : List Lt} {w : World} (h : Lights w a len ls) : Calls Try.prog 26 #[.slice a len cap] w fun e w' => e = .returned (.int .i64 (lightsErr ls)) ∧ Below w.heap.size w w' := by
  have hl := h.leng
  by_cases h8 : ls.length ≤ 8
  · have e : lightsErr ls = okIf (ls.all rightB) 3 := by simp [lightsErr, h8]
    rw [e]
    rcases h.cells with e | ⟨b, off, rfl, hb, hc⟩
    · subst e
      have : len = 0 := by simpa using hl.symm
      subst this
      exact checkR_nil a cap w
    · exact checkR_row b off len cap ls w hl (by omega) hc
  · have e : lightsErr ls = 2 := by simp [lightsErr, h8]
    rw [e]
    exact checkR_many a len cap w (by omega) h.big

end Go.Proofs.Ytbcicopgcmiaaaa
/-
  NEARREF: the reference's NearOf.
-/
namespace Go.Proofs.Ytbcicopgcmiaaaa
set_option maxRecDepth 100000
open Go.RowKit Im

/-- Does the light reach the place? -/
def hitB (l : Lt) (u v : Int) : Bool := decide (awayP l.X u 1 + awayP l.Y v 1 < l.R)
/-- One of the first n places of a row; of the first m rows. -/
def rowAny (l : Lt) (x v : Int) : Nat → Bool
  | 0 => false
  | n + 1 => rowAny l x v n || hitB l (x + n) v
def boxAny (l : Lt) (x y : Int) (n : Nat) : Nat → Bool
  | 0 => false
  | m + 1 => boxAny l x y n m || rowAny l x (y + m) n
theorem rowAny_iff (l : Lt) (x v : Int) : ∀ n, rowAny l x v n = true ↔ ∃ i : Nat, i < n ∧ hitB l (x + i) v = true
  | 0 => by simp [rowAny]
  | n + 1 => by
    rw [rowAny, Bool.or_eq_true, rowAny_iff l x v n]
    constructor
    · rintro (⟨i, hi, h⟩ | h)
      · exact ⟨i, by omega, h⟩
      · exact ⟨n, by omega, h⟩
    · rintro ⟨i, hi, h⟩
      rcases Nat.lt_or_ge i n with h' | h'
      · exact .inl ⟨i, h', h⟩
      · have : i = n := by omega
        subst this; exact .inr h
theorem boxAny_iff (l : Lt) (x y : Int) (n : Nat) : ∀ m, boxAny l x y n m = true ↔ ∃ i j : Nat, i < n ∧ j < m ∧ hitB l (x + i) (y + j) = true
  | 0 => by simp [boxAny]
  | m + 1 => by
    rw [boxAny, Bool.or_eq_true, boxAny_iff l x y n m, rowAny_iff]
    constructor
    · rintro (⟨i, j, hi, hj, h⟩ | ⟨i, hi, h⟩)
      · exact ⟨i, j, hi, by omega, h⟩
      · exact ⟨i, m, hi, by omega, h⟩
    · rintro ⟨i, j, hi, hj, h⟩
      rcases Nat.lt_or_ge j m with h' | h'
      · exact .inl ⟨i, j, hi, h', h⟩
      · have : j = m := by omega
        subst this; exact .inr ⟨i, hi, h⟩
/-- The nearest of n columns is one of them. -/
theorem away_near (c f : Int) (n : Nat) (hn : 1 ≤ n) : ∃ i : Nat, i < n ∧ awayP c (f + i) 1 = awayP c f n := by
  by_cases h1 : c < f
  · exact ⟨0, by omega, by unfold awayP; omega⟩
  · by_cases h2 : c - f < n
    · exact ⟨(c - f).toNat, by omega, by unfold awayP; omega⟩
    · exact ⟨n - 1, by omega, by unfold awayP; omega⟩
theorem away_least (c f : Int) (n i : Nat) (hi : i < n) : awayP c f n ≤ awayP c (f + i) 1 := by unfold awayP; omega
theorem box_near (l : Lt) (x y : Int) (n m : Nat) (hn : 1 ≤ n) (hm : 1 ≤ m) : boxAny l x y n m = nearB x y n m l := by
  rw [Bool.eq_iff_iff, boxAny_iff]
  unfold hitB nearB
  simp only [decide_eq_true_eq]
  constructor
  · rintro ⟨i, j, hi, hj, h⟩
    have h1 := away_least l.X x n i hi
    have h2 := away_least l.Y y m j hj
    omega
  · intro h
    obtain ⟨i, hi, e1⟩ := away_near l.X x n hn
    obtain ⟨j, hj, e2⟩ := away_near l.Y y m hm
    exact ⟨i, j, hi, hj, by rw [e1, e2]; exact h⟩

/-- A light's four cells, and all that was there. -/
def LtAt (w0 w' : World) (b o : Nat) (X Y R P : Int) : Prop := Below w0.heap.size w0 w' ∧ w'.cell? ⟨b, o, none⟩ = some (.int .i64 X) ∧ w'.cell? ⟨b, o + 1, none⟩ = some (.int .i64 Y) ∧ w'.cell? ⟨b, o + 2, none⟩ = some (.int .i64 R) ∧ w'.cell? ⟨b, o + 3, none⟩ = some (.int .i64 P)
theorem ltAt {w0 w1 w' : World} {b o : Nat} {X Y R P : Int} (h : LtAt w0 w1 b o X Y R P) (hb : b < w1.heap.size) (hbel : Below w1.heap.size w1 w') :
    Below w1.heap.size w1 w' ∧ w'.cell? ⟨b, o, none⟩ = some (.int .i64 X) ∧ w'.cell? ⟨b, o + 1, none⟩ = some (.int .i64 Y) ∧ w'.cell? ⟨b, o + 2, none⟩ = some (.int .i64 R) ∧ w'.cell? ⟨b, o + 3, none⟩ = some (.int .i64 P) :=
  ⟨hbel, (hbel.cell (p := ⟨b, o, none⟩) hb).trans h.2.1, (hbel.cell (p := ⟨b, o + 1, none⟩) hb).trans h.2.2.1, (hbel.cell (p := ⟨b, o + 2, none⟩) hb).trans h.2.2.2.1, (hbel.cell (p := ⟨b, o + 3, none⟩) hb).trans h.2.2.2.2⟩
theorem viaL {P : Program} {f : FuncId} {args : Array Value} {wX w' : World} {r : Ending} (hb : Below wX.heap.size wX w') (hc : Calls P f args w' fun e w2 => e = r ∧ Below w'.heap.size w' w2) :
    Calls P f args w' fun e w2 => e = r ∧ Below wX.heap.size wX w2 := hc.mono fun _ _ ⟨he, hb2⟩ => ⟨he, below_stepL hb hb2⟩

end Go.Proofs.Ytbcicopgcmiaaaa
/-
  LITREF: the reference's LitOf.
-/
namespace Go.Proofs.Ytbcicopgcmiaaaa
set_option maxRecDepth 100000
open Go.RowKit Im

/-- An append to a row of the call's own, as one step of a region that draws. -/
theorem step_append_mine {P : Program} {ops : Array Oper} {o : Oper} {a : Act} {w : World} {K : Act → World → Prop} {Q : Exit → Act → World → Prop} {E : Prop}
    (hg : o.guard = none) (s x : Operand) (t : TypeId) (ho : o.op = .call { callee := .builtin .append, args := #[s, x], argTypes := #[t, t] })
    (base : Nat) (e : TypeId) (i : TypeInfo) (z : Value) (size bytes : Nat) (ht : P.underlying t = some (.slice e)) (hi : P.info? e = some i) (hz : i.zero = some z)
    (hsize : i.size = size) (hby : i.bytes = bytes) (hzs : z.cells.size = size) (hsz : 0 < size)
    (v : Value) (n : Nat) (xs : List Value) (hs : a.eval s = v) (hown : w.ownsRow base e size v n xs)
    (ad : Addr) (m c : Nat) (news : List Value) (hx : a.eval x = .slice (some ad) m c) (hl : news.length = m * size) (hnews : ∀ j u, news[j]? = some u → w.cell? (ad.add j) = some u) (h1 : ∀ u ∈ news, u.oneCell' = true)
    (h63 : n + m ≤ maxLen) (hbytes : (n + m) * bytes ≤ 140737488355328) (hbase : base ≤ w.heap.size)
    (hK : ∀ v' w', w'.ownsRow base e size v' (n + m) (xs ++ news) → w.grownBy w' v.ownBlock → K (a.put o.dst v') w') :
    if Region.wanted o (yielded ops a.tmps) = true then Oper.wp P o a w K Q else E := by
  have hw : Region.wanted o (yielded ops a.tmps) = true := by simp [Region.wanted, hg]
  rw [if_pos hw]
  exact wp_append_own w s x t ho base e i z size bytes ht hi hz hsize hby hzs hsz v n xs hs hown ad m c news hx hl hnews h1 h63 hbytes hbase fun v' w' h2 h3 _ => hK v' w' h2 h3

end Go.Proofs.Ytbcicopgcmiaaaa
/-
  FRAMEREF: the reference's small functions of frames.
-/
namespace Go.Proofs.Ytbcicopgcmiaaaa
set_option maxRecDepth 100000
open Go.RowKit Im

theorem isTwo_any' (op : Int) (w : World) : Calls Try.prog 36 #[.int .i64 op] w fun e w' => e = .returned (.bool (hasB op)) ∧ w = w' := by
  go_enter Try.func36, Try.ntmps36
  go_wp2_with (go_at_call 14; refine (within_any _ _ _ _).mono ?_; rintro e w' ⟨rfl, rfl⟩)
  go_ret
  exact ⟨rfl, rfl⟩
theorem kFine_any (Op To A B K : Int) (la : Option Addr) (ll lc : Nat) (w : World) : Calls Try.prog 25 #[.agg #[.int .i64 Op, .int .i64 To, .int .i64 A, .int .i64 B, .int .i64 K, .slice la ll lc]] w fun e w' => e = .returned (.bool (if hasK Op = true then kB Op K else true)) ∧ Below w.heap.size w w' := by
  have hb0 := below_box (Below.refl w.heap.size w) (.cells #[.int .i64 Op, .int .i64 To, .int .i64 A, .int .i64 B, .int .i64 K, .slice la ll lc] 45)
  by_cases h1 : Op = 1 ∨ Op = 2 ∨ Op = 8
  · have e1 : hasK Op = true := by rcases h1 with rfl | rfl | rfl <;> rfl
    have e2 : kB Op K = withinB K 0 65535 := by unfold kB; rw [if_neg (by omega), if_neg (by omega)]
    rw [if_pos e1, e2]
    clear e1 e2
    rcases h1 with rfl | rfl | rfl
    all_goals
      go_enter Try.func25, Try.ntmps25
      go_wp2_with (go_at_call 14; refine (within_any _ _ _ _).mono ?_; rintro e w' ⟨rfl, rfl⟩)
      go_ret
      exact ⟨rfl, hb0⟩
  · by_cases h2 : Op = 9 ∨ Op = 13
    · rcases h2 with rfl | rfl
      all_goals
        rw [if_pos (by decide)]
        unfold kB
        go_enter Try.func25, Try.ntmps25
        go_wp2_with (go_at_call 14; refine (within_any _ _ _ _).mono ?_; rintro e w' ⟨rfl, rfl⟩)
        go_ret
        exact ⟨rfl, hb0⟩
    · have e1 : ¬ hasK Op = true := by simp [hasK]; omega
      rw [if_neg e1]
      have n1 : ¬ Op = 1 := by omega
      have n2 : ¬ Op = 2 := by omega
      have n8 : ¬ Op = 8 := by omega
      have n9 : ¬ Op = 9 := by omega
      have n13 : ¬ Op = 13 := by omega
      clear h1 h2 e1
      go_enter Try.func25, Try.ntmps25
      go_wp2
      go_ret
      exact ⟨rfl, hb0⟩
end Go.Proofs.Ytbcicopgcmiaaaa
/-
  MADEREF: the reference's Made.
-/
namespace Go.Proofs.Ytbcicopgcmiaaaa
set_option maxRecDepth 100000
open Go.RowKit Im

/-- The call's end tells the image r. -/
def ToldM (w : World) (r : Res) (e : Ending) (w' : World) : Prop :=
  ∃ a cap, e = .returned (.agg #[.int .i64 r.W, .int .i64 r.H, .slice a r.ps.length cap]) ∧ Ints w.heap.size w' a r.ps.length r.ps ∧ Below w.heap.size w w'
theorem made_told {w wx w' : World} {b : Nat} {r : Res} {ra : Option Addr} {rc : Nat} (hx : Below w.heap.size w wx) (hlt : b < wx.heap.size) (hb0 : w.heap.size ≤ b) (hi : Ints wx.heap.size w' ra r.ps.length r.ps) (hb : Below wx.heap.size wx w') :
    ToldM w r (.returned (.agg #[.int .i64 r.W, .int .i64 r.H, .slice ra r.ps.length rc])) (((w'.setCell ⟨b, 0, none⟩ (.int .i64 r.W)).setCell ⟨b, 1, none⟩ (.int .i64 r.H)).setCell ⟨b, 2, none⟩ (.slice ra r.ps.length rc)) :=
  ⟨ra, rc, rfl, (((hi.setCell (p := ⟨b, 0, none⟩) hlt _).setCell (p := ⟨b, 1, none⟩) hlt _).setCell (p := ⟨b, 2, none⟩) hlt _).mono hx.size, (((below_step hx hb).setCell (p := ⟨b, 0, none⟩) hb0 _).setCell (p := ⟨b, 1, none⟩) hb0 _).setCell (p := ⟨b, 2, none⟩) hb0 _⟩
end Go.Proofs.Ytbcicopgcmiaaaa
/-
  MADEREF2: the reference's Made, of passes that take images.
-/
namespace Go.Proofs.Ytbcicopgcmiaaaa
set_option maxRecDepth 100000
open Go.RowKit Im

end Go.Proofs.Ytbcicopgcmiaaaa
/-
  RENDER: frame.Render.
-/
namespace Go.Proofs.Ytbcicopgcmiaaaa
set_option maxRecDepth 100000
open Go.RowKit Im

/-- What frame.Render tells. -/
def renderP (f : Fr) : Res := if frameE f = 0 then (pics f f.ps.length).getD (shownP f).toNat (noRes 0) else noRes (frameE f)
/-- Behind the region: the image r lies in a block of its own. -/
def Made9 (wP : World) (r : Res) (s9 s10 : Value) (wx : World) : Prop :=
  s10 = .int .i64 r.E ∧ ∃ b ra rc, s9 = .pointer (some ⟨b, 0, none⟩) ∧ wx.cell? ⟨b, 0, none⟩ = some (.int .i64 r.W) ∧ wx.cell? ⟨b, 1, none⟩ = some (.int .i64 r.H) ∧ wx.cell? ⟨b, 2, none⟩ = some (.slice ra r.ps.length rc) ∧ Ints wP.heap.size wx ra r.ps.length r.ps ∧ Below wP.heap.size wP wx
theorem getD_over {α : Type} (l : List α) (d : α) {k : Nat} (h : l.length ≤ k) : l.getD k d = d := by
  rw [List.getD_eq_getElem?_getD, List.getElem?_eq_none h]; rfl
theorem pics_next (f : Fr) (k j : Nat) : (pics f (k + 1)).getD j (noRes 0) = if k = j then paintRes (f.ps.getD k Ps.zero) (sizeN f k) (pickR (pics f k) (srcOf f.ps k)) else (pics f k).getD j (noRes 0) := by
  have e1 : pics f (k + 1) = pics f k ++ [paintRes (f.ps.getD k Ps.zero) (sizeN f k) (pickR (pics f k) (srcOf f.ps k))] := rfl
  have l1 := pics_length f k
  rw [e1]
  rcases Nat.lt_trichotomy j k with h | h | h
  · rw [getD_left _ _ _ (by omega), if_neg (by omega)]
  · rw [getD_last _ _ _ (by omega), if_pos h.symm]
  · rw [if_neg (by omega), getD_over _ _ (by simp; omega), getD_over _ _ (by omega)]
theorem szs_at (f : Fr) {n k : Nat} (h : k < n) : (szs f n).getD k Sz.zero = sizeN f k := by
  induction n with
  | zero => omega
  | succ n ih =>
    have e : szs f (n + 1) = szs f n ++ [sizeN f n] := rfl
    have l := szs_length f n
    rw [e]
    by_cases hk : k < n
    · rw [getD_left _ _ _ (by omega), ih hk]
    · have : k = n := by omega
      subst this
      rw [getD_last _ _ _ (by omega)]
theorem srcs_at (ps : List Ps) {n k : Nat} (h : k < n) : (srcs ps n).getD k [] = srcOf ps k := by
  unfold srcs
  simp [List.getD_eq_getElem?_getD, h]
theorem keepM {wP w' : World} {bp bc zb zo sb so : Nat} {x0 x1 x2 x3 x4 x5 y0 y1 z0 z1 s0 : Value} (hb : Below wP.heap.size wP w') (h1 : bp < wP.heap.size) (h2 : bc < wP.heap.size) (h3 : zb < wP.heap.size) (h4 : sb < wP.heap.size)
    (p0 : wP.cell? ⟨bp, 0, none⟩ = some x0) (p1 : wP.cell? ⟨bp, 1, none⟩ = some x1) (p2 : wP.cell? ⟨bp, 2, none⟩ = some x2) (p3 : wP.cell? ⟨bp, 3, none⟩ = some x3) (p4 : wP.cell? ⟨bp, 4, none⟩ = some x4) (p5 : wP.cell? ⟨bp, 5, none⟩ = some x5) (c0 : wP.cell? ⟨bc, 0, none⟩ = some y0) (c1 : wP.cell? ⟨bc, 1, none⟩ = some y1) (d0 : wP.cell? ⟨zb, zo, none⟩ = some z0) (d1 : wP.cell? ⟨zb, zo + 1, none⟩ = some z1) (e0 : wP.cell? ⟨sb, so, none⟩ = some s0) :
    Below wP.heap.size wP w' ∧ w'.cell? ⟨bp, 0, none⟩ = some x0 ∧ w'.cell? ⟨bp, 1, none⟩ = some x1 ∧ w'.cell? ⟨bp, 2, none⟩ = some x2 ∧ w'.cell? ⟨bp, 3, none⟩ = some x3 ∧ w'.cell? ⟨bp, 4, none⟩ = some x4 ∧ w'.cell? ⟨bp, 5, none⟩ = some x5 ∧ w'.cell? ⟨bc, 0, none⟩ = some y0 ∧ w'.cell? ⟨bc, 1, none⟩ = some y1 ∧ w'.cell? ⟨zb, zo, none⟩ = some z0 ∧ w'.cell? ⟨zb, zo + 1, none⟩ = some z1 ∧ w'.cell? ⟨sb, so, none⟩ = some s0 :=
  ⟨hb, (hb.cell (p := ⟨bp, 0, none⟩) h1).trans p0, (hb.cell (p := ⟨bp, 1, none⟩) h1).trans p1, (hb.cell (p := ⟨bp, 2, none⟩) h1).trans p2, (hb.cell (p := ⟨bp, 3, none⟩) h1).trans p3, (hb.cell (p := ⟨bp, 4, none⟩) h1).trans p4, (hb.cell (p := ⟨bp, 5, none⟩) h1).trans p5, (hb.cell (p := ⟨bc, 0, none⟩) h2).trans c0, (hb.cell (p := ⟨bc, 1, none⟩) h2).trans c1, (hb.cell (p := ⟨zb, zo, none⟩) h3).trans d0, (hb.cell (p := ⟨zb, zo + 1, none⟩) h3).trans d1, (hb.cell (p := ⟨sb, so, none⟩) h4).trans e0⟩
end Go.Proofs.Ytbcicopgcmiaaaa
/-
  HASREF: the reference's has, and the slots of a pass.
-/
namespace Go.Proofs.Ytbcicopgcmiaaaa
set_option maxRecDepth 100000
open Go.RowKit Im

theorem has_any (op : Int) (w : World) : Calls Try.prog 23 #[.int .i64 op] w fun e w' => e = .returned (.tuple #[.bool (hasA op), .bool (hasB op), .bool (hasK op), .bool (hasL op)]) ∧ w = w' := by
  have hA : withinB op 3 13 = hasA op := rfl
  have hw := fun wx => within_any op 3 13 wx
  have ht := fun wx => isTwo_any' op wx
  rw [hA] at hw
  by_cases hk : knownB op = true
  · rcases op_cases hk with rfl | rfl | rfl | rfl | rfl | rfl | rfl | rfl | rfl | rfl | rfl | rfl | rfl
    all_goals
      clear hk hA
      go_enter Try.func23, Try.ntmps23
      go_wp2_with (first
        | (go_at_call 14; refine (hw _).mono ?_; rintro e w' ⟨rfl, rfl⟩)
        | (go_at_call 36; refine (ht _).mono ?_; rintro e w' ⟨rfl, rfl⟩))
      exact bodyPost_ret (by simp [results, Try.results23, go_sem]; decide) rfl ⟨rfl, rfl⟩
  · have hn : op < 1 ∨ 13 < op := by simp [knownB, withinB] at hk; omega
    have e3 : hasK op = false := by simp [hasK]; omega
    have e4 : hasL op = false := by simp [hasL]; omega
    have n1 : ¬ op = 1 := by omega
    have n2 : ¬ op = 2 := by omega
    have n8 : ¬ op = 8 := by omega
    have n9 : ¬ op = 9 := by omega
    have n13 : ¬ op = 13 := by omega
    have m13 : (op == 13) = false := by simpa using n13
    rw [e3, e4]
    clear hn e3 e4 hk hA
    go_enter Try.func23, Try.ntmps23
    go_wp2_with (first
      | (go_at_call 14; refine (hw _).mono ?_; rintro e w' ⟨rfl, rfl⟩)
      | (go_at_call 36; refine (ht _).mono ?_; rintro e w' ⟨rfl, rfl⟩))
    exact bodyPost_ret (by simp [results, Try.results23, go_sem]; exact ⟨⟨⟨n1, n2⟩, n8⟩, n9⟩) rfl ⟨rfl, rfl⟩
theorem slot_any (W H S O : Int) (a : Option Addr) (len cap : Nat) (w : World) (b : Nat) (n : Int) (hB : FBox w b W H S O a len cap) (hS : 1 ≤ S ∧ S ≤ 8) : Calls Try.prog 24 #[.int .i64 n, .pointer (some ⟨b, 0, none⟩)] w fun e w' => e = .returned (.bool (slotB n S)) ∧ w = w' := by
  obtain ⟨_, g0, g1, g2, g3, g4⟩ := hB
  have hw : IntKind.i64.wrap (S - 1) = S - 1 := by rw [IntKind.wrap_i64]; omega
  go_enter Try.func24, Try.ntmps24
  go_wp2_with (go_at_call 14; refine (within_any _ _ _ _).mono ?_; rintro e w' ⟨rfl, rfl⟩)
  go_ret
  exact ⟨rfl, rfl⟩
end Go.Proofs.Ytbcicopgcmiaaaa
/-
  SOURCESREF: the reference's SourcesOf: of each pass, which passes made what it takes.
-/
namespace Go.Proofs.Ytbcicopgcmiaaaa
set_option maxRecDepth 100000
open Go.RowKit Im

theorem ll_push {base : Nat} {wr w3 : World} {v2 v' u : Value} {ss : List (List Int)} {is : List Int} {us : List Value} (hu : Owns base wr u is) (hg : wr.grownBy w3 v2.ownBlock) (hus : wr.ownsRow base 78 1 v2 ss.length us) (hul : us.length = ss.length)
    (hue : ∀ (j : Nat) (x : List Int), ss[j]? = some x → ∃ u, us[j]? = some u ∧ Owns base wr u x) (h' : w3.ownsRow base 78 1 v' (ss.length + 1) (us ++ [u])) : OwnsLL base w3 v' (ss ++ [is]) := by
  have keep : ∀ {u : Value} {is : List Int}, Owns base wr u is → Owns base w3 u is := fun ho => World.ownsRow.kept ho hg (rows_apart ho hus (by decide))
  refine ⟨us ++ [u], by simpa using h', by simp [hul], fun j x hj => ?_⟩
  by_cases hjl : j < ss.length
  · rw [List.getElem?_append_left hjl] at hj
    obtain ⟨u', hu', ho'⟩ := hue j x hj
    exact ⟨u', by rw [List.getElem?_append_left (by omega)]; exact hu', keep ho'⟩
  · have hje : j = ss.length := by
      rcases Nat.lt_or_ge j (ss ++ [is]).length with hh | hh
      · simp at hh; omega
      · rw [List.getElem?_eq_none hh] at hj; cases hj
    subst hje
    have : x = is := by simpa using hj.symm
    subst this
    exact ⟨u, by rw [← hul]; simp, keep hu⟩
/-- The call's end tells the lists ss, in a slice of its own. -/
def ToldLL (w : World) (ss : List (List Int)) (e : Ending) (w' : World) : Prop :=
  (∃ v, e = .returned v ∧ OwnsLL w.heap.size w' v ss) ∧ Below w.heap.size w w'
end Go.Proofs.Ytbcicopgcmiaaaa
/-
  IMAGESREF: the reference's Images.
-/
namespace Go.Proofs.Ytbcicopgcmiaaaa
set_option maxRecDepth 100000
open Go.RowKit Im

/-- An append to a row of the call's own, as one step of a region that draws; and where the row lies behind it. -/
theorem step_append_at {P : Program} {ops : Array Oper} {o : Oper} {a : Act} {w : World} {K : Act → World → Prop} {Q : Exit → Act → World → Prop} {E : Prop}
    (hg : o.guard = none) (s x : Operand) (t : TypeId) (ho : o.op = .call { callee := .builtin .append, args := #[s, x], argTypes := #[t, t] })
    (base : Nat) (e : TypeId) (i : TypeInfo) (z : Value) (size bytes : Nat) (ht : P.underlying t = some (.slice e)) (hi : P.info? e = some i) (hz : i.zero = some z)
    (hsize : i.size = size) (hby : i.bytes = bytes) (hzs : z.cells.size = size) (hsz : 0 < size)
    (v : Value) (n : Nat) (xs : List Value) (hs : a.eval s = v) (hown : w.ownsRow base e size v n xs)
    (ad : Addr) (m c : Nat) (news : List Value) (hx : a.eval x = .slice (some ad) m c) (hl : news.length = m * size) (hnews : ∀ j u, news[j]? = some u → w.cell? (ad.add j) = some u) (h1 : ∀ u ∈ news, u.oneCell' = true)
    (h63 : n + m ≤ maxLen) (hbytes : (n + m) * bytes ≤ 140737488355328) (hbase : base ≤ w.heap.size)
    (hK : ∀ v' w', w'.ownsRow base e size v' (n + m) (xs ++ news) → w.grownBy w' v.ownBlock → (v'.ownBlock = v.ownBlock ∨ v'.ownBlock = some w.heap.size) → K (a.put o.dst v') w') :
    if Region.wanted o (yielded ops a.tmps) = true then Oper.wp P o a w K Q else E := by
  have hw : Region.wanted o (yielded ops a.tmps) = true := by simp [Region.wanted, hg]
  rw [if_pos hw]
  obtain ⟨v', w', hr, h2, h3, h4, h5⟩ := run_append_own_at (P := P) w base t o.type e i z size bytes ht hi hz hsize hby hzs hsz v n xs hown ad m c news hl hnews h1 h63 hbytes hbase
  unfold Oper.wp execOp
  simp only [ho, resolve, invoke, builtin, Sem.run_bind, Sem.run_pure, Result.andThen_ok, List.map_toArray, List.map_cons, List.map_nil, hs, hx, hr]
  exact hK _ _ h2 h3 h5
/-- An image's numbers lie in memory, in no block of the row v. -/
def Px (base : Nat) (w : World) (v : Value) (x : Res × Option Addr × Nat) : Prop :=
  x.1.ps.length ≤ 9223372036854775807 ∧ (x.1.ps = [] ∨ ∃ b off, x.2.1 = some ⟨b, off, none⟩ ∧ base ≤ b ∧ b < w.heap.size ∧ v.ownBlock ≠ some b ∧ ∀ j, j < x.1.ps.length → w.cell? ⟨b, off + j, none⟩ = some (.int .i64 (x.1.ps.getD j 0)))
theorem Px.ints {base : Nat} {w : World} {v : Value} {x : Res × Option Addr × Nat} (h : Px base w v x) : Ints base w x.2.1 x.1.ps.length x.1.ps := by
  obtain ⟨h0, h1⟩ := h
  refine ⟨rfl, h0, ?_⟩
  rcases h1 with h1 | ⟨b, off, ha, hB, hb, _, hc⟩
  · exact .inl h1
  · exact .inr ⟨b, off, ha, hB, hb, hc⟩
theorem Px.mono {base base' : Nat} {w : World} {v : Value} {x : Res × Option Addr × Nat} (h : Px base w v x) (hb : base' ≤ base) : Px base' w v x := by
  obtain ⟨h0, h1⟩ := h
  refine ⟨h0, ?_⟩
  rcases h1 with h1 | ⟨b, off, ha, hB, r⟩
  · exact .inl h1
  · exact .inr ⟨b, off, ha, Nat.le_trans hb hB, r⟩
theorem Px.of {base : Nat} {w : World} {v : Value} {B : Nat} {r : Res} {a : Option Addr} {c : Nat} (h : Ints B w a r.ps.length r.ps) (hB : base ≤ B) (hv : ∀ j, v.ownBlock = some j → j < B) : Px base w v (r, a, c) := by
  refine ⟨h.big, ?_⟩
  rcases h.cells with h1 | ⟨b, off, ha, hb0, hb, hc⟩
  · exact .inl h1
  · exact .inr ⟨b, off, ha, Nat.le_trans hB hb0, hb, fun e => by have := hv b e; omega, hc⟩
theorem Px.below {base : Nat} {w w' : World} {v : Value} {x : Res × Option Addr × Nat} (h : Px base w v x) (hb : Below w.heap.size w w') : Px base w' v x := by
  obtain ⟨h0, h1⟩ := h
  refine ⟨h0, ?_⟩
  rcases h1 with h1 | ⟨b, off, ha, hB, hl, hv, hc⟩
  · exact .inl h1
  · exact .inr ⟨b, off, ha, hB, Nat.lt_of_lt_of_le hl hb.size, hv, fun j hj => (hb.cell (p := ⟨b, off + j, none⟩) hl).trans (hc j hj)⟩
theorem Px.grown {base : Nat} {w w' : World} {v v' : Value} {x : Res × Option Addr × Nat} (h : Px base w v x) (hg : w.grownBy w' v.ownBlock) (hv' : v'.ownBlock = v.ownBlock ∨ v'.ownBlock = some w.heap.size) : Px base w' v' x := by
  obtain ⟨h0, h1⟩ := h
  refine ⟨h0, ?_⟩
  rcases h1 with h1 | ⟨b, off, ha, hB, hl, hv, hc⟩
  · exact .inl h1
  · refine .inr ⟨b, off, ha, hB, Nat.lt_of_lt_of_le hl hg.size, ?_, fun j hj => (grown_cell hg hl (fun e => hv e.symm) (off + j)).1.trans (hc j hj)⟩
    rcases hv' with e | e
    · rw [e]; exact hv
    · rw [e]; intro e'; injection e' with e'; omega
end Go.Proofs.Ytbcicopgcmiaaaa
/-
  ROWP: a growing row of passes, with lights of their own.
-/
namespace Go.Proofs.Ytbcicopgcmiaaaa
set_option maxRecDepth 100000
open Go.RowKit Im

/-- An append of nothing leaves all as it was. -/
theorem list_append_nothing {P : Program} {w : World} {ops : Array Oper} {rest : List Oper} {o : Oper} {a : Act} {Q : Exit → Act → World → Prop} (hgd : o.guard = none) (s x : Operand) (t : TypeId)
    (ho : o.op = .call { callee := .builtin .append, args := #[s, x], argTypes := #[t, t] }) (e : TypeId) (i : TypeInfo) (ht : P.underlying t = some (.slice e)) (hi : P.info? e = some i) (b : Option Addr) (n c : Nat) (hle : n ≤ c) (hs : a.eval s = .slice b n c) (la : Option Addr) (lc : Nat) (hx : a.eval x = .slice la 0 lc)
    (h : wpList P ops Q rest (a.put o.dst (.slice b n c)) w) : wpList P ops Q (o :: rest) a w := by
  refine wpList_plain hgd fun K hK => ?_
  have hrun : (Builtin.append_ #[t, t] o.type #[.slice b n c, .slice la 0 lc]).run P w = .ok (.slice b n c) w := by
    have hs' : Src P i.size t (.slice la 0 lc) 0 [] w := by
      cases la with
      | none => exact Src.ofNil w ht lc
      | some ad => exact Src.ofSlice w ht ad 0 lc [] (by simp) (fun j u h => by simp at h) (fun u hu => by cases hu)
    exact run_append_nothing w t t o.type e i ht hi b n c hle _ hs'
  unfold Oper.wp
  simp [execOp, ho, resolve, invoke, builtin, hs, hx, hrun, Result.andThen]
  exact hK _ _ h
/-- A pass, and where its lights lie. -/
abbrev Lp := List (Ps × Option Addr × Nat)
abbrev lp0 : Ps × Option Addr × Nat := (Ps.zero, none, 0)
def pcells (L : Lp) : List Value := L.flatMap fun x => [.int .i64 x.1.Op, .int .i64 x.1.To, .int .i64 x.1.A, .int .i64 x.1.B, .int .i64 x.1.K, .slice x.2.1 x.1.ls.length x.2.2]
theorem pcells_len (L : Lp) : (pcells L).length = L.length * 6 := by
  induction L with
  | nil => rfl
  | cons x L ih => simp only [pcells, List.flatMap_cons, List.length_append, List.length_cons, List.length_nil] at ih ⊢; rw [ih]; omega
theorem pcells_snoc (L : Lp) (x : Ps × Option Addr × Nat) : pcells (L ++ [x]) = pcells L ++ [.int .i64 x.1.Op, .int .i64 x.1.To, .int .i64 x.1.A, .int .i64 x.1.B, .int .i64 x.1.K, .slice x.2.1 x.1.ls.length x.2.2] := by simp [pcells]
theorem pcells_get (L : Lp) (j : Nat) (h : j < L.length) : (pcells L)[j * 6]? = some (.int .i64 (L.getD j lp0).1.Op) ∧ (pcells L)[j * 6 + 1]? = some (.int .i64 (L.getD j lp0).1.To) ∧ (pcells L)[j * 6 + 2]? = some (.int .i64 (L.getD j lp0).1.A) ∧ (pcells L)[j * 6 + 3]? = some (.int .i64 (L.getD j lp0).1.B) ∧ (pcells L)[j * 6 + 4]? = some (.int .i64 (L.getD j lp0).1.K) ∧ (pcells L)[j * 6 + 5]? = some (.slice (L.getD j lp0).2.1 (L.getD j lp0).1.ls.length (L.getD j lp0).2.2) := by
  induction L generalizing j with
  | nil => simp at h
  | cons x L ih =>
    have e : pcells (x :: L) = .int .i64 x.1.Op :: .int .i64 x.1.To :: .int .i64 x.1.A :: .int .i64 x.1.B :: .int .i64 x.1.K :: .slice x.2.1 x.1.ls.length x.2.2 :: pcells L := rfl
    cases j with
    | zero => rw [e]; exact ⟨rfl, rfl, rfl, rfl, rfl, rfl⟩
    | succ j =>
      have := ih j (by simpa using h)
      rw [e, show (j + 1) * 6 = j * 6 + 1 + 1 + 1 + 1 + 1 + 1 by omega]
      simpa using this
def OwnsP (base : Nat) (w : World) (v : Value) (L : Lp) : Prop := w.ownsRow base 45 6 v L.length (pcells L)
/-- A pass's lights lie in memory, in no block of the row v. -/
def Lx (base : Nat) (w : World) (v : Value) (x : Ps × Option Addr × Nat) : Prop :=
  x.1.ls.length ≤ 9223372036854775807 ∧ (x.1.ls = [] ∨ ∃ b off, x.2.1 = some ⟨b, off, none⟩ ∧ base ≤ b ∧ b < w.heap.size ∧ v.ownBlock ≠ some b ∧ ∀ j, j < x.1.ls.length → w.cell? ⟨b, off + j * 4, none⟩ = some (.int .i64 (x.1.ls.getD j Lt.zero).X) ∧ w.cell? ⟨b, off + j * 4 + 1, none⟩ = some (.int .i64 (x.1.ls.getD j Lt.zero).Y) ∧ w.cell? ⟨b, off + j * 4 + 2, none⟩ = some (.int .i64 (x.1.ls.getD j Lt.zero).R) ∧ w.cell? ⟨b, off + j * 4 + 3, none⟩ = some (.int .i64 (x.1.ls.getD j Lt.zero).P))
theorem Lx.lights {base : Nat} {w : World} {v : Value} {x : Ps × Option Addr × Nat} (h : Lx base w v x) : Lights w x.2.1 x.1.ls.length x.1.ls := by
  obtain ⟨h0, h1⟩ := h
  refine ⟨rfl, h0, ?_⟩
  rcases h1 with h1 | ⟨b, off, ha, hB, hb, _, hc⟩
  · exact .inl h1
  · exact .inr ⟨b, off, ha, hb, hc⟩
theorem Lx.mono {base base' : Nat} {w : World} {v : Value} {x : Ps × Option Addr × Nat} (h : Lx base w v x) (hb : base' ≤ base) : Lx base' w v x := by
  obtain ⟨h0, h1⟩ := h
  refine ⟨h0, ?_⟩
  rcases h1 with h1 | ⟨b, off, ha, hB, r⟩
  · exact .inl h1
  · exact .inr ⟨b, off, ha, Nat.le_trans hb hB, r⟩
theorem Lx.below {base : Nat} {w w' : World} {v : Value} {x : Ps × Option Addr × Nat} (h : Lx base w v x) (hb : Below w.heap.size w w') : Lx base w' v x := by
  obtain ⟨h0, h1⟩ := h
  refine ⟨h0, ?_⟩
  rcases h1 with h1 | ⟨b, off, ha, hB, hl, hv, hc⟩
  · exact .inl h1
  · refine .inr ⟨b, off, ha, hB, Nat.lt_of_lt_of_le hl hb.size, hv, fun j hj => ?_⟩
    obtain ⟨c0, c1, c2, c3⟩ := hc j hj
    exact ⟨(hb.cell (p := ⟨b, off + j * 4, none⟩) hl).trans c0, (hb.cell (p := ⟨b, off + j * 4 + 1, none⟩) hl).trans c1, (hb.cell (p := ⟨b, off + j * 4 + 2, none⟩) hl).trans c2, (hb.cell (p := ⟨b, off + j * 4 + 3, none⟩) hl).trans c3⟩
theorem Lx.setBelow {base : Nat} {w : World} {v : Value} {x : Ps × Option Addr × Nat} (h : Lx base w v x) {p : Addr} (hp : p.block < base) (u : Value) : Lx base (w.setCell p u) v x := by
  obtain ⟨h0, h1⟩ := h
  refine ⟨h0, ?_⟩
  rcases h1 with h1 | ⟨b, off, ha, hB, hl, hv, hc⟩
  · exact .inl h1
  · have hn : ∀ o, p ≠ (⟨b, o, none⟩ : Addr) := fun o e => by rw [e] at hp; exact absurd hp (by simpa using hB)
    refine .inr ⟨b, off, ha, hB, by simpa using hl, hv, fun j hj => ?_⟩
    obtain ⟨c0, c1, c2, c3⟩ := hc j hj
    exact ⟨(set_other _ (hn _)).trans c0, (set_other _ (hn _)).trans c1, (set_other _ (hn _)).trans c2, (set_other _ (hn _)).trans c3⟩
theorem Lx.grown {base : Nat} {w w' : World} {v v' : Value} {x : Ps × Option Addr × Nat} (h : Lx base w v x) (hg : w.grownBy w' v.ownBlock) (hv' : v'.ownBlock = v.ownBlock ∨ v'.ownBlock = some w.heap.size) : Lx base w' v' x := by
  obtain ⟨h0, h1⟩ := h
  refine ⟨h0, ?_⟩
  rcases h1 with h1 | ⟨b, off, ha, hB, hl, hv, hc⟩
  · exact .inl h1
  · have hk := fun o => (grown_cell hg hl (fun e => hv e.symm) o).1
    refine .inr ⟨b, off, ha, hB, Nat.lt_of_lt_of_le hl hg.size, ?_, fun j hj => ?_⟩
    · rcases hv' with e | e
      · rw [e]; exact hv
      · rw [e]; intro e'; injection e' with e'; omega
    · obtain ⟨c0, c1, c2, c3⟩ := hc j hj
      exact ⟨(hk _).trans c0, (hk _).trans c1, (hk _).trans c2, (hk _).trans c3⟩
/-- The row v of passes, and their lights. -/
def RowP (base : Nat) (w : World) (v : Value) (L : Lp) : Prop := OwnsP base w v L ∧ ∀ x ∈ L, Lx base w v x
theorem RowP.nil (base : Nat) (w : World) : RowP base w (.slice none 0 0) [] := ⟨World.ownsRow_nil _ _ _ _, fun x hx => by cases hx⟩
theorem RowP.below {base : Nat} {w w' : World} {v : Value} {L : Lp} (h : RowP base w v L) (hb : Below w.heap.size w w') : RowP base w' v L :=
  ⟨ownsRow_below h.1 hb (Nat.le_refl _), fun x hx => (h.2 x hx).below hb⟩
theorem RowP.setBelow {base : Nat} {w : World} {v : Value} {L : Lp} (h : RowP base w v L) {p : Addr} (hp : p.block < base) (u : Value) : RowP base (w.setCell p u) v L :=
  ⟨ownsRow_setCell_below h.1 hp u, fun x hx => (h.2 x hx).setBelow hp u⟩
theorem RowP.lt {base : Nat} {w : World} {v : Value} {L : Lp} (h : RowP base w v L) : ∀ j, v.ownBlock = some j → base ≤ j ∧ j < w.heap.size := fun j hj => World.ownsRow.lt (w := w) h.1 j hj
theorem RowP.push {base : Nat} {w w1 : World} {v v' : Value} {L : Lp} {x : Ps × Option Addr × Nat} (h : RowP base w v L) (hx : Lx base w v x)
    (h' : w1.ownsRow base 45 6 v' (L.length + 1) (pcells L ++ [.int .i64 x.1.Op, .int .i64 x.1.To, .int .i64 x.1.A, .int .i64 x.1.B, .int .i64 x.1.K, .slice x.2.1 x.1.ls.length x.2.2])) (hg : w.grownBy w1 v.ownBlock) (hl : v'.ownBlock = v.ownBlock ∨ v'.ownBlock = some w.heap.size) : RowP base w1 v' (L ++ [x]) := by
  refine ⟨by unfold OwnsP; rw [pcells_snoc]; simpa using h', fun y hy => ?_⟩
  rcases List.mem_append.1 hy with h1 | h1
  · exact (h.2 y h1).grown hg hl
  · rw [List.mem_singleton] at h1; subst h1; exact hx.grown hg hl
theorem mapP_getD {L : Lp} {ps : List Ps} (h : L.map Prod.fst = ps) (j : Nat) : ps.getD j Ps.zero = (L.getD j lp0).1 := by
  subst h
  simp only [List.getD_eq_getElem?_getD, List.getElem?_map]
  cases L[j]? <;> rfl
theorem RowP.passes {base : Nat} {w : World} {v : Value} {L : Lp} {ps : List Ps} (h : RowP base w v L) (he : L.map Prod.fst = ps) (hb : L.length ≤ 12) : ∃ a cap, v = .slice a ps.length cap ∧ Passes w a ps.length ps := by
  have hrl : ps.length = L.length := by rw [← he]; simp
  obtain ⟨⟨h1, h2⟩, hx⟩ := h
  rcases h2 with ⟨rfl, h0⟩ | ⟨g, cap, cur, rfl, hg, hh, hc, hm, hs, ht⟩
  · have : L = [] := by simpa using h0
    subst this
    subst he
    exact ⟨none, 0, rfl, rfl, by simp, .inl rfl⟩
  · rw [← hrl]
    refine ⟨_, cap, rfl, rfl, by omega, .inr ⟨g, 0, rfl, ?_, fun j hj => ?_⟩⟩
    · rcases Nat.lt_or_ge g w.heap.size with h | h
      · exact h
      · rw [Array.getElem?_eq_none h] at hh; cases hh
    · have hl := pcells_len L
      rw [hrl] at hj
      obtain ⟨k0, k1, k2, k3, k4, k5⟩ := pcells_get L j hj
      have this := fun i hi => World.ownsRow.cellAt (base := base) (e := 45) (size := 6) ⟨h1, .inr ⟨g, cap, cur, rfl, hg, hh, hc, hm, hs, ht⟩⟩ i hi
      have hL := (hx _ (getD_mem hj lp0)).lights
      rw [mapP_getD he j]
      refine ⟨(L.getD j lp0).2.1, (L.getD j lp0).1.ls.length, (L.getD j lp0).2.2, ?_, ?_, ?_, ?_, ?_, ?_, hL⟩
      all_goals rw [Nat.zero_add, this _ (by omega)]
      · exact k0
      · exact k1
      · exact k2
      · exact k3
      · exact k4
      · exact k5
theorem Try.infoPass : (Try.prog.info? 45).map (fun i => (i.zero, i.size, i.bytes)) = some (some (.agg #[.int .i64 0, .int .i64 0, .int .i64 0, .int .i64 0, .int .i64 0, .slice none 0 0]), 6, 64) := by kernel_rfl
theorem cell_six_new (w : World) (v0 v1 v2 v3 v4 v5 : Value) (t : TypeId) : ∀ (j : Nat) (u : Value), [v0, v1, v2, v3, v4, v5][j]? = some u → (w.alloc (.cells #[v0, v1, v2, v3, v4, v5] t)).cell? ((⟨w.heap.size, 0, none⟩ : Addr).add j) = some u := by
  intro j u h
  match j, h with
  | 0, h => simp at h; subst h; simp [go_sem, Addr.add]
  | 1, h => simp at h; subst h; simp [go_sem, Addr.add]
  | 2, h => simp at h; subst h; simp [go_sem, Addr.add]
  | 3, h => simp at h; subst h; simp [go_sem, Addr.add]
  | 4, h => simp at h; subst h; simp [go_sem, Addr.add]
  | 5, h => simp at h; subst h; simp [go_sem, Addr.add]
/-- Lights of the call's own, as a pass's. -/
theorem Lx.of {base B : Nat} {w : World} {v u : Value} {p : Ps} {la : Option Addr} {lc : Nat} (h : OwnsL B w u p.ls) (hu : u = .slice la p.ls.length lc) (h8 : p.ls.length ≤ 8) (hB : base ≤ B) (hv : ∀ j, v.ownBlock = some j → j < B) : Lx base w v (p, la, lc) := by
  refine ⟨by dsimp only; omega, ?_⟩
  obtain ⟨a', cap', e, hL⟩ := id h.lights h8
  rcases h with ⟨h1, h2 | ⟨g, cap, cur, hvv, hg, r⟩⟩
  · left
    have := h2.2
    simpa using this
  · rw [e] at hvv hu
    injection hvv with e1 e2 e3
    injection hu with e4 e5 e6
    subst e1 e4
    rcases hL.cells with e7 | ⟨b, off, ha, hb, hc⟩
    · exact .inl e7
    · injection ha with ha
      injection ha with f1 f2
      subst f1 f2
      exact .inr ⟨g, 0, rfl, Nat.le_trans hB hg, hb, fun e => by have := hv _ e; omega, hc⟩
end Go.Proofs.Ytbcicopgcmiaaaa
/-
  BEHIND: need.fromBehind: the passes, the last one first.
-/
namespace Go.Proofs.Ytbcicopgcmiaaaa
set_option maxRecDepth 100000
open Go.RowKit Im Go.Shelf
attribute [local go_sem] Oper.semAt_some

/-- A pass's fields, as values. -/
structure Pv where
  Op : Int
  To : Int
  A : Int
  B : Int
  K : Int
  la : Option Addr
  ll : Nat
  lc : Nat
abbrev Pv.val (p : Pv) : Value := .agg #[.int .i64 p.Op, .int .i64 p.To, .int .i64 p.A, .int .i64 p.B, .int .i64 p.K, .slice p.la p.ll p.lc]
/-- A pass, with its number. -/
abbrev Pe (len : Nat) := { x : Nat × Pv // x.1 < len }
abbrev peV {len : Nat} (x : Pe len) : Array Value := #[.int .i64 (x.1.1 : Int), x.1.2.val]
/-- What comes as number j, from behind. -/
def bh (len : Nat) (hl : 0 < len) (pv : Nat → Pv) (j : Nat) : Pe len := ⟨(len - 1 - j, pv (len - 1 - j)), by omega⟩
def bhs (len : Nat) (hl : 0 < len) (pv : Nat → Pv) (k : Nat) : List (Pe len) := (List.range k).map (bh len hl pv)
theorem bhs_succ (len : Nat) (hl : 0 < len) (pv : Nat → Pv) (k : Nat) : bhs len hl pv (k + 1) = bhs len hl pv k ++ [bh len hl pv k] := by simp [bhs, List.range_succ]
theorem bhs_length (len : Nat) (hl : 0 < len) (pv : Nat → Pv) (k : Nat) : (bhs len hl pv k).length = k := by simp [bhs]
/-- The passes' cells, in the block b. -/
def PvAt (W : World) (b off len : Nat) (pv : Nat → Pv) : Prop := ∀ j, j < len → W.cell? ⟨b, off + j * 6, none⟩ = some (.int .i64 (pv j).Op) ∧ W.cell? ⟨b, off + j * 6 + 1, none⟩ = some (.int .i64 (pv j).To) ∧ W.cell? ⟨b, off + j * 6 + 2, none⟩ = some (.int .i64 (pv j).A) ∧ W.cell? ⟨b, off + j * 6 + 3, none⟩ = some (.int .i64 (pv j).B) ∧ W.cell? ⟨b, off + j * 6 + 4, none⟩ = some (.int .i64 (pv j).K) ∧ W.cell? ⟨b, off + j * 6 + 5, none⟩ = some (.slice (pv j).la (pv j).ll (pv j).lc)
theorem PvAt.below {W W' : World} {b off len n₀ : Nat} {pv : Nat → Pv} (h : PvAt W b off len pv) (hb : Below n₀ W W') (hl : b < n₀) : PvAt W' b off len pv := fun j hj => by
  obtain ⟨c0, c1, c2, c3, c4, c5⟩ := h j hj
  exact ⟨(hb.cell (p := ⟨b, off + j * 6, none⟩) hl).trans c0, (hb.cell (p := ⟨b, off + j * 6 + 1, none⟩) hl).trans c1, (hb.cell (p := ⟨b, off + j * 6 + 2, none⟩) hl).trans c2, (hb.cell (p := ⟨b, off + j * 6 + 3, none⟩) hl).trans c3, (hb.cell (p := ⟨b, off + j * 6 + 4, none⟩) hl).trans c4, (hb.cell (p := ⟨b, off + j * 6 + 5, none⟩) hl).trans c5⟩
/-- What a round keeps: what lay below n₀, and the iterator's own box. -/
def KpB (n₀ Bs : Nat) (A B : World) : Prop := Below n₀ A B ∧ B.cell? ⟨Bs, 0, none⟩ = A.cell? ⟨Bs, 0, none⟩
theorem KpB.t {n₀ Bs : Nat} {A B C : World} (h : KpB n₀ Bs A B) (k : KpB n₀ Bs B C) : KpB n₀ Bs A C := ⟨h.1.trans k.1, k.2.trans h.2⟩
theorem KpB.b {n₀ Bs : Nat} {w : World} (hn : n₀ ≤ w.heap.size) (hB : Bs < w.heap.size) (W : World) (l : Nat) (o o' : Obj) (hl : w.heap.size ≤ l) (h : W.heap[l]? = some o) (h1 : o.isCells = false) (h2 : o.isWalk = false) : KpB n₀ Bs W (W.putObj l o') :=
  ⟨belowK_b hn W l o o' hl h h1 h2, (belowK_b (n₀ := w.heap.size) (Nat.le_refl _) W l o o' hl h h1 h2).cell (p := ⟨Bs, 0, none⟩) hB⟩
/-- The passes in memory, each with its fields' values. -/
theorem Passes.pv {w : World} {a : Option Addr} {len : Nat} {ps : List Ps} (h : Passes w a len ps) (hl : 0 < len) : ∃ b off pv, a = some ⟨b, off, none⟩ ∧ b < w.heap.size ∧ PvAt w b off len pv ∧ ∀ j, j < len → (pv j).Op = (ps.getD j Ps.zero).Op ∧ (pv j).To = (ps.getD j Ps.zero).To ∧ (pv j).A = (ps.getD j Ps.zero).A ∧ (pv j).B = (ps.getD j Ps.zero).B ∧ (pv j).K = (ps.getD j Ps.zero).K ∧ Lights w (pv j).la (pv j).ll (ps.getD j Ps.zero).ls := by
  rcases h.cells with e | ⟨b, off, ha, hb, hc⟩
  · have := h.leng; subst e; simp at this; omega
  · have hx : ∀ j, ∃ p : Pv, j < len → (w.cell? ⟨b, off + j * 6, none⟩ = some (.int .i64 p.Op) ∧ w.cell? ⟨b, off + j * 6 + 1, none⟩ = some (.int .i64 p.To) ∧ w.cell? ⟨b, off + j * 6 + 2, none⟩ = some (.int .i64 p.A) ∧ w.cell? ⟨b, off + j * 6 + 3, none⟩ = some (.int .i64 p.B) ∧ w.cell? ⟨b, off + j * 6 + 4, none⟩ = some (.int .i64 p.K) ∧ w.cell? ⟨b, off + j * 6 + 5, none⟩ = some (.slice p.la p.ll p.lc)) ∧ (p.Op = (ps.getD j Ps.zero).Op ∧ p.To = (ps.getD j Ps.zero).To ∧ p.A = (ps.getD j Ps.zero).A ∧ p.B = (ps.getD j Ps.zero).B ∧ p.K = (ps.getD j Ps.zero).K ∧ Lights w p.la p.ll (ps.getD j Ps.zero).ls) := by
      intro j
      by_cases hj : j < len
      · obtain ⟨la, ll, lc, c0, c1, c2, c3, c4, c5, hL⟩ := hc j hj
        exact ⟨⟨_, _, _, _, _, la, ll, lc⟩, fun _ => ⟨⟨c0, c1, c2, c3, c4, c5⟩, rfl, rfl, rfl, rfl, rfl, hL⟩⟩
      · exact ⟨⟨0, 0, 0, 0, 0, none, 0, 0⟩, fun h => absurd h hj⟩
    obtain ⟨pv, hpv⟩ := Classical.axiomOfChoice hx
    exact ⟨b, off, pv, ha, hb, fun j hj => (hpv j hj).1, fun j hj => (hpv j hj).2⟩
end Go.Proofs.Ytbcicopgcmiaaaa
/-
  LAST: need.Last.
-/
namespace Go.Proofs.Ytbcicopgcmiaaaa
set_option maxRecDepth 100000
open Go.RowKit Im Go.Shelf
attribute [local go_sem] Oper.semAt_some

/-- What need.Last tells. -/
def ToldLast (w : World) (f : Fr) (e : Ending) (w' : World) : Prop :=
  e = .returned (.tuple #[.int .i64 (if frameE f = 0 then shownP f else 0), .int .i64 (frameE f)]) ∧ Below w.heap.size w w'
theorem boxed_below {W W' : World} {B n₀ : Nat} {t : TypeId} {v : Value} (h : Go.Boxed W B t v) (hb : Below n₀ W W') (hB : B < n₀) : Go.Boxed W' B t v := (hb.block B hB).trans h
/-- A pass in a block of its own is a matter of cells. -/
theorem pbox_own {X Y : World} {row : Option Nat} {b : Nat} {Op To A B K : Int} {la : Option Addr} {ll lc : Nat} (h : PBox X b Op To A B K la ll lc) (hg : X.grownBy Y row) (hr : ∀ r, row = some r → ∃ o : Obj, X.heap[r]? = some o ∧ o.isCells = false) : PBox Y b Op To A B K la ll lc :=
  ⟨Nat.lt_of_lt_of_le h.lt hg.size, cell_kept h.c0 hg hr, cell_kept h.c1 hg hr, cell_kept h.c2 hg hr, cell_kept h.c3 hg hr, cell_kept h.c4 hg hr, cell_kept h.c5 hg hr⟩
theorem wrt_last {ps : List Ps} {O : Int} {n m : Nat} (hm : m < n) (h1 : (ps.getD m Ps.zero).To = O) (h2 : ∀ j, m < j → j < n → (ps.getD j Ps.zero).To ≠ O) : wrt ps n O = m := by
  induction n with
  | zero => omega
  | succ n ih =>
    show (if (ps.getD n Ps.zero).To = O then (n : Int) else wrt ps n O) = m
    by_cases hn : m = n
    · subst hn; rw [if_pos h1]
    · rw [if_neg (h2 n (by omega) (by omega))]
      exact ih (by omega) (fun j h3 h4 => h2 j h3 (by omega))
theorem bhs_mem (len : Nat) (hl : 0 < len) (pv : Nat → Pv) {k m : Nat} (hm : m < len) (hk : len - 1 - m < k) : ∃ x ∈ bhs len hl pv k, x.1 = (m, pv m) := by
  refine ⟨bh len hl pv (len - 1 - m), ?_, ?_⟩
  · unfold bhs; rw [List.mem_map]; exact ⟨len - 1 - m, by simpa using hk, rfl⟩
  · show (len - 1 - (len - 1 - m), pv (len - 1 - (len - 1 - m))) = (m, pv m)
    rw [show len - 1 - (len - 1 - m) = m by omega]
end Go.Proofs.Ytbcicopgcmiaaaa
/-
  LASTREF: the reference's LastOf: the pass that made what is shown.
-/
namespace Go.Proofs.Ytbcicopgcmiaaaa
set_option maxRecDepth 100000
open Go.RowKit Im

end Go.Proofs.Ytbcicopgcmiaaaa
/-
  KEPTREF: which passes are needed, as numbers alone; the reference's KeptOf.
-/
namespace Go.Proofs.Ytbcicopgcmiaaaa
set_option maxRecDepth 100000
open Go.RowKit Im

/-- The marks g, and those of is besides. -/
def markG (g : Nat → Bool) (is : List Int) (j : Nat) : Bool := g j || is.any fun i => decide (i = (j : Int))
/-- The marks when the last k of n passes have been asked. -/
def keptG (ps : List Ps) (n : Nat) (last : Int) : Nat → Nat → Bool
  | 0, j => decide (last = (j : Int))
  | k + 1, j => if keptG ps n last k (n - 1 - k) = true then markG (keptG ps n last k) (srcOf ps (n - 1 - k)) j else keptG ps n last k j
theorem markG_nil (g : Nat → Bool) : markG g [] = g := by funext j; simp [markG]
theorem markG_take (g : Nat → Bool) (is : List Int) (k : Nat) (hk : k < is.length) (j : Nat) : markG g (is.take (k + 1)) j = if is.getD k 0 = (j : Int) then true else markG g (is.take k) j := by
  unfold markG
  rw [List.take_succ_eq_append_getElem hk, List.any_append, List.getD_eq_getElem?_getD, List.getElem?_eq_getElem hk]
  by_cases h : is[k] = (j : Int) <;> simp [h]
/-- Marks in memory, in a block of their own. -/
structure Bl (w : World) (b n : Nat) (g : Nat → Bool) : Prop where
  lt : b < w.heap.size
  cells : ∀ j, j < n → w.cell? ⟨b, j, none⟩ = some (.bool (g j))
  froz : ∀ o, w.frozen? ⟨b, o, none⟩ = false
theorem Bl.below {w w' : World} {b n B : Nat} {g : Nat → Bool} (h : Bl w b n g) (hb : Below B w w') (hB : b < B) (hs : w.heap.size ≤ w'.heap.size) : Bl w' b n g :=
  ⟨Nat.lt_of_lt_of_le h.lt hs, fun j hj => (hb.cell (p := ⟨b, j, none⟩) hB).trans (h.cells j hj), fun o => (hb.frozen (p := ⟨b, o, none⟩) hB).trans (h.froz o)⟩
theorem Bl.put {w : World} {b n : Nat} {g g' : Nat → Bool} (h : Bl w b n g) (m : Nat) (hm : m < n) (hg : ∀ j, j < n → g' j = if m = j then true else g j) : Bl (w.setCell ⟨b, m, none⟩ (.bool true)) b n g' := by
  refine ⟨by simpa using h.lt, fun j hj => ?_, fun o => by simpa using h.froz o⟩
  rw [hg j hj]
  by_cases e : m = j
  · subst e
    rw [if_pos rfl]
    exact set_same (h.cells m hm)
  · rw [if_neg e, set_other _ (fun e' => e (by injection e'))]
    exact h.cells j hj
theorem Bl.congr {w : World} {b n : Nat} {g g' : Nat → Bool} (h : Bl w b n g) (hg : ∀ j, j < n → g' j = g j) : Bl w b n g' := ⟨h.lt, fun j hj => by rw [hg j hj]; exact h.cells j hj, h.froz⟩
theorem Bl.made {w : World} {base b N cap : Nat} (h : w.ownsRow base 4 1 (.slice (some ⟨b, 0, none⟩) N cap) N (madeCells (Value.bool false).cells (N * 1)).toList) (hb : b < w.heap.size) : Bl w b N (fun _ => false) := by
  refine ⟨hb, fun j hj => ?_, fun o => World.ownsRow.frozenAt h o⟩
  rw [World.ownsRow.cellAt h j (by omega)]
  have e : (Value.bool false).cells = #[.bool false] := rfl
  rw [e]
  simp only [madeCells, Array.toList_map, Array.toList_range, List.getElem?_map, List.getElem?_range (show j < N * 1 by omega), Option.map_some]
  congr 1
  show (#[Value.bool false] : Array Value)[j % 1]! = _
  rw [Nat.mod_one]
  rfl
theorem Try.infoBool : (Try.prog.info? 4).map (fun i => (i.zero, i.size, i.bytes)) = some (some (.bool false), 1, 1) := by kernel_rfl
/-- The call's end tells the marks g. -/
def ToldK (w : World) (n : Nat) (g : Nat → Bool) (e : Ending) (w' : World) : Prop :=
  (∃ b, e = .returned (.slice (some ⟨b, 0, none⟩) n n) ∧ w.heap.size ≤ b ∧ Bl w' b n g) ∧ Below w.heap.size w w'
end Go.Proofs.Ytbcicopgcmiaaaa
/-
  KEPT: need.Kept.
-/
namespace Go.Proofs.Ytbcicopgcmiaaaa
set_option maxRecDepth 100000
open Go.RowKit Im Go.Shelf
attribute [local go_sem] Oper.semAt_some

/-- What need.Kept tells. -/
def ToldKept (w : World) (f : Fr) (e : Ending) (w' : World) : Prop :=
  ((frameE f = 0 ∧ ∃ b, e = .returned (.tuple #[.slice (some ⟨b, 0, none⟩) f.ps.length f.ps.length, .int .i64 0]) ∧ w.heap.size ≤ b ∧ Bl w' b f.ps.length (keptG f.ps f.ps.length (shownP f) f.ps.length)) ∨
   (frameE f ≠ 0 ∧ e = .returned (.tuple #[.slice none 0 0, .int .i64 (frameE f)]))) ∧ Below w.heap.size w w'
/-- A make of a whole slice, inside a fence. -/
theorem listIn_make {F : Fence} {n : Nat} {P : Program} (w : World) {ops : Array Oper} {rest : List Oper} {o : Oper} {a : Act} {Q : Exit → Act → World → Prop}
    (hg : o.guard = none) (l c : Operand) (t : TypeId) (hop : o.op = Op.makeSlice t l c)
    (base : Nat) (e : TypeId) (i : TypeInfo) (z : Value) (size : Nat) (h1 : P.underlying t = some (.slice e)) (h2 : P.info? e = some i) (h3 : i.zero = some z) (h4 : i.size = size)
    (kl kc : IntKind) (m : Nat) (hl : a.eval l = .int kl (m : Int)) (hc : a.eval c = .int kc (m : Int)) (b2 : i.bytes * m ≤ 281474976710656) (b3 : m ≤ maxLen) (b4 : base ≤ w.heap.size)
    (hK : ∀ w', w'.ownsRow base e size (.slice (some ⟨w.heap.size, 0, none⟩) m m) m (madeCells z.cells (m * size)).toList → w.grownBy w' none → wpListIn F n P ops Q rest (a.put o.dst (.slice (some ⟨w.heap.size, 0, none⟩) m m)) w') :
    wpListIn F n P ops Q (o :: rest) a w := by
  obtain ⟨w', hrun, r1, r2⟩ := run_make_full (P := P) w base t e i z size h1 h2 h3 h4 kl kc m b2 b3 b4
  refine wpListIn_plain hg fun K hK' => ?_
  unfold Oper.wpIn
  refine ⟨by simp [Oper.about, hop], ?_⟩
  rw [Oper.semAt_plain F _ _ (by rw [hop]; intro c hc'; cases hc')]
  simp [execOp, hop, hl, hc, hrun, Result.andThen]
  exact hK' _ _ (hK w' r1 r2)
/-- The marks, when one pass more has been asked. -/
def stepX (ps : List Ps) {len : Nat} (g : Nat → Bool) (x : Pe len) (j : Nat) : Bool := if g x.1.1 = true then markG g (srcOf ps x.1.1) j else g j
theorem fold_bhs (ps : List Ps) (len : Nat) (hl : 0 < len) (pv : Nat → Pv) (N : Int) (k : Nat) : (bhs len hl pv k).foldl (stepX ps) (fun j => decide (N = (j : Int))) = keptG ps len N k := by
  induction k with
  | zero => rfl
  | succ k ih =>
    rw [bhs_succ, List.foldl_append, ih]
    rfl
theorem bl_own {X Y : World} {row : Option Nat} {b n : Nat} {g : Nat → Bool} (hn : 0 < n) (h : Bl X b n g) (hg : X.grownBy Y row) (hr : ∀ r, row = some r → ∃ o : Obj, X.heap[r]? = some o ∧ o.isCells = false) : Bl Y b n g := by
  obtain ⟨o, ho, hc⟩ := cells_of_cell (h.cells 0 hn)
  have e := grownBy_keeps_cells hg hr ho hc
  exact ⟨Nat.lt_of_lt_of_le h.lt hg.size, fun j hj => (World.cell?_of_block (a := ⟨b, j, none⟩) e).trans (h.cells j hj), fun o => (World.frozen?_of_block (a := ⟨b, o, none⟩) e).trans (h.froz o)⟩
theorem bl_alloc {X : World} {b n : Nat} {g : Nat → Bool} (h : Bl X b n g) (o : Obj) : Bl (X.alloc o) b n g := h.below ((Below.refl X.heap.size X).alloc (Nat.le_refl _) o) h.lt (by simp)
theorem boxed_set {W : World} {B : Nat} {t : TypeId} {v : Value} (h : Go.Boxed W B t v) {p : Addr} (hne : p.block ≠ B) (u : Value) : Go.Boxed (W.setCell p u) B t v := (Below.heap_setCell W p u B (fun e => hne (by rw [e]))).trans h
end Go.Proofs.Ytbcicopgcmiaaaa
