/- Tile, Pan, LitIn: joined, in this order. -/
import Derived.Test.YtfpkiimlaepnhaaM01
import Derived.Test.YtfpkiimlaepnhaaM15
import Derived.Test.YtfpkiimlaepnhaaM04
import Derived.Laws.EntriesVeiled
/-
  TILE: light.eachPlace and light.eachTile go through all places, and all tiles.
-/
namespace Go.Proofs.Ytfpkiimlaepnhaa
set_option maxRecDepth 100000
open Go.RowKit Im

/-- A function value does its work at each place of a part: what I says of the places that are done holds behind it of one more. -/
structure DoesP (n : Nat) (caps : Array Value) (I : (Nat → Prop) → World → Prop) (W x0 y0 pw ph : Nat) : Prop where
  enters : ∀ args w, (callFunc n args).run Try.prog w = .ok (.enter n args) w
  does : ∀ (x y : Nat) (D : Nat → Prop) (w1 : World), x0 ≤ x → x < x0 + pw → y0 ≤ y → y < y0 + ph → I D w1 → Calls Try.prog n (#[.int .i64 x, .int .i64 y] ++ caps) w1 fun e w2 => e = .returned (.tuple #[]) ∧ I (fun i => D i ∨ (i / W = y ∧ i % W = x)) w2

theorem DoesP.doesI {n : Nat} {caps : Array Value} {I : (Nat → Prop) → World → Prop} {W x0 y0 pw ph : Nat} (h : DoesP n caps I W x0 y0 pw ph) (x y : Nat) (X Y : Int) (hX : X = x) (hY : Y = y) (D : Nat → Prop) (w1 : World) (h1 : x0 ≤ x) (h2 : x < x0 + pw) (h3 : y0 ≤ y) (h4 : y < y0 + ph) (hI : I D w1) :
    Calls Try.prog n (#[.int .i64 X, .int .i64 Y] ++ caps) w1 fun e w2 => e = .returned (.tuple #[]) ∧ I (fun i => D i ∨ (i / W = y ∧ i % W = x)) w2 := by
  subst hX hY; exact h.does x y D w1 h1 h2 h3 h4 hI

set_option maxHeartbeats 1000000 in
theorem eachPlace_any (n : Nat) (caps : Array Value) (I : (Nat → Prop) → World → Prop) (W x0 y0 pw ph : Nat) (D : Nat → Prop) (w : World) (hb : x0 ≤ 16 ∧ y0 ≤ 16 ∧ pw ≤ 16 ∧ ph ≤ 16)
    (mono : ∀ (A B : Nat → Prop) (v : World), (∀ i, B i → A i) → I A v → I B v) (hd : DoesP n caps I W x0 y0 pw ph) (hI : I D w) :
    Calls Try.prog 81 #[.int .i64 x0, .int .i64 y0, .int .i64 pw, .int .i64 ph, .func (.func n) #[] caps] w fun e w' => e = .returned (.tuple #[]) ∧ I (fun i => D i ∨ (y0 ≤ i / W ∧ i / W < y0 + ph ∧ x0 ≤ i % W ∧ i % W < x0 + pw)) w' := by
  have hent := hd.enters
  obtain ⟨hb1, hb2, hb3, hb4⟩ := hb
  go_enter Try.func81, Try.ntmps81
  go_wp2
  go_loopw [13] (fun i wr => ∃ j : Nat, j ≤ ph ∧ i = .int .i64 j ∧ I (fun i => D i ∨ (y0 ≤ i / W ∧ i / W < y0 + j ∧ x0 ≤ i % W ∧ i % W < x0 + pw)) wr) (fun i _ => ph - (intOf i).toNat)
  case atStart => exact ⟨0, Nat.zero_le _, rfl, mono _ _ _ (fun i h => by rcases h with h | h; · exact h
                                                                          · omega) hI⟩
  case round =>
    obtain ⟨j, hj, rfl, hIr⟩ := hrel
    by_cases hlt : j < ph
    · go_wp2
      go_loopw [17] (fun i wr => ∃ c : Nat, c ≤ pw ∧ i = .int .i64 c ∧ I (fun i => (D i ∨ (y0 ≤ i / W ∧ i / W < y0 + j ∧ x0 ≤ i % W ∧ i % W < x0 + pw)) ∨ (i / W = y0 + j ∧ x0 ≤ i % W ∧ i % W < x0 + c)) wr) (fun i _ => pw - (intOf i).toNat)
      case atStart => exact ⟨0, Nat.zero_le _, rfl, mono _ _ _ (fun i h => by rcases h with h | h; · exact h
                                                                              · omega) hIr⟩
      case round =>
        obtain ⟨c, hcc, rfl, hIs⟩ := hrel
        by_cases hlc : c < pw
        · go_wp2_with (refine (hd.doesI (x0 + c) (y0 + j) _ _ (by omega) (by omega) _ _ (by omega) (by omega) (by omega) (by omega) hIs).mono ?_; rintro e w2 ⟨rfl, hI2⟩)
          go_roundw
          case rel => exact ⟨c + 1, by omega, by go_num, mono _ _ _ (fun i h => by
            rcases h with h | h
            · exact .inl (.inl h)
            · by_cases e : i % W = x0 + c
              · exact .inr ⟨h.1, e⟩
              · exact .inl (.inr ⟨h.1, h.2.1, by omega⟩)) hI2⟩
          case measure => simp [intOf]; omega
        · have hce : c = pw := by omega
          subst hce
          go_wp2
          go_roundw
          case rel => exact ⟨j + 1, by omega, by go_num, mono _ _ _ (fun i h => by
            rcases h with h | h
            · exact .inl (.inl h)
            · by_cases e : i / W = y0 + j
              · exact .inr ⟨e, h.2.2⟩
              · exact .inl (.inr ⟨h.1, by omega, h.2.2⟩)) hIs⟩
          case measure => simp [intOf]; omega
    · have hje : j = ph := by omega
      subst hje
      go_wp2
      go_end0
      exact ⟨rfl, hIr⟩

/-- A function value does its work on each tile. -/
structure DoesT (n : Nat) (caps : Array Value) (I : (Nat → Prop) → World → Prop) (W H : Nat) : Prop where
  enters : ∀ args w, (callFunc n args).run Try.prog w = .ok (.enter n args) w
  does : ∀ (x y pw ph : Nat) (D : Nat → Prop) (w1 : World), 1 ≤ pw → x + pw ≤ W → 1 ≤ ph → y + ph ≤ H → I D w1 → Calls Try.prog n (#[.int .i64 x, .int .i64 y, .int .i64 pw, .int .i64 ph] ++ caps) w1 fun e w2 => e = .returned (.tuple #[]) ∧ I (fun i => D i ∨ (y ≤ i / W ∧ i / W < y + ph ∧ x ≤ i % W ∧ i % W < x + pw)) w2
theorem DoesT.doesI {n : Nat} {caps : Array Value} {I : (Nat → Prop) → World → Prop} {W H : Nat} (h : DoesT n caps I W H) (x y pw ph : Nat) (PW PH : Int) (e1 : PW = pw) (e2 : PH = ph) (D : Nat → Prop) (w1 : World) (h1 : 1 ≤ pw) (h2 : x + pw ≤ W) (h3 : 1 ≤ ph) (h4 : y + ph ≤ H) (hI : I D w1) :
    Calls Try.prog n (#[.int .i64 x, .int .i64 y, .int .i64 PW, .int .i64 PH] ++ caps) w1 fun e w2 => e = .returned (.tuple #[]) ∧ I (fun i => D i ∨ (y ≤ i / W ∧ i / W < y + ph ∧ x ≤ i % W ∧ i % W < x + pw)) w2 := by
  subst e1 e2; exact h.does x y pw ph D w1 h1 h2 h3 h4 hI

set_option maxHeartbeats 1000000 in
theorem eachTile_any (n : Nat) (caps : Array Value) (I : (Nat → Prop) → World → Prop) (W H tile : Nat) (w : World) (hW : 1 ≤ W ∧ W ≤ 16) (hH : 1 ≤ H ∧ H ≤ 16) (ht : 1 ≤ tile ∧ tile ≤ 16)
    (mono : ∀ (A B : Nat → Prop) (v : World), (∀ i, B i → A i) → I A v → I B v) (hd : DoesT n caps I W H) (hI : I (fun _ => False) w) :
    Calls Try.prog 79 #[.int .i64 W, .int .i64 H, .int .i64 tile, .func (.func n) #[] caps] w fun e w' => e = .returned (.tuple #[]) ∧ I (fun i => i / W < H) w' := by
  have hent := hd.enters
  obtain ⟨hW1, hW2⟩ := hW
  obtain ⟨hH1, hH2⟩ := hH
  obtain ⟨ht1, ht2⟩ := ht
  have hmod : ∀ i, i % W < W := fun i => Nat.mod_lt _ (by omega)
  go_enter Try.func79, Try.ntmps79
  go_wp2
  go_loopw [8] (fun i wr => ∃ y : Nat, y ≤ H + 16 ∧ i = .int .i64 y ∧ I (fun i => i / W < y ∧ i / W < H) wr) (fun i _ => H + 16 - (intOf i).toNat)
  case atStart => exact ⟨0, by omega, rfl, mono _ _ _ (fun i h => absurd h.1 (Nat.not_lt_zero _)) hI⟩
  case round =>
    obtain ⟨y, hy, rfl, hIr⟩ := hrel
    by_cases hlt : y < H
    · obtain ⟨ph, hph⟩ : ∃ ph, ph = min tile (H - y) := ⟨_, rfl⟩
      have p1 : 1 ≤ ph ∧ y + ph ≤ H ∧ ph ≤ tile := by omega
      have P1 : Hid (y + tile ≤ y + ph ∨ H ≤ y + ph) := by show _ ∨ _; omega
      have hmn : (if (H : Int) - (y : Int) < (tile : Int) then (H : Int) - (y : Int) else (tile : Int)) = (ph : Int) := by rw [hph]; split <;> omega
      clear hph
      go_wp2
      go_loopw [9] (fun i wr => ∃ x : Nat, x ≤ W + 16 ∧ i = .int .i64 x ∧ I (fun i => (i / W < y ∧ i / W < H) ∨ (y ≤ i / W ∧ i / W < y + ph ∧ i % W < x)) wr) (fun i _ => W + 16 - (intOf i).toNat)
      case atStart => exact ⟨0, by omega, rfl, mono _ _ _ (fun i h => by rcases h with h | h; · exact h
                                                                         · exact absurd h.2.2 (Nat.not_lt_zero _)) hIr⟩
      case round =>
        obtain ⟨x, hx, rfl, hIs⟩ := hrel
        by_cases hlx : x < W
        · obtain ⟨pw, hpw⟩ : ∃ pw, pw = min tile (W - x) := ⟨_, rfl⟩
          have p2 : 1 ≤ pw ∧ x + pw ≤ W := by omega
          have P2 : Hid (x + tile ≤ x + pw ∨ W ≤ x + pw) := by show _ ∨ _; omega
          have hmx : (if (W : Int) - (x : Int) < (tile : Int) then (W : Int) - (x : Int) else (tile : Int)) = (pw : Int) := by rw [hpw]; split <;> omega
          clear hpw
          go_wp2_with (refine (hd.doesI x y pw ph _ _ rfl rfl _ _ p2.1 p2.2 p1.1 p1.2.1 hIs).mono ?_; rintro e w2 ⟨rfl, hI2⟩)
          go_roundw
          case rel => exact ⟨x + tile, by omega, by go_num, mono _ _ _ (fun i h => by
            have h2 := P2.out
            have h3 := hmod i
            rcases h with h | h
            · exact .inl (.inl h)
            · by_cases e : i % W < x
              · exact .inl (.inr ⟨h.1, h.2.1, e⟩)
              · exact .inr ⟨h.1, h.2.1, by omega, by omega⟩) hI2⟩
          case measure => simp [intOf]; omega
        · go_wp2
          go_roundw
          case rel => exact ⟨y + tile, by omega, by go_num, mono _ _ _ (fun i h => by
            have h1 := P1.out
            have h3 := hmod i
            by_cases e : i / W < y
            · exact .inl ⟨e, h.2⟩
            · exact .inr ⟨by omega, by omega, by omega⟩) hIs⟩
          case measure => simp [intOf]; omega
    · go_wp2
      go_end0
      exact ⟨rfl, mono _ _ _ (fun i h => ⟨by omega, h⟩) hIr⟩
end Go.Proofs.Ytfpkiimlaepnhaa
/-
  PAN: the row of numbers that light.Lit fills, place by place; what one place gets.
-/
namespace Go.Proofs.Ytfpkiimlaepnhaa
set_option maxRecDepth 100000
open Go.RowKit Im

/-- Behind all that lay in wB: a row of L numbers, q of them, and the box of the slice that tells it. -/
structure Pan (wB w' : World) (L pb : Nat) (q : Nat → Int) : Prop where
  bel : Below wB.heap.size wB w'
  lo : wB.heap.size < pb
  siz : pb < w'.heap.size
  row : ∃ arr : Array Value, w'.heap[wB.heap.size]? = some (.cells arr 3 (0, 0)) ∧ arr.size = L ∧ ∀ j, j < L → arr[j]? = some (.int .i64 (q j))
  box : w'.cell? ⟨pb, 0, none⟩ = some (.slice (some ⟨wB.heap.size, 0, none⟩) L L)
theorem Pan.below {wB w' w2 : World} {L pb : Nat} {q : Nat → Int} (h : Pan wB w' L pb q) (hb : Below w'.heap.size w' w2) : Pan wB w2 L pb q := by
  have hs := h.siz
  have hlo := h.lo
  obtain ⟨arr, h1, h2, h3⟩ := h.row
  refine ⟨h.bel.trans (hb.mono (by omega)), hlo, Nat.lt_of_lt_of_le hs hb.size, ⟨arr, ?_, h2, h3⟩, (hb.cell (p := ⟨pb, 0, none⟩) hs).trans h.box⟩
  rw [hb.block _ (by omega)]; exact h1
theorem Pan.cell {wB w' : World} {L pb : Nat} {q : Nat → Int} (h : Pan wB w' L pb q) (j : Nat) (hj : j < L) : w'.cell? ⟨wB.heap.size, j, none⟩ = some (.int .i64 (q j)) ∧ w'.frozen? ⟨wB.heap.size, j, none⟩ = false := by
  obtain ⟨arr, h1, h2, h3⟩ := h.row
  unfold World.cell? World.frozen?
  rw [h1]
  simp [h3 j hj]
theorem Pan.store {wB w' : World} {L pb : Nat} {q : Nat → Int} (h : Pan wB w' L pb q) (j : Nat) (v : Int) (hj : j < L) : Pan wB (w'.setCell ⟨wB.heap.size, j, none⟩ (.int .i64 v)) L pb (fun i => if i = j then v else q i) := by
  obtain ⟨arr, h1, h2, h3⟩ := h.row
  have hlo := h.lo
  refine ⟨h.bel.setCell (Nat.le_refl _) _, hlo, by simpa [World.setCell] using h.siz, ⟨arr.setIfInBounds j (.int .i64 v), ?_, by simpa using h2, fun i hi => ?_⟩, ?_⟩
  · simp [World.setCell, Array.getElem?_modify, h1]
  · rw [Array.getElem?_setIfInBounds]
    by_cases e : j = i
    · subst e; simp [h2, hj]
    · rw [if_neg e, if_neg (fun h => e h.symm)]; exact h3 i hi
  · rw [World.cell?_of_block (w := w') (Below.heap_setCell w' _ _ _ (by show pb ≠ wB.heap.size; omega))]; exact h.box
/-- Of the places in D the numbers are those of G. -/
def Done (wB : World) (L pb : Nat) (G : Nat → Int) (D : Nat → Prop) (w' : World) : Prop := ∃ q, Pan wB w' L pb q ∧ ∀ i, i < L → D i → q i = G i

/-- What the lights of a list of numbers give to a place. -/
def sumN (x y : Int) (ls : List Lt) : List Int → Int
  | [] => 0
  | i :: r => givenP (ls.getD i.toNat Lt.zero) x y + sumN x y ls r
theorem sumN_snoc (x y : Int) (ls : List Lt) (i : Int) : ∀ l, sumN x y ls (l ++ [i]) = sumN x y ls l + givenP (ls.getD i.toNat Lt.zero) x y
  | [] => by simp [sumN]
  | m :: r => by simp [sumN, sumN_snoc x y ls i r, Int.add_assoc]
theorem sumN_pick (x y : Int) (f : Lt → Bool) (ls : List Lt) : ∀ n, n ≤ ls.length → (∀ k, k < n → f (ls.getD k Lt.zero) = false → givenP (ls.getD k Lt.zero) x y = 0) → sumN x y ls (pickL f ls n) = sumG x y (ls.take n)
  | 0, _, _ => by simp [pickL, sumN, sumG]
  | n + 1, hn, h => by
    have ih := sumN_pick x y f ls n (by omega) (fun k hk => h k (by omega))
    rw [take_snocL ls n (by omega), sumG_snoc]
    cases hf : f (ls.getD n Lt.zero) with
    | true => rw [pickL_yes f ls n hf, sumN_snoc, ih]; simp
    | false => rw [pickL_no f ls n hf, ih, h n (by omega) hf, Int.add_zero]
theorem pickL_get (f : Lt → Bool) (ls : List Lt) (n t : Nat) (ht : t < (pickL f ls n).length) : ∃ m : Nat, m < n ∧ (pickL f ls n).getD t 0 = m := by
  have hm : (pickL f ls n).getD t 0 ∈ pickL f ls n := by
    rw [List.getD_eq_getElem?_getD, List.getElem?_eq_getElem ht]; exact List.getElem_mem ht
  unfold pickL at hm
  simp only [List.mem_map, List.mem_filter, List.mem_range] at hm
  obtain ⟨m, ⟨h1, _⟩, h2⟩ := hm
  exact ⟨m, h1, h2.symm⟩
/-- Who is not near a part gives its places nothing. -/
theorem not_near {l : Lt} (x0 y0 : Int) (pw ph : Nat) (x y : Nat) (hx : x < pw) (hy : y < ph) (h : nearB x0 y0 pw ph l = false) : givenP l (x0 + x) (y0 + y) = 0 := by
  unfold nearB at h
  simp only [decide_eq_false_iff_not] at h
  refine given_zero rfl (fun hd => h ?_)
  have h1 : awayP l.X x0 pw ≤ awayP l.X (x0 + x) 1 := by unfold awayP; omega
  have h2 : awayP l.Y y0 ph ≤ awayP l.Y (y0 + y) 1 := by unfold awayP; omega
  omega
end Go.Proofs.Ytfpkiimlaepnhaa
/-
  LITIN: what light.Lit does at one place, and in one tile.
-/
namespace Go.Proofs.Ytfpkiimlaepnhaa
set_option maxRecDepth 100000
open Go.RowKit Im

theorem lit11_enters : ∀ args w, (callFunc 82 args).run Try.prog w = .ok (.enter 82 args) w := fun _ _ => by kernel_rfl
theorem lit1_enters : ∀ args w, (callFunc 80 args).run Try.prog w = .ok (.enter 80 args) w := fun _ _ => by kernel_rfl

/-- All that the functions of Lit lean on: the image in its box, the lights in theirs. -/
structure Scene (wB : World) (ab lb b off cap W H : Nat) (ps : List Int) (la : Option Addr) (llen lcap : Nat) (ls : List Lt) : Prop where
  box : Boxed wB ab b off cap W H
  fine : Fine wB b off W H ps
  llt : lb < wB.heap.size
  lc : wB.cell? ⟨lb, 0, none⟩ = some (.slice la llen lcap)
  lights : Lights wB la llen ls
  h8 : ls.length ≤ 8
  hr : ls.all rightB = true
theorem Scene.below {wB w' : World} {ab lb b off cap W H : Nat} {ps : List Int} {la : Option Addr} {llen lcap : Nat} {ls : List Lt} (h : Scene wB ab lb b off cap W H ps la llen lcap ls) (hb : Below wB.heap.size wB w') : Scene w' ab lb b off cap W H ps la llen lcap ls :=
  ⟨h.box.below hb, h.fine.below hb, Nat.lt_of_lt_of_le h.llt hb.size, (hb.cell (p := ⟨lb, 0, none⟩) h.llt).trans h.lc, h.lights.below hb, h.h8, h.hr⟩
/-- The number that a place gets. -/
def litG (W : Nat) (ps : List Int) (ls : List Lt) (x y : Nat) : Int := min (px W ps x y + sumG x y ls) 65535

set_option maxHeartbeats 1000000 in
theorem litPlace {wB w1 : World} {ab lb nb pb b off cap W H : Nat} {ps : List Int} {la : Option Addr} {llen lcap : Nat} {ls : List Lt} {q : Nat → Int} {na : Option Addr} {ncap : Nat} {near : List Int}
    (hS : Scene wB ab lb b off cap W H ps la llen lcap ls) (hp : Pan wB w1 (W * H) pb q) (hnc : w1.cell? ⟨nb, 0, none⟩ = some (.slice na near.length ncap)) (hni : Ints 0 w1 na near.length near)
    (hg : ∀ t, t < near.length → ∃ m : Nat, m < ls.length ∧ near.getD t 0 = m) (x y : Nat) (hx : x < W) (hy : y < H) (hsum : sumN x y ls near = sumG x y ls) (hn8 : near.length ≤ 8) :
    Calls Try.prog 82 #[.int .i64 x, .int .i64 y, .pointer (some ⟨ab, 0, none⟩), .pointer (some ⟨nb, 0, none⟩), .pointer (some ⟨lb, 0, none⟩), .pointer (some ⟨pb, 0, none⟩)] w1 fun e w2 =>
      e = .returned (.tuple #[]) ∧ ∃ w3, Below w1.heap.size w1 w3 ∧ w2 = w3.setCell ⟨wB.heap.size, y * W + x, none⟩ (.int .i64 (litG W ps ls x y)) := by
  have hS1 := hS.below hp.bel
  have hpl := place_lt hx hy
  obtain ⟨hm, hM⟩ := hS.fine.small
  have hb1 := hS.fine.hW
  have hb2 := hS.fine.hH
  have bx : 0 ≤ (x : Int) ∧ (x : Int) < 16 := by omega
  have by' : 0 ≤ (y : Int) ∧ (y : Int) < 16 := by omega
  have hpi : (y : Int) * (W : Int) + (x : Int) < (W : Int) * (H : Int) := by rw [← Int.natCast_mul, ← Int.natCast_mul]; omega
  have hp0 : 0 ≤ (y : Int) * (W : Int) := Int.mul_nonneg (by omega) (by omega)
  have hpM : (W : Int) * (H : Int) ≤ 256 := by rw [← Int.natCast_mul]; omega
  have hpb := hS.fine.px_bd x y hx hy
  have hcell := hS1.fine.cell (y * W + x) hpl
  obtain ⟨_, k0, k1, k2⟩ := hS1.box
  have hlc := hS1.lc
  have hbox := hp.box
  obtain ⟨hst, hfz⟩ := hp.cell (y * W + x) hpl
  have hs1 := hp.siz
  have hlo := hp.lo
  have habl := hS1.box.lt
  have hlbl := hS1.llt
  have hnbl : nb < w1.heap.size := by
    have := World.block_lt_of_cell? w1 _ hnc
    simpa using this
  obtain ⟨pv, hpv⟩ : ∃ pv, pv = px W ps x y := ⟨_, rfl⟩
  have hcell' : w1.cell? ⟨b, off + (y * W + x), none⟩ = some (.int .i64 pv) := by rw [hpv]; exact hcell
  have hG : Hid (litG W ps ls x y = min (pv + sumG x y ls) 65535) := by show _ = _; rw [hpv]; rfl
  rw [← hpv] at hpb
  have sb := sumG_bd x y bx by' ls hS.hr
  have sb2 : sumG x y ls ≤ 65535 * 8 := by have := hS.h8; omega
  obtain ⟨gx, hgx⟩ : ∃ gx, litG W ps ls x y = gx := ⟨_, rfl⟩
  rw [hgx] at hG ⊢
  have hmin : (if 65535 < pv + sumG x y ls then 65535 else pv + sumG x y ls) = gx := by rw [hG.out]; split <;> omega
  clear hcell hpv hG hgx hm
  by_cases hnil : near = []
  · subst hnil
    have hz : sumG x y ls = 0 := by rw [← hsum]; rfl
    rw [hz, Int.add_zero] at hmin
    have hgp : gx = pv := by rw [← hmin, if_neg (by omega)]
    subst hgp
    clear hz hsum sb sb2 hmin
    simp only [List.length_nil] at hnc
    go_enter Try.func82, Try.ntmps82
    go_wp2
    go_loop [8, 23] (fun s i => s = .int .i64 gx ∧ i = .int .i64 0) (fun _ _ => 0)
    case atStart => exact ⟨rfl, rfl⟩
    case round =>
      obtain ⟨rfl, rfl⟩ := hrel
      go_wp2
      go_end0
      exact ⟨rfl, w1, Below.refl _ _, rfl⟩
  · have hpos : 0 < near.length := List.length_pos_iff.2 hnil
    rcases hni.cells with e | ⟨nbb, noff, rfl, _, hnl, hncell⟩
    · exact absurd e hnil
    rcases hS.lights.cells with e | ⟨lbb, loff, rfl, hll, hlcell⟩
    · subst e
      have := hg 0 hpos
      obtain ⟨m, hm, _⟩ := this
      simp at hm
    · have hll1 := Nat.lt_of_lt_of_le hll hp.bel.size
      have hlw := fun (w2 : World) (hb2 : Below w1.heap.size w1 w2) (m : Nat) (hm : m < llen) => (show w2.cell? ⟨lbb, loff + m * 4, none⟩ = some (.int .i64 (ls.getD m Lt.zero).X) ∧ w2.cell? ⟨lbb, loff + m * 4 + 1, none⟩ = some (.int .i64 (ls.getD m Lt.zero).Y) ∧ w2.cell? ⟨lbb, loff + m * 4 + 2, none⟩ = some (.int .i64 (ls.getD m Lt.zero).R) ∧ w2.cell? ⟨lbb, loff + m * 4 + 3, none⟩ = some (.int .i64 (ls.getD m Lt.zero).P) from ⟨(hb2.cell (p := ⟨lbb, loff + m * 4, none⟩) hll1).trans ((hp.bel.cell (p := ⟨lbb, loff + m * 4, none⟩) hll).trans (hlcell m hm).1), (hb2.cell (p := ⟨lbb, loff + m * 4 + 1, none⟩) hll1).trans ((hp.bel.cell (p := ⟨lbb, loff + m * 4 + 1, none⟩) hll).trans (hlcell m hm).2.1), (hb2.cell (p := ⟨lbb, loff + m * 4 + 2, none⟩) hll1).trans ((hp.bel.cell (p := ⟨lbb, loff + m * 4 + 2, none⟩) hll).trans (hlcell m hm).2.2.1), (hb2.cell (p := ⟨lbb, loff + m * 4 + 3, none⟩) hll1).trans ((hp.bel.cell (p := ⟨lbb, loff + m * 4 + 3, none⟩) hll).trans (hlcell m hm).2.2.2)⟩)
      have hlen := hS.lights.leng
      have hall := hS.hr
      have hsteps : ∀ t, t < near.length → sumN x y ls (near.take (t + 1)) = sumN x y ls (near.take t) + givenP (ls.getD (near.getD t 0).toNat Lt.zero) x y := fun t ht => by
        have e : near.getD t 0 = near[t] := by rw [List.getD_eq_getElem?_getD, List.getElem?_eq_getElem ht]; rfl
        rw [List.take_succ_eq_append_getElem ht, sumN_snoc, e]
      have hnbd : ∀ t, t ≤ near.length → 0 ≤ sumN x y ls (near.take t) ∧ sumN x y ls (near.take t) ≤ 65535 * t := fun t => by
        induction t with
        | zero => intro _; simp [sumN]
        | succ t ih =>
          intro ht
          have h1 := ih (by omega)
          obtain ⟨m, hm, hmt⟩ := hg t (by omega)
          have h2 := given_bd (all_getD ls m hm hall) x y bx by'
          rw [hsteps t (by omega), hmt, Int.toNat_natCast]
          omega
      have hfull : near.take near.length = near := List.take_length
      clear hS hS1 hlcell
      go_enter Try.func82, Try.ntmps82
      go_wp2
      go_loopw [8, 23] (fun s i wr => ∃ t : Nat, t ≤ near.length ∧ i = .int .i64 t ∧ s = .int .i64 (pv + sumN x y ls (near.take t)) ∧ Below w1.heap.size w1 wr) (fun _ i _ => near.length - (intOf i).toNat)
      case atStart => exact ⟨0, Nat.zero_le _, rfl, by simp [sumN], Below.refl _ _⟩
      case round =>
        obtain ⟨t, ht, rfl, rfl, hbr⟩ := hrel
        have nb0 := hnbd t ht
        have nb1 : sumN x y ls (near.take t) ≤ 65535 * 8 := by omega
        have kl : wr.cell? ⟨lb, 0, none⟩ = some (.slice (some ⟨lbb, loff, none⟩) llen lcap) := (hbr.cell (p := ⟨lb, 0, none⟩) hlbl).trans hlc
        by_cases hlt : t < near.length
        · obtain ⟨m, hm, hmt⟩ := hg t hlt
          have hcn := (hbr.cell (p := ⟨nbb, noff + t, none⟩) hnl).trans (hncell t hlt)
          rw [hmt] at hcn
          have hstep := hsteps t hlt
          rw [hmt, Int.toNat_natCast] at hstep
          obtain ⟨c0, c1, c2, c3⟩ := hlw wr hbr m (by omega)
          have hrk := all_getD ls m hm hall
          have hgv := fun wx => given_any (ls.getD m Lt.zero) x y wx hrk bx by'
          have hgb := given_bd hrk x y bx by'
          generalize givenP (ls.getD m Lt.zero) x y = gv at hgv hgb hstep
          generalize ls.getD m Lt.zero = l at c0 c1 c2 c3 hgv
          obtain ⟨X, Y, R, P⟩ := l
          dsimp only at c0 c1 c2 c3 hgv
          have HS : Hid (sumN x y ls (near.take (t + 1)) = sumN x y ls (near.take t) + gv) := hstep
          have hml : (m : Int) < (llen : Int) := by omega
          clear hstep hrk hncell hlw hsteps hnbd hg hmt hfull hnil
          go_wp2_with (go_at_call 73; refine (hgv _).mono ?_; rintro e w2 ⟨rfl, hb2⟩)
          have hbn := below_stepL hbr hb2
          go_roundw
          case rel => exact ⟨t + 1, by omega, by go_num, by rw [HS.out]; go_num, hbn⟩
          case measure => simp [intOf]; omega
        · have e : t = near.length := by omega
          subst e
          rw [hfull, hsum]
          obtain ⟨cc, ff⟩ := bcell hbr
          have g0 := (cc ab 0 habl).trans k0
          have g5 := (cc pb 0 hs1).trans hbox
          have gs := (cc wB.heap.size (y * W + x) (by omega)).trans hst
          have gf := (ff wB.heap.size (y * W + x) (by omega)).trans hfz
          clear cc ff hncell hlw hsteps hnbd hg
          go_wp2
          go_end0
          exact ⟨rfl, wr, hbr, rfl⟩
end Go.Proofs.Ytfpkiimlaepnhaa
