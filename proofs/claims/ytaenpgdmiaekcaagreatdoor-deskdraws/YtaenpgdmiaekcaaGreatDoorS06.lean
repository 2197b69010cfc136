/- Tile, Pan, LitIn, LitTile, Lit, LightBegun, MeanRef, OneRef: joined, in this order. -/
import Derived.Test.YtaenpgdmiaekcaaGreatDoorS01
import Derived.Test.YtaenpgdmiaekcaaGreatDoorS05
import Derived.Test.YtaenpgdmiaekcaaGreatDoorS02
import Derived.Laws.EntriesVeiled
import Derived.Test.YtaenpgdmiaekcaaGreatDoorS03
/-
  TILE: light.eachPlace and light.eachTile go through all places, and all tiles.
-/
namespace Go.Proofs.YtaenpgdmiaekcaaGreatDoor
set_option maxRecDepth 100000
open Go.RowKit Im

/-- A function value does its work at each place of a part: what I says of the places that are done holds behind it of one more. -/
structure DoesP (n : Nat) (caps : Array Value) (I : (Nat → Prop) → World → Prop) (W x0 y0 pw ph : Nat) : Prop where
  enters : ∀ args w, (callFunc n args).run Tryz.prog w = .ok (.enter n args) w
  does : ∀ (x y : Nat) (D : Nat → Prop) (w1 : World), x0 ≤ x → x < x0 + pw → y0 ≤ y → y < y0 + ph → I D w1 → Calls Tryz.prog n (#[.int .i64 x, .int .i64 y] ++ caps) w1 fun e w2 => e = .returned (.tuple #[]) ∧ I (fun i => D i ∨ (i / W = y ∧ i % W = x)) w2

theorem DoesP.doesI {n : Nat} {caps : Array Value} {I : (Nat → Prop) → World → Prop} {W x0 y0 pw ph : Nat} (h : DoesP n caps I W x0 y0 pw ph) (x y : Nat) (X Y : Int) (hX : X = x) (hY : Y = y) (D : Nat → Prop) (w1 : World) (h1 : x0 ≤ x) (h2 : x < x0 + pw) (h3 : y0 ≤ y) (h4 : y < y0 + ph) (hI : I D w1) :
    Calls Tryz.prog n (#[.int .i64 X, .int .i64 Y] ++ caps) w1 fun e w2 => e = .returned (.tuple #[]) ∧ I (fun i => D i ∨ (i / W = y ∧ i % W = x)) w2 := by
  subst hX hY; exact h.does x y D w1 h1 h2 h3 h4 hI

set_option maxHeartbeats 1000000 in
theorem eachPlace_any (n : Nat) (caps : Array Value) (I : (Nat → Prop) → World → Prop) (W x0 y0 pw ph : Nat) (D : Nat → Prop) (w : World) (hb : x0 ≤ 16 ∧ y0 ≤ 16 ∧ pw ≤ 16 ∧ ph ≤ 16)
    (mono : ∀ (A B : Nat → Prop) (v : World), (∀ i, B i → A i) → I A v → I B v) (hd : DoesP n caps I W x0 y0 pw ph) (hI : I D w) :
    Calls Tryz.prog 115 #[.int .i64 x0, .int .i64 y0, .int .i64 pw, .int .i64 ph, .func (.func n) #[] caps] w fun e w' => e = .returned (.tuple #[]) ∧ I (fun i => D i ∨ (y0 ≤ i / W ∧ i / W < y0 + ph ∧ x0 ≤ i % W ∧ i % W < x0 + pw)) w' := by
  have hent := hd.enters
  obtain ⟨hb1, hb2, hb3, hb4⟩ := hb
  go_enter Tryz.func115, Tryz.ntmps115
  go_wp2
  go_loopw [13] (fun i wr => ∃ j : Nat, j ≤ ph ∧ i = .int .i64 j ∧ I (fun i => D i ∨ (y0 ≤ i / W ∧ i / W < y0 + j ∧ x0 ≤ i % W ∧ i % W < x0 + pw)) wr) (fun i _ => ph - (intOf i).toNat)
  case atStart => exact ⟨0, Nat.zero_le _, rfl, mono _ _ _ (fun i h => by rcases h with h | h; · exact h
                                                                          · omega) hI⟩
  case round =>
    obtain ⟨j, hj, rfl, hIr⟩ := hrel
    by_cases hlt : j < ph
    · go_wp2
      go_loopw [17] (fun i wr => ∃ c : Nat, c ≤ pw ∧ i = .int .i64 c ∧ I (fun i => (D i ∨ (y0 ≤ i / W ∧ i / W < y0 + j ∧ x0 ≤ i % W ∧ i % W < x0 + pw)) ∨ (i / W = y0 + j ∧ x0 ≤ i % W ∧ i % W < x0 + c)) wr) (fun i _ => pw - (intOf i).toNat)
      case atStart => exact ⟨0, Nat.zero_le _, rfl, mono _ _ _ (fun i h => by rcases h with h | h; · exact h
                                                                              · omega) hIr⟩
      case round =>
        obtain ⟨c, hcc, rfl, hIs⟩ := hrel
        by_cases hlc : c < pw
        · go_wp2_with (refine (hd.doesI (x0 + c) (y0 + j) _ _ (by omega) (by omega) _ _ (by omega) (by omega) (by omega) (by omega) hIs).mono ?_; rintro e w2 ⟨rfl, hI2⟩)
          go_roundw
          case rel => exact ⟨c + 1, by omega, by go_num, mono _ _ _ (fun i h => by
            rcases h with h | h
            · exact .inl (.inl h)
            · by_cases e : i % W = x0 + c
              · exact .inr ⟨h.1, e⟩
              · exact .inl (.inr ⟨h.1, h.2.1, by omega⟩)) hI2⟩
          case measure => simp [intOf]; omega
        · have hce : c = pw := by omega
          subst hce
          go_wp2
          go_roundw
          case rel => exact ⟨j + 1, by omega, by go_num, mono _ _ _ (fun i h => by
            rcases h with h | h
            · exact .inl (.inl h)
            · by_cases e : i / W = y0 + j
              · exact .inr ⟨e, h.2.2⟩
              · exact .inl (.inr ⟨h.1, by omega, h.2.2⟩)) hIs⟩
          case measure => simp [intOf]; omega
    · have hje : j = ph := by omega
      subst hje
      go_wp2
      go_end0
      exact ⟨rfl, hIr⟩

/-- A function value does its work on each tile. -/
structure DoesT (n : Nat) (caps : Array Value) (I : (Nat → Prop) → World → Prop) (W H : Nat) : Prop where
  enters : ∀ args w, (callFunc n args).run Tryz.prog w = .ok (.enter n args) w
  does : ∀ (x y pw ph : Nat) (D : Nat → Prop) (w1 : World), 1 ≤ pw → x + pw ≤ W → 1 ≤ ph → y + ph ≤ H → I D w1 → Calls Tryz.prog n (#[.int .i64 x, .int .i64 y, .int .i64 pw, .int .i64 ph] ++ caps) w1 fun e w2 => e = .returned (.tuple #[]) ∧ I (fun i => D i ∨ (y ≤ i / W ∧ i / W < y + ph ∧ x ≤ i % W ∧ i % W < x + pw)) w2
theorem DoesT.doesI {n : Nat} {caps : Array Value} {I : (Nat → Prop) → World → Prop} {W H : Nat} (h : DoesT n caps I W H) (x y pw ph : Nat) (PW PH : Int) (e1 : PW = pw) (e2 : PH = ph) (D : Nat → Prop) (w1 : World) (h1 : 1 ≤ pw) (h2 : x + pw ≤ W) (h3 : 1 ≤ ph) (h4 : y + ph ≤ H) (hI : I D w1) :
    Calls Tryz.prog n (#[.int .i64 x, .int .i64 y, .int .i64 PW, .int .i64 PH] ++ caps) w1 fun e w2 => e = .returned (.tuple #[]) ∧ I (fun i => D i ∨ (y ≤ i / W ∧ i / W < y + ph ∧ x ≤ i % W ∧ i % W < x + pw)) w2 := by
  subst e1 e2; exact h.does x y pw ph D w1 h1 h2 h3 h4 hI

set_option maxHeartbeats 1000000 in
theorem eachTile_any (n : Nat) (caps : Array Value) (I : (Nat → Prop) → World → Prop) (W H tile : Nat) (w : World) (hW : 1 ≤ W ∧ W ≤ 16) (hH : 1 ≤ H ∧ H ≤ 16) (ht : 1 ≤ tile ∧ tile ≤ 16)
    (mono : ∀ (A B : Nat → Prop) (v : World), (∀ i, B i → A i) → I A v → I B v) (hd : DoesT n caps I W H) (hI : I (fun _ => False) w) :
    Calls Tryz.prog 112 #[.int .i64 W, .int .i64 H, .int .i64 tile, .func (.func n) #[] caps] w fun e w' => e = .returned (.tuple #[]) ∧ I (fun i => i / W < H) w' := by
  have hent := hd.enters
  obtain ⟨hW1, hW2⟩ := hW
  obtain ⟨hH1, hH2⟩ := hH
  obtain ⟨ht1, ht2⟩ := ht
  have hmod : ∀ i, i % W < W := fun i => Nat.mod_lt _ (by omega)
  go_enter Tryz.func112, Tryz.ntmps112
  go_wp2
  go_loopw [8] (fun i wr => ∃ y : Nat, y ≤ H + 16 ∧ i = .int .i64 y ∧ I (fun i => i / W < y ∧ i / W < H) wr) (fun i _ => H + 16 - (intOf i).toNat)
  case atStart => exact ⟨0, by omega, rfl, mono _ _ _ (fun i h => absurd h.1 (Nat.not_lt_zero _)) hI⟩
  case round =>
    obtain ⟨y, hy, rfl, hIr⟩ := hrel
    by_cases hlt : y < H
    · obtain ⟨ph, hph⟩ : ∃ ph, ph = min tile (H - y) := ⟨_, rfl⟩
      have p1 : 1 ≤ ph ∧ y + ph ≤ H ∧ ph ≤ tile := by omega
      have P1 : Hid (y + tile ≤ y + ph ∨ H ≤ y + ph) := by show _ ∨ _; omega
      have hmn : (if (H : Int) - (y : Int) < (tile : Int) then (H : Int) - (y : Int) else (tile : Int)) = (ph : Int) := by rw [hph]; split <;> omega
      clear hph
      go_wp2
      go_loopw [9] (fun i wr => ∃ x : Nat, x ≤ W + 16 ∧ i = .int .i64 x ∧ I (fun i => (i / W < y ∧ i / W < H) ∨ (y ≤ i / W ∧ i / W < y + ph ∧ i % W < x)) wr) (fun i _ => W + 16 - (intOf i).toNat)
      case atStart => exact ⟨0, by omega, rfl, mono _ _ _ (fun i h => by rcases h with h | h; · exact h
                                                                         · exact absurd h.2.2 (Nat.not_lt_zero _)) hIr⟩
      case round =>
        obtain ⟨x, hx, rfl, hIs⟩ := hrel
        by_cases hlx : x < W
        · obtain ⟨pw, hpw⟩ : ∃ pw, pw = min tile (W - x) := ⟨_, rfl⟩
          have p2 : 1 ≤ pw ∧ x + pw ≤ W := by omega
          have P2 : Hid (x + tile ≤ x + pw ∨ W ≤ x + pw) := by show _ ∨ _; omega
          have hmx : (if (W : Int) - (x : Int) < (tile : Int) then (W : Int) - (x : Int) else (tile : Int)) = (pw : Int) := by rw [hpw]; split <;> omega
          clear hpw
          go_wp2_with (refine (hd.doesI x y pw ph _ _ rfl rfl _ _ p2.1 p2.2 p1.1 p1.2.1 hIs).mono ?_; rintro e w2 ⟨rfl, hI2⟩)
          go_roundw
          case rel => exact ⟨x + tile, by omega, by go_num, mono _ _ _ (fun i h => by
            have h2 := P2.out
            have h3 := hmod i
            rcases h with h | h
            · exact .inl (.inl h)
            · by_cases e : i % W < x
              · exact .inl (.inr ⟨h.1, h.2.1, e⟩)
              · exact .inr ⟨h.1, h.2.1, by omega, by omega⟩) hI2⟩
          case measure => simp [intOf]; omega
        · go_wp2
          go_roundw
          case rel => exact ⟨y + tile, by omega, by go_num, mono _ _ _ (fun i h => by
            have h1 := P1.out
            have h3 := hmod i
            by_cases e : i / W < y
            · exact .inl ⟨e, h.2⟩
            · exact .inr ⟨by omega, by omega, by omega⟩) hIs⟩
          case measure => simp [intOf]; omega
    · go_wp2
      go_end0
      exact ⟨rfl, mono _ _ _ (fun i h => ⟨by omega, h⟩) hIr⟩
end Go.Proofs.YtaenpgdmiaekcaaGreatDoor
/-
  PAN: the row of numbers that light.Lit fills, place by place; what one place gets.
-/
namespace Go.Proofs.YtaenpgdmiaekcaaGreatDoor
set_option maxRecDepth 100000
open Go.RowKit Im

/-- Behind all that lay in wB: a row of L numbers, q of them, and the box of the slice that tells it. -/
structure Pan (wB w' : World) (L pb : Nat) (q : Nat → Int) : Prop where
  bel : Below wB.heap.size wB w'
  lo : wB.heap.size < pb
  siz : pb < w'.heap.size
  row : ∃ arr : Array Value, w'.heap[wB.heap.size]? = some (.cells arr 3 (0, 0)) ∧ arr.size = L ∧ ∀ j, j < L → arr[j]? = some (.int .i64 (q j))
  box : w'.cell? ⟨pb, 0, none⟩ = some (.slice (some ⟨wB.heap.size, 0, none⟩) L L)
theorem Pan.below {wB w' w2 : World} {L pb : Nat} {q : Nat → Int} (h : Pan wB w' L pb q) (hb : Below w'.heap.size w' w2) : Pan wB w2 L pb q := by
  have hs := h.siz
  have hlo := h.lo
  obtain ⟨arr, h1, h2, h3⟩ := h.row
  refine ⟨h.bel.trans (hb.mono (by omega)), hlo, Nat.lt_of_lt_of_le hs hb.size, ⟨arr, ?_, h2, h3⟩, (hb.cell (p := ⟨pb, 0, none⟩) hs).trans h.box⟩
  rw [hb.block _ (by omega)]; exact h1
theorem Pan.cell {wB w' : World} {L pb : Nat} {q : Nat → Int} (h : Pan wB w' L pb q) (j : Nat) (hj : j < L) : w'.cell? ⟨wB.heap.size, j, none⟩ = some (.int .i64 (q j)) ∧ w'.frozen? ⟨wB.heap.size, j, none⟩ = false := by
  obtain ⟨arr, h1, h2, h3⟩ := h.row
  unfold World.cell? World.frozen?
  rw [h1]
  simp [h3 j hj]
theorem Pan.store {wB w' : World} {L pb : Nat} {q : Nat → Int} (h : Pan wB w' L pb q) (j : Nat) (v : Int) (hj : j < L) : Pan wB (w'.setCell ⟨wB.heap.size, j, none⟩ (.int .i64 v)) L pb (fun i => if i = j then v else q i) := by
  obtain ⟨arr, h1, h2, h3⟩ := h.row
  have hlo := h.lo
  refine ⟨h.bel.setCell (Nat.le_refl _) _, hlo, by simpa [World.setCell] using h.siz, ⟨arr.setIfInBounds j (.int .i64 v), ?_, by simpa using h2, fun i hi => ?_⟩, ?_⟩
  · simp [World.setCell, Array.getElem?_modify, h1]
  · rw [Array.getElem?_setIfInBounds]
    by_cases e : j = i
    · subst e; simp [h2, hj]
    · rw [if_neg e, if_neg (fun h => e h.symm)]; exact h3 i hi
  · rw [World.cell?_of_block (w := w') (Below.heap_setCell w' _ _ _ (by show pb ≠ wB.heap.size; omega))]; exact h.box
/-- Of the places in D the numbers are those of G. -/
def Done (wB : World) (L pb : Nat) (G : Nat → Int) (D : Nat → Prop) (w' : World) : Prop := ∃ q, Pan wB w' L pb q ∧ ∀ i, i < L → D i → q i = G i

/-- What the lights of a list of numbers give to a place. -/
def sumN (x y : Int) (ls : List Lt) : List Int → Int
  | [] => 0
  | i :: r => givenP (ls.getD i.toNat Lt.zero) x y + sumN x y ls r
theorem sumN_snoc (x y : Int) (ls : List Lt) (i : Int) : ∀ l, sumN x y ls (l ++ [i]) = sumN x y ls l + givenP (ls.getD i.toNat Lt.zero) x y
  | [] => by simp [sumN]
  | m :: r => by simp [sumN, sumN_snoc x y ls i r, Int.add_assoc]
theorem sumN_pick (x y : Int) (f : Lt → Bool) (ls : List Lt) : ∀ n, n ≤ ls.length → (∀ k, k < n → f (ls.getD k Lt.zero) = false → givenP (ls.getD k Lt.zero) x y = 0) → sumN x y ls (pickL f ls n) = sumG x y (ls.take n)
  | 0, _, _ => by simp [pickL, sumN, sumG]
  | n + 1, hn, h => by
    have ih := sumN_pick x y f ls n (by omega) (fun k hk => h k (by omega))
    rw [take_snocL ls n (by omega), sumG_snoc]
    cases hf : f (ls.getD n Lt.zero) with
    | true => rw [pickL_yes f ls n hf, sumN_snoc, ih]; simp
    | false => rw [pickL_no f ls n hf, ih, h n (by omega) hf, Int.add_zero]
theorem pickL_get (f : Lt → Bool) (ls : List Lt) (n t : Nat) (ht : t < (pickL f ls n).length) : ∃ m : Nat, m < n ∧ (pickL f ls n).getD t 0 = m := by
  have hm : (pickL f ls n).getD t 0 ∈ pickL f ls n := by
    rw [List.getD_eq_getElem?_getD, List.getElem?_eq_getElem ht]; exact List.getElem_mem ht
  unfold pickL at hm
  simp only [List.mem_map, List.mem_filter, List.mem_range] at hm
  obtain ⟨m, ⟨h1, _⟩, h2⟩ := hm
  exact ⟨m, h1, h2.symm⟩
/-- Who is not near a part gives its places nothing. -/
theorem not_near {l : Lt} (x0 y0 : Int) (pw ph : Nat) (x y : Nat) (hx : x < pw) (hy : y < ph) (h : nearB x0 y0 pw ph l = false) : givenP l (x0 + x) (y0 + y) = 0 := by
  unfold nearB at h
  simp only [decide_eq_false_iff_not] at h
  refine given_zero rfl (fun hd => h ?_)
  have h1 : awayP l.X x0 pw ≤ awayP l.X (x0 + x) 1 := by unfold awayP; omega
  have h2 : awayP l.Y y0 ph ≤ awayP l.Y (y0 + y) 1 := by unfold awayP; omega
  omega
end Go.Proofs.YtaenpgdmiaekcaaGreatDoor
/-
  LITIN: what light.Lit does at one place, and in one tile.
-/
namespace Go.Proofs.YtaenpgdmiaekcaaGreatDoor
set_option maxRecDepth 100000
open Go.RowKit Im

theorem lit11_enters : ∀ args w, (callFunc 116 args).run Tryz.prog w = .ok (.enter 116 args) w := fun _ _ => by kernel_rfl
theorem lit1_enters : ∀ args w, (callFunc 113 args).run Tryz.prog w = .ok (.enter 113 args) w := fun _ _ => by kernel_rfl

/-- All that the functions of Lit lean on: the image in its box, the lights in theirs. -/
structure Scene (wB : World) (ab lb b off cap W H : Nat) (ps : List Int) (la : Option Addr) (llen lcap : Nat) (ls : List Lt) : Prop where
  box : Boxed wB ab b off cap W H
  fine : Fine wB b off W H ps
  llt : lb < wB.heap.size
  lc : wB.cell? ⟨lb, 0, none⟩ = some (.slice la llen lcap)
  lights : Lights wB la llen ls
  h8 : ls.length ≤ 8
  hr : ls.all rightB = true
theorem Scene.below {wB w' : World} {ab lb b off cap W H : Nat} {ps : List Int} {la : Option Addr} {llen lcap : Nat} {ls : List Lt} (h : Scene wB ab lb b off cap W H ps la llen lcap ls) (hb : Below wB.heap.size wB w') : Scene w' ab lb b off cap W H ps la llen lcap ls :=
  ⟨h.box.below hb, h.fine.below hb, Nat.lt_of_lt_of_le h.llt hb.size, (hb.cell (p := ⟨lb, 0, none⟩) h.llt).trans h.lc, h.lights.below hb, h.h8, h.hr⟩
/-- The number that a place gets. -/
def litG (W : Nat) (ps : List Int) (ls : List Lt) (x y : Nat) : Int := min (px W ps x y + sumG x y ls) 65535

set_option maxHeartbeats 1000000 in
theorem litPlace {wB w1 : World} {ab lb nb pb b off cap W H : Nat} {ps : List Int} {la : Option Addr} {llen lcap : Nat} {ls : List Lt} {q : Nat → Int} {na : Option Addr} {ncap : Nat} {near : List Int}
    (hS : Scene wB ab lb b off cap W H ps la llen lcap ls) (hp : Pan wB w1 (W * H) pb q) (hnc : w1.cell? ⟨nb, 0, none⟩ = some (.slice na near.length ncap)) (hni : Ints 0 w1 na near.length near)
    (hg : ∀ t, t < near.length → ∃ m : Nat, m < ls.length ∧ near.getD t 0 = m) (x y : Nat) (hx : x < W) (hy : y < H) (hsum : sumN x y ls near = sumG x y ls) (hn8 : near.length ≤ 8) :
    Calls Tryz.prog 116 #[.int .i64 x, .int .i64 y, .pointer (some ⟨ab, 0, none⟩), .pointer (some ⟨nb, 0, none⟩), .pointer (some ⟨lb, 0, none⟩), .pointer (some ⟨pb, 0, none⟩)] w1 fun e w2 =>
      e = .returned (.tuple #[]) ∧ ∃ w3, Below w1.heap.size w1 w3 ∧ w2 = w3.setCell ⟨wB.heap.size, y * W + x, none⟩ (.int .i64 (litG W ps ls x y)) := by
  have hS1 := hS.below hp.bel
  have hpl := place_lt hx hy
  obtain ⟨hm, hM⟩ := hS.fine.small
  have hb1 := hS.fine.hW
  have hb2 := hS.fine.hH
  have bx : 0 ≤ (x : Int) ∧ (x : Int) < 16 := by omega
  have by' : 0 ≤ (y : Int) ∧ (y : Int) < 16 := by omega
  have hpi : (y : Int) * (W : Int) + (x : Int) < (W : Int) * (H : Int) := by rw [← Int.natCast_mul, ← Int.natCast_mul]; omega
  have hp0 : 0 ≤ (y : Int) * (W : Int) := Int.mul_nonneg (by omega) (by omega)
  have hpM : (W : Int) * (H : Int) ≤ 256 := by rw [← Int.natCast_mul]; omega
  have hpb := hS.fine.px_bd x y hx hy
  have hcell := hS1.fine.cell (y * W + x) hpl
  obtain ⟨_, k0, k1, k2⟩ := hS1.box
  have hlc := hS1.lc
  have hbox := hp.box
  obtain ⟨hst, hfz⟩ := hp.cell (y * W + x) hpl
  have hs1 := hp.siz
  have hlo := hp.lo
  have habl := hS1.box.lt
  have hlbl := hS1.llt
  have hnbl : nb < w1.heap.size := by
    have := World.block_lt_of_cell? w1 _ hnc
    simpa using this
  obtain ⟨pv, hpv⟩ : ∃ pv, pv = px W ps x y := ⟨_, rfl⟩
  have hcell' : w1.cell? ⟨b, off + (y * W + x), none⟩ = some (.int .i64 pv) := by rw [hpv]; exact hcell
  have hG : Hid (litG W ps ls x y = min (pv + sumG x y ls) 65535) := by show _ = _; rw [hpv]; rfl
  rw [← hpv] at hpb
  have sb := sumG_bd x y bx by' ls hS.hr
  have sb2 : sumG x y ls ≤ 65535 * 8 := by have := hS.h8; omega
  obtain ⟨gx, hgx⟩ : ∃ gx, litG W ps ls x y = gx := ⟨_, rfl⟩
  rw [hgx] at hG ⊢
  have hmin : (if 65535 < pv + sumG x y ls then 65535 else pv + sumG x y ls) = gx := by rw [hG.out]; split <;> omega
  clear hcell hpv hG hgx hm
  by_cases hnil : near = []
  · subst hnil
    have hz : sumG x y ls = 0 := by rw [← hsum]; rfl
    rw [hz, Int.add_zero] at hmin
    have hgp : gx = pv := by rw [← hmin, if_neg (by omega)]
    subst hgp
    clear hz hsum sb sb2 hmin
    simp only [List.length_nil] at hnc
    go_enter Tryz.func116, Tryz.ntmps116
    go_wp2
    go_loop [8, 23] (fun s i => s = .int .i64 gx ∧ i = .int .i64 0) (fun _ _ => 0)
    case atStart => exact ⟨rfl, rfl⟩
    case round =>
      obtain ⟨rfl, rfl⟩ := hrel
      go_wp2
      go_end0
      exact ⟨rfl, w1, Below.refl _ _, rfl⟩
  · have hpos : 0 < near.length := List.length_pos_iff.2 hnil
    rcases hni.cells with e | ⟨nbb, noff, rfl, _, hnl, hncell⟩
    · exact absurd e hnil
    rcases hS.lights.cells with e | ⟨lbb, loff, rfl, hll, hlcell⟩
    · subst e
      have := hg 0 hpos
      obtain ⟨m, hm, _⟩ := this
      simp at hm
    · have hll1 := Nat.lt_of_lt_of_le hll hp.bel.size
      have hlw := fun (w2 : World) (hb2 : Below w1.heap.size w1 w2) (m : Nat) (hm : m < llen) => (show w2.cell? ⟨lbb, loff + m * 4, none⟩ = some (.int .i64 (ls.getD m Lt.zero).X) ∧ w2.cell? ⟨lbb, loff + m * 4 + 1, none⟩ = some (.int .i64 (ls.getD m Lt.zero).Y) ∧ w2.cell? ⟨lbb, loff + m * 4 + 2, none⟩ = some (.int .i64 (ls.getD m Lt.zero).R) ∧ w2.cell? ⟨lbb, loff + m * 4 + 3, none⟩ = some (.int .i64 (ls.getD m Lt.zero).P) from ⟨(hb2.cell (p := ⟨lbb, loff + m * 4, none⟩) hll1).trans ((hp.bel.cell (p := ⟨lbb, loff + m * 4, none⟩) hll).trans (hlcell m hm).1), (hb2.cell (p := ⟨lbb, loff + m * 4 + 1, none⟩) hll1).trans ((hp.bel.cell (p := ⟨lbb, loff + m * 4 + 1, none⟩) hll).trans (hlcell m hm).2.1), (hb2.cell (p := ⟨lbb, loff + m * 4 + 2, none⟩) hll1).trans ((hp.bel.cell (p := ⟨lbb, loff + m * 4 + 2, none⟩) hll).trans (hlcell m hm).2.2.1), (hb2.cell (p := ⟨lbb, loff + m * 4 + 3, none⟩) hll1).trans ((hp.bel.cell (p := ⟨lbb, loff + m * 4 + 3, none⟩) hll).trans (hlcell m hm).2.2.2)⟩)
      have hlen := hS.lights.leng
      have hall := hS.hr
      have hsteps : ∀ t, t < near.length → sumN x y ls (near.take (t + 1)) = sumN x y ls (near.take t) + givenP (ls.getD (near.getD t 0).toNat Lt.zero) x y := fun t ht => by
        have e : near.getD t 0 = near[t] := by rw [List.getD_eq_getElem?_getD, List.getElem?_eq_getElem ht]; rfl
        rw [List.take_succ_eq_append_getElem ht, sumN_snoc, e]
      have hnbd : ∀ t, t ≤ near.length → 0 ≤ sumN x y ls (near.take t) ∧ sumN x y ls (near.take t) ≤ 65535 * t := fun t => by
        induction t with
        | zero => intro _; simp [sumN]
        | succ t ih =>
          intro ht
          have h1 := ih (by omega)
          obtain ⟨m, hm, hmt⟩ := hg t (by omega)
          have h2 := given_bd (all_getD ls m hm hall) x y bx by'
          rw [hsteps t (by omega), hmt, Int.toNat_natCast]
          omega
      have hfull : near.take near.length = near := List.take_length
      clear hS hS1 hlcell
      go_enter Tryz.func116, Tryz.ntmps116
      go_wp2
      go_loopw [8, 23] (fun s i wr => ∃ t : Nat, t ≤ near.length ∧ i = .int .i64 t ∧ s = .int .i64 (pv + sumN x y ls (near.take t)) ∧ Below w1.heap.size w1 wr) (fun _ i _ => near.length - (intOf i).toNat)
      case atStart => exact ⟨0, Nat.zero_le _, rfl, by simp [sumN], Below.refl _ _⟩
      case round =>
        obtain ⟨t, ht, rfl, rfl, hbr⟩ := hrel
        have nb0 := hnbd t ht
        have nb1 : sumN x y ls (near.take t) ≤ 65535 * 8 := by omega
        have kl : wr.cell? ⟨lb, 0, none⟩ = some (.slice (some ⟨lbb, loff, none⟩) llen lcap) := (hbr.cell (p := ⟨lb, 0, none⟩) hlbl).trans hlc
        by_cases hlt : t < near.length
        · obtain ⟨m, hm, hmt⟩ := hg t hlt
          have hcn := (hbr.cell (p := ⟨nbb, noff + t, none⟩) hnl).trans (hncell t hlt)
          rw [hmt] at hcn
          have hstep := hsteps t hlt
          rw [hmt, Int.toNat_natCast] at hstep
          obtain ⟨c0, c1, c2, c3⟩ := hlw wr hbr m (by omega)
          have hrk := all_getD ls m hm hall
          have hgv := fun wx => given_any (ls.getD m Lt.zero) x y wx hrk bx by'
          have hgb := given_bd hrk x y bx by'
          generalize givenP (ls.getD m Lt.zero) x y = gv at hgv hgb hstep
          generalize ls.getD m Lt.zero = l at c0 c1 c2 c3 hgv
          obtain ⟨X, Y, R, P⟩ := l
          dsimp only at c0 c1 c2 c3 hgv
          have HS : Hid (sumN x y ls (near.take (t + 1)) = sumN x y ls (near.take t) + gv) := hstep
          have hml : (m : Int) < (llen : Int) := by omega
          clear hstep hrk hncell hlw hsteps hnbd hg hmt hfull hnil
          go_wp2_with (go_at_call 117; refine (hgv _).mono ?_; rintro e w2 ⟨rfl, hb2⟩)
          have hbn := below_stepL hbr hb2
          go_roundw
          case rel => exact ⟨t + 1, by omega, by go_num, by rw [HS.out]; go_num, hbn⟩
          case measure => simp [intOf]; omega
        · have e : t = near.length := by omega
          subst e
          rw [hfull, hsum]
          obtain ⟨cc, ff⟩ := bcell hbr
          have g0 := (cc ab 0 habl).trans k0
          have g5 := (cc pb 0 hs1).trans hbox
          have gs := (cc wB.heap.size (y * W + x) (by omega)).trans hst
          have gf := (ff wB.heap.size (y * W + x) (by omega)).trans hfz
          clear cc ff hncell hlw hsteps hnbd hg
          go_wp2
          go_end0
          exact ⟨rfl, wr, hbr, rfl⟩
end Go.Proofs.YtaenpgdmiaekcaaGreatDoor
/-
  LITTILE: what light.Lit does in one tile.
-/
namespace Go.Proofs.YtaenpgdmiaekcaaGreatDoor
set_option maxRecDepth 100000
open Go.RowKit Im

/-- The number of the place i. -/
def litI (W : Nat) (ps : List Int) (ls : List Lt) (i : Nat) : Int := litG W ps ls (i % W) (i / W)
theorem Done.mono {wB : World} {L pb : Nat} {G : Nat → Int} {A B : Nat → Prop} {w' : World} (h : Done wB L pb G A w') (hs : ∀ i, B i → A i) : Done wB L pb G B w' := by
  obtain ⟨q, hp, hq⟩ := h
  exact ⟨q, hp, fun i hi hb => hq i hi (hs i hb)⟩
theorem Done.below {wB : World} {L pb : Nat} {G : Nat → Int} {A : Nat → Prop} {w' w2 : World} (h : Done wB L pb G A w') (hb : Below w'.heap.size w' w2) : Done wB L pb G A w2 := by
  obtain ⟨q, hp, hq⟩ := h
  exact ⟨q, hp.below hb, hq⟩
/-- While a tile is worked: the list of its lights lies in the box nb. -/
def InTile (wB : World) (L pb : Nat) (G : Nat → Int) (nb : Nat) (na : Option Addr) (ncap : Nat) (near : List Int) (D : Nat → Prop) (w' : World) : Prop :=
  Done wB L pb G D w' ∧ w'.cell? ⟨nb, 0, none⟩ = some (.slice na near.length ncap) ∧ Ints (wB.heap.size + 1) w' na near.length near ∧ wB.heap.size < nb ∧ nb < w'.heap.size

theorem litTile_does {wB : World} {ab lb nb pb b off cap W H : Nat} {ps : List Int} {la : Option Addr} {llen lcap : Nat} {ls : List Lt} (hS : Scene wB ab lb b off cap W H ps la llen lcap ls) (x0 y0 pw ph : Nat) (hx : x0 + pw ≤ W) (hy : y0 + ph ≤ H) (na : Option Addr) (ncap : Nat) :
    DoesP 116 #[.pointer (some ⟨ab, 0, none⟩), .pointer (some ⟨nb, 0, none⟩), .pointer (some ⟨lb, 0, none⟩), .pointer (some ⟨pb, 0, none⟩)] (InTile wB (W * H) pb (litI W ps ls) nb na ncap (pickL (nearB x0 y0 pw ph) ls llen)) W x0 y0 pw ph := by
  refine ⟨lit11_enters, fun x y D w1 h1 h2 h3 h4 hI => ?_⟩
  obtain ⟨⟨q, hp, hq⟩, hnc, hni, hcn, hnl⟩ := hI
  have hl := hS.lights.leng
  have hxW : x < W := by omega
  have hyH : y < H := by omega
  have hsum : sumN x y ls (pickL (nearB x0 y0 pw ph) ls llen) = sumG x y ls := by
    rw [sumN_pick x y (nearB x0 y0 pw ph) ls llen (by omega) (fun k _ hk => ?_), List.take_of_length_le (by omega)]
    have := not_near (l := ls.getD k Lt.zero) x0 y0 pw ph (x - x0) (y - y0) (by omega) (by omega) hk
    rw [show ((x0 : Int) + ((x - x0 : Nat) : Int)) = x by omega, show ((y0 : Int) + ((y - y0 : Nat) : Int)) = y by omega] at this
    exact this
  have hg : ∀ t, t < (pickL (nearB x0 y0 pw ph) ls llen).length → ∃ m : Nat, m < ls.length ∧ (pickL (nearB x0 y0 pw ph) ls llen).getD t 0 = m := fun t ht => by
    obtain ⟨m, hm, e⟩ := pickL_get (nearB x0 y0 pw ph) ls llen t ht
    exact ⟨m, by omega, e⟩
  have hn8 : (pickL (nearB x0 y0 pw ph) ls llen).length ≤ 8 := by have := pickL_len (nearB x0 y0 pw ph) ls llen; have := hS.h8; omega
  refine (litPlace hS hp hnc (hni.mono (Nat.zero_le _)) hg x y hxW hyH hsum hn8).mono fun e w2 ⟨he, w3, hb3, hw2⟩ => ⟨he, ?_⟩
  subst hw2
  have hpl := place_lt hxW hyH
  have e1 : (y * W + x) % W = x := by rw [Nat.mul_comm, Nat.mul_add_mod]; exact Nat.mod_eq_of_lt hxW
  have e2 : (y * W + x) / W = y := by rw [Nat.mul_comm, Nat.mul_add_div (by omega), Nat.div_eq_of_lt hxW]; rfl
  refine ⟨⟨_, (hp.below hb3).store (y * W + x) _ hpl, fun i hi hD => ?_⟩, ?_, ?_, hcn, ?_⟩
  · by_cases hi' : i = y * W + x
    · subst hi'
      rw [if_pos rfl]
      unfold litI
      rw [e1, e2]
    · rw [if_neg hi']
      rcases hD with hD | hD
      · exact hq i hi hD
      · exfalso
        apply hi'
        have := Nat.div_add_mod i W
        rw [hD.1, hD.2, Nat.mul_comm] at this
        exact this.symm
  · rw [World.cell?_of_block (w := w3) (Below.heap_setCell w3 _ _ _ (by show nb ≠ _; simp; omega))]
    exact (hb3.cell (p := ⟨nb, 0, none⟩) hnl).trans hnc
  · exact (hni.below (Nat.le_refl _) hb3).setCell (by simp) _
  · have := hb3.size
    simp [World.setCell]; omega

set_option maxHeartbeats 1000000 in
/-- light.Lit's function of a tile. -/
theorem litTile_any {wB w1 : World} {ab lb pb b off cap W H : Nat} {ps : List Int} {la : Option Addr} {llen lcap : Nat} {ls : List Lt} (hS : Scene wB ab lb b off cap W H ps la llen lcap ls) (x y pw ph : Nat) (D : Nat → Prop) (h1 : 1 ≤ pw) (h2 : x + pw ≤ W) (h3 : 1 ≤ ph) (h4 : y + ph ≤ H) (hD : Done wB (W * H) pb (litI W ps ls) D w1) :
    Calls Tryz.prog 113 #[.int .i64 x, .int .i64 y, .int .i64 pw, .int .i64 ph, .pointer (some ⟨lb, 0, none⟩), .pointer (some ⟨ab, 0, none⟩), .pointer (some ⟨pb, 0, none⟩)] w1 fun e w2 =>
      e = .returned (.tuple #[]) ∧ Done wB (W * H) pb (litI W ps ls) (fun i => D i ∨ (y ≤ i / W ∧ i / W < y + ph ∧ x ≤ i % W ∧ i % W < x + pw)) w2 := by
  obtain ⟨q, hp, hq⟩ := id hD
  have hS1 := hS.below hp.bel
  have hlc := hS1.lc
  have hsiz := hp.siz
  have hlo := hp.lo
  obtain ⟨hw1, hw2⟩ := hS.fine.hW
  obtain ⟨hh1, hh2⟩ := hS.fine.hH
  have hnear := near_ok lcap x y pw ph hS1.lights hS.h8 hS.hr ((stretch_iff _ _).2 (by omega)) ((stretch_iff _ _).2 (by omega))
  have hd := fun nb na ncap => litTile_does (nb := nb) (pb := pb) hS x y pw ph h2 h4 na ncap
  generalize pickL (nearB x y pw ph) ls llen = near at hnear hd
  clear hp hq
  go_enter Tryz.func113, Tryz.ntmps113
  go_wp2_with fail
  refine hnear.mono ?_
  rintro e wA ⟨na, ncap, rfl, hni, hbA⟩
  have hsA := hbA.size
  have hI : InTile wB (W * H) pb (litI W ps ls) wA.heap.size na ncap near D (wA.alloc (.cells #[.slice na near.length ncap] 22)) :=
    ⟨(hD.below hbA).below ((Below.refl _ _).alloc (Nat.le_refl _) _), by simp [go_sem], (hni.below (Nat.le_refl _) ((Below.refl _ _).alloc (Nat.le_refl _) _)).mono (by omega), by omega, by simp⟩
  have hep := eachPlace_any _ _ _ W x y pw ph D _ (by omega) (fun A B v hs h => ⟨h.1.mono hs, h.2⟩) (hd wA.heap.size na ncap) hI
  clear hnear hd hI
  go_wp2_with fail
  refine hep.mono ?_
  rintro e wC ⟨rfl, hIC⟩
  go_wp2
  go_end0
  exact ⟨rfl, hIC.1⟩
end Go.Proofs.YtaenpgdmiaekcaaGreatDoor
/-
  LIT: light.Lit answers what the document says.
-/
namespace Go.Proofs.YtaenpgdmiaekcaaGreatDoor
set_option maxRecDepth 100000
open Go.RowKit Im

theorem lit_B (w : World) (o o' o'' : Obj) : Below w.heap.size w (((w.alloc o).alloc o').alloc o'') := (((Below.refl _ _).alloc (Nat.le_refl _) _).alloc (by simp) _).alloc (by simp; omega) _

/-- light.Lit, of an image that is not right. -/
theorem lit_form {W H : Int} {a : Option Addr} {len : Nat} (cap : Nat) {ps : List Int} {la : Option Addr} {llen : Nat} (lcap : Nat) (tile : Int) {w : World} (h : Ints 0 w a len ps) (hf : fineB W H ps = false) :
    Calls Tryz.prog 70 #[.agg #[.int .i64 W, .int .i64 H, .slice a len cap], .slice la llen lcap, .int .i64 tile] w fun e w' => e = .returned (.tuple #[noImage, .int .i64 1]) ∧ Below w.heap.size w w' := by
  have hB := lit_B w
  have h1 := h.below (Nat.le_refl _) (hB (.cells #[.int .i64 W, .int .i64 H, .slice a len cap] 24) (.cells #[.slice la llen lcap] 70) (.cells #[.int .i64 0, .int .i64 0, .slice none 0 0] 24))
  go_enter Tryz.func70, Tryz.ntmps70
  go_wp2_with (go_at_call 13; refine (check_not cap h1 hf).mono ?_; rintro e wA ⟨rfl, hbA⟩; obtain ⟨cA, fA⟩ := bcell hbA; have sA : w.heap.size + 1 + 1 < wA.heap.size := by have := hbA.size; simp at this; omega)
  refine bodyPost_ret (v := .tuple #[noImage, .int .i64 1]) (by simp [results, Tryz.results70, go_sem, cA]) rfl ⟨rfl, ?_⟩
  exact ((((hB _ _ _).trans (hbA.mono (by simp; omega))).setCell (p := ⟨w.heap.size + 1 + 1, 0, none⟩) (by simp; omega) _).setCell (p := ⟨w.heap.size + 1 + 1, 1, none⟩) (by simp; omega) _).setCell (p := ⟨w.heap.size + 1 + 1, 2, none⟩) (by simp; omega) _
/-- light.Lit, of lights that are not right. -/
theorem lit_lights {W H b off : Nat} (cap : Nat) {ps : List Int} {la : Option Addr} {llen : Nat} (lcap : Nat) {ls : List Lt} (tile : Int) {w : World} (hF : Fine w b off W H ps) (hl : Lights w la llen ls) (hE : ¬ lightsErr ls = 0) :
    Calls Tryz.prog 70 #[.agg #[.int .i64 W, .int .i64 H, .slice (some ⟨b, off, none⟩) (W * H) cap], .slice la llen lcap, .int .i64 tile] w fun e w' => e = .returned (.tuple #[noImage, .int .i64 (lightsErr ls)]) ∧ Below w.heap.size w w' := by
  have hB := lit_B w
  have hF1 := hF.below (hB (.cells #[.int .i64 W, .int .i64 H, .slice (some ⟨b, off, none⟩) (W * H) cap] 24) (.cells #[.slice la llen lcap] 70) (.cells #[.int .i64 0, .int .i64 0, .slice none 0 0] 24))
  have hcl := fun wx (hx : Below w.heap.size w wx) => checkL_any lcap (hl.below hx)
  generalize lightsErr ls = E at hcl hE
  have hne : (E != 0) = true := by simpa using hE
  have hBw := hB (.cells #[.int .i64 W, .int .i64 H, .slice (some ⟨b, off, none⟩) (W * H) cap] 24) (.cells #[.slice la llen lcap] 70) (.cells #[.int .i64 0, .int .i64 0, .slice none 0 0] 24)
  clear hE
  go_enter Tryz.func70, Tryz.ntmps70
  go_wp2_with (first
    | (go_at_call 13; refine (check_fine cap hF1.ints hF1.fineB).mono ?_; rintro e wA ⟨rfl, hbA⟩; obtain ⟨cA, fA⟩ := bcell hbA; have sA : w.heap.size + 1 + 1 < wA.heap.size := by have := hbA.size; simp at this; omega)
    | (go_at_call 102; refine (hcl _ (hBw.trans (hbA.mono (by simp; omega)))).mono ?_; rintro e wB ⟨rfl, hbB⟩; have hbB' := hbA.trans (hbB.mono hbA.size); clear cA fA; obtain ⟨cB, fB⟩ := bcell hbB'; have sB : w.heap.size + 1 + 1 < wB.heap.size := by have := hbB.size; omega))
  refine bodyPost_ret (v := .tuple #[noImage, .int .i64 E]) (by simp [results, Tryz.results70, go_sem, cB]) rfl ⟨rfl, ?_⟩
  exact (((hBw.trans (hbB'.mono (by simp; omega))).setCell (p := ⟨w.heap.size + 1 + 1, 0, none⟩) (by simp; omega) _).setCell (p := ⟨w.heap.size + 1 + 1, 1, none⟩) (by simp; omega) _).setCell (p := ⟨w.heap.size + 1 + 1, 2, none⟩) (by simp; omega) _
/-- light.Lit, where the tile is out of its bounds. -/
theorem lit_range {W H b off : Nat} (cap : Nat) {ps : List Int} {la : Option Addr} {llen : Nat} (lcap : Nat) {ls : List Lt} (tile : Int) {w : World} (hF : Fine w b off W H ps) (hl : Lights w la llen ls) (hE : lightsErr ls = 0) (ht : tile < 1 ∨ 16 < tile) :
    Calls Tryz.prog 70 #[.agg #[.int .i64 W, .int .i64 H, .slice (some ⟨b, off, none⟩) (W * H) cap], .slice la llen lcap, .int .i64 tile] w fun e w' => e = .returned (.tuple #[noImage, .int .i64 3]) ∧ Below w.heap.size w w' := by
  have hB := lit_B w
  have hF1 := hF.below (hB (.cells #[.int .i64 W, .int .i64 H, .slice (some ⟨b, off, none⟩) (W * H) cap] 24) (.cells #[.slice la llen lcap] 70) (.cells #[.int .i64 0, .int .i64 0, .slice none 0 0] 24))
  have hcl := fun wx (hx : Below w.heap.size w wx) => checkL_any lcap (hl.below hx)
  rw [hE] at hcl
  have hBw := hB (.cells #[.int .i64 W, .int .i64 H, .slice (some ⟨b, off, none⟩) (W * H) cap] 24) (.cells #[.slice la llen lcap] 70) (.cells #[.int .i64 0, .int .i64 0, .slice none 0 0] 24)
  clear hE
  by_cases h1 : tile < 1
  all_goals
    have h2 : ¬ tile < 1 → 16 < tile := by omega
    try (have h2 := h2 h1)
    clear ht
    go_enter Tryz.func70, Tryz.ntmps70
    go_wp2_with (first
      | (go_at_call 13; refine (check_fine cap hF1.ints hF1.fineB).mono ?_; rintro e wA ⟨rfl, hbA⟩; obtain ⟨cA, fA⟩ := bcell hbA; have sA : w.heap.size + 1 + 1 < wA.heap.size := by have := hbA.size; simp at this; omega)
      | (go_at_call 102; refine (hcl _ (hBw.trans (hbA.mono (by simp; omega)))).mono ?_; rintro e wB ⟨rfl, hbB⟩; have hbB' := hbA.trans (hbB.mono hbA.size); clear cA fA; obtain ⟨cB, fB⟩ := bcell hbB'; have sB : w.heap.size + 1 + 1 < wB.heap.size := by have := hbB.size; omega))
    refine bodyPost_ret (v := .tuple #[noImage, .int .i64 3]) (by simp [results, Tryz.results70, go_sem, cB]) rfl ⟨rfl, ?_⟩
    exact (((hBw.trans (hbB'.mono (by simp; omega))).setCell (p := ⟨w.heap.size + 1 + 1, 0, none⟩) (by simp; omega) _).setCell (p := ⟨w.heap.size + 1 + 1, 1, none⟩) (by simp; omega) _).setCell (p := ⟨w.heap.size + 1 + 1, 2, none⟩) (by simp; omega) _
theorem pan_made {wB wM : World} {L : Nat} {o : Obj} (ho : o = .cells #[.slice (some ⟨wB.heap.size, 0, none⟩) L L] 22) (hown : wM.ownsRow wB.heap.size 3 1 (.slice (some ⟨wB.heap.size, 0, none⟩) L L) L (madeCells (Value.int .i64 0).cells (L * 1)).toList) (hg : wB.grownBy wM none) :
    Pan wB (wM.alloc o) L wM.heap.size (fun _ => 0) := by
  subst ho
  obtain ⟨_, h⟩ := hown
  rcases h with ⟨h, _⟩ | ⟨g, cap, cur, hv, _, hh, _, _, hs, ht⟩
  · cases h
  · simp only [Value.slice.injEq, Option.some.injEq, Addr.mk.injEq, and_true, true_and] at hv
    obtain ⟨rfl, rfl⟩ := hv
    have hlt : wB.heap.size < wM.heap.size := by
      rcases Nat.lt_or_ge wB.heap.size wM.heap.size with h | h
      · exact h
      · rw [Array.getElem?_eq_none h] at hh; cases hh
    have hb : Below wB.heap.size wB wM := (Below.refl _ _).grown hg (Nat.le_refl _) (fun k hk => by cases hk)
    refine ⟨hb.alloc (by omega) _, hlt, by simp, ⟨cur, ?_, by simpa using hs, fun j hj => ?_⟩, by simp [go_sem]⟩
    · rw [Below.heap_alloc _ _ _ hlt]; exact hh
    · have e : cur.toList = List.replicate L (Value.int .i64 0) := by
        have h1 : cur.toList.take (L * 1) = cur.toList := List.take_of_length_le (by simp; omega)
        rw [h1] at ht
        rw [ht]
        show (madeCells #[Value.int .i64 0] (L * 1)).toList = _
        rw [toList_madeCells_one, Nat.mul_one]
      rw [← Array.getElem?_toList, e]
      simp [hj]
/-- The numbers of a row that is done. -/
theorem done_ints {wB w' : World} {L pb : Nat} {G : Nat → Int} (h : Done wB L pb G (fun i => i < L) w') (hL : L ≤ 256) : Ints wB.heap.size w' (some ⟨wB.heap.size, 0, none⟩) L ((List.range L).map G) := by
  obtain ⟨q, hp, hq⟩ := h
  refine ⟨by simp, by omega, ?_⟩
  refine .inr ⟨wB.heap.size, 0, rfl, Nat.le_refl _, by have := hp.lo; have := hp.siz; omega, fun j hj => ?_⟩
  rw [Nat.zero_add, (hp.cell j hj).1, hq j hj hj]
  simp [hj]
set_option maxHeartbeats 1000000 in
/-- light.Lit, with no error. -/
theorem lit_ok {W H b off : Nat} (cap : Nat) {ps : List Int} {la : Option Addr} {llen : Nat} (lcap : Nat) {ls : List Lt} (tile : Nat) {w : World} (hF : Fine w b off W H ps) (hl : Lights w la llen ls) (hE : lightsErr ls = 0) (ht : 1 ≤ tile ∧ tile ≤ 16) :
    Calls Tryz.prog 70 #[.agg #[.int .i64 W, .int .i64 H, .slice (some ⟨b, off, none⟩) (W * H) cap], .slice la llen lcap, .int .i64 tile] w fun e w' =>
      ∃ a cap', e = .returned (.tuple #[.agg #[.int .i64 W, .int .i64 H, .slice a (W * H) cap'], .int .i64 0]) ∧ Ints w.heap.size w' a (W * H) (pix W (litG W ps ls) (W * H)) ∧ Below w.heap.size w w' := by
  obtain ⟨i0, hi, hz0, hz1, hz2⟩ := info_parts Tryz.info3
  have hB := lit_B w
  have hBw := hB (.cells #[.int .i64 W, .int .i64 H, .slice (some ⟨b, off, none⟩) (W * H) cap] 24) (.cells #[.slice la llen lcap] 70) (.cells #[.int .i64 0, .int .i64 0, .slice none 0 0] 24)
  have hF1 := hF.below hBw
  have hcl := fun wx (hx : Below w.heap.size w wx) => checkL_any lcap (hl.below hx)
  rw [hE] at hcl
  obtain ⟨h8, hr⟩ := lightsErr_zero hE
  obtain ⟨hs1, hs2⟩ := hF.small
  obtain ⟨hW1, hW2⟩ := hF.hW
  obtain ⟨hH1, hH2⟩ := hF.hH
  have hWH : 1 ≤ (W : Int) * H ∧ (W : Int) * H ≤ 256 := by rw [← Int.natCast_mul]; omega
  obtain ⟨wh1, wh2⟩ := hWH
  have hBx : Boxed (((w.alloc (.cells #[.int .i64 W, .int .i64 H, .slice (some ⟨b, off, none⟩) (W * H) cap] 24)).alloc (.cells #[.slice la llen lcap] 70)).alloc (.cells #[.int .i64 0, .int .i64 0, .slice none 0 0] 24)) w.heap.size b off cap W H := ⟨by simp; omega, by simp [go_sem], by simp [go_sem], by simp [go_sem]⟩
  have hLc : (((w.alloc (.cells #[.int .i64 W, .int .i64 H, .slice (some ⟨b, off, none⟩) (W * H) cap] 24)).alloc (.cells #[.slice la llen lcap] 70)).alloc (.cells #[.int .i64 0, .int .i64 0, .slice none 0 0] 24)).cell? ⟨w.heap.size + 1, 0, none⟩ = some (.slice la llen lcap) := by simp [go_sem]
  have hLl : w.heap.size + 1 < (((w.alloc (.cells #[.int .i64 W, .int .i64 H, .slice (some ⟨b, off, none⟩) (W * H) cap] 24)).alloc (.cells #[.slice la llen lcap] 70)).alloc (.cells #[.int .i64 0, .int .i64 0, .slice none 0 0] 24)).heap.size := by simp
  have hSc : Scene (((w.alloc (.cells #[.int .i64 W, .int .i64 H, .slice (some ⟨b, off, none⟩) (W * H) cap] 24)).alloc (.cells #[.slice la llen lcap] 70)).alloc (.cells #[.int .i64 0, .int .i64 0, .slice none 0 0] 24)) w.heap.size (w.heap.size + 1) b off cap W H ps la llen lcap ls := ⟨hBx, hF1, hLl, hLc, hl.below hBw, h8, hr⟩
  obtain ⟨ht1, ht2⟩ := ht
  have htn : ¬ (16 : Int) < (tile : Int) := by omega
  clear hE hBx hLc hLl
  go_enter Tryz.func70, Tryz.ntmps70
  go_wp2_with (first
    | (go_at_call 13; refine (check_fine cap hF1.ints hF1.fineB).mono ?_; rintro e wA ⟨rfl, hbA⟩; obtain ⟨cA, fA⟩ := bcell hbA; have sA : w.heap.size + 1 + 1 < wA.heap.size := by have := hbA.size; simp at this; omega)
    | (go_at_call 102; refine (hcl _ (hBw.trans (hbA.mono (by simp; omega)))).mono ?_; rintro e wB ⟨rfl, hbB⟩; have hbB' := hbA.trans (hbB.mono hbA.size); clear cA fA; obtain ⟨cB, fB⟩ := bcell hbB'; have sB : w.heap.size + 1 + 1 < wB.heap.size := by have := hbB.size; omega)
    | (at_make; refine wpList_make_full _ rfl _ _ 22 rfl wB.heap.size 3 i0 (.int .i64 0) 1 Tryz.underlying22 hi hz0 hz1 .i64 .i64 _ _ (W * H) rfl rfl (by simp) (by simp) (by rw [hz2]; omega) (by unfold maxLen; omega) (Nat.le_refl _) ?_; intro wM hown hgrow; have hbM : Below wB.heap.size wB wM := ((Below.refl _ _).grown hgrow (Nat.le_refl _) (fun k hk => by cases hk)); have hbM' := hbB'.trans (hbM.mono hbB'.size); clear cB fB; obtain ⟨cM, fM⟩ := bcell hbM'; have sM : w.heap.size + 1 + 1 < wM.heap.size := (by have := hbM.size; omega); have sM0 : w.heap.size < wM.heap.size := (by omega)))
  have hScB := hSc.below hbB'
  have hdo : DoesT 113 #[.pointer (some ⟨w.heap.size + 1, 0, none⟩), .pointer (some ⟨w.heap.size, 0, none⟩), .pointer (some ⟨wM.heap.size, 0, none⟩)] (Done wB (W * H) wM.heap.size (litI W ps ls)) W H :=
    ⟨lit1_enters, fun x y pw ph D w1 g1 g2 g3 g4 hD => litTile_any hScB x y pw ph D g1 g2 g3 g4 hD⟩
  have hst : Done wB (W * H) wM.heap.size (litI W ps ls) (fun _ => False) (wM.alloc (.cells #[.slice (some ⟨wB.heap.size, 0, none⟩) (W * H) (W * H)] 22)) := ⟨_, pan_made rfl hown hgrow, fun _ _ h => h.elim⟩
  have het := eachTile_any _ _ _ W H tile _ (by omega) (by omega) (by omega) (fun A B v hs h => h.mono hs) hdo hst
  clear hdo hst hown hgrow
  refine het.mono ?_
  rintro e wE ⟨rfl, hDn⟩
  have hDn' : Done wB (W * H) wM.heap.size (litI W ps ls) (fun i => i < W * H) wE := hDn.mono (fun i h => Nat.div_lt_of_lt_mul h)
  obtain ⟨q, hpan, _⟩ := id hDn
  have hbE := hbB'.trans (hpan.bel.mono hbB'.size)
  have hbox := hpan.box
  have sE : w.heap.size + 1 + 1 < wE.heap.size := by have := hpan.bel.size; omega
  have hints := done_ints hDn' hs2
  clear hDn hDn' het cM fM hpan hScB
  obtain ⟨cE, fE⟩ := bcell hbE
  go_wp2
  refine bodyPost_ret (v := .tuple #[.agg #[.int .i64 W, .int .i64 H, .slice (some ⟨wB.heap.size, 0, none⟩) (W * H) (W * H)], .int .i64 0]) (by simp [results, Tryz.results70, go_sem, cE]) rfl ⟨_, _, rfl, ?_, ?_⟩
  · exact (((hints.setCell (p := ⟨w.heap.size + 1 + 1, 0, none⟩) sB _).setCell (p := ⟨w.heap.size + 1 + 1, 1, none⟩) sB _).setCell (p := ⟨w.heap.size + 1 + 1, 2, none⟩) sB _).mono (by omega)
  · exact (((hBw.trans (hbE.mono (by simp; omega))).setCell (p := ⟨w.heap.size + 1 + 1, 0, none⟩) (by simp; omega) _).setCell (p := ⟨w.heap.size + 1 + 1, 1, none⟩) (by simp; omega) _).setCell (p := ⟨w.heap.size + 1 + 1, 2, none⟩) (by simp; omega) _
end Go.Proofs.YtaenpgdmiaekcaaGreatDoor
/-
  LIGHTBEGUN: the law's lightBegun answers true.
-/
namespace Go.Proofs.YtaenpgdmiaekcaaGreatDoor
set_option maxRecDepth 100000
open Go.RowKit Im

theorem Lights.alloc {w : World} {a : Option Addr} {len : Nat} {ls : List Lt} (h : Lights w a len ls) (o : Obj) : Lights (w.alloc o) a len ls := h.below ((Below.refl _ _).alloc (Nat.le_refl _) _)
end Go.Proofs.YtaenpgdmiaekcaaGreatDoor
/-
  MEANREF: the reference's at and mean.
-/
namespace Go.Proofs.YtaenpgdmiaekcaaGreatDoor
set_option maxRecDepth 100000
open Go.RowKit Im

/-- The reference's at. -/
theorem at_any {w : World} {b off cap W H : Nat} {ps : List Int} (hF : Fine w b off W H ps) (X Y : Int) (x y : Nat) (hX : X = x) (hY : Y = y) (hx : x < W) (hy : y < H) :
    Calls Tryz.prog 17 #[.agg #[.int .i64 W, .int .i64 H, .slice (some ⟨b, off, none⟩) (W * H) cap], .int .i64 X, .int .i64 Y] w fun e w' => e = .returned (.int .i64 (px W ps x y)) ∧ Below w.heap.size w w' := by
  subst hX hY
  have hbel := (Below.refl w.heap.size w).alloc (Nat.le_refl _) (.cells #[.int .i64 W, .int .i64 H, .slice (some ⟨b, off, none⟩) (W * H) cap] 24)
  have hc := (hF.below hbel).cell (y * W + x) (place_lt hx hy)
  have hpl := place_lt hx hy
  obtain ⟨hm, hM⟩ := hF.small
  have hb1 := hF.hW
  have hb2 := hF.hH
  have hpi : (y : Int) * (W : Int) + (x : Int) < (W : Int) * (H : Int) := by rw [← Int.natCast_mul, ← Int.natCast_mul]; omega
  have hp0 : 0 ≤ (y : Int) * (W : Int) := Int.mul_nonneg (by omega) (by omega)
  have hpM : (W : Int) * (H : Int) ≤ 256 := by rw [← Int.natCast_mul]; omega
  obtain ⟨v, hv⟩ : ∃ v, v = px W ps x y := ⟨_, rfl⟩
  have hc' : (w.alloc (.cells #[.int .i64 W, .int .i64 H, .slice (some ⟨b, off, none⟩) (W * H) cap] 24)).cell? ⟨b, off + (y * W + x), none⟩ = some (.int .i64 v) := by rw [hv]; exact hc
  rw [← hv]
  clear hc hv hF hpl
  go_enter Tryz.func17, Tryz.ntmps17
  go_wp2
  go_ret
  exact ⟨rfl, hbel⟩

set_option maxHeartbeats 1000000 in
/-- The reference's mean, of the m columns from l on and the q rows from t on. -/
theorem meanRef_any {w : World} {b off cap W H : Nat} {ps : List Int} (hF : Fine w b off W H ps) (X Y U V : Int) (l m t q : Nat) (hL : (if X < 0 then 0 else X) = (l : Int)) (hT : (if Y < 0 then 0 else Y) = (t : Int))
    (hR : (if (W : Int) - 1 < U then (W : Int) - 1 else U) = (l : Int) + m - 1) (hV : (if (H : Int) - 1 < V then (H : Int) - 1 else V) = (t : Int) + q - 1) (h1 : 1 ≤ m) (h2 : l + m ≤ W) (h3 : 1 ≤ q) (h4 : t + q ≤ H) :
    Calls Tryz.prog 173 #[.agg #[.int .i64 W, .int .i64 H, .slice (some ⟨b, off, none⟩) (W * H) cap], .int .i64 X, .int .i64 Y, .int .i64 U, .int .i64 V] w fun e w' =>
      e = .returned (.int .i64 (sumBox (px W ps) l t m q / ((q : Int) * (m : Int)))) ∧ Below w.heap.size w w' := by
  have hbel := (Below.refl w.heap.size w).alloc (Nat.le_refl _) (.cells #[.int .i64 W, .int .i64 H, .slice (some ⟨b, off, none⟩) (W * H) cap] 24)
  have hF1 := hF.below hbel
  have hBx : Boxed (w.alloc (.cells #[.int .i64 W, .int .i64 H, .slice (some ⟨b, off, none⟩) (W * H) cap] 24)) w.heap.size b off cap W H := ⟨by simp, by simp [go_sem], by simp [go_sem], by simp [go_sem]⟩
  obtain ⟨w1, w2⟩ := hF.hW
  obtain ⟨g1, g2⟩ := hF.hH
  have hp := hF.px_bd
  clear hF
  go_enter Tryz.func173, Tryz.ntmps173
  go_wp2
  generalize (w.alloc (.cells #[.int .i64 W, .int .i64 H, .slice (some ⟨b, off, none⟩) (W * H) cap] 24)) = wb at hF1 hBx hbel ⊢
  go_loopw [11, 12, 13] (fun s n i wr => ∃ j : Nat, j ≤ q ∧ i = .int .i64 ((t : Int) + (j : Int)) ∧ s = .int .i64 (sumBox (px W ps) l t m j) ∧ n = .int .i64 ((j : Int) * (m : Int)) ∧ Below wb.heap.size wb wr) (fun _ _ i _ => t + q - (intOf i).toNat)
  case atStart => exact ⟨0, Nat.zero_le _, by simp, rfl, by simp, Below.refl _ _⟩
  case round =>
    obtain ⟨j, hj, rfl, rfl, rfl, hbr⟩ := hrel
    have sb := sumBox_bd (p := px W ps) (l := l) (t := t) (n := m) (by omega) (m := j) (fun x y _ _ _ _ => hp x y (by omega) (by omega))
    obtain ⟨_, k0, k1, k2⟩ := hBx.below hbr
    have n0 : 0 ≤ (j : Int) * (m : Int) := Int.mul_nonneg (by omega) (by omega)
    have n1 : (j : Int) * (m : Int) ≤ 16 * 16 := Int.mul_le_mul (by omega) (by omega) (by omega) (by omega)
    by_cases hlt : j < q
    · have hle : (t : Int) + (j : Int) ≤ (t : Int) + (q : Int) - 1 := by omega
      go_wp2
      go_loopw [11, 12, 14] (fun s n i wr => ∃ i' : Nat, i' ≤ m ∧ i = .int .i64 ((l : Int) + (i' : Int)) ∧ s = .int .i64 (sumBox (px W ps) l t m j + sumRow (px W ps) (t + j) l i') ∧ n = .int .i64 ((j : Int) * (m : Int) + (i' : Int)) ∧ Below wb.heap.size wb wr) (fun _ _ i _ => l + m - (intOf i).toNat)
      case atStart => exact ⟨0, Nat.zero_le _, by simp, by simp [sumRow], by simp, hbr⟩
      case round =>
        obtain ⟨i, hi, rfl, rfl, rfl, hbs⟩ := hrel
        have sr := sumRow_bd (p := px W ps) (y := t + j) (l := l) (n := i) (fun x _ _ => hp x (t + j) (by omega) (by omega))
        obtain ⟨_, kk0, kk1, kk2⟩ := hBx.below hbs
        by_cases hli : i < m
        · have hli2 : (l : Int) + (i : Int) ≤ (l : Int) + (m : Int) - 1 := by omega
          have hpp := hp (l + i) (t + j) (by omega) (by omega)
          go_wp2_with (go_at_call 17; refine (at_any (hF1.below hbs) _ _ (l + i) (t + j) (by omega) (by omega) (by omega) (by omega)).mono ?_; rintro e w2 ⟨rfl, hb2⟩)
          have hbw := hbs.trans (hb2.mono hbs.size)
          go_roundw
          case rel => exact ⟨i + 1, by omega, by go_num, by show _ = Value.int .i64 (_ + (sumRow (px W ps) (t + j) l i + px W ps (l + i) (t + j))); go_num, by go_num, hbw⟩
          case measure => simp [intOf]; omega
        · have hie : i = m := by omega
          subst hie
          go_wp2
          go_roundw
          case rel => exact ⟨j + 1, by omega, by go_num, rfl, by congr 1; show _ = ((j + 1 : Nat) : Int) * _; rw [Int.natCast_add, Int.add_mul]; simp, hbs⟩
          case measure => simp [intOf]; omega
    · have hje : j = q := by omega
      subst hje
      have m1 : 1 ≤ (j : Int) * (m : Int) := (side_mul (by simp [sideB]; omega) (by simp [sideB]; omega)).1
      go_wp2
      go_ret
      exact ⟨rfl, hbel.trans (hbr.mono hbel.size)⟩
end Go.Proofs.YtaenpgdmiaekcaaGreatDoor
/-
  ONEREF: the reference's OneSize and OneError.
-/
namespace Go.Proofs.YtaenpgdmiaekcaaGreatDoor
set_option maxRecDepth 100000
open Go.RowKit Im

theorem Boxed.belowN {w w' : World} {c b off cap W H B : Nat} (h : Boxed w c b off cap W H) (hb : Below B w w') (hlt : c < B) : Boxed w' c b off cap W H :=
  ⟨Nat.lt_of_lt_of_le h.lt hb.size, (hb.cell (p := ⟨c, 0, none⟩) hlt).trans h.c0, (hb.cell (p := ⟨c, 1, none⟩) hlt).trans h.c1, (hb.cell (p := ⟨c, 2, none⟩) hlt).trans h.c2⟩
theorem mean_eq (p : Nat → Nat → Int) (l m t q r b : Nat) (h1 : l + m = r + 1) (h2 : t + q = b + 1) : meanP p l t r b = sumBox p l t m q / ((q : Int) * (m : Int)) := by
  unfold meanP
  rw [show r + 1 - l = m by omega, show b + 1 - t = q by omega, show (r : Int) - l + 1 = m by omega, show (b : Int) - t + 1 = q by omega, Int.mul_comm]
/-- The reference's OneSize. -/
theorem oneSize_any (op : Int) (W H : Nat) (w : World) (hW : W ≤ 16) (hH : H ≤ 16) : Calls Tryz.prog 134 #[.int .i64 op, .int .i64 W, .int .i64 H] w fun e w' => e = .returned (.tuple #[.int .i64 (oneN op W), .int .i64 (oneN op H)]) ∧ w = w' := by
  by_cases h11 : op = 11
  · subst h11
    have e1 : (oneN 11 W : Int) = (W : Int) / 2 := by simp [oneN]
    have e2 : (oneN 11 H : Int) = (H : Int) / 2 := by simp [oneN]
    rw [e1, e2]; clear e1 e2
    go_enter Tryz.func134, Tryz.ntmps134
    go_wp2
    go_ret2
    exact ⟨rfl, rfl⟩
  by_cases h12 : op = 12
  · subst h12
    have e1 : (oneN 12 W : Int) = 2 * (W : Int) := by simp [oneN]
    have e2 : (oneN 12 H : Int) = 2 * (H : Int) := by simp [oneN]
    rw [e1, e2]; clear e1 e2
    go_enter Tryz.func134, Tryz.ntmps134
    go_wp2
    go_ret2
    exact ⟨rfl, rfl⟩
  · have g11 : (op == 11) = false := by simpa using h11
    have g12 : (op == 12) = false := by simpa using h12
    have e1 : oneN op W = W := by simp [oneN, h11, h12]
    have e2 : oneN op H = H := by simp [oneN, h11, h12]
    rw [e1, e2]; clear e1 e2
    go_enter Tryz.func134, Tryz.ntmps134
    go_wp2
    go_ret2
    exact ⟨rfl, rfl⟩
end Go.Proofs.YtaenpgdmiaekcaaGreatDoor
