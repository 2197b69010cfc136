/- Plain, Base, Apart, PlaceN, PlanN, PlanM, PlanM2, PlanM3: joined, in this order. -/
import Derived.Test.YtifokbkhcaajnaaGreatRows
import Derived.WalkKit
import Derived.WalkSpells
import Derived.WalkLawsBesides
/-
  PLAIN: numbers and lists alone, no Go: when an image is right, and the list of its numbers by columns and rows.
-/
namespace Go.Proofs.YtifokbkhcaajnaaGreat
set_option maxRecDepth 100000
namespace Im

def sideB (n : Int) : Bool := decide (1 ≤ n) && decide (n ≤ 16)
def numB (n : Int) : Bool := decide (0 ≤ n) && decide (n ≤ 65535)
def withinB (n a b : Int) : Bool := decide (a ≤ n) && decide (n ≤ b)
/-- A right image. -/
def fineB (W H : Int) (ps : List Int) : Bool := sideB W && sideB H && decide ((ps.length : Int) = W * H) && ps.all numB

/-- An error's number: none where b holds. -/
def okIf (b : Bool) (e : Int) : Int := if b then 0 else e
theorem okIf_true (e : Int) : okIf true e = 0 := rfl
theorem okIf_false (e : Int) : okIf false e = e := rfl
theorem side_iff (n : Int) : sideB n = true ↔ 1 ≤ n ∧ n ≤ 16 := by simp [sideB]
theorem num_iff (n : Int) : numB n = true ↔ 0 ≤ n ∧ n ≤ 65535 := by simp [numB]
theorem within_side (n : Int) : withinB n 1 16 = sideB n := rfl
theorem within_num (n : Int) : withinB n 0 65535 = numB n := rfl

theorem fine_iff (W H : Int) (ps : List Int) : fineB W H ps = true ↔ (1 ≤ W ∧ W ≤ 16) ∧ (1 ≤ H ∧ H ≤ 16) ∧ (ps.length : Int) = W * H ∧ ∀ n ∈ ps, 0 ≤ n ∧ n ≤ 65535 := by
  simp [fineB, side_iff, num_iff, and_assoc]

theorem side_mul {W H : Int} (h1 : sideB W = true) (h2 : sideB H = true) : 1 ≤ W * H ∧ W * H ≤ 256 := by
  have b1 := (side_iff W).1 h1
  have b2 := (side_iff H).1 h2
  have e1 : W * H ≤ 16 * 16 := Int.mul_le_mul b1.2 b2.2 (by omega) (by omega)
  have e2 : 1 * 1 ≤ W * H := Int.mul_le_mul b1.1 b2.1 (by omega) (by omega)
  omega
/-- The first k numbers are right. -/
theorem all_succ (ps : List Int) (k : Nat) (hk : k < ps.length) (h : (ps.take k).all numB = true) (h' : numB (ps[k]?.getD 0) = true) : (ps.take (k + 1)).all numB = true := by
  rw [List.getElem?_eq_getElem hk] at h'
  rw [List.take_succ_eq_append_getElem hk, List.all_append, h]
  simpa using h'
theorem all_not (ps : List Int) (k : Nat) (hk : k < ps.length) (h' : numB (ps[k]?.getD 0) = false) : ps.all numB = false := by
  rw [List.getElem?_eq_getElem hk] at h'
  rw [List.all_eq_false]
  exact ⟨ps[k], List.getElem_mem hk, by simpa using h'⟩

/-- The numbers of an image, row by row, as far as the n-th: at column x and row y stands g x y. -/
def pix (w : Nat) (g : Nat → Nat → Int) (n : Nat) : List Int := (List.range n).map fun i => g (i % w) (i / w)
theorem pix_length (w : Nat) (g : Nat → Nat → Int) (n : Nat) : (pix w g n).length = n := by simp [pix]
theorem pix_zero (w : Nat) (g : Nat → Nat → Int) : pix w g 0 = [] := rfl
theorem pix_succ (w : Nat) (g : Nat → Nat → Int) (x y : Nat) (h : x < w) : pix w g (y * w + x + 1) = pix w g (y * w + x) ++ [g x y] := by
  have e1 : (y * w + x) % w = x := by rw [Nat.mul_comm, Nat.mul_add_mod]; exact Nat.mod_eq_of_lt h
  have e2 : (y * w + x) / w = y := by rw [Nat.mul_comm, Nat.mul_add_div (by omega), Nat.div_eq_of_lt h]; rfl
  simp [pix, List.range_succ, e1, e2]
theorem pix_getD (w : Nat) (g : Nat → Nat → Int) (n i : Nat) (h : i < n) : (pix w g n).getD i 0 = g (i % w) (i / w) := by
  simp [pix, List.getD, h]
theorem pix_at (w h : Nat) (g : Nat → Nat → Int) (x y : Nat) (hx : x < w) (hy : y < h) : (pix w g (w * h)).getD (y * w + x) 0 = g x y := by
  have e1 : (y * w + x) % w = x := by rw [Nat.mul_comm, Nat.mul_add_mod]; exact Nat.mod_eq_of_lt hx
  have e2 : (y * w + x) / w = y := by rw [Nat.mul_comm, Nat.mul_add_div (by omega), Nat.div_eq_of_lt hx]; rfl
  rw [pix_getD, e1, e2]
  calc y * w + x < y * w + w := by omega
    _ = (y + 1) * w := by rw [Nat.add_mul]; omega
    _ ≤ h * w := Nat.mul_le_mul_right _ hy
    _ = w * h := Nat.mul_comm _ _
theorem pix_congr (w h : Nat) (g g' : Nat → Nat → Int) (e : ∀ x y, x < w → y < h → g x y = g' x y) : pix w g (w * h) = pix w g' (w * h) := by
  unfold pix
  apply List.map_congr_left
  intro i hi
  simp at hi
  have hw : 0 < w := by rcases Nat.eq_zero_or_pos w with rfl | h'; · simp at hi
                        · exact h'
  exact e _ _ (Nat.mod_lt _ hw) (Nat.div_lt_of_lt_mul hi)
/-- The place of column x and row y lies in the image. -/
theorem place_lt {w h x y : Nat} (hx : x < w) (hy : y < h) : y * w + x < w * h := by
  calc y * w + x < y * w + w := by omega
    _ = (y + 1) * w := by rw [Nat.add_mul]; omega
    _ ≤ h * w := Nat.mul_le_mul_right _ hy
    _ = w * h := Nat.mul_comm _ _
theorem pix_all (w n : Nat) (g : Nat → Nat → Int) (hw : 0 < w) (h : ∀ x y, x < w → y * w + x < n → 0 ≤ g x y ∧ g x y ≤ 65535) : ∀ m ∈ pix w g n, 0 ≤ m ∧ m ≤ 65535 := by
  intro m hm
  simp [pix] at hm
  obtain ⟨i, hi, rfl⟩ := hm
  refine h _ _ (Nat.mod_lt _ hw) ?_
  have := Nat.div_add_mod i w
  rw [Nat.mul_comm] at this
  omega
/-- The number at column x and row y, of an image of W columns. -/
def px (W : Nat) (ps : List Int) (x y : Nat) : Int := ps.getD (y * W + x) 0
/-- The sum of n numbers of row y from column l on; of m such rows from row t on. -/
def sumRow (p : Nat → Nat → Int) (y l : Nat) : Nat → Int
  | 0 => 0
  | n + 1 => sumRow p y l n + p (l + n) y
def sumBox (p : Nat → Nat → Int) (l t n : Nat) : Nat → Int
  | 0 => 0
  | m + 1 => sumBox p l t n m + sumRow p (t + m) l n
theorem sumRow_bd {p : Nat → Nat → Int} {y l : Nat} : ∀ {n : Nat}, (∀ x, l ≤ x → x < l + n → 0 ≤ p x y ∧ p x y ≤ 65535) → 0 ≤ sumRow p y l n ∧ sumRow p y l n ≤ 65535 * n
  | 0, _ => by simp [sumRow]
  | n + 1, h => by
    have h1 := sumRow_bd (p := p) (y := y) (l := l) (n := n) (fun x h1 h2 => h x h1 (by omega))
    have h2 := h (l + n) (by omega) (by omega)
    unfold sumRow
    omega
theorem sumBox_bd {p : Nat → Nat → Int} {l t n : Nat} (hn : n ≤ 16) : ∀ {m : Nat}, (∀ x y, l ≤ x → x < l + n → t ≤ y → y < t + m → 0 ≤ p x y ∧ p x y ≤ 65535) → 0 ≤ sumBox p l t n m ∧ sumBox p l t n m ≤ 65535 * 16 * m
  | 0, _ => by simp [sumBox]
  | m + 1, h => by
    have h1 := sumBox_bd (p := p) (l := l) (t := t) (n := n) hn (m := m) (fun x y h1 h2 h3 h4 => h x y h1 h2 h3 (by omega))
    have h2 := sumRow_bd (p := p) (y := t + m) (l := l) (n := n) (fun x h1 h2 => h x (t + m) h1 h2 (by omega) (by omega))
    unfold sumBox
    omega
/-- The mean, rounded down, of the numbers from column l to column r and row t to row b. -/
def meanP (p : Nat → Nat → Int) (l t r b : Nat) : Int := sumBox p l t (r + 1 - l) (b + 1 - t) / (((r : Int) - l + 1) * ((b : Int) - t + 1))
end Im
end Go.Proofs.YtifokbkhcaajnaaGreat
/-
  BASE: how a list of numbers lies in memory ('Ints'), what stays of it, and the smallest functions.
-/
namespace Go.Proofs.YtifokbkhcaajnaaGreat
set_option maxRecDepth 100000
open Go.RowKit Im

/-- A slice's elements are the numbers ps: nothing is asked of its address where there are none. 'base': no block below it holds them. -/
structure Ints (base : Nat) (w : World) (a : Option Addr) (len : Nat) (ps : List Int) : Prop where
  leng : ps.length = len
  big : len ≤ 9223372036854775807
  cells : ps = [] ∨ ∃ b off, a = some ⟨b, off, none⟩ ∧ base ≤ b ∧ b < w.heap.size ∧ ∀ j, j < len → w.cell? ⟨b, off + j, none⟩ = some (.int .i64 (ps.getD j 0))

theorem Ints.below {base : Nat} {w w' : World} {a : Option Addr} {len : Nat} {ps : List Int} (h : Ints base w a len ps) {B : Nat} (hB : w.heap.size ≤ B) (hb : Below B w w') : Ints base w' a len ps := by
  refine ⟨h.leng, h.big, ?_⟩
  rcases h.cells with e | ⟨b, off, ha, h0, hl, hc⟩
  · exact .inl e
  · exact .inr ⟨b, off, ha, h0, Nat.lt_of_lt_of_le hl hb.size, fun j hj => (hb.cell (p := ⟨b, off + j, none⟩) (by show b < B; omega)).trans (hc j hj)⟩
theorem Ints.mono {base base' : Nat} {w : World} {a : Option Addr} {len : Nat} {ps : List Int} (h : Ints base w a len ps) (hb : base' ≤ base) : Ints base' w a len ps := by
  refine ⟨h.leng, h.big, ?_⟩
  rcases h.cells with e | ⟨b, off, ha, h0, hl, hc⟩
  · exact .inl e
  · exact .inr ⟨b, off, ha, by omega, hl, hc⟩
theorem Ints.setCell {base : Nat} {w : World} {a : Option Addr} {len : Nat} {ps : List Int} (h : Ints base w a len ps) {p : Addr} (hp : p.block < base) (u : Value) : Ints base (w.setCell p u) a len ps := by
  refine ⟨h.leng, h.big, ?_⟩
  rcases h.cells with e | ⟨b, off, ha, h0, hl, hc⟩
  · exact .inl e
  · refine .inr ⟨b, off, ha, h0, by simpa [World.setCell] using hl, fun j hj => ?_⟩
    rw [World.cell?_of_block (w := w) (Below.heap_setCell w p u b (by omega))]
    exact hc j hj
theorem Ints.nil (base : Nat) (w : World) : Ints base w none 0 [] := ⟨rfl, by omega, .inl rfl⟩

theorem bcell {W w1 : World} (hb : Below W.heap.size W w1) : (∀ b o, b < W.heap.size → w1.cell? ⟨b, o, none⟩ = W.cell? ⟨b, o, none⟩) ∧ (∀ b o, b < W.heap.size → w1.frozen? ⟨b, o, none⟩ = W.frozen? ⟨b, o, none⟩) :=
  ⟨fun b o h => hb.cell (p := ⟨b, o, none⟩) h, fun b o h => hb.frozen (p := ⟨b, o, none⟩) h⟩

theorem Tryz.info3 : (Tryz.prog.info? 3).map (fun i => (i.zero, i.size, i.bytes)) = some (some (.int .i64 0), 1, 8) := by kernel_rfl

theorem isSide_any (n : Int) (w : World) : Calls Tryz.prog 103 #[.int .i64 n] w fun e w' => e = .returned (.bool (sideB n)) ∧ w = w' := by
  by_cases h1 : 1 ≤ n
  · by_cases h2 : n ≤ 16
    · go_enter Tryz.func103, Tryz.ntmps103
      go_wp2
      go_ret
      exact ⟨by simp [sideB, h1, h2], rfl⟩
    · go_enter Tryz.func103, Tryz.ntmps103
      go_wp2
      go_ret
      exact ⟨by simp [sideB, h1, h2], rfl⟩
  · go_enter Tryz.func103, Tryz.ntmps103
    go_wp2
    go_ret
    exact ⟨by simp [sideB]; omega, rfl⟩
theorem isNumber_any (n : Int) (w : World) : Calls Tryz.prog 104 #[.int .i64 n] w fun e w' => e = .returned (.bool (numB n)) ∧ w = w' := by
  by_cases h1 : 0 ≤ n
  · by_cases h2 : n ≤ 65535
    · go_enter Tryz.func104, Tryz.ntmps104
      go_wp2
      go_ret
      exact ⟨by simp [numB, h1, h2], rfl⟩
    · go_enter Tryz.func104, Tryz.ntmps104
      go_wp2
      go_ret
      exact ⟨by simp [numB, h1, h2], rfl⟩
  · go_enter Tryz.func104, Tryz.ntmps104
    go_wp2
    go_ret
    exact ⟨by simp [numB]; omega, rfl⟩
theorem within_any (n a b : Int) (w : World) : Calls Tryz.prog 45 #[.int .i64 n, .int .i64 a, .int .i64 b] w fun e w' => e = .returned (.bool (withinB n a b)) ∧ w = w' := by
  by_cases h1 : a ≤ n
  · by_cases h2 : n ≤ b
    · go_enter Tryz.func45, Tryz.ntmps45
      go_wp2
      go_ret
      exact ⟨by simp [withinB, h1, h2], rfl⟩
    · go_enter Tryz.func45, Tryz.ntmps45
      go_wp2
      go_ret
      exact ⟨by simp [withinB, h1, h2], rfl⟩
  · go_enter Tryz.func45, Tryz.ntmps45
    go_wp2
    go_ret
    exact ⟨by simp [withinB]; omega, rfl⟩
end Go.Proofs.YtifokbkhcaajnaaGreat
/-
  APART: numbers alone: stretches that lie apart in 0 .. N-1 are together at most N long.
-/
namespace Go.Proofs.YtifokbkhcaajnaaGreat
set_option maxRecDepth 100000

theorem apart_sum : ∀ (n : Nat) (l : List (Int × Int)) (N : Int), l.length = n → 0 ≤ N → (∀ x ∈ l, 0 ≤ x.1 ∧ 1 ≤ x.2 ∧ x.1 + x.2 ≤ N) → l.Pairwise (fun a b => a.1 + a.2 ≤ b.1 ∨ b.1 + b.2 ≤ a.1) → (l.map Prod.snd).sum ≤ N
  | 0, l, N, hl, hN, _, _ => by
    have : l = [] := List.length_eq_zero_iff.1 hl
    subst this
    simpa using hN
  | n + 1, [], N, hl, _, _, _ => by simp at hl
  | n + 1, x :: l, N, hl, hN, hb, hp => by
    have hx := hb x (List.mem_cons_self ..)
    rw [List.pairwise_cons] at hp
    have ih := apart_sum n (l.map fun y => (if x.1 + x.2 ≤ y.1 then y.1 - x.2 else y.1, y.2)) (N - x.2) (by simpa using hl) (by omega)
      (fun z hz => by
        obtain ⟨y, hy, rfl⟩ := List.mem_map.1 hz
        have h1 := hb y (List.mem_cons_of_mem _ hy)
        have h2 := hp.1 y hy
        dsimp only
        split <;> omega)
      (by
        rw [List.pairwise_map]
        refine (List.pairwise_iff_forall_sublist.2 fun {a b} hs => ?_)
        have hab := List.pairwise_iff_forall_sublist.1 hp.2 hs
        have ha : a ∈ l := hs.subset (List.mem_cons_self ..)
        have hbm : b ∈ l := hs.subset (List.mem_cons_of_mem _ (List.mem_cons_self ..))
        have h1 := hp.1 a ha
        have h2 := hp.1 b hbm
        have h3 := hb a (List.mem_cons_of_mem _ ha)
        have h4 := hb b (List.mem_cons_of_mem _ hbm)
        dsimp only
        split <;> split <;> omega)
    have e : (l.map fun y => (if x.1 + x.2 ≤ y.1 then y.1 - x.2 else y.1, y.2)).map Prod.snd = l.map Prod.snd := by rw [List.map_map]; rfl
    rw [e] at ih
    rw [List.map_cons, List.sum_cons]
    omega
end Go.Proofs.YtifokbkhcaajnaaGreat
/-
  PLACEN: numbers alone: a walk over what is busy, rising by where it begins, ends at the least free place.
-/
namespace Go.Proofs.YtifokbkhcaajnaaGreat
set_option maxRecDepth 100000

/-- Size numbers from p on meet nothing that is busy. -/
def freeAt (l : List (Int × Int)) (size p : Int) : Prop := ∀ b ∈ l, p + size ≤ b.1 ∨ b.2 + 1 ≤ p
/-- The walk of Place. -/
def placeN (size : Int) : List (Int × Int) → Int → Int
  | [], p => p
  | b :: l, p => if p + size ≤ b.1 then p else placeN size l (max p (b.2 + 1))
theorem placeN_least (size : Int) : ∀ (l : List (Int × Int)) (p : Int), l.Pairwise (fun a b => a.1 ≤ b.1) → p ≤ placeN size l p ∧ freeAt l size (placeN size l p) ∧ ∀ q, p ≤ q → freeAt l size q → placeN size l p ≤ q
  | [], p, _ => ⟨Int.le_refl _, (fun b hb => by cases hb), fun q hq _ => hq⟩
  | b :: l, p, hs => by
    rw [List.pairwise_cons] at hs
    unfold placeN
    by_cases h : p + size ≤ b.1
    · rw [if_pos h]
      refine ⟨Int.le_refl _, fun c hc => ?_, fun q hq _ => hq⟩
      rcases List.mem_cons.1 hc with rfl | hc
      · exact .inl h
      · have := hs.1 c hc; exact .inl (by omega)
    · rw [if_neg h]
      obtain ⟨h1, h2, h3⟩ := placeN_least size l (max p (b.2 + 1)) hs.2
      refine ⟨by omega, fun c hc => ?_, fun q hq hf => ?_⟩
      · rcases List.mem_cons.1 hc with rfl | hc
        · exact .inr (by omega)
        · exact h2 c hc
      · have hb := hf b (List.mem_cons_self ..)
        exact h3 q (by omega) (fun c hc => hf c (List.mem_cons_of_mem _ hc))
/-- The least free place is one alone. -/
theorem placeN_only {size : Int} {l l' : List (Int × Int)} (hm : ∀ b, b ∈ l ↔ b ∈ l') (hs : l.Pairwise (fun a b => a.1 ≤ b.1)) {r : Int} (h0 : 0 ≤ r) (hf : freeAt l' size r) (hr : ∀ q, 0 ≤ q → freeAt l' size q → r ≤ q) : placeN size l 0 = r := by
  obtain ⟨h1, h2, h3⟩ := placeN_least size l 0 hs
  have a := h3 r h0 (fun b hb => hf b ((hm b).1 hb))
  have b := hr _ h1 (fun b hb => h2 b ((hm b).2 hb))
  omega
/-- The place is no greater than where all that is busy has ended. -/
theorem placeN_top {size T : Int} : ∀ {l : List (Int × Int)} {p : Int}, (∀ b ∈ l, b.2 + 1 ≤ T) → p ≤ T → placeN size l p ≤ T
  | [], p, _, hp => hp
  | b :: l, p, hb, hp => by
    unfold placeN
    split
    · exact hp
    · have := hb b (List.mem_cons_self ..)
      exact placeN_top (fun c hc => hb c (List.mem_cons_of_mem _ hc)) (by omega)
/-- All of one size: the place is a multiple of it, one further for each that is busy at most. -/
theorem placeN_mult {s : Int} (hs : 1 ≤ s) : ∀ {l : List (Int × Int)} {p : Int}, (∀ b ∈ l, ∃ k, b.1 = k * s ∧ b.2 + 1 = k * s + s) → (∃ j, p = j * s) → (∃ j, placeN s l p = j * s) ∧ placeN s l p ≤ p + l.length * s
  | [], p, _, hp => ⟨hp, by simp [placeN]⟩
  | b :: l, p, hb, ⟨j, hj⟩ => by
    unfold placeN
    have hls : 0 ≤ (l.length : Int) * s := Int.mul_nonneg (by omega) (by omega)
    have hlc : (((b :: l).length : Nat) : Int) * s = (l.length : Int) * s + s := by rw [List.length_cons]; push_cast; rw [Int.add_mul]; omega
    obtain ⟨k, h1, h2⟩ := hb b (List.mem_cons_self ..)
    split
    · exact ⟨⟨j, hj⟩, by omega⟩
    · rename_i hn
      have hk : k ≤ j := by
        have h3 : k * s < (j + 1) * s := by rw [Int.add_mul]; omega
        have := Int.lt_of_mul_lt_mul_right h3 (by omega)
        omega
      have hks : k * s ≤ j * s := Int.mul_le_mul_of_nonneg_right hk (by omega)
      have hm : ∃ i, max p (b.2 + 1) = i * s := by
        rcases Int.le_total p (b.2 + 1) with h | h
        · exact ⟨k + 1, by rw [Int.max_eq_right h, Int.add_mul]; omega⟩
        · exact ⟨j, by rw [Int.max_eq_left h]; exact hj⟩
      obtain ⟨h4, h5⟩ := placeN_mult hs (l := l) (p := max p (b.2 + 1)) (fun c hc => hb c (List.mem_cons_of_mem _ hc)) hm
      exact ⟨h4, by omega⟩
end Go.Proofs.YtifokbkhcaajnaaGreat
/-
  PLANN: numbers alone: at which step of an order a pass is done.
-/
namespace Go.Proofs.YtifokbkhcaajnaaGreat
set_option maxRecDepth 100000

/-- The step of a pass in an order; -1: none. -/
def stepAt : List Int → Int → Int
  | [], _ => -1
  | o :: l, p => if o = p then 0 else if stepAt l p < 0 then -1 else stepAt l p + 1
theorem stepAt_bd : ∀ (l : List Int) (p : Int), -1 ≤ stepAt l p ∧ stepAt l p < l.length
  | [], p => by simp [stepAt]
  | o :: l, p => by
    have ih := stepAt_bd l p
    unfold stepAt
    rw [List.length_cons]
    split
    · omega
    · split <;> omega
theorem stepAt_mem : ∀ {l : List Int} {p : Int}, 0 ≤ stepAt l p ↔ p ∈ l
  | [], p => by simp [stepAt]
  | o :: l, p => by
    have ih := stepAt_mem (l := l) (p := p)
    unfold stepAt
    by_cases h : o = p
    · subst h; simp
    · rw [if_neg h]
      have h' : ¬ p = o := fun e => h e.symm
      rw [List.mem_cons, or_iff_right h', ← ih]
      split <;> omega
theorem stepAt_get : ∀ {l : List Int} {p : Int}, 0 ≤ stepAt l p → l.getD (stepAt l p).toNat 0 = p
  | [], p, h => by simp [stepAt] at h
  | o :: l, p, h => by
    unfold stepAt at h ⊢
    by_cases ho : o = p
    · rw [if_pos ho]; simpa using ho
    · rw [if_neg ho] at h ⊢
      by_cases hn : stepAt l p < 0
      · rw [if_pos hn] at h; omega
      · rw [if_neg hn]
        have ih := stepAt_get (l := l) (p := p) (by omega)
        have e : (stepAt l p + 1).toNat = (stepAt l p).toNat + 1 := by omega
        rw [e, List.getD_cons_succ]
        exact ih
theorem stepAt_snoc : ∀ {l : List Int} {o : Int} (p : Int), o ∉ l → stepAt (l ++ [o]) p = if o = p then (l.length : Int) else stepAt l p
  | [], o, p, _ => by simp [stepAt]
  | x :: l, o, p, h => by
    rw [List.mem_cons, not_or] at h
    have ih := stepAt_snoc (l := l) (o := o) p h.2
    show (if x = p then (0 : Int) else if stepAt (l ++ [o]) p < 0 then -1 else stepAt (l ++ [o]) p + 1) = if o = p then (((x :: l).length : Nat) : Int) else (if x = p then (0 : Int) else if stepAt l p < 0 then -1 else stepAt l p + 1)
    rw [ih]
    by_cases hx : x = p
    · have ho : o ≠ p := fun e => h.1 (by rw [e, hx])
      rw [if_pos hx, if_neg ho, if_pos hx]
    · rw [if_neg hx]
      by_cases ho : o = p
      · rw [if_pos ho, if_pos ho, if_neg (by omega), List.length_cons]; push_cast; rfl
      · rw [if_neg ho, if_neg ho, if_neg hx]
/-- No pass is there twice: just then each is found where it stands. -/
theorem stepAt_self : ∀ {l : List Int}, l.Nodup → ∀ {i : Nat}, i < l.length → stepAt l (l.getD i 0) = i
  | [], _, i, h => by simp at h
  | x :: l, hn, 0, _ => by simp [stepAt]
  | x :: l, hn, i + 1, h => by
    rw [List.nodup_cons] at hn
    rw [List.length_cons] at h
    have hi : i < l.length := by omega
    have ih := stepAt_self hn.2 hi
    rw [List.getD_cons_succ]
    have hm : l.getD i 0 ∈ l := by rw [List.getD_eq_getElem?_getD, List.getElem?_eq_getElem hi]; exact List.getElem_mem hi
    have hx : x ≠ l.getD i 0 := fun e => hn.1 (by rw [e]; exact hm)
    unfold stepAt
    rw [if_neg hx, ih, if_neg (by omega)]
    omega
end Go.Proofs.YtifokbkhcaajnaaGreat
/-
  PLANM: numbers alone: when a plan is in order, its spans, its peak, its floor and whether images clash: as the program goes through them, and as the document says them.
-/
namespace Go.Proofs.YtifokbkhcaajnaaGreat
set_option maxRecDepth 100000

/-- What a plan is held against: how many passes there are, which each takes, which are needed, how many numbers each one's image has, and which one is shown. -/
structure Gp where
  N : Nat
  src : Nat → List Int
  kept : Nat → Bool
  ar : Nat → Int
  last : Int
/-- A right one. -/
structure Gp.Right (G : Gp) : Prop where
  hN : 1 ≤ G.N ∧ G.N ≤ 12
  src : ∀ k, k < G.N → ∀ s ∈ G.src k, 0 ≤ s ∧ s < k
  ar : ∀ k, k < G.N → 1 ≤ G.ar k ∧ G.ar k ≤ 256
  last : 0 ≤ G.last ∧ G.last < G.N
  kept : G.kept G.last.toNat = true

/-- p holds of all below n. -/
def allTo (p : Nat → Bool) : Nat → Bool
  | 0 => true
  | k + 1 => allTo p k && p k
theorem allTo_iff (p : Nat → Bool) : ∀ n, allTo p n = true ↔ ∀ k, k < n → p k = true
  | 0 => by simp [allTo]
  | n + 1 => by
    rw [allTo, Bool.and_eq_true, allTo_iff p n]
    constructor
    · intro ⟨h, h'⟩ k hk
      by_cases e : k = n
      · rw [e]; exact h'
      · exact h k (by omega)
    · intro h
      exact ⟨fun k hk => h k (by omega), h n (by omega)⟩
theorem allTo_succ {p : Nat → Bool} {k : Nat} (h : allTo p k = true) (h' : p k = true) : allTo p (k + 1) = true := by simp [allTo, h, h']
theorem allTo_not {p : Nat → Bool} {k n : Nat} (hk : k < n) (h : p k = false) : allTo p n = false := by
  rw [Bool.eq_false_iff]
  intro e
  have := (allTo_iff p n).1 e k hk
  rw [h] at this
  cases this
theorem allTo_congr {p q : Nat → Bool} {n : Nat} (h : ∀ k, k < n → p k = q k) : allTo p n = allTo q n := by
  rw [Bool.eq_iff_iff, allTo_iff, allTo_iff]
  exact ⟨fun a k hk => (h k hk) ▸ a k hk, fun a k hk => (h k hk).symm ▸ a k hk⟩

/-- As the program asks. -/
def onceP (os : List Int) (N k : Nat) : Bool := decide (0 ≤ os.getD k 0) && decide (os.getD k 0 < N) && decide (stepAt (os.take k) (os.getD k 0) < 0)
def onceB (os : List Int) (N : Nat) : Bool := allTo (onceP os N) os.length
def hasP (kept : Nat → Bool) (os : List Int) (k : Nat) : Bool := !kept k || decide (0 ≤ stepAt os k)
def hasAllB (kept : Nat → Bool) (os : List Int) (N : Nat) : Bool := allTo (hasP kept os) N
def behS (os : List Int) (step : Int) (l : List Int) (t : Nat) : Bool := decide (0 ≤ stepAt os (l.getD t 0)) && decide (stepAt os (l.getD t 0) ≤ step)
def behP (src : Nat → List Int) (os : List Int) (k : Nat) : Bool := decide (stepAt os k < 0) || allTo (behS os (stepAt os k) (src k)) (src k).length
def behB (src : Nat → List Int) (os : List Int) (N : Nat) : Bool := allTo (behP src os) N
def plcP (os pl : List Int) (k : Nat) : Bool := if 0 ≤ stepAt os k then decide (0 ≤ pl.getD k 0) && decide (pl.getD k 0 ≤ 4096) else decide (pl.getD k 0 = -1)
def plcB (os pl : List Int) (N : Nat) : Bool := decide (pl.length = N) && allTo (plcP os pl) N
def ordB (G : Gp) (os pl : List Int) : Bool := onceB os G.N && hasAllB G.kept os G.N && behB G.src os G.N && plcB os pl G.N
/-- As the document says it. -/
def refS (os : List Int) (i : Int) (l : List Int) (t : Nat) : Bool := decide (0 ≤ stepAt os (l.getD t 0)) && decide (stepAt os (l.getD t 0) < i)
def refP (src : Nat → List Int) (N : Nat) (os : List Int) (i : Nat) : Bool := decide (0 ≤ os.getD i 0) && decide (os.getD i 0 ≤ (N : Int) - 1) && decide (stepAt os (os.getD i 0) = i) && allTo (refS os i (src (os.getD i 0).toNat)) (src (os.getD i 0).toNat).length
def refQ (kept : Nat → Bool) (os pl : List Int) (k : Nat) : Bool := !((kept k && !decide (0 ≤ stepAt os k)) || (decide (0 ≤ stepAt os k) && !(decide (0 ≤ pl.getD k 0) && decide (pl.getD k 0 ≤ 4096))) || (!decide (0 ≤ stepAt os k) && !decide (pl.getD k 0 = -1)))
def refB (G : Gp) (os pl : List Int) : Bool := decide (pl.length = G.N) && decide (os.length ≤ G.N) && allTo (refP G.src G.N os) os.length && allTo (refQ G.kept os pl) G.N

theorem getD_in {l : List Int} {k : Nat} (h : k < l.length) : l.getD k 0 ∈ l := by
  rw [List.getD_eq_getElem?_getD, List.getElem?_eq_getElem h]; exact List.getElem_mem h
theorem mem_getD {l : List Int} {x : Int} (h : x ∈ l) : ∃ k, k < l.length ∧ l.getD k 0 = x := by
  obtain ⟨k, hk, e⟩ := List.mem_iff_getElem.1 h
  exact ⟨k, hk, by rw [List.getD_eq_getElem?_getD, List.getElem?_eq_getElem hk]; exact e⟩
theorem once_to {os : List Int} {N : Nat} : ∀ {n : Nat}, n ≤ os.length → (allTo (onceP os N) n = true ↔ (∀ o ∈ os.take n, 0 ≤ o ∧ o < N) ∧ (os.take n).Nodup)
  | 0, _ => by simp [allTo]
  | n + 1, hn => by
    have ih := once_to (os := os) (N := N) (n := n) (by omega)
    have hl : n < os.length := by omega
    rw [allTo, Bool.and_eq_true, ih, List.take_succ_eq_append_getElem hl]
    have e : os.getD n 0 = os[n] := by rw [List.getD_eq_getElem?_getD, List.getElem?_eq_getElem hl]; rfl
    unfold onceP
    rw [e]
    simp only [Bool.and_eq_true, decide_eq_true_eq, List.mem_append, List.mem_singleton, List.nodup_append, List.nodup_cons, List.not_mem_nil, not_false_eq_true, List.nodup_nil, and_true, true_and]
    have hm : stepAt (os.take n) os[n] < 0 ↔ os[n] ∉ os.take n := by rw [← stepAt_mem]; omega
    rw [hm]
    constructor
    · rintro ⟨⟨h1, h2⟩, ⟨h3, h4⟩, h5⟩
      refine ⟨fun o ho => ?_, h2, fun a ha b hb => ?_⟩
      · rcases ho with ho | rfl
        · exact h1 o ho
        · exact ⟨h3, h4⟩
      · subst hb; intro e; subst e; exact h5 ha
    · rintro ⟨h1, h2, h3⟩
      exact ⟨⟨fun o ho => h1 o (.inl ho), h2⟩, h1 _ (.inr rfl), fun hm => h3 _ hm _ rfl rfl⟩
theorem onceB_iff {os : List Int} {N : Nat} : onceB os N = true ↔ (∀ o ∈ os, 0 ≤ o ∧ o < N) ∧ os.Nodup := by
  have := once_to (os := os) (N := N) (n := os.length) (Nat.le_refl _)
  rwa [List.take_length] at this
/-- Different passes among N: N at most. -/
theorem nodup_len : ∀ (N : Nat) (l : List Int), l.Nodup → (∀ x ∈ l, 0 ≤ x ∧ x < N) → l.length ≤ N
  | 0, l, _, h => by
    cases l with
    | nil => simp
    | cons x l => have := h x (List.mem_cons_self ..); omega
  | N + 1, l, hn, h => by
    have ih := nodup_len N (l.filter fun x => !decide (x = (N : Int))) (hn.filter _) (fun x hx => by
      obtain ⟨h1, h2⟩ := List.mem_filter.1 hx
      have := h x h1
      simp at h2
      omega)
    have h2 : ∀ (l : List Int), l.Nodup → l.length ≤ (l.filter fun x => !decide (x = (N : Int))).length + 1 := by
      intro l hl
      induction l with
      | nil => simp
      | cons y l ih =>
        rw [List.nodup_cons] at hl
        by_cases hy : y = (N : Int)
        · have : (l.filter fun x => !decide (x = (N : Int))) = l := by
            rw [List.filter_eq_self]
            intro x hx
            have : x ≠ (N : Int) := fun e => hl.1 (by rw [hy, ← e]; exact hx)
            simpa using this
          simp [hy, this]
        · have := ih hl.2
          simp [hy]
          exact this
    have := h2 l hn
    omega
theorem nodup_of_steps : ∀ {l : List Int}, (∀ i, i < l.length → stepAt l (l.getD i 0) = i) → l.Nodup
  | [], _ => List.nodup_nil
  | x :: l, h => by
    rw [List.nodup_cons]
    constructor
    · intro hm
      obtain ⟨k, hk, e⟩ := mem_getD hm
      have := h (k + 1) (by simpa using hk)
      rw [List.getD_cons_succ, e] at this
      simp [stepAt] at this
      omega
    · refine nodup_of_steps fun i hi => ?_
      have := h (i + 1) (by simpa using hi)
      rw [List.getD_cons_succ] at this
      unfold stepAt at this
      split at this
      · omega
      · split at this <;> omega
/-- The program asks what the document says. -/
theorem ord_ref {G : Gp} (hG : G.Right) (os pl : List Int) : ordB G os pl = refB G os pl := by
  rw [Bool.eq_iff_iff]
  unfold ordB refB hasAllB behB plcB
  simp only [Bool.and_eq_true, decide_eq_true_eq]
  rw [onceB_iff, allTo_iff, allTo_iff, allTo_iff, allTo_iff, allTo_iff]
  constructor
  · rintro ⟨⟨⟨⟨h1, h2⟩, h3⟩, h4⟩, h5, h6⟩
    refine ⟨⟨⟨h5, nodup_len _ _ h2 h1⟩, fun i hi => ?_⟩, fun k hk => ?_⟩
    · have ho := h1 _ (getD_in hi)
      have hs := stepAt_self h2 hi
      have hb := h4 (os.getD i 0).toNat (by omega)
      have et : (((os.getD i 0).toNat : Nat) : Int) = os.getD i 0 := by omega
      unfold behP at hb
      rw [et, hs, Bool.or_eq_true, allTo_iff] at hb
      unfold refP
      simp only [Bool.and_eq_true, decide_eq_true_eq]
      refine ⟨⟨⟨ho.1, by omega⟩, hs⟩, ?_⟩
      rw [allTo_iff]
      intro t ht
      rcases hb with hb | hb
      · simp at hb; omega
      · have := hb t ht
        unfold behS at this
        unfold refS
        simp only [Bool.and_eq_true, decide_eq_true_eq] at this ⊢
        refine ⟨this.1, ?_⟩
        have hsrc := hG.src (os.getD i 0).toNat (by omega) _ (getD_in ht)
        have hne : stepAt os ((G.src (os.getD i 0).toNat).getD t 0) ≠ i := by
          intro e
          have := stepAt_get this.1
          rw [e, Int.toNat_natCast] at this
          omega
        omega
    · have a := h3 k hk
      have b := h6 k hk
      unfold hasP at a
      unfold plcP at b
      unfold refQ
      by_cases hd : 0 ≤ stepAt os k
      · rw [if_pos hd] at b
        simp only [Bool.and_eq_true, decide_eq_true_eq] at b
        simp [hd]
        simpa using b
      · rw [if_neg hd] at b
        simp [hd] at a b
        simp [hd, a, b]
  · rintro ⟨⟨⟨h5, hl⟩, h7⟩, h8⟩
    have h7' : ∀ i, i < os.length → (0 ≤ os.getD i 0 ∧ os.getD i 0 < G.N) ∧ stepAt os (os.getD i 0) = i ∧ ∀ t, t < (G.src (os.getD i 0).toNat).length → 0 ≤ stepAt os ((G.src (os.getD i 0).toNat).getD t 0) ∧ stepAt os ((G.src (os.getD i 0).toNat).getD t 0) < i := by
      intro i hi
      have := h7 i hi
      unfold refP at this
      simp only [Bool.and_eq_true, decide_eq_true_eq, allTo_iff] at this
      obtain ⟨⟨⟨a, b⟩, c⟩, d⟩ := this
      refine ⟨⟨a, by omega⟩, c, fun t ht => ?_⟩
      have := d t ht
      unfold refS at this
      simpa using this
    have h1 : ∀ o ∈ os, 0 ≤ o ∧ o < G.N := fun o ho => by
      obtain ⟨i, hi, rfl⟩ := mem_getD ho
      exact (h7' i hi).1
    have h2 : os.Nodup := nodup_of_steps fun i hi => (h7' i hi).2.1
    refine ⟨⟨⟨⟨h1, h2⟩, fun k hk => ?_⟩, fun k hk => ?_⟩, h5, fun k hk => ?_⟩
    · have := h8 k hk
      unfold refQ at this
      unfold hasP
      by_cases hd : 0 ≤ stepAt os k
      · simp [hd]
      · simp [hd] at this
        simp [hd, this]
    · unfold behP
      rw [Bool.or_eq_true, allTo_iff]
      by_cases hd : stepAt os k < 0
      · left; simpa using hd
      · right
        have hb := stepAt_bd os k
        obtain ⟨i, hi⟩ := Int.eq_ofNat_of_zero_le (show 0 ≤ stepAt os k by omega)
        have hg := stepAt_get (l := os) (p := k) (by omega)
        rw [hi, Int.toNat_natCast] at hg
        have := (h7' i (by omega)).2.2
        rw [hg, Int.toNat_natCast] at this
        intro t ht
        have := this t ht
        unfold behS
        simp only [Bool.and_eq_true, decide_eq_true_eq]
        omega
    · have := h8 k hk
      unfold refQ at this
      unfold plcP
      by_cases hd : 0 ≤ stepAt os k
      · simp [hd] at this
        simp [hd, this]
      · simp [hd] at this
        simp [hd, this]
end Go.Proofs.YtifokbkhcaajnaaGreat
/-
  PLANM2: numbers alone: spans, places, peak, floor and clashes of a plan in order, as the program goes through them and as the document says them.
-/
namespace Go.Proofs.YtifokbkhcaajnaaGreat
set_option maxRecDepth 100000

/-- The last of the first n steps of an order that takes pass k's image; d: none does. -/
def ltk (src : Nat → List Int) (os : List Int) (k d : Int) : Nat → Int
  | 0 => d
  | n + 1 => if k ∈ src (os.getD n 0).toNat then n else ltk src os k d n
def spanP (G : Gp) (os : List Int) (k : Nat) : Int × Int := (stepAt os k, if (k : Int) = G.last then (os.length : Int) - 1 else ltk G.src os k (stepAt os k) os.length)
def lieP (G : Gp) (os pl : List Int) (k : Nat) : Int × Int := if 0 ≤ stepAt os k then (pl.getD k 0, pl.getD k 0 + G.ar k - 1) else (0, 0)
def meetB (a b : Int × Int) : Bool := decide (a.1 ≤ b.2) && decide (b.1 ≤ a.2)
/-- As the program goes. -/
def peakT (os : List Int) (lie : Nat → Int × Int) : Nat → Int
  | 0 => 0
  | n + 1 => max (peakT os lie n) ((lie (os.getD n 0).toNat).2 + 1)
def sumT (os : List Int) (span lie : Nat → Int × Int) (i : Int) : Nat → Int
  | 0 => 0
  | n + 1 => if meetB (span (os.getD n 0).toNat) (i, i) = true then sumT os span lie i n + ((lie (os.getD n 0).toNat).2 - (lie (os.getD n 0).toNat).1 + 1) else sumT os span lie i n
def floorT (os : List Int) (span lie : Nat → Int × Int) : Nat → Int
  | 0 => 0
  | n + 1 => max (floorT os span lie n) (sumT os span lie n os.length)
def apartT (os : List Int) (span lie : Nat → Int × Int) (i j : Nat) : Bool := !(meetB (span (os.getD i 0).toNat) (span (os.getD j 0).toNat) && meetB (lie (os.getD i 0).toNat) (lie (os.getD j 0).toNat))
def clearT (os : List Int) (span lie : Nat → Int × Int) (n : Nat) : Bool := allTo (fun i => allTo (apartT os span lie i) i) n
/-- As the document says. -/
def peakR (ar : Nat → Int) (pl : List Int) : Nat → Int
  | 0 => 0
  | k + 1 => if pl.getD k 0 = -1 then peakR ar pl k else max (peakR ar pl k) (pl.getD k 0 + ar k)
def sumR (ar : Nat → Int) (pl : List Int) (span : Nat → Int × Int) (i : Int) : Nat → Int
  | 0 => 0
  | k + 1 => if ¬ pl.getD k 0 = -1 ∧ meetB (span k) (i, i) = true then sumR ar pl span i k + ar k else sumR ar pl span i k
def floorR (ar : Nat → Int) (pl : List Int) (span : Nat → Int × Int) (N : Nat) : Nat → Int
  | 0 => 0
  | i + 1 => max (floorR ar pl span N i) (sumR ar pl span i N)
def apartR (ar : Nat → Int) (pl : List Int) (span : Nat → Int × Int) (k j : Nat) : Bool := !(!decide (pl.getD j 0 = -1) && meetB (span k) (span j) && decide (pl.getD k 0 < pl.getD j 0 + ar j) && decide (pl.getD j 0 < pl.getD k 0 + ar k))
def fitR (ar : Nat → Int) (pl : List Int) (span : Nat → Int × Int) (room : Int) (k : Nat) : Bool := decide (pl.getD k 0 = -1) || (decide (0 ≤ pl.getD k 0) && decide (pl.getD k 0 ≤ room - ar k) && allTo (apartR ar pl span k) k)
def fitsR (ar : Nat → Int) (pl : List Int) (span : Nat → Int × Int) (room : Int) (N : Nat) : Bool := allTo (fitR ar pl span room) N

/-- What a plan in order has. -/
structure Ord (G : Gp) (os pl : List Int) : Prop where
  inN : ∀ o ∈ os, 0 ≤ o ∧ o < G.N
  nodup : os.Nodup
  has : ∀ k, k < G.N → G.kept k = true → (k : Int) ∈ os
  beh : ∀ k, k < G.N → (k : Int) ∈ os → ∀ s ∈ G.src k, s ∈ os ∧ stepAt os s ≤ stepAt os k
  len : pl.length = G.N
  at_ : ∀ k, k < G.N → (k : Int) ∈ os → 0 ≤ pl.getD k 0 ∧ pl.getD k 0 ≤ 4096
  no : ∀ k, k < G.N → (k : Int) ∉ os → pl.getD k 0 = -1
theorem ord_iff {G : Gp} {os pl : List Int} : ordB G os pl = true ↔ Ord G os pl := by
  unfold ordB hasAllB behB plcB
  simp only [Bool.and_eq_true, decide_eq_true_eq]
  rw [onceB_iff, allTo_iff, allTo_iff, allTo_iff]
  constructor
  · rintro ⟨⟨⟨⟨h1, h2⟩, h3⟩, h4⟩, h5, h6⟩
    refine ⟨h1, h2, fun k hk hK => ?_, fun k hk hm s hs => ?_, h5, fun k hk hm => ?_, fun k hk hm => ?_⟩
    · have := h3 k hk
      unfold hasP at this
      rw [hK] at this
      rw [← stepAt_mem]; simpa using this
    · have := h4 k hk
      have hp := stepAt_mem.2 hm
      unfold behP at this
      rw [Bool.or_eq_true, allTo_iff] at this
      rcases this with this | this
      · simp at this; omega
      · obtain ⟨t, ht, e⟩ := mem_getD hs
        have := this t ht
        unfold behS at this
        rw [e] at this
        simp only [Bool.and_eq_true, decide_eq_true_eq] at this
        exact ⟨stepAt_mem.1 this.1, this.2⟩
    · have := h6 k hk
      unfold plcP at this
      rw [if_pos (stepAt_mem.2 hm)] at this
      simpa only [Bool.and_eq_true, decide_eq_true_eq] using this
    · have := h6 k hk
      unfold plcP at this
      rw [if_neg (fun h => hm (stepAt_mem.1 h))] at this
      simpa only [decide_eq_true_eq] using this
  · rintro ⟨h1, h2, h3, h4, h5, h6, h7⟩
    refine ⟨⟨⟨⟨h1, h2⟩, fun k hk => ?_⟩, fun k hk => ?_⟩, h5, fun k hk => ?_⟩
    · unfold hasP
      cases hK : G.kept k with
      | false => rfl
      | true => simpa using stepAt_mem.2 (h3 k hk hK)
    · unfold behP
      rw [Bool.or_eq_true, allTo_iff]
      by_cases hd : stepAt os k < 0
      · left; simpa using hd
      · right
        intro t ht
        have := h4 k hk (stepAt_mem.1 (by omega)) _ (getD_in ht)
        unfold behS
        simp only [Bool.and_eq_true, decide_eq_true_eq]
        exact ⟨stepAt_mem.2 this.1, this.2⟩
    · unfold plcP
      by_cases hd : 0 ≤ stepAt os k
      · rw [if_pos hd]
        simpa only [Bool.and_eq_true, decide_eq_true_eq] using h6 k hk (stepAt_mem.1 hd)
      · rw [if_neg hd]
        simpa only [decide_eq_true_eq] using h7 k hk (fun h => hd (stepAt_mem.2 h))
theorem Ord.no_iff {G : Gp} {os pl : List Int} (h : Ord G os pl) {k : Nat} (hk : k < G.N) : pl.getD k 0 = -1 ↔ ¬ (k : Int) ∈ os := by
  constructor
  · intro e hm
    have := h.at_ k hk hm
    omega
  · exact h.no k hk
theorem Ord.lie {G : Gp} {os pl : List Int} {k : Nat} (hm : (k : Int) ∈ os) : lieP G os pl k = (pl.getD k 0, pl.getD k 0 + G.ar k - 1) := by
  unfold lieP; rw [if_pos (stepAt_mem.2 hm)]
theorem os_nat {G : Gp} {os pl : List Int} (h : Ord G os pl) {i : Nat} (hi : i < os.length) : ∃ k : Nat, k < G.N ∧ os.getD i 0 = k ∧ (k : Int) ∈ os := by
  have ho := h.inN _ (getD_in hi)
  refine ⟨(os.getD i 0).toNat, by omega, by omega, ?_⟩
  have := getD_in hi
  rwa [show os.getD i 0 = (((os.getD i 0).toNat : Nat) : Int) by omega] at this

theorem peakT_le {os : List Int} {lie : Nat → Int × Int} {r : Int} : ∀ {n : Nat}, n ≤ os.length → (peakT os lie n ≤ r ↔ 0 ≤ r ∧ ∀ i, i < n → (lie (os.getD i 0).toNat).2 + 1 ≤ r)
  | 0, _ => by simp [peakT]
  | n + 1, hn => by
    have ih := peakT_le (os := os) (lie := lie) (r := r) (n := n) (by omega)
    unfold peakT
    rw [Int.max_le, ih]
    constructor
    · rintro ⟨⟨h0, h1⟩, h2⟩
      refine ⟨h0, fun i hi => ?_⟩
      by_cases e : i = n
      · rw [e]; exact h2
      · exact h1 i (by omega)
    · rintro ⟨h0, h1⟩
      exact ⟨⟨h0, fun i hi => h1 i (by omega)⟩, h1 n (by omega)⟩
theorem peakR_le {ar : Nat → Int} {pl : List Int} {r : Int} : ∀ {n : Nat}, (peakR ar pl n ≤ r ↔ 0 ≤ r ∧ ∀ k, k < n → pl.getD k 0 = -1 ∨ pl.getD k 0 + ar k ≤ r)
  | 0 => by simp [peakR]
  | n + 1 => by
    have ih := peakR_le (ar := ar) (pl := pl) (r := r) (n := n)
    unfold peakR
    split
    · rename_i h
      rw [ih]
      constructor
      · rintro ⟨h0, h1⟩
        refine ⟨h0, fun i hi => ?_⟩
        by_cases e : i = n
        · rw [e]; exact .inl h
        · exact h1 i (by omega)
      · rintro ⟨h0, h1⟩
        exact ⟨h0, fun i hi => h1 i (by omega)⟩
    · rename_i h
      rw [Int.max_le, ih]
      constructor
      · rintro ⟨⟨h0, h1⟩, h2⟩
        refine ⟨h0, fun i hi => ?_⟩
        by_cases e : i = n
        · rw [e]; exact .inr h2
        · exact h1 i (by omega)
      · rintro ⟨h0, h1⟩
        exact ⟨⟨h0, fun i hi => h1 i (by omega)⟩, (h1 n (by omega)).resolve_left h⟩
theorem all_os {G : Gp} {os pl : List Int} (h : Ord G os pl) (P : Nat → Prop) : (∀ i, i < os.length → P (os.getD i 0).toNat) ↔ ∀ k, k < G.N → (k : Int) ∈ os → P k := by
  constructor
  · intro hp k hk hm
    obtain ⟨i, hi, e⟩ := mem_getD hm
    have := hp i hi
    rw [e] at this
    simpa using this
  · intro hp i hi
    obtain ⟨k, hk, e, hm⟩ := os_nat h hi
    rw [e]
    exact hp k hk hm
theorem le_all {a b : Int} (h : ∀ r, a ≤ r ↔ b ≤ r) : a = b := by
  have h1 := (h b).2 (Int.le_refl _)
  have h2 := (h a).1 (Int.le_refl _)
  omega
theorem peak_ref {G : Gp} {os pl : List Int} (h : Ord G os pl) : peakT os (lieP G os pl) os.length = peakR G.ar pl G.N := by
  refine le_all fun r => ?_
  rw [peakT_le (Nat.le_refl _), peakR_le, all_os h (fun k => (lieP G os pl k).2 + 1 ≤ r)]
  refine and_congr_right fun _ => ⟨fun hp k hk => ?_, fun hp k hk hm => ?_⟩
  · by_cases hm : (k : Int) ∈ os
    · have := hp k hk hm
      rw [Ord.lie hm] at this
      right; simp only at this; omega
    · exact .inl (h.no k hk hm)
  · rw [Ord.lie hm]
    have := hp k hk
    have := h.at_ k hk hm
    simp only; omega

/-- A sum over different passes is a sum over all of them that are there. -/
def sumK (g : Nat → Int) : Nat → Int
  | 0 => 0
  | k + 1 => sumK g k + g k
theorem sumK_add (g g' : Nat → Int) : ∀ n, sumK (fun k => g k + g' k) n = sumK g n + sumK g' n
  | 0 => rfl
  | n + 1 => by unfold sumK; rw [sumK_add g g' n]; omega
theorem sumK_congr {g g' : Nat → Int} : ∀ {n : Nat}, (∀ k, k < n → g k = g' k) → sumK g n = sumK g' n
  | 0, _ => rfl
  | n + 1, h => by unfold sumK; rw [sumK_congr (n := n) (fun k hk => h k (by omega)), h n (by omega)]
theorem sumK_one (m : Nat) (x : Int) : ∀ {n : Nat}, sumK (fun k => if k = m then x else 0) n = if m < n then x else 0
  | 0 => by simp [sumK]
  | n + 1 => by
    unfold sumK
    rw [sumK_one m x (n := n)]
    by_cases h : n = m
    · subst h; simp
    · by_cases h' : m < n
      · rw [if_pos h', if_neg h, if_pos (by omega)]; omega
      · rw [if_neg h', if_neg h, if_neg (by omega)]; omega
theorem sum_os (g : Nat → Int) {N : Nat} : ∀ {os : List Int}, (∀ o ∈ os, 0 ≤ o ∧ o < N) → os.Nodup → (os.map fun o => g o.toNat).sum = sumK (fun k => if (k : Int) ∈ os then g k else 0) N
  | [], _, _ => by
    have : ∀ n, sumK (fun _ => 0) n = 0 := fun n => by induction n with
      | zero => rfl
      | succ n ih => unfold sumK; rw [ih]; rfl
    simpa using (this N).symm
  | o :: l, hb, hn => by
    rw [List.nodup_cons] at hn
    have ho := hb o (List.mem_cons_self ..)
    have ih := sum_os g (os := l) (fun x hx => hb x (List.mem_cons_of_mem _ hx)) hn.2
    rw [List.map_cons, List.sum_cons, ih]
    have e : sumK (fun k => if (k : Int) ∈ o :: l then g k else 0) N = sumK (fun k => (if k = o.toNat then g o.toNat else 0) + (if (k : Int) ∈ l then g k else 0)) N := by
      refine sumK_congr fun k hk => ?_
      by_cases hk : k = o.toNat
      · have : (k : Int) = o := by omega
        rw [if_pos (by rw [this]; exact List.mem_cons_self ..), if_pos hk, if_neg (by rw [this]; exact hn.1), hk]; omega
      · have : ¬ (k : Int) = o := by omega
        rw [if_neg hk]
        by_cases hm : (k : Int) ∈ l
        · rw [if_pos (List.mem_cons_of_mem _ hm), if_pos hm]; omega
        · rw [if_neg (by rw [List.mem_cons]; exact fun h => h.elim this hm), if_neg hm]; rfl
    rw [e, sumK_add, sumK_one, if_pos (by omega)]
theorem sumT_eq {os : List Int} {span lie : Nat → Int × Int} {i : Int} : ∀ {n : Nat}, n ≤ os.length → sumT os span lie i n = ((os.take n).map fun o => if meetB (span o.toNat) (i, i) = true then (lie o.toNat).2 - (lie o.toNat).1 + 1 else 0).sum
  | 0, _ => by simp [sumT]
  | n + 1, hn => by
    have hl : n < os.length := by omega
    have e : os.getD n 0 = os[n] := by rw [List.getD_eq_getElem?_getD, List.getElem?_eq_getElem hl]; rfl
    unfold sumT
    rw [sumT_eq (n := n) (by omega), List.take_succ_eq_append_getElem hl, List.map_append, List.sum_append, e]
    simp only [List.map_cons, List.map_nil, List.sum_cons, List.sum_nil]
    split <;> omega
theorem sumR_eq {ar : Nat → Int} {pl : List Int} {span : Nat → Int × Int} {i : Int} : ∀ {n : Nat}, sumR ar pl span i n = sumK (fun k => if ¬ pl.getD k 0 = -1 ∧ meetB (span k) (i, i) = true then ar k else 0) n
  | 0 => rfl
  | n + 1 => by
    unfold sumR sumK
    rw [sumR_eq (n := n)]
    split <;> omega
theorem sum_ref {G : Gp} {os pl : List Int} (h : Ord G os pl) (span : Nat → Int × Int) (i : Int) : sumT os span (lieP G os pl) i os.length = sumR G.ar pl span i G.N := by
  rw [sumT_eq (Nat.le_refl _), List.take_length, sum_os (fun k => if meetB (span k) (i, i) = true then (lieP G os pl k).2 - (lieP G os pl k).1 + 1 else 0) h.inN h.nodup, sumR_eq]
  refine sumK_congr fun k hk => ?_
  by_cases hm : (k : Int) ∈ os
  · have hne : ¬ pl.getD k 0 = -1 := fun e => ((h.no_iff hk).1 e) hm
    rw [if_pos hm, Ord.lie hm]
    by_cases hc : meetB (span k) (i, i) = true
    · rw [if_pos hc, if_pos ⟨hne, hc⟩]; simp only; omega
    · rw [if_neg hc, if_neg (fun h => hc h.2)]
  · rw [if_neg hm, if_neg (fun h' => h'.1 (h.no k hk hm))]
theorem floor_ref {G : Gp} {os pl : List Int} (h : Ord G os pl) (span : Nat → Int × Int) : ∀ n, floorT os span (lieP G os pl) n = floorR G.ar pl span G.N n
  | 0 => rfl
  | n + 1 => by unfold floorT floorR; rw [floor_ref h span n, sum_ref h]
theorem meetB_comm (a b : Int × Int) : meetB a b = meetB b a := by unfold meetB; rw [Bool.and_comm]
/-- No two images clash. -/
def Clear (os : List Int) (span lie : Nat → Int × Int) : Prop := ∀ a b : Nat, (a : Int) ∈ os → (b : Int) ∈ os → a ≠ b → meetB (span a) (span b) = true → meetB (lie a) (lie b) = true → False
theorem clearT_iff {G : Gp} {os pl : List Int} (h : Ord G os pl) (span lie : Nat → Int × Int) : clearT os span lie os.length = true ↔ Clear os span lie := by
  unfold clearT Clear
  rw [allTo_iff]
  constructor
  · intro hc a b ha hb hab h1 h2
    obtain ⟨i, hi, ei⟩ := mem_getD ha
    obtain ⟨j, hj, ej⟩ := mem_getD hb
    have key : ∀ i j, i < os.length → j < i → ∀ a b : Nat, os.getD i 0 = a → os.getD j 0 = b → meetB (span a) (span b) = true → meetB (lie a) (lie b) = true → False := by
      intro i j hi hj a b ea eb h1 h2
      have := hc i hi
      simp only [allTo_iff] at this
      have := this j hj
      unfold apartT at this
      rw [ea, eb, Int.toNat_natCast, Int.toNat_natCast, h1, h2] at this
      cases this
    rcases Nat.lt_trichotomy i j with hij | hij | hij
    · exact key j i hj hij b a ej ei (by rw [meetB_comm]; exact h1) (by rw [meetB_comm]; exact h2)
    · subst hij; rw [ei] at ej; omega
    · exact key i j hi hij a b ei ej h1 h2
  · intro hc i hi
    simp only [allTo_iff]
    intro j hj
    obtain ⟨a, _, ea, ha⟩ := os_nat h hi
    obtain ⟨b, _, eb, hb⟩ := os_nat h (show j < os.length by omega)
    have hab : a ≠ b := by
      intro e
      have h1 := stepAt_self h.nodup hi
      have h2 := stepAt_self h.nodup (show j < os.length by omega)
      rw [ea, e, ← eb, h2] at h1
      omega
    unfold apartT
    rw [ea, eb, Int.toNat_natCast, Int.toNat_natCast]
    cases h1 : meetB (span a) (span b)
    · rfl
    · cases h2 : meetB (lie a) (lie b)
      · rfl
      · exact (hc a b ha hb hab h1 h2).elim
theorem fits_ref {G : Gp} {os pl : List Int} (h : Ord G os pl) (span : Nat → Int × Int) {room : Int} (hr : 0 ≤ room) : fitsR G.ar pl span room G.N = true ↔ peakT os (lieP G os pl) os.length ≤ room ∧ clearT os span (lieP G os pl) os.length = true := by
  rw [clearT_iff h, peakT_le (Nat.le_refl _), all_os h (fun k => (lieP G os pl k).2 + 1 ≤ room)]
  unfold fitsR
  rw [allTo_iff]
  constructor
  · intro hf
    have hf' : ∀ k, k < G.N → (k : Int) ∈ os → pl.getD k 0 ≤ room - G.ar k ∧ ∀ j, j < k → (j : Int) ∈ os → meetB (span k) (span j) = true → pl.getD k 0 < pl.getD j 0 + G.ar j → pl.getD j 0 < pl.getD k 0 + G.ar k → False := by
      intro k hk hm
      have := hf k hk
      unfold fitR at this
      have hne : ¬ pl.getD k 0 = -1 := fun e => ((h.no_iff hk).1 e) hm
      rw [decide_eq_false hne, Bool.false_or] at this
      simp only [Bool.and_eq_true, decide_eq_true_eq, allTo_iff] at this
      refine ⟨this.1.2, fun j hj hmj h1 h2 h3 => ?_⟩
      have := this.2 j hj
      unfold apartR at this
      have hne : ¬ pl.getD j 0 = -1 := fun e => ((h.no_iff (by omega)).1 e) hmj
      rw [decide_eq_false hne, h1, decide_eq_true h2, decide_eq_true h3] at this
      cases this
    refine ⟨⟨hr, fun k hk hm => ?_⟩, fun a b ha hb hab h1 h2 => ?_⟩
    · rw [Ord.lie hm]; have := (hf' k hk hm).1; simp only; omega
    · rw [Ord.lie ha, Ord.lie hb] at h2
      have hA := h.inN _ ha
      have hB := h.inN _ hb
      unfold meetB at h2
      simp only [Bool.and_eq_true, decide_eq_true_eq] at h2
      rcases Nat.lt_or_gt_of_ne hab with hl | hl
      · exact (hf' b (by omega) hb).2 a hl ha (by rw [meetB_comm]; exact h1) (by omega) (by omega)
      · exact (hf' a (by omega) ha).2 b hl hb h1 (by omega) (by omega)
  · rintro ⟨⟨_, hp⟩, hc⟩ k hk
    unfold fitR
    by_cases hm : (k : Int) ∈ os
    · have h1 := hp k hk hm
      rw [Ord.lie hm] at h1
      simp only at h1
      have h2 := h.at_ k hk hm
      rw [Bool.or_eq_true]; right
      simp only [Bool.and_eq_true, decide_eq_true_eq, allTo_iff]
      refine ⟨⟨h2.1, by omega⟩, fun j hj => ?_⟩
      unfold apartR
      by_cases hmj : (j : Int) ∈ os
      · cases e1 : meetB (span k) (span j)
        · simp
        · by_cases e2 : pl.getD k 0 < pl.getD j 0 + G.ar j
          · by_cases e3 : pl.getD j 0 < pl.getD k 0 + G.ar k
            · refine (hc k j hm hmj (by omega) e1 ?_).elim
              rw [Ord.lie hm, Ord.lie hmj]
              unfold meetB
              simp only [Bool.and_eq_true, decide_eq_true_eq]
              omega
            · rw [decide_eq_false e3]; simp
          · rw [decide_eq_false e2]; simp
      · rw [decide_eq_true (h.no j (by omega) hmj)]; simp
    · rw [decide_eq_true (h.no k hk hm)]; rfl
end Go.Proofs.YtifokbkhcaajnaaGreat
/-
  PLANM3: numbers alone: a plan that fits has no peak below its floor.
-/
namespace Go.Proofs.YtifokbkhcaajnaaGreat
set_option maxRecDepth 100000

theorem floorT_le {os : List Int} {span lie : Nat → Int × Int} {r : Int} : ∀ {n : Nat}, (floorT os span lie n ≤ r ↔ 0 ≤ r ∧ ∀ i : Nat, i < n → sumT os span lie i os.length ≤ r)
  | 0 => by simp [floorT]
  | n + 1 => by
    have ih := floorT_le (os := os) (span := span) (lie := lie) (r := r) (n := n)
    unfold floorT
    rw [Int.max_le, ih]
    constructor
    · rintro ⟨⟨h0, h1⟩, h2⟩
      refine ⟨h0, fun i hi => ?_⟩
      by_cases e : i = n
      · rw [e]; exact h2
      · exact h1 i (by omega)
    · rintro ⟨h0, h1⟩
      exact ⟨⟨h0, fun i hi => h1 i (by omega)⟩, h1 n (by omega)⟩
theorem peakT_nonneg {os : List Int} {lie : Nat → Int × Int} : ∀ n, 0 ≤ peakT os lie n
  | 0 => Int.le_refl _
  | n + 1 => by unfold peakT; have := peakT_nonneg (os := os) (lie := lie) n; omega
theorem floorT_nonneg {os : List Int} {span lie : Nat → Int × Int} : ∀ n, 0 ≤ floorT os span lie n
  | 0 => Int.le_refl _
  | n + 1 => by unfold floorT; have := floorT_nonneg (os := os) (span := span) (lie := lie) n; omega
theorem sum_filter (l : List Int) (c : Int → Bool) (g : Int → Int) : (l.map fun o => if c o = true then g o else 0).sum = ((l.filter c).map g).sum := by
  induction l with
  | nil => rfl
  | cons x l ih =>
    rw [List.map_cons, List.sum_cons, ih, List.filter_cons]
    split
    · rw [List.map_cons, List.sum_cons]
    · omega
theorem floor_peak {G : Gp} (hG : G.Right) {os pl : List Int} (h : Ord G os pl) {span : Nat → Int × Int} (hc : Clear os span (lieP G os pl)) : floorT os span (lieP G os pl) os.length ≤ peakT os (lieP G os pl) os.length := by
  rw [floorT_le]
  refine ⟨peakT_nonneg _, fun i _ => ?_⟩
  have hp := (peakT_le (os := os) (lie := lieP G os pl) (Nat.le_refl _)).1 (Int.le_refl _)
  have hp2 := (all_os h (fun k => (lieP G os pl k).2 + 1 ≤ peakT os (lieP G os pl) os.length)).1 hp.2
  rw [sumT_eq (Nat.le_refl _), List.take_length, sum_filter os (fun o => meetB (span o.toNat) (i, i)) (fun o => (lieP G os pl o.toNat).2 - (lieP G os pl o.toNat).1 + 1)]
  have key := apart_sum _ ((os.filter (fun o => meetB (span o.toNat) (i, i))).map fun o => (pl.getD o.toNat 0, G.ar o.toNat)) (peakT os (lieP G os pl) os.length) rfl (peakT_nonneg _)
    (fun x hx => by
      obtain ⟨o, ho, rfl⟩ := List.mem_map.1 hx
      obtain ⟨ho, _⟩ := List.mem_filter.1 ho
      have hN := h.inN o ho
      have e : ((o.toNat : Nat) : Int) = o := by omega
      have hm : ((o.toNat : Nat) : Int) ∈ os := by rw [e]; exact ho
      have h1 := h.at_ o.toNat (by omega) hm
      have h2 := hG.ar o.toNat (by omega)
      have h3 := hp2 o.toNat (by omega) hm
      rw [Ord.lie hm] at h3
      simp only at h3 ⊢
      omega)
    (by
      rw [List.pairwise_map]
      have hn : (os.filter (fun o => meetB (span o.toNat) (i, i))).Pairwise (fun a b => a ≠ b) := (h.nodup.filter _)
      refine List.Pairwise.imp_of_mem ?_ hn
      intro a b ha hb hab
      obtain ⟨ha, ha'⟩ := List.mem_filter.1 ha
      obtain ⟨hb, hb'⟩ := List.mem_filter.1 hb
      have hA := h.inN a ha
      have hB := h.inN b hb
      have ea : ((a.toNat : Nat) : Int) = a := by omega
      have eb : ((b.toNat : Nat) : Int) = b := by omega
      have ma : ((a.toNat : Nat) : Int) ∈ os := by rw [ea]; exact ha
      have mb : ((b.toNat : Nat) : Int) ∈ os := by rw [eb]; exact hb
      have hne : a.toNat ≠ b.toNat := by omega
      have hl := hc a.toNat b.toNat ma mb hne (by
        unfold meetB at ha' hb' ⊢
        simp only [Bool.and_eq_true, decide_eq_true_eq] at ha' hb' ⊢
        omega)
      rw [Ord.lie ma, Ord.lie mb] at hl
      unfold meetB at hl
      simp only [Bool.and_eq_true, decide_eq_true_eq] at hl
      by_cases h1 : pl.getD a.toNat 0 + G.ar a.toNat ≤ pl.getD b.toNat 0
      · exact .inl h1
      · by_cases h2 : pl.getD b.toNat 0 + G.ar b.toNat ≤ pl.getD a.toNat 0
        · exact .inr h2
        · exact (hl ⟨by omega, by omega⟩).elim)
  rw [List.map_map] at key
  have e : (os.filter (fun o => meetB (span o.toNat) (i, i))).map (Prod.snd ∘ fun o => (pl.getD o.toNat 0, G.ar o.toNat)) = (os.filter (fun o => meetB (span o.toNat) (i, i))).map (fun o => (lieP G os pl o.toNat).2 - (lieP G os pl o.toNat).1 + 1) := by
    refine List.map_congr_left fun o ho => ?_
    obtain ⟨ho, _⟩ := List.mem_filter.1 ho
    have hN := h.inN o ho
    have hm : ((o.toNat : Nat) : Int) ∈ os := by rw [show ((o.toNat : Nat) : Int) = o by omega]; exact ho
    rw [Ord.lie hm]
    simp only [Function.comp]
    omega
  rw [e] at key
  exact key
theorem Ord.pos {G : Gp} (hG : G.Right) {os pl : List Int} (h : Ord G os pl) : G.last ∈ os := by
  have := h.has G.last.toNat (by have := hG.last; omega) hG.kept
  rwa [show ((G.last.toNat : Nat) : Int) = G.last by have := hG.last; omega] at this
theorem Ord.olen {G : Gp} {os pl : List Int} (h : Ord G os pl) : os.length ≤ G.N := nodup_len _ _ h.nodup h.inN
theorem peak_bd {G : Gp} (hG : G.Right) {os pl : List Int} (h : Ord G os pl) : 1 ≤ peakT os (lieP G os pl) os.length ∧ peakT os (lieP G os pl) os.length ≤ 4352 := by
  constructor
  · have hp := (peakT_le (os := os) (lie := lieP G os pl) (Nat.le_refl _)).1 (Int.le_refl _)
    have hp2 := (all_os h (fun k => (lieP G os pl k).2 + 1 ≤ peakT os (lieP G os pl) os.length)).1 hp.2
    have hl := hG.last
    have hm := h.pos hG
    have e : ((G.last.toNat : Nat) : Int) = G.last := by omega
    rw [← e] at hm
    have h3 := hp2 G.last.toNat (by omega) hm
    rw [Ord.lie hm] at h3
    have h1 := h.at_ _ (show G.last.toNat < G.N by omega) hm
    have h2 := hG.ar _ (show G.last.toNat < G.N by omega)
    simp only at h3
    omega
  · rw [peakT_le (Nat.le_refl _)]
    refine ⟨by omega, (all_os h (fun k => (lieP G os pl k).2 + 1 ≤ 4352)).2 fun k hk hm => ?_⟩
    rw [Ord.lie hm]
    have h1 := h.at_ k hk hm
    have h2 := hG.ar k hk
    simp only
    omega
theorem lie_bd {G : Gp} (hG : G.Right) {os pl : List Int} (h : Ord G os pl) {k : Nat} (hk : k < G.N) : (0 ≤ (lieP G os pl k).1 ∧ (lieP G os pl k).1 ≤ 4096) ∧ (0 ≤ (lieP G os pl k).2 ∧ (lieP G os pl k).2 ≤ 4352) ∧ (lieP G os pl k).1 ≤ (lieP G os pl k).2 ∧ (lieP G os pl k).2 ≤ (lieP G os pl k).1 + 255 := by
  by_cases hm : (k : Int) ∈ os
  · rw [Ord.lie hm]
    have h1 := h.at_ k hk hm
    have h2 := hG.ar k hk
    simp only
    omega
  · unfold lieP
    rw [if_neg (fun h => hm (stepAt_mem.1 h))]
    simp
theorem ltk_bd (src : Nat → List Int) (os : List Int) (k d : Int) : ∀ n, ltk src os k d n = d ∨ (0 ≤ ltk src os k d n ∧ ltk src os k d n < n)
  | 0 => .inl rfl
  | n + 1 => by
    unfold ltk
    split
    · right; omega
    · rcases ltk_bd src os k d n with h | h
      · exact .inl h
      · right; omega
end Go.Proofs.YtifokbkhcaajnaaGreat
