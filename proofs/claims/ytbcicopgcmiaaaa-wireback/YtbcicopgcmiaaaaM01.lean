/- Plain, Base, Chk, Same, Lamp, Frm, WireM, Draw, Acc, WireNum, Mean: joined, in this order. -/
import Derived.Test.YtbcicopgcmiaaaaRows
import Derived.WalkKit
import Derived.WalkSpells
import Derived.WalkLawsBesides
import Derived.Deep.QuietTactic
import Derived.BigQuiet
import Derived.Maps.AppendAt
/-
  PLAIN: numbers and lists alone, no Go: when an image is right, and the list of its numbers by columns and rows.
-/
namespace Go.Proofs.Ytbcicopgcmiaaaa
set_option maxRecDepth 100000
namespace Im

def sideB (n : Int) : Bool := decide (1 ≤ n) && decide (n ≤ 16)
def numB (n : Int) : Bool := decide (0 ≤ n) && decide (n ≤ 65535)
def withinB (n a b : Int) : Bool := decide (a ≤ n) && decide (n ≤ b)
/-- A right image. -/
def fineB (W H : Int) (ps : List Int) : Bool := sideB W && sideB H && decide ((ps.length : Int) = W * H) && ps.all numB

/-- An error's number: none where b holds. -/
def okIf (b : Bool) (e : Int) : Int := if b then 0 else e
theorem okIf_true (e : Int) : okIf true e = 0 := rfl
theorem okIf_false (e : Int) : okIf false e = e := rfl
theorem side_iff (n : Int) : sideB n = true ↔ 1 ≤ n ∧ n ≤ 16 := by simp [sideB]
theorem num_iff (n : Int) : numB n = true ↔ 0 ≤ n ∧ n ≤ 65535 := by simp [numB]
theorem within_side (n : Int) : withinB n 1 16 = sideB n := rfl
theorem within_num (n : Int) : withinB n 0 65535 = numB n := rfl

theorem fine_iff (W H : Int) (ps : List Int) : fineB W H ps = true ↔ (1 ≤ W ∧ W ≤ 16) ∧ (1 ≤ H ∧ H ≤ 16) ∧ (ps.length : Int) = W * H ∧ ∀ n ∈ ps, 0 ≤ n ∧ n ≤ 65535 := by
  simp [fineB, side_iff, num_iff, and_assoc]

theorem side_mul {W H : Int} (h1 : sideB W = true) (h2 : sideB H = true) : 1 ≤ W * H ∧ W * H ≤ 256 := by
  have b1 := (side_iff W).1 h1
  have b2 := (side_iff H).1 h2
  have e1 : W * H ≤ 16 * 16 := Int.mul_le_mul b1.2 b2.2 (by omega) (by omega)
  have e2 : 1 * 1 ≤ W * H := Int.mul_le_mul b1.1 b2.1 (by omega) (by omega)
  omega
/-- The first k numbers are right. -/
theorem all_succ (ps : List Int) (k : Nat) (hk : k < ps.length) (h : (ps.take k).all numB = true) (h' : numB (ps[k]?.getD 0) = true) : (ps.take (k + 1)).all numB = true := by
  rw [List.getElem?_eq_getElem hk] at h'
  rw [List.take_succ_eq_append_getElem hk, List.all_append, h]
  simpa using h'
theorem all_not (ps : List Int) (k : Nat) (hk : k < ps.length) (h' : numB (ps[k]?.getD 0) = false) : ps.all numB = false := by
  rw [List.getElem?_eq_getElem hk] at h'
  rw [List.all_eq_false]
  exact ⟨ps[k], List.getElem_mem hk, by simpa using h'⟩

/-- The numbers of an image, row by row, as far as the n-th: at column x and row y stands g x y. -/
def pix (w : Nat) (g : Nat → Nat → Int) (n : Nat) : List Int := (List.range n).map fun i => g (i % w) (i / w)
theorem pix_length (w : Nat) (g : Nat → Nat → Int) (n : Nat) : (pix w g n).length = n := by simp [pix]
theorem pix_zero (w : Nat) (g : Nat → Nat → Int) : pix w g 0 = [] := rfl
theorem pix_succ (w : Nat) (g : Nat → Nat → Int) (x y : Nat) (h : x < w) : pix w g (y * w + x + 1) = pix w g (y * w + x) ++ [g x y] := by
  have e1 : (y * w + x) % w = x := by rw [Nat.mul_comm, Nat.mul_add_mod]; exact Nat.mod_eq_of_lt h
  have e2 : (y * w + x) / w = y := by rw [Nat.mul_comm, Nat.mul_add_div (by omega), Nat.div_eq_of_lt h]; rfl
  simp [pix, List.range_succ, e1, e2]
theorem pix_getD (w : Nat) (g : Nat → Nat → Int) (n i : Nat) (h : i < n) : (pix w g n).getD i 0 = g (i % w) (i / w) := by
  simp [pix, List.getD, h]
theorem pix_at (w h : Nat) (g : Nat → Nat → Int) (x y : Nat) (hx : x < w) (hy : y < h) : (pix w g (w * h)).getD (y * w + x) 0 = g x y := by
  have e1 : (y * w + x) % w = x := by rw [Nat.mul_comm, Nat.mul_add_mod]; exact Nat.mod_eq_of_lt hx
  have e2 : (y * w + x) / w = y := by rw [Nat.mul_comm, Nat.mul_add_div (by omega), Nat.div_eq_of_lt hx]; rfl
  rw [pix_getD, e1, e2]
  calc y * w + x < y * w + w := by omega
    _ = (y + 1) * w := by rw [Nat.add_mul]; omega
    _ ≤ h * w := Nat.mul_le_mul_right _ hy
    _ = w * h := Nat.mul_comm _ _
theorem pix_congr (w h : Nat) (g g' : Nat → Nat → Int) (e : ∀ x y, x < w → y < h → g x y = g' x y) : pix w g (w * h) = pix w g' (w * h) := by
  unfold pix
  apply List.map_congr_left
  intro i hi
  simp at hi
  have hw : 0 < w := by rcases Nat.eq_zero_or_pos w with rfl | h'; · simp at hi
                        · exact h'
  exact e _ _ (Nat.mod_lt _ hw) (Nat.div_lt_of_lt_mul hi)
/-- The place of column x and row y lies in the image. -/
theorem place_lt {w h x y : Nat} (hx : x < w) (hy : y < h) : y * w + x < w * h := by
  calc y * w + x < y * w + w := by omega
    _ = (y + 1) * w := by rw [Nat.add_mul]; omega
    _ ≤ h * w := Nat.mul_le_mul_right _ hy
    _ = w * h := Nat.mul_comm _ _
theorem pix_all (w n : Nat) (g : Nat → Nat → Int) (hw : 0 < w) (h : ∀ x y, x < w → y * w + x < n → 0 ≤ g x y ∧ g x y ≤ 65535) : ∀ m ∈ pix w g n, 0 ≤ m ∧ m ≤ 65535 := by
  intro m hm
  simp [pix] at hm
  obtain ⟨i, hi, rfl⟩ := hm
  refine h _ _ (Nat.mod_lt _ hw) ?_
  have := Nat.div_add_mod i w
  rw [Nat.mul_comm] at this
  omega
/-- The number at column x and row y, of an image of W columns. -/
def px (W : Nat) (ps : List Int) (x y : Nat) : Int := ps.getD (y * W + x) 0
/-- The sum of n numbers of row y from column l on; of m such rows from row t on. -/
def sumRow (p : Nat → Nat → Int) (y l : Nat) : Nat → Int
  | 0 => 0
  | n + 1 => sumRow p y l n + p (l + n) y
def sumBox (p : Nat → Nat → Int) (l t n : Nat) : Nat → Int
  | 0 => 0
  | m + 1 => sumBox p l t n m + sumRow p (t + m) l n
theorem sumRow_bd {p : Nat → Nat → Int} {y l : Nat} : ∀ {n : Nat}, (∀ x, l ≤ x → x < l + n → 0 ≤ p x y ∧ p x y ≤ 65535) → 0 ≤ sumRow p y l n ∧ sumRow p y l n ≤ 65535 * n
  | 0, _ => by simp [sumRow]
  | n + 1, h => by
    have h1 := sumRow_bd (p := p) (y := y) (l := l) (n := n) (fun x h1 h2 => h x h1 (by omega))
    have h2 := h (l + n) (by omega) (by omega)
    unfold sumRow
    omega
theorem sumBox_bd {p : Nat → Nat → Int} {l t n : Nat} (hn : n ≤ 16) : ∀ {m : Nat}, (∀ x y, l ≤ x → x < l + n → t ≤ y → y < t + m → 0 ≤ p x y ∧ p x y ≤ 65535) → 0 ≤ sumBox p l t n m ∧ sumBox p l t n m ≤ 65535 * 16 * m
  | 0, _ => by simp [sumBox]
  | m + 1, h => by
    have h1 := sumBox_bd (p := p) (l := l) (t := t) (n := n) hn (m := m) (fun x y h1 h2 h3 h4 => h x y h1 h2 h3 (by omega))
    have h2 := sumRow_bd (p := p) (y := t + m) (l := l) (n := n) (fun x h1 h2 => h x (t + m) h1 h2 (by omega) (by omega))
    unfold sumBox
    omega
/-- The mean, rounded down, of the numbers from column l to column r and row t to row b. -/
def meanP (p : Nat → Nat → Int) (l t r b : Nat) : Int := sumBox p l t (r + 1 - l) (b + 1 - t) / (((r : Int) - l + 1) * ((b : Int) - t + 1))
end Im
end Go.Proofs.Ytbcicopgcmiaaaa
/-
  BASE: how a list of numbers lies in memory ('Ints'), what stays of it, and the smallest functions.
-/
namespace Go.Proofs.Ytbcicopgcmiaaaa
set_option maxRecDepth 100000
open Go.RowKit Im

/-- A slice's elements are the numbers ps: nothing is asked of its address where there are none. 'base': no block below it holds them. -/
structure Ints (base : Nat) (w : World) (a : Option Addr) (len : Nat) (ps : List Int) : Prop where
  leng : ps.length = len
  big : len ≤ 9223372036854775807
  cells : ps = [] ∨ ∃ b off, a = some ⟨b, off, none⟩ ∧ base ≤ b ∧ b < w.heap.size ∧ ∀ j, j < len → w.cell? ⟨b, off + j, none⟩ = some (.int .i64 (ps.getD j 0))

theorem Ints.below {base : Nat} {w w' : World} {a : Option Addr} {len : Nat} {ps : List Int} (h : Ints base w a len ps) {B : Nat} (hB : w.heap.size ≤ B) (hb : Below B w w') : Ints base w' a len ps := by
  refine ⟨h.leng, h.big, ?_⟩
  rcases h.cells with e | ⟨b, off, ha, h0, hl, hc⟩
  · exact .inl e
  · exact .inr ⟨b, off, ha, h0, Nat.lt_of_lt_of_le hl hb.size, fun j hj => (hb.cell (p := ⟨b, off + j, none⟩) (by show b < B; omega)).trans (hc j hj)⟩
theorem Ints.mono {base base' : Nat} {w : World} {a : Option Addr} {len : Nat} {ps : List Int} (h : Ints base w a len ps) (hb : base' ≤ base) : Ints base' w a len ps := by
  refine ⟨h.leng, h.big, ?_⟩
  rcases h.cells with e | ⟨b, off, ha, h0, hl, hc⟩
  · exact .inl e
  · exact .inr ⟨b, off, ha, by omega, hl, hc⟩
theorem Ints.setCell {base : Nat} {w : World} {a : Option Addr} {len : Nat} {ps : List Int} (h : Ints base w a len ps) {p : Addr} (hp : p.block < base) (u : Value) : Ints base (w.setCell p u) a len ps := by
  refine ⟨h.leng, h.big, ?_⟩
  rcases h.cells with e | ⟨b, off, ha, h0, hl, hc⟩
  · exact .inl e
  · refine .inr ⟨b, off, ha, h0, by simpa [World.setCell] using hl, fun j hj => ?_⟩
    rw [World.cell?_of_block (w := w) (Below.heap_setCell w p u b (by omega))]
    exact hc j hj
theorem Ints.nil (base : Nat) (w : World) : Ints base w none 0 [] := ⟨rfl, by omega, .inl rfl⟩

theorem bcell {W w1 : World} (hb : Below W.heap.size W w1) : (∀ b o, b < W.heap.size → w1.cell? ⟨b, o, none⟩ = W.cell? ⟨b, o, none⟩) ∧ (∀ b o, b < W.heap.size → w1.frozen? ⟨b, o, none⟩ = W.frozen? ⟨b, o, none⟩) :=
  ⟨fun b o h => hb.cell (p := ⟨b, o, none⟩) h, fun b o h => hb.frozen (p := ⟨b, o, none⟩) h⟩

theorem Try.info3 : (Try.prog.info? 3).map (fun i => (i.zero, i.size, i.bytes)) = some (some (.int .i64 0), 1, 8) := by kernel_rfl

theorem within_any (n a b : Int) (w : World) : Calls Try.prog 14 #[.int .i64 n, .int .i64 a, .int .i64 b] w fun e w' => e = .returned (.bool (withinB n a b)) ∧ w = w' := by
  by_cases h1 : a ≤ n
  · by_cases h2 : n ≤ b
    · go_enter Try.func14, Try.ntmps14
      go_wp2
      go_ret
      exact ⟨by simp [withinB, h1, h2], rfl⟩
    · go_enter Try.func14, Try.ntmps14
      go_wp2
      go_ret
      exact ⟨by simp [withinB, h1, h2], rfl⟩
  · go_enter Try.func14, Try.ntmps14
    go_wp2
    go_ret
    exact ⟨by simp [withinB]; omega, rfl⟩
end Go.Proofs.Ytbcicopgcmiaaaa
/-
  CHK: image.Check and the reference's ImageFine tell whether an image is right.
-/
namespace Go.Proofs.Ytbcicopgcmiaaaa
set_option maxRecDepth 100000
open Go.RowKit Im

end Go.Proofs.Ytbcicopgcmiaaaa
/-
  SAME: the reference's SameInts and SameImages tell whether two lists of numbers, two images, are the same.
-/
namespace Go.Proofs.Ytbcicopgcmiaaaa
set_option maxRecDepth 100000
open Go.RowKit Im

theorem take_same {ps qs : List Int} {k : Nat} (h1 : k < ps.length) (h2 : k < qs.length) (h : ps.take k = qs.take k) (e : ps.getD k 0 = qs.getD k 0) : ps.take (k + 1) = qs.take (k + 1) := by
  rw [List.getD_eq_getElem?_getD, List.getD_eq_getElem?_getD, List.getElem?_eq_getElem h1, List.getElem?_eq_getElem h2] at e
  simp only [Option.getD_some] at e
  rw [List.take_succ_eq_append_getElem h1, List.take_succ_eq_append_getElem h2, h, e]
end Go.Proofs.Ytbcicopgcmiaaaa
/-
  LAMP: how lights lie in memory; the small functions of package light.
-/
namespace Go.Proofs.Ytbcicopgcmiaaaa
set_option maxRecDepth 100000
open Go.RowKit Im

/-- A light. -/
structure Lt where
  X : Int
  Y : Int
  R : Int
  P : Int
abbrev Lt.zero : Lt := ⟨0, 0, 0, 0⟩
def placeB (n : Int) : Bool := decide (0 ≤ n) && decide (n < 16)
def rightB (l : Lt) : Bool := placeB l.X && placeB l.Y && decide (1 ≤ l.R) && decide (l.R ≤ 32) && decide (0 ≤ l.P) && decide (l.P ≤ 65535)
def lightsB (ls : List Lt) : Bool := decide (ls.length ≤ 8) && ls.all rightB
def lightsErr (ls : List Lt) : Int := if ls.length ≤ 8 then okIf (ls.all rightB) 3 else 2
theorem place_iff (n : Int) : placeB n = true ↔ 0 ≤ n ∧ n < 16 := by simp [placeB]
theorem right_iff (l : Lt) : rightB l = true ↔ (0 ≤ l.X ∧ l.X < 16) ∧ (0 ≤ l.Y ∧ l.Y < 16) ∧ (1 ≤ l.R ∧ l.R ≤ 32) ∧ (0 ≤ l.P ∧ l.P ≤ 65535) := by simp [rightB, place_iff, and_assoc]

/-- A slice's elements are the lights ls. -/
structure Lights (w : World) (a : Option Addr) (len : Nat) (ls : List Lt) : Prop where
  leng : ls.length = len
  big : len ≤ 9223372036854775807
  cells : ls = [] ∨ ∃ b off, a = some ⟨b, off, none⟩ ∧ b < w.heap.size ∧ ∀ j, j < len → w.cell? ⟨b, off + j * 4, none⟩ = some (.int .i64 (ls.getD j Lt.zero).X) ∧ w.cell? ⟨b, off + j * 4 + 1, none⟩ = some (.int .i64 (ls.getD j Lt.zero).Y) ∧ w.cell? ⟨b, off + j * 4 + 2, none⟩ = some (.int .i64 (ls.getD j Lt.zero).R) ∧ w.cell? ⟨b, off + j * 4 + 3, none⟩ = some (.int .i64 (ls.getD j Lt.zero).P)
theorem Lights.below {w w' : World} {a : Option Addr} {len : Nat} {ls : List Lt} (h : Lights w a len ls) (hb : Below w.heap.size w w') : Lights w' a len ls := by
  refine ⟨h.leng, h.big, ?_⟩
  rcases h.cells with e | ⟨b, off, ha, hl, hc⟩
  · exact .inl e
  · refine .inr ⟨b, off, ha, Nat.lt_of_lt_of_le hl hb.size, fun j hj => ?_⟩
    obtain ⟨c0, c1, c2, c3⟩ := hc j hj
    exact ⟨(hb.cell (p := ⟨b, off + j * 4, none⟩) hl).trans c0, (hb.cell (p := ⟨b, off + j * 4 + 1, none⟩) hl).trans c1, (hb.cell (p := ⟨b, off + j * 4 + 2, none⟩) hl).trans c2, (hb.cell (p := ⟨b, off + j * 4 + 3, none⟩) hl).trans c3⟩

theorem below_stepL {w a b : World} (h : Below w.heap.size w a) (k : Below a.heap.size a b) : Below w.heap.size w b := h.trans (k.mono h.size)
theorem isPlace_any (n : Int) (w : World) : Calls Try.prog 51 #[.int .i64 n] w fun e w' => e = .returned (.bool (placeB n)) ∧ w = w' := by
  by_cases h1 : 0 ≤ n
  · by_cases h2 : n < 16
    · go_enter Try.func51, Try.ntmps51
      go_wp2
      go_ret
      exact ⟨by simp [placeB, h1, h2], rfl⟩
    · go_enter Try.func51, Try.ntmps51
      go_wp2
      go_ret
      exact ⟨by simp [placeB, h1]; omega, rfl⟩
  · go_enter Try.func51, Try.ntmps51
    go_wp2
    go_ret
    exact ⟨by simp [placeB]; omega, rfl⟩
theorem isRight_any (l : Lt) (w : World) : Calls Try.prog 50 #[.agg #[.int .i64 l.X, .int .i64 l.Y, .int .i64 l.R, .int .i64 l.P]] w fun e w' => e = .returned (.bool (rightB l)) ∧ Below w.heap.size w w' := by
  obtain ⟨X, Y, R, P⟩ := l
  dsimp only
  have hB : ∀ o, Below w.heap.size w (w.alloc o) := fun o => (Below.refl _ _).alloc (Nat.le_refl _) _
  by_cases h1 : placeB X = true
  · by_cases h2 : placeB Y = true
    · by_cases h3 : 1 ≤ R
      · by_cases h4 : R ≤ 32
        · by_cases h5 : 0 ≤ P
          · by_cases h6 : P ≤ 65535
            · rw [show rightB ⟨X, Y, R, P⟩ = true by simp [rightB, h1, h2, h3, h4, h5, h6]]
              go_enter Try.func50, Try.ntmps50
              go_wp2_with (go_at_call 51; refine (isPlace_any _ _).mono ?_; rintro e w' ⟨rfl, rfl⟩)
              go_ret
              exact ⟨rfl, hB _⟩
            · rw [show rightB ⟨X, Y, R, P⟩ = false by simp [rightB, h6]]
              have h6' : decide (P ≤ 65535) = false := by simpa using h6
              go_enter Try.func50, Try.ntmps50
              go_wp2_with (go_at_call 51; refine (isPlace_any _ _).mono ?_; rintro e w' ⟨rfl, rfl⟩)
              go_ret
              exact ⟨rfl, hB _⟩
          · rw [show rightB ⟨X, Y, R, P⟩ = false by simp [rightB, h5]]
            go_enter Try.func50, Try.ntmps50
            go_wp2_with (go_at_call 51; refine (isPlace_any _ _).mono ?_; rintro e w' ⟨rfl, rfl⟩)
            go_ret
            exact ⟨rfl, hB _⟩
        · rw [show rightB ⟨X, Y, R, P⟩ = false by simp [rightB, h4]]
          go_enter Try.func50, Try.ntmps50
          go_wp2_with (go_at_call 51; refine (isPlace_any _ _).mono ?_; rintro e w' ⟨rfl, rfl⟩)
          go_ret
          exact ⟨rfl, hB _⟩
      · rw [show rightB ⟨X, Y, R, P⟩ = false by simp [rightB, h3]]
        go_enter Try.func50, Try.ntmps50
        go_wp2_with (go_at_call 51; refine (isPlace_any _ _).mono ?_; rintro e w' ⟨rfl, rfl⟩)
        go_ret
        exact ⟨rfl, hB _⟩
    · have h2' := eq_false_of_ne_true h2
      rw [show rightB ⟨X, Y, R, P⟩ = false by simp [rightB, h2']]
      go_enter Try.func50, Try.ntmps50
      go_wp2_with (go_at_call 51; refine (isPlace_any _ _).mono ?_; rintro e w' ⟨rfl, rfl⟩)
      go_ret
      exact ⟨rfl, hB _⟩
  · have h1' := eq_false_of_ne_true h1
    rw [show rightB ⟨X, Y, R, P⟩ = false by simp [rightB, h1']]
    go_enter Try.func50, Try.ntmps50
    go_wp2_with (go_at_call 51; refine (isPlace_any _ _).mono ?_; rintro e w' ⟨rfl, rfl⟩)
    go_ret
    exact ⟨rfl, hB _⟩

theorem rall_succ (ls : List Lt) (k : Nat) (hk : k < ls.length) (h : (ls.take k).all rightB = true) (h' : rightB (ls.getD k Lt.zero) = true) : (ls.take (k + 1)).all rightB = true := by
  rw [List.getD_eq_getElem?_getD, List.getElem?_eq_getElem hk] at h'
  rw [List.take_succ_eq_append_getElem hk, List.all_append, h]
  simpa using h'
theorem rall_not (ls : List Lt) (k : Nat) (hk : k < ls.length) (h' : rightB (ls.getD k Lt.zero) = false) : ls.all rightB = false := by
  rw [List.getD_eq_getElem?_getD, List.getElem?_eq_getElem hk] at h'
  rw [List.all_eq_false]
  exact ⟨ls[k], List.getElem_mem hk, by simpa using h'⟩

theorem checkL_many (a : Option Addr) (len cap : Nat) (w : World) (h : 8 < len) (_hb : len ≤ 9223372036854775807) : Calls Try.prog 44 #[.slice a len cap] w fun e w' => e = .returned (.int .i64 2) ∧ Below w.heap.size w w' := by
  have h' : (8 : Int) < (len : Int) := by omega
  go_enter Try.func44, Try.ntmps44
  go_wp2
  go_ret
  exact ⟨rfl, Below.refl _ _⟩
theorem checkL_nil (a : Option Addr) (cap : Nat) (w : World) : Calls Try.prog 44 #[.slice a 0 cap] w fun e w' => e = .returned (.int .i64 0) ∧ Below w.heap.size w w' := by
  go_enter Try.func44, Try.ntmps44
  go_wp2
  go_loop [10] (fun i => i = .int .i64 0) (fun _ => 0)
  case atStart => rfl
  case round =>
    subst hrel
    go_wp2
    go_ret
    exact ⟨rfl, Below.refl _ _⟩
set_option maxHeartbeats 1000000 in
theorem checkL_row (b off len cap : Nat) (ls : List Lt) (w : World) (hl : ls.length = len) (h8 : len ≤ 8) (hb : b < w.heap.size) (hc : ∀ j, j < len → w.cell? ⟨b, off + j * 4, none⟩ = some (.int .i64 (ls.getD j Lt.zero).X) ∧ w.cell? ⟨b, off + j * 4 + 1, none⟩ = some (.int .i64 (ls.getD j Lt.zero).Y) ∧ w.cell? ⟨b, off + j * 4 + 2, none⟩ = some (.int .i64 (ls.getD j Lt.zero).R) ∧ w.cell? ⟨b, off + j * 4 + 3, none⟩ = some (.int .i64 (ls.getD j Lt.zero).P)) :
    Calls Try.prog 44 #[.slice (some ⟨b, off, none⟩) len cap] w fun e w' => e = .returned (.int .i64 (okIf (ls.all rightB) 3)) ∧ Below w.heap.size w w' := by
  have h8' : ¬ (8 : Int) < (len : Int) := by omega
  go_enter Try.func44, Try.ntmps44
  go_wp2
  go_loopw [10] (fun i wr => ∃ k : Nat, k ≤ len ∧ i = .int .i64 k ∧ (ls.take k).all rightB = true ∧ Below w.heap.size w wr) (fun i _ => len - (intOf i).toNat)
  case atStart => exact ⟨0, Nat.zero_le _, rfl, rfl, Below.refl _ _⟩
  case round =>
    obtain ⟨k, hk, rfl, hall, hbr⟩ := hrel
    by_cases hlt : k < len
    · obtain ⟨c0, c1, c2, c3⟩ := hc k hlt
      replace c0 := (hbr.cell (p := ⟨b, off + k * 4, none⟩) hb).trans c0
      replace c1 := (hbr.cell (p := ⟨b, off + k * 4 + 1, none⟩) hb).trans c1
      replace c2 := (hbr.cell (p := ⟨b, off + k * 4 + 2, none⟩) hb).trans c2
      replace c3 := (hbr.cell (p := ⟨b, off + k * 4 + 3, none⟩) hb).trans c3
      have hir := fun wx => isRight_any (ls.getD k Lt.zero) wx
      have n1 := rall_succ ls k (by omega) hall
      have n2 := rall_not ls k (by omega)
      generalize ls.getD k Lt.zero = l at c0 c1 c2 c3 hir n1 n2
      obtain ⟨X, Y, R, P⟩ := l
      dsimp only at c0 c1 c2 c3 hir
      clear hc
      by_cases hr : rightB ⟨X, Y, R, P⟩ = true
      · rw [hr] at hir
        clear n2
        go_wp2_with (go_at_call 50; refine (hir _).mono ?_; rintro e w2 ⟨rfl, hb2⟩)
        have hbn := below_stepL (hbr.alloc hbr.size _) hb2
        go_roundw
        case rel => exact ⟨k + 1, by omega, by go_num, n1 hr, hbn⟩
        case measure => simp [intOf]; omega
      · have hr' := eq_false_of_ne_true hr
        rw [hr'] at hir
        have hx := n2 hr'
        clear n1 n2
        go_wp2_with (go_at_call 50; refine (hir _).mono ?_; rintro e w2 ⟨rfl, hb2⟩)
        have hbn := below_stepL (hbr.alloc hbr.size _) hb2
        go_ret
        exact ⟨by first | rfl | (rw [hx]; rfl), hbn⟩
    · have hx : ls.all rightB = true := by rw [List.take_of_length_le (by omega)] at hall; exact hall
      go_wp2
      go_ret
      exact ⟨by first | rfl | (rw [hx]; rfl), hbr⟩
/-- light.Check. -/
theorem checkL_any {a : Option Addr} {len : Nat} (cap : Nat) {ls : List Lt} {w : World} (h : Lights w a len ls) : Calls Try.prog 44 #[.slice a len cap] w fun e w' => e = .returned (.int .i64 (lightsErr ls)) ∧ Below w.heap.size w w' := by
  have hl := h.leng
  by_cases h8 : ls.length ≤ 8
  · have e : lightsErr ls = okIf (ls.all rightB) 3 := by simp [lightsErr, h8]
    rw [e]
    rcases h.cells with e | ⟨b, off, rfl, hb, hc⟩
    · subst e
      have : len = 0 := by simpa using hl.symm
      subst this
      exact checkL_nil a cap w
    · exact checkL_row b off len cap ls w hl (by omega) hb hc
  · have e : lightsErr ls = 2 := by simp [lightsErr, h8]
    rw [e]
    exact checkL_many a len cap w (by omega) h.big
end Go.Proofs.Ytbcicopgcmiaaaa
/-
  FRM: what a frame is, its errors, its sizes and its sources, as numbers and lists alone.
-/
namespace Go.Proofs.Ytbcicopgcmiaaaa
set_option maxRecDepth 100000
open Go.RowKit Im

/-- A pass. -/
structure Ps where
  Op : Int
  To : Int
  A : Int
  B : Int
  K : Int
  ls : List Lt
abbrev Ps.zero : Ps := ⟨0, 0, 0, 0, 0, []⟩
/-- A frame. -/
structure Fr where
  W : Int
  H : Int
  S : Int
  O : Int
  ps : List Ps
abbrev Sz := Int × Int
abbrev Sz.zero : Sz := (0, 0)

def hasA (op : Int) : Bool := withinB op 3 13
def hasB (op : Int) : Bool := withinB op 4 7
def hasK (op : Int) : Bool := decide (op = 1) || decide (op = 2) || decide (op = 8) || decide (op = 9) || decide (op = 13)
def hasL (op : Int) : Bool := decide (op = 13)
def knownB (op : Int) : Bool := withinB op 1 13
def slotB (n S : Int) : Bool := withinB n 0 (S - 1)
def kB (op k : Int) : Bool := if op = 9 then withinB k (-16) 16 else if op = 13 then withinB k 1 16 else withinB k 0 65535
def takesP (p : Ps) : List Int := if hasB p.Op then [p.A, p.B] else if hasA p.Op then [p.A] else []
def slotsB (p : Ps) (S : Int) : Bool := (takesP p).all (fun s => slotB s S) && slotB p.To S
def bareB (p : Ps) : Bool := (hasA p.Op || decide (p.A = 0)) && (hasB p.Op || decide (p.B = 0)) && (hasK p.Op || decide (p.K = 0)) && (hasL p.Op || decide (p.ls.length = 0))
def ownB (p : Ps) : Bool := (takesP p).any fun s => decide (s = p.To)
/-- The error that a pass has by itself. -/
def ownE (p : Ps) (S : Int) : Int :=
  if knownB p.Op = true then
    if slotsB p S = true ∧ (hasK p.Op = true → kB p.Op p.K = true) then
      if hasL p.Op = true ∧ lightsErr p.ls ≠ 0 then lightsErr p.ls
      else if bareB p = true ∧ ownB p = false then 0 else 1
    else 3
  else 4

/-- The last of the first n passes that made what lies in slot s; -1: none. -/
def wrt (ps : List Ps) : Nat → Int → Int
  | 0, _ => -1
  | n + 1, s => if (ps.getD n Ps.zero).To = s then n else wrt ps n s
def srcOf (ps : List Ps) (n : Nat) : List Int := (takesP (ps.getD n Ps.zero)).map (wrt ps n)
def thereB (is : List Int) : Bool := is.all fun i => decide (0 ≤ i)
def pickZ (zs : List Sz) (is : List Int) : List Sz := is.map fun i => zs.getD i.toNat Sz.zero
def sizeP (W H op : Int) (zs : List Sz) : Sz :=
  if op = 1 ∨ op = 2 then (W, H)
  else if op = 11 then ((zs.getD 0 Sz.zero).1 / 2, (zs.getD 0 Sz.zero).2 / 2)
  else if op = 12 then (2 * (zs.getD 0 Sz.zero).1, 2 * (zs.getD 0 Sz.zero).2)
  else zs.getD 0 Sz.zero
def fitP (op : Int) (zs : List Sz) : Bool :=
  if op = 11 then decide ((zs.getD 0 Sz.zero).1 % 2 = 0) && decide ((zs.getD 0 Sz.zero).2 % 2 = 0)
  else if op = 12 then decide (2 * (zs.getD 0 Sz.zero).1 ≤ 16) && decide (2 * (zs.getD 0 Sz.zero).2 ≤ 16)
  else if hasB op = true then decide (zs.getD 0 Sz.zero = zs.getD 1 Sz.zero)
  else true
/-- The sizes of the first n passes' images. -/
def szs (f : Fr) : Nat → List Sz
  | 0 => []
  | n + 1 => szs f n ++ [sizeP f.W f.H (f.ps.getD n Ps.zero).Op (pickZ (szs f n) (srcOf f.ps n))]
/-- The error of pass n, where the passes ahead of it have none. -/
def passE (f : Fr) (n : Nat) : Int :=
  if ownE (f.ps.getD n Ps.zero) f.S = 0 then
    if thereB (srcOf f.ps n) = true then
      if fitP (f.ps.getD n Ps.zero).Op (pickZ (szs f n) (srcOf f.ps n)) = true then 0 else 6
    else 5
  else ownE (f.ps.getD n Ps.zero) f.S
/-- The first error of the first n passes. -/
def firstE (f : Fr) : Nat → Int
  | 0 => 0
  | n + 1 => if firstE f n = 0 then passE f n else firstE f n
def boundsE (f : Fr) : Int :=
  if sideB f.W = true ∧ sideB f.H = true ∧ withinB f.S 1 8 = true ∧ slotB f.O f.S = true then
    if withinB f.ps.length 1 12 = true then 0 else 2
  else 3
def shownP (f : Fr) : Int := wrt f.ps f.ps.length f.O
/-- The error of a frame. -/
def frameE (f : Fr) : Int :=
  if boundsE f = 0 then
    if firstE f f.ps.length = 0 then
      if 0 ≤ shownP f then 0 else 5
    else firstE f f.ps.length
  else boundsE f

theorem szs_length (f : Fr) (n : Nat) : (szs f n).length = n := by
  induction n with
  | zero => rfl
  | succ n ih => simp [szs, ih]
theorem firstE_stays (f : Fr) {k : Nat} {e : Int} (h : firstE f k = e) (he : e ≠ 0) (n : Nat) : firstE f (k + n) = e := by
  induction n with
  | zero => exact h
  | succ n ih =>
    show (if firstE f (k + n) = 0 then passE f (k + n) else firstE f (k + n)) = e
    rw [ih, if_neg he]
theorem firstE_at (f : Fr) {k : Nat} (h : firstE f k = 0) : firstE f (k + 1) = passE f k := by
  show (if firstE f k = 0 then passE f k else firstE f k) = _
  rw [if_pos h]
theorem firstE_end (f : Fr) {k : Nat} (h : firstE f k = 0) (he : passE f k ≠ 0) {n : Nat} (hk : k < n) : firstE f n = passE f k := by
  have h1 := firstE_at f h
  obtain ⟨m, rfl⟩ : ∃ m, n = k + 1 + m := ⟨n - (k + 1), by omega⟩
  exact firstE_stays f h1 he m
theorem firstE_down (f : Fr) {n : Nat} (h : firstE f n = 0) {k : Nat} (hk : k ≤ n) : firstE f k = 0 := by
  by_cases h0 : firstE f k = 0
  · exact h0
  · obtain ⟨m, rfl⟩ : ∃ m, n = k + m := ⟨n - k, by omega⟩
    have := firstE_stays f (k := k) rfl h0 m
    omega
theorem wrt_bd (ps : List Ps) (n : Nat) (s : Int) : -1 ≤ wrt ps n s ∧ wrt ps n s < n := by
  induction n with
  | zero => simp [wrt]
  | succ n ih =>
    show -1 ≤ (if (ps.getD n Ps.zero).To = s then (n : Int) else wrt ps n s) ∧ (if (ps.getD n Ps.zero).To = s then (n : Int) else wrt ps n s) < (n + 1 : Nat)
    split <;> omega
theorem wrt_to (ps : List Ps) (n : Nat) (s : Int) (h : 0 ≤ wrt ps n s) : (ps.getD (wrt ps n s).toNat Ps.zero).To = s := by
  induction n with
  | zero => simp [wrt] at h
  | succ n ih =>
    revert h
    show 0 ≤ (if (ps.getD n Ps.zero).To = s then (n : Int) else wrt ps n s) → (ps.getD (if (ps.getD n Ps.zero).To = s then (n : Int) else wrt ps n s).toNat Ps.zero).To = s
    split
    · intro _; simpa using ‹_›
    · exact ih
/-- A right size. -/
def ZB (z : Sz) : Prop := (1 ≤ z.1 ∧ z.1 ≤ 16) ∧ (1 ≤ z.2 ∧ z.2 ≤ 16)
theorem op_cases {op : Int} (h : knownB op = true) : op = 1 ∨ op = 2 ∨ op = 3 ∨ op = 4 ∨ op = 5 ∨ op = 6 ∨ op = 7 ∨ op = 8 ∨ op = 9 ∨ op = 10 ∨ op = 11 ∨ op = 12 ∨ op = 13 := by
  simp [knownB, withinB] at h; omega
theorem ownE_zero {p : Ps} {S : Int} (h : ownE p S = 0) : knownB p.Op = true ∧ slotsB p S = true ∧ (hasK p.Op = true → kB p.Op p.K = true) ∧ (hasL p.Op = true → lightsErr p.ls = 0) ∧ bareB p = true ∧ ownB p = false := by
  unfold ownE at h
  by_cases h1 : knownB p.Op = true
  · rw [if_pos h1] at h
    by_cases h2 : slotsB p S = true ∧ (hasK p.Op = true → kB p.Op p.K = true)
    · rw [if_pos h2] at h
      by_cases h3 : hasL p.Op = true ∧ lightsErr p.ls ≠ 0
      · rw [if_pos h3] at h; exact absurd h h3.2
      · rw [if_neg h3] at h
        by_cases h4 : bareB p = true ∧ ownB p = false
        · exact ⟨h1, h2.1, h2.2, fun h5 => Classical.byContradiction fun h6 => h3 ⟨h5, h6⟩, h4.1, h4.2⟩
        · rw [if_neg h4] at h; cases h
    · rw [if_neg h2] at h; cases h
  · rw [if_neg h1] at h; cases h
theorem passE_zero {f : Fr} {n : Nat} (h : passE f n = 0) : ownE (f.ps.getD n Ps.zero) f.S = 0 ∧ thereB (srcOf f.ps n) = true ∧ fitP (f.ps.getD n Ps.zero).Op (pickZ (szs f n) (srcOf f.ps n)) = true := by
  unfold passE at h
  by_cases h1 : ownE (f.ps.getD n Ps.zero) f.S = 0
  · rw [if_pos h1] at h
    by_cases h2 : thereB (srcOf f.ps n) = true
    · rw [if_pos h2] at h
      by_cases h3 : fitP (f.ps.getD n Ps.zero).Op (pickZ (szs f n) (srcOf f.ps n)) = true
      · exact ⟨h1, h2, h3⟩
      · rw [if_neg h3] at h; cases h
    · rw [if_neg h2] at h; cases h
  · rw [if_neg h1] at h; exact absurd h h1
theorem src_bd {ps : List Ps} {n : Nat} (h : thereB (srcOf ps n) = true) : ∀ i ∈ srcOf ps n, 0 ≤ i ∧ i < n := by
  intro i hi
  have h1 : 0 ≤ i := by
    unfold thereB at h
    rw [List.all_eq_true] at h
    simpa using h i hi
  unfold srcOf at hi
  rw [List.mem_map] at hi
  obtain ⟨s, _, rfl⟩ := hi
  exact ⟨h1, (wrt_bd ps n s).2⟩
theorem hasA_of {p : Ps} (h : knownB p.Op = true) (h1 : ¬ p.Op = 1) (h2 : ¬ p.Op = 2) : hasA p.Op = true := by
  simp [knownB, withinB] at h; simp [hasA, withinB]; omega
theorem takes_pos {p : Ps} (h : hasA p.Op = true) : ∃ r, takesP p = p.A :: r := by
  unfold takesP
  by_cases hb : hasB p.Op = true
  · rw [if_pos hb]; exact ⟨_, rfl⟩
  · rw [if_neg hb, if_pos h]; exact ⟨_, rfl⟩
theorem pickZ_bd {zs : List Sz} {is : List Int} {n : Nat} (hl : zs.length = n) (hz : ∀ z ∈ zs, ZB z) (hi : ∀ i ∈ is, 0 ≤ i ∧ i < n) : ∀ z ∈ pickZ zs is, ZB z := by
  intro z h
  unfold pickZ at h
  rw [List.mem_map] at h
  obtain ⟨i, h1, rfl⟩ := h
  have h2 := hi i h1
  have h3 : i.toNat < zs.length := by omega
  rw [List.getD_eq_getElem?_getD, List.getElem?_eq_getElem h3]
  exact hz _ (List.getElem_mem h3)
theorem getD_mem {α : Type} {l : List α} {k : Nat} (h : k < l.length) (d : α) : l.getD k d ∈ l := by
  rw [List.getD_eq_getElem?_getD, List.getElem?_eq_getElem h]
  exact List.getElem_mem h
theorem sizeP_bd {W H op : Int} {zs : List Sz} (hW : 1 ≤ W ∧ W ≤ 16) (hH : 1 ≤ H ∧ H ≤ 16) (hk : knownB op = true) (hz : ∀ z ∈ zs, ZB z) (hl : hasA op = true → 0 < zs.length) (hf : fitP op zs = true) : ZB (sizeP W H op zs) := by
  unfold sizeP
  by_cases h1 : op = 1 ∨ op = 2
  · rw [if_pos h1]; exact ⟨hW, hH⟩
  · rw [if_neg h1]
    have hA : hasA op = true := by simp [knownB, withinB] at hk; simp [hasA, withinB]; omega
    have h0 := hz _ (getD_mem (hl hA) Sz.zero)
    unfold fitP at hf
    by_cases h2 : op = 11
    · rw [if_pos h2] at hf ⊢
      simp only [Bool.and_eq_true, decide_eq_true_eq] at hf
      obtain ⟨⟨a1, a2⟩, ⟨a3, a4⟩⟩ := h0
      refine ⟨⟨?_, ?_⟩, ⟨?_, ?_⟩⟩ <;> dsimp only <;> omega
    · rw [if_neg h2] at hf ⊢
      by_cases h3 : op = 12
      · rw [if_pos h3] at hf ⊢
        simp only [Bool.and_eq_true, decide_eq_true_eq] at hf
        obtain ⟨⟨a1, a2⟩, ⟨a3, a4⟩⟩ := h0
        refine ⟨⟨?_, ?_⟩, ⟨?_, ?_⟩⟩ <;> dsimp only <;> omega
      · rw [if_neg h3]; exact h0
theorem szs_bd {f : Fr} (hb : boundsE f = 0) : ∀ {n : Nat}, firstE f n = 0 → ∀ z ∈ szs f n, ZB z
  | 0, _ => by intro z h; cases h
  | n + 1, h => by
    have h0 := firstE_down f h (Nat.le_succ n)
    have ih := szs_bd hb h0
    rw [firstE_at f h0] at h
    obtain ⟨p1, p2, p3⟩ := passE_zero h
    obtain ⟨o1, _⟩ := ownE_zero p1
    have hWH : (1 ≤ f.W ∧ f.W ≤ 16) ∧ (1 ≤ f.H ∧ f.H ≤ 16) := by
      unfold boundsE at hb
      by_cases hc : sideB f.W = true ∧ sideB f.H = true ∧ withinB f.S 1 8 = true ∧ slotB f.O f.S = true
      · exact ⟨(side_iff _).1 hc.1, (side_iff _).1 hc.2.1⟩
      · rw [if_neg hc] at hb; cases hb
    intro z hz
    have e : szs f (n + 1) = szs f n ++ [sizeP f.W f.H (f.ps.getD n Ps.zero).Op (pickZ (szs f n) (srcOf f.ps n))] := rfl
    rw [e, List.mem_append] at hz
    rcases hz with hz | hz
    · exact ih z hz
    · rw [List.mem_singleton] at hz
      subst hz
      refine sizeP_bd hWH.1 hWH.2 o1 (pickZ_bd (szs_length f n) ih (src_bd p2)) (fun hA => ?_) p3
      obtain ⟨r, hr⟩ := takes_pos hA
      unfold pickZ srcOf; rw [hr]; simp
theorem boundsE_zero {f : Fr} (h : boundsE f = 0) : (1 ≤ f.W ∧ f.W ≤ 16) ∧ (1 ≤ f.H ∧ f.H ≤ 16) ∧ (1 ≤ f.S ∧ f.S ≤ 8) ∧ (0 ≤ f.O ∧ f.O < f.S) ∧ (1 ≤ f.ps.length ∧ f.ps.length ≤ 12) := by
  unfold boundsE at h
  by_cases hc : sideB f.W = true ∧ sideB f.H = true ∧ withinB f.S 1 8 = true ∧ slotB f.O f.S = true
  · rw [if_pos hc] at h
    by_cases hd : withinB f.ps.length 1 12 = true
    · obtain ⟨h1, h2, h3, h4⟩ := hc
      simp [withinB, slotB] at h3 h4 hd
      refine ⟨(side_iff _).1 h1, (side_iff _).1 h2, ?_, ?_, ?_⟩ <;> omega
    · rw [if_neg hd] at h; cases h
  · rw [if_neg hc] at h; cases h
theorem frameE_zero {f : Fr} (h : frameE f = 0) : boundsE f = 0 ∧ firstE f f.ps.length = 0 ∧ 0 ≤ shownP f := by
  unfold frameE at h
  by_cases h1 : boundsE f = 0
  · rw [if_pos h1] at h
    by_cases h2 : firstE f f.ps.length = 0
    · rw [if_pos h2] at h
      by_cases h3 : 0 ≤ shownP f
      · exact ⟨h1, h2, h3⟩
      · rw [if_neg h3] at h; cases h
    · rw [if_neg h2] at h; exact absurd h h2
  · rw [if_neg h1] at h; exact absurd h h1
end Go.Proofs.Ytbcicopgcmiaaaa
/-
  WIREM: numbers alone: the bytes of a frame, and the frame of which bytes are.
-/
namespace Go.Proofs.Ytbcicopgcmiaaaa
set_option maxRecDepth 100000

def b8 (n : Int) : Int := n % 256
def lightBytes (l : Lt) : List Int := [b8 l.X, b8 l.Y, b8 l.R, b8 (l.P / 256), b8 l.P]
def passBytes (p : Ps) : List Int := [b8 p.Op, b8 p.To, b8 p.A, b8 p.B, b8 (p.K / 65536), b8 (p.K / 256), b8 p.K, b8 p.ls.length] ++ p.ls.flatMap lightBytes
def frameBytes (f : Fr) : List Int := [b8 f.W, b8 f.H, b8 f.S, b8 f.O, b8 f.ps.length] ++ f.ps.flatMap passBytes
/-- The n numbers from place i on; nothing there is 0. -/
def win (s : List Int) (i n : Nat) : List Int := (List.range n).map fun k => s.getD (i + k) 0
theorem win_len (s : List Int) (i n : Nat) : (win s i n).length = n := by simp [win]
theorem win_add (s : List Int) (i n m : Nat) : win s i (n + m) = win s i n ++ win s (i + n) m := by
  unfold win
  rw [List.range_add, List.map_append, List.map_map]
  congr 1
  refine List.map_congr_left fun k _ => ?_
  simp only [Function.comp]
  rw [Nat.add_assoc]
theorem win_all (s : List Int) : win s 0 s.length = s := by
  refine List.ext_getElem? fun k => ?_
  unfold win
  by_cases h : k < s.length
  · simp [h, List.getD]
  · rw [List.getElem?_eq_none (by simp; omega), List.getElem?_eq_none (by omega)]
/-- The number for which n, of three bytes, stands. -/
def sgn (n : Int) : Int := if 8388608 ≤ n then n - 16777216 else n
def rdLight (s : List Int) (i : Nat) : Lt := ⟨s.getD i 0, s.getD (i + 1) 0, s.getD (i + 2) 0, 256 * s.getD (i + 3) 0 + s.getD (i + 4) 0⟩
def rdLights (s : List Int) (i : Nat) : Nat → List Lt
  | 0 => []
  | n + 1 => rdLights s i n ++ [rdLight s (i + 5 * n)]
def rdPass (s : List Int) (i : Nat) : Ps := ⟨s.getD i 0, s.getD (i + 1) 0, s.getD (i + 2) 0, s.getD (i + 3) 0, sgn (65536 * s.getD (i + 4) 0 + 256 * s.getD (i + 5) 0 + s.getD (i + 6) 0), rdLights s (i + 8) (s.getD (i + 7) 0).toNat⟩
def rdStop (s : List Int) (i : Nat) : Nat := i + 8 + 5 * (s.getD (i + 7) 0).toNat
def rdPos (s : List Int) : Nat → Nat
  | 0 => 5
  | n + 1 => rdStop s (rdPos s n)
def rdPasses (s : List Int) : Nat → List Ps
  | 0 => []
  | n + 1 => rdPasses s n ++ [rdPass s (rdPos s n)]
def rdFrame (s : List Int) : Fr := ⟨s.getD 0 0, s.getD 1 0, s.getD 2 0, s.getD 3 0, rdPasses s (s.getD 4 0).toNat⟩
def rdEnd (s : List Int) : Nat := rdPos s (s.getD 4 0).toNat
/-- All are bytes. -/
def Bytes (s : List Int) : Prop := ∀ x ∈ s, 0 ≤ x ∧ x < 256
theorem Bytes.at {s : List Int} (h : Bytes s) (i : Nat) : 0 ≤ s.getD i 0 ∧ s.getD i 0 < 256 := by
  rw [List.getD_eq_getElem?_getD]
  by_cases hi : i < s.length
  · rw [List.getElem?_eq_getElem hi]; exact h _ (List.getElem_mem hi)
  · rw [List.getElem?_eq_none (by omega)]; simp
theorem Bytes.low {s : List Int} (h : Bytes s) (i : Nat) : b8 (s.getD i 0) = s.getD i 0 := by
  have := h.at i
  unfold b8
  omega
theorem rdLights_len (s : List Int) (i : Nat) : ∀ n, (rdLights s i n).length = n
  | 0 => rfl
  | n + 1 => by unfold rdLights; rw [List.length_append, rdLights_len s i n]; rfl
theorem rdPasses_len (s : List Int) : ∀ n, (rdPasses s n).length = n
  | 0 => rfl
  | n + 1 => by unfold rdPasses; rw [List.length_append, rdPasses_len s n]; rfl
theorem bytes_light {s : List Int} (h : Bytes s) (i : Nat) : lightBytes (rdLight s i) = win s i 5 := by
  have h3 := h.at (i + 3)
  have h4 := h.at (i + 4)
  have e1 : b8 ((256 * s.getD (i + 3) 0 + s.getD (i + 4) 0) / 256) = s.getD (i + 3) 0 := by unfold b8; omega
  have e2 : b8 (256 * s.getD (i + 3) 0 + s.getD (i + 4) 0) = s.getD (i + 4) 0 := by unfold b8; omega
  show [b8 (s.getD i 0), b8 (s.getD (i + 1) 0), b8 (s.getD (i + 2) 0), b8 ((256 * s.getD (i + 3) 0 + s.getD (i + 4) 0) / 256), b8 (256 * s.getD (i + 3) 0 + s.getD (i + 4) 0)] = [s.getD (i + 0) 0, s.getD (i + 1) 0, s.getD (i + 2) 0, s.getD (i + 3) 0, s.getD (i + 4) 0]
  rw [h.low i, h.low (i + 1), h.low (i + 2), e1, e2]; rfl
theorem bytes_lights {s : List Int} (h : Bytes s) (i : Nat) : ∀ n, (rdLights s i n).flatMap lightBytes = win s i (5 * n)
  | 0 => rfl
  | n + 1 => by
    unfold rdLights
    rw [List.flatMap_append, bytes_lights h i n, show 5 * (n + 1) = 5 * n + 5 by omega, win_add]
    simp [bytes_light h]
theorem bytes_pass {s : List Int} (h : Bytes s) (i : Nat) : passBytes (rdPass s i) = win s i (8 + 5 * (s.getD (i + 7) 0).toNat) := by
  have h4 := h.at (i + 4)
  have h5 := h.at (i + 5)
  have h6 := h.at (i + 6)
  have h7 := h.at (i + 7)
  have e1 : b8 (sgn (65536 * s.getD (i + 4) 0 + 256 * s.getD (i + 5) 0 + s.getD (i + 6) 0) / 65536) = s.getD (i + 4) 0 := by unfold b8 sgn; split <;> omega
  have e2 : b8 (sgn (65536 * s.getD (i + 4) 0 + 256 * s.getD (i + 5) 0 + s.getD (i + 6) 0) / 256) = s.getD (i + 5) 0 := by unfold b8 sgn; split <;> omega
  have e3 : b8 (sgn (65536 * s.getD (i + 4) 0 + 256 * s.getD (i + 5) 0 + s.getD (i + 6) 0)) = s.getD (i + 6) 0 := by unfold b8 sgn; split <;> omega
  have e4 : b8 ((rdLights s (i + 8) (s.getD (i + 7) 0).toNat).length : Int) = s.getD (i + 7) 0 := by rw [rdLights_len]; unfold b8; omega
  rw [win_add, ← bytes_lights h]
  show [b8 (s.getD i 0), b8 (s.getD (i + 1) 0), b8 (s.getD (i + 2) 0), b8 (s.getD (i + 3) 0), b8 (sgn (65536 * s.getD (i + 4) 0 + 256 * s.getD (i + 5) 0 + s.getD (i + 6) 0) / 65536), b8 (sgn (65536 * s.getD (i + 4) 0 + 256 * s.getD (i + 5) 0 + s.getD (i + 6) 0) / 256), b8 (sgn (65536 * s.getD (i + 4) 0 + 256 * s.getD (i + 5) 0 + s.getD (i + 6) 0)), b8 ((rdLights s (i + 8) (s.getD (i + 7) 0).toNat).length : Int)] ++ (rdLights s (i + 8) (s.getD (i + 7) 0).toNat).flatMap lightBytes = [s.getD (i + 0) 0, s.getD (i + 1) 0, s.getD (i + 2) 0, s.getD (i + 3) 0, s.getD (i + 4) 0, s.getD (i + 5) 0, s.getD (i + 6) 0, s.getD (i + 7) 0] ++ _
  rw [h.low i, h.low (i + 1), h.low (i + 2), h.low (i + 3), e1, e2, e3, e4]; rfl
theorem rdPos_ge (s : List Int) : ∀ n, 5 + 8 * n ≤ rdPos s n
  | 0 => Nat.le_refl _
  | n + 1 => by have := rdPos_ge s n; show _ ≤ rdStop s (rdPos s n); unfold rdStop; omega
theorem bytes_passes {s : List Int} (h : Bytes s) : ∀ n, win s 0 5 ++ (rdPasses s n).flatMap passBytes = win s 0 (rdPos s n)
  | 0 => by simp [rdPasses, rdPos]
  | n + 1 => by
    have ih := bytes_passes h n
    unfold rdPasses
    rw [List.flatMap_append, ← List.append_assoc, ih]
    show _ = win s 0 (rdStop s (rdPos s n))
    unfold rdStop
    rw [Nat.add_assoc, win_add, Nat.zero_add]
    simp [bytes_pass h]
/-- The bytes of the frame that is read are those that were read. -/
theorem bytes_frame {s : List Int} (h : Bytes s) : frameBytes (rdFrame s) = win s 0 (rdEnd s) := by
  have h4 := h.at 4
  have e4 : b8 ((rdPasses s (s.getD 4 0).toNat).length : Int) = s.getD 4 0 := by rw [rdPasses_len]; unfold b8; omega
  unfold rdEnd
  rw [← bytes_passes h]
  show [b8 (s.getD 0 0), b8 (s.getD 1 0), b8 (s.getD 2 0), b8 (s.getD 3 0), b8 ((rdPasses s (s.getD 4 0).toNat).length : Int)] ++ _ = _
  rw [h.low 0, h.low 1, h.low 2, h.low 3, e4]; rfl
theorem bytes_same {s : List Int} (h : Bytes s) : frameBytes (rdFrame s) = s ↔ rdEnd s = s.length := by
  rw [bytes_frame h]
  constructor
  · intro e
    have := congrArg List.length e
    rwa [win_len] at this
  · intro e
    rw [e, win_all]
/-- Lights, passes and frames whose numbers go into their bytes. -/
def LtOk (l : Lt) : Prop := (0 ≤ l.X ∧ l.X < 256) ∧ (0 ≤ l.Y ∧ l.Y < 256) ∧ (0 ≤ l.R ∧ l.R < 256) ∧ (0 ≤ l.P ∧ l.P < 65536)
def PsOk (p : Ps) : Prop := (0 ≤ p.Op ∧ p.Op < 256) ∧ (0 ≤ p.To ∧ p.To < 256) ∧ (0 ≤ p.A ∧ p.A < 256) ∧ (0 ≤ p.B ∧ p.B < 256) ∧ (-8388608 ≤ p.K ∧ p.K < 8388608) ∧ p.ls.length < 256 ∧ ∀ l ∈ p.ls, LtOk l
def FrOk (f : Fr) : Prop := (0 ≤ f.W ∧ f.W < 256) ∧ (0 ≤ f.H ∧ f.H < 256) ∧ (0 ≤ f.S ∧ f.S < 256) ∧ (0 ≤ f.O ∧ f.O < 256) ∧ f.ps.length < 256 ∧ ∀ p ∈ f.ps, PsOk p
theorem getD_mid {pre l post : List Int} {k : Nat} (h : k < l.length) : (pre ++ (l ++ post)).getD (pre.length + k) 0 = l.getD k 0 := by
  rw [List.getD_eq_getElem?_getD, List.getElem?_append_right (by omega), Nat.add_sub_cancel_left, List.getElem?_append_left h, ← List.getD_eq_getElem?_getD]
theorem read_light {pre post : List Int} {l : Lt} (h : LtOk l) : rdLight (pre ++ (lightBytes l ++ post)) pre.length = l := by
  obtain ⟨hX, hY, hR, hP⟩ := h
  have g : ∀ k, k < 5 → (pre ++ (lightBytes l ++ post)).getD (pre.length + k) 0 = (lightBytes l).getD k 0 := fun k hk => getD_mid hk
  have g0 := g 0 (by omega)
  rw [Nat.add_zero] at g0
  unfold rdLight
  rw [g0, g 1 (by omega), g 2 (by omega), g 3 (by omega), g 4 (by omega)]
  obtain ⟨X, Y, R, P⟩ := l
  show Lt.mk (b8 X) (b8 Y) (b8 R) (256 * b8 (P / 256) + b8 P) = ⟨X, Y, R, P⟩
  simp only at hX hY hR hP
  have e1 : b8 X = X := by unfold b8; omega
  have e2 : b8 Y = Y := by unfold b8; omega
  have e3 : b8 R = R := by unfold b8; omega
  have e4 : 256 * b8 (P / 256) + b8 P = P := by unfold b8; omega
  rw [e1, e2, e3, e4]
theorem lights_len : ∀ ls : List Lt, (ls.flatMap lightBytes).length = 5 * ls.length
  | [] => rfl
  | l :: ls => by rw [List.flatMap_cons, List.length_append, lights_len ls]; simp [lightBytes]; omega
theorem read_lights {pre post : List Int} : ∀ {ls : List Lt}, (∀ l ∈ ls, LtOk l) → ∀ n, n ≤ ls.length → rdLights (pre ++ (ls.flatMap lightBytes ++ post)) pre.length n = ls.take n
  | ls, h, 0, _ => by simp [rdLights]
  | ls, h, n + 1, hn => by
    have hl : n < ls.length := by omega
    have ih := read_lights (pre := pre) (post := post) h n (by omega)
    unfold rdLights
    rw [ih, List.take_succ_eq_append_getElem hl]
    congr 2
    have e : ls = ls.take n ++ (ls[n] :: ls.drop (n + 1)) := by rw [← List.drop_eq_getElem_cons hl, List.take_append_drop]
    have e2 : pre ++ (ls.flatMap lightBytes ++ post) = (pre ++ (ls.take n).flatMap lightBytes) ++ (lightBytes ls[n] ++ ((ls.drop (n + 1)).flatMap lightBytes ++ post)) := by
      refine (congrArg (fun l => pre ++ (l.flatMap lightBytes ++ post)) e).trans ?_
      simp only [List.flatMap_append, List.flatMap_cons, List.append_assoc]
    have e3 : pre.length + 5 * n = (pre ++ (ls.take n).flatMap lightBytes).length := by
      rw [List.length_append, lights_len, List.length_take]; omega
    rw [e2, e3]
    exact read_light (h _ (List.getElem_mem hl))
theorem read_pass {pre post : List Int} {p : Ps} (h : PsOk p) : rdPass (pre ++ (passBytes p ++ post)) pre.length = p ∧ rdStop (pre ++ (passBytes p ++ post)) pre.length = pre.length + (passBytes p).length := by
  obtain ⟨hO, hT, hA, hB, hK, hl, hL⟩ := h
  have hlen : (passBytes p).length = 8 + 5 * p.ls.length := by unfold passBytes; rw [List.length_append, lights_len]; rfl
  have g : ∀ k, k < 8 → (pre ++ (passBytes p ++ post)).getD (pre.length + k) 0 = (passBytes p).getD k 0 := fun k hk => getD_mid (by omega)
  have g0 := g 0 (by omega)
  rw [Nat.add_zero] at g0
  have g7 := g 7 (by omega)
  have e7 : (passBytes p).getD 7 0 = p.ls.length := by
    show b8 (p.ls.length : Int) = _
    unfold b8; omega
  have hls : rdLights (pre ++ (passBytes p ++ post)) (pre.length + 8) p.ls.length = p.ls := by
    have := read_lights (pre := pre ++ [b8 p.Op, b8 p.To, b8 p.A, b8 p.B, b8 (p.K / 65536), b8 (p.K / 256), b8 p.K, b8 p.ls.length]) (post := post) hL p.ls.length (Nat.le_refl _)
    rw [List.take_length] at this
    rw [List.length_append] at this
    unfold passBytes
    simpa using this
  constructor
  · unfold rdPass
    rw [g0, g 1 (by omega), g 2 (by omega), g 3 (by omega), g 4 (by omega), g 5 (by omega), g 6 (by omega), g7, e7, Int.toNat_natCast, hls]
    obtain ⟨Op, To, A, B, K, ls⟩ := p
    show Ps.mk (b8 Op) (b8 To) (b8 A) (b8 B) (sgn (65536 * b8 (K / 65536) + 256 * b8 (K / 256) + b8 K)) ls = ⟨Op, To, A, B, K, ls⟩
    simp only at hO hT hA hB hK
    have e1 : b8 Op = Op := by unfold b8; omega
    have e2 : b8 To = To := by unfold b8; omega
    have e3 : b8 A = A := by unfold b8; omega
    have e4 : b8 B = B := by unfold b8; omega
    have e5 : sgn (65536 * b8 (K / 65536) + 256 * b8 (K / 256) + b8 K) = K := by unfold b8 sgn; split <;> omega
    rw [e1, e2, e3, e4, e5]
  · unfold rdStop
    rw [g7, e7, Int.toNat_natCast, hlen]; omega
theorem read_passes {pre : List Int} (h5 : pre.length = 5) : ∀ {ps : List Ps}, (∀ p ∈ ps, PsOk p) → ∀ n, n ≤ ps.length → rdPasses (pre ++ ps.flatMap passBytes) n = ps.take n ∧ rdPos (pre ++ ps.flatMap passBytes) n = (pre ++ (ps.take n).flatMap passBytes).length
  | ps, h, 0, _ => by simp [rdPasses, rdPos, h5]
  | ps, h, n + 1, hn => by
    have hl : n < ps.length := by omega
    obtain ⟨ih1, ih2⟩ := read_passes h5 h n (by omega)
    have e : ps = ps.take n ++ (ps[n] :: ps.drop (n + 1)) := by rw [← List.drop_eq_getElem_cons hl, List.take_append_drop]
    have e2 : pre ++ ps.flatMap passBytes = (pre ++ (ps.take n).flatMap passBytes) ++ (passBytes ps[n] ++ (ps.drop (n + 1)).flatMap passBytes) := by
      refine (congrArg (fun l => pre ++ l.flatMap passBytes) e).trans ?_
      simp only [List.flatMap_append, List.flatMap_cons, List.append_assoc]
    obtain ⟨r1, r2⟩ := read_pass (pre := pre ++ (ps.take n).flatMap passBytes) (post := (ps.drop (n + 1)).flatMap passBytes) (h _ (List.getElem_mem hl))
    rw [← e2, ← ih2] at r1 r2
    refine ⟨?_, ?_⟩
    · unfold rdPasses
      rw [ih1, r1, List.take_succ_eq_append_getElem hl]
    · show rdStop _ (rdPos _ n) = _
      rw [r2, ih2, List.take_succ_eq_append_getElem hl]
      simp only [List.flatMap_append, List.flatMap_cons, List.flatMap_nil, List.append_nil, List.length_append]
      omega
/-- What is written is read as it was. -/
theorem read_frame {f : Fr} (h : FrOk f) : rdFrame (frameBytes f) = f ∧ rdEnd (frameBytes f) = (frameBytes f).length := by
  obtain ⟨hW, hH, hS, hO, hl, hP⟩ := h
  obtain ⟨r1, r2⟩ := read_passes (pre := [b8 f.W, b8 f.H, b8 f.S, b8 f.O, b8 f.ps.length]) rfl hP f.ps.length (Nat.le_refl _)
  rw [List.take_length] at r1 r2
  have e4 : (frameBytes f).getD 4 0 = f.ps.length := by
    show b8 (f.ps.length : Int) = _
    unfold b8; omega
  constructor
  · unfold rdFrame
    rw [e4, Int.toNat_natCast]
    have : rdPasses (frameBytes f) f.ps.length = f.ps := r1
    rw [this]
    obtain ⟨W, H, S, O, ps⟩ := f
    show Fr.mk (b8 W) (b8 H) (b8 S) (b8 O) ps = ⟨W, H, S, O, ps⟩
    simp only at hW hH hS hO
    have e1 : b8 W = W := by unfold b8; omega
    have e2 : b8 H = H := by unfold b8; omega
    have e3 : b8 S = S := by unfold b8; omega
    have e5 : b8 O = O := by unfold b8; omega
    rw [e1, e2, e3, e5]
  · unfold rdEnd
    rw [e4, Int.toNat_natCast]
    exact r2
theorem b8_bd (n : Int) : 0 ≤ b8 n ∧ b8 n < 256 := by unfold b8; omega
theorem bytes_of_frame (f : Fr) : Bytes (frameBytes f) := by
  intro x hx
  have hb : ∀ n, 0 ≤ b8 n ∧ b8 n < 256 := b8_bd
  unfold frameBytes at hx
  rcases List.mem_append.1 hx with h | h
  · simp only [List.mem_cons, List.not_mem_nil, or_false] at h
    rcases h with rfl | rfl | rfl | rfl | rfl <;> exact hb _
  · obtain ⟨p, _, h⟩ := List.mem_flatMap.1 h
    unfold passBytes at h
    rcases List.mem_append.1 h with h | h
    · simp only [List.mem_cons, List.not_mem_nil, or_false] at h
      rcases h with rfl | rfl | rfl | rfl | rfl | rfl | rfl | rfl <;> exact hb _
    · obtain ⟨l, _, h⟩ := List.mem_flatMap.1 h
      unfold lightBytes at h
      simp only [List.mem_cons, List.not_mem_nil, or_false] at h
      rcases h with rfl | rfl | rfl | rfl | rfl <;> exact hb _
end Go.Proofs.Ytbcicopgcmiaaaa
/-
  DRAW: image.draw makes the image that a function of places tells.
-/
namespace Go.Proofs.Ytbcicopgcmiaaaa
set_option maxRecDepth 100000
open Go.RowKit Im

/-- The slice value v is nil or the head of a row of the call's own, from block 'base' on, whose numbers are qs. -/
def Owns (base : Nat) (w : World) (v : Value) (qs : List Int) : Prop := w.ownsRow base 3 1 v qs.length (qs.map (Value.int .i64))

theorem Owns.ints {base : Nat} {w : World} {v : Value} {qs : List Int} (h : Owns base w v qs) (hb : qs.length ≤ 9223372036854775807) : ∃ a cap, v = .slice a qs.length cap ∧ Ints base w a qs.length qs := by
  obtain ⟨h1, h2⟩ := h
  rcases h2 with ⟨rfl, h0⟩ | ⟨g, cap, cur, rfl, hg, hh, hc, hm, hs, ht⟩
  · have : qs = [] := by simpa using h0
    subst this
    exact ⟨none, 0, rfl, rfl, by simp, .inl rfl⟩
  · refine ⟨_, cap, rfl, rfl, hb, .inr ⟨g, 0, rfl, hg, ?_, fun j hj => ?_⟩⟩
    · rcases Nat.lt_or_ge g w.heap.size with h | h
      · exact h
      · rw [Array.getElem?_eq_none h] at hh; cases hh
    · have := World.ownsRow.cellAt (base := base) (e := 3) (size := 1) ⟨h1, .inr ⟨g, cap, cur, rfl, hg, hh, hc, hm, hs, ht⟩⟩ j (by simpa using hj)
      rw [Nat.zero_add, this]
      simp [hj]

theorem Owns.push {base : Nat} {w wx w1 : World} {v v' : Value} {qs : List Int} {x : Int} {B0 : World} {o : Obj} (h : Owns base w v qs) (hb : Below base B0 w) (hB : base ≤ w.heap.size)
    (h' : w1.ownsRow base 3 1 v' (qs.length + 1) (qs.map (Value.int .i64) ++ [.int .i64 x])) (hx : wx = w.alloc o) (hg : wx.grownBy w1 v.ownBlock) : Owns base w1 v' (qs ++ [x]) ∧ Below base B0 w1 := by
  subst hx
  refine ⟨by unfold Owns; simpa using h', ?_⟩
  exact (hb.alloc hB o).grown hg (by simp; omega) (fun j hj => (World.ownsRow.lt (w := w) h j hj).1)
theorem Owns.below {base B : Nat} {w w' : World} {v : Value} {qs : List Int} (h : Owns base w v qs) (hb : Below B w w') (hB : w.heap.size ≤ B) : Owns base w' v qs := by
  obtain ⟨h1, h2⟩ := h
  refine ⟨h1, ?_⟩
  rcases h2 with h2 | ⟨g, cap, cur, hv, hg, hh, r⟩
  · exact .inl h2
  · refine .inr ⟨g, cap, cur, hv, hg, ?_, r⟩
    rw [hb.block g ?_]
    · exact hh
    · rcases Nat.lt_or_ge g w.heap.size with h | h
      · omega
      · rw [Array.getElem?_eq_none h] at hh; cases hh

/-- A function value tells, of column x and row y of W columns and H rows, the number g x y: in every world that has all that w has. -/
structure Tells (w : World) (n : Nat) (caps : Array Value) (W H : Nat) (g : Nat → Nat → Int) : Prop where
  enters : ∀ args w, (callFunc n args).run Try.prog w = .ok (.enter n args) w
  tells : ∀ (x y : Nat) (w1 : World), x < W → y < H → Below w.heap.size w w1 → Calls Try.prog n (#[.int .i64 x, .int .i64 y] ++ caps) w1 fun e w2 => e = .returned (.int .i64 (g x y)) ∧ Below w1.heap.size w1 w2

end Go.Proofs.Ytbcicopgcmiaaaa
/-
  ACC: an image that is built up in a variable ('out.P = append(out.P, n)'), step by step.
-/
namespace Go.Proofs.Ytbcicopgcmiaaaa
set_option maxRecDepth 100000
open Go.RowKit Im

theorem owns_slice {base e size n : Nat} {w : World} {v : Value} {xs : List Value} (h : w.ownsRow base e size v n xs) : ∃ a cap, v = .slice a n cap := by
  rcases h.2 with ⟨rfl, rfl⟩ | ⟨g, cap, cur, rfl, _⟩
  · exact ⟨none, 0, rfl⟩
  · exact ⟨_, cap, rfl⟩
end Go.Proofs.Ytbcicopgcmiaaaa
/-
  WIRENUM: rows of bytes that are one's own; wire.appendNumber.
-/
namespace Go.Proofs.Ytbcicopgcmiaaaa
set_option maxRecDepth 100000
open Go.RowKit Im

/-- The slice value v is nil or the head of a row of bytes of the call's own, from block 'base' on; since w0 nothing else but the block r has changed. -/
structure BRow (base : Nat) (r : Option Nat) (w0 w : World) (v : Value) (l : List Int) : Prop where
  own : w.ownsRow base 5 1 v l.length (l.map (Value.int .u8))
  grew : w0.grownBy w r
  lies : v.ownBlock = r ∨ ∃ b, v.ownBlock = some b ∧ w0.heap.size ≤ b
theorem BRow.start {base : Nat} {w : World} {v : Value} {l : List Int} (h : w.ownsRow base 5 1 v l.length (l.map (Value.int .u8))) : BRow base v.ownBlock w w v l := ⟨h, World.grownBy.refl _ _, .inl rfl⟩
theorem BRow.alloc {base : Nat} {r : Option Nat} {w0 w : World} {v : Value} {l : List Int} (h : BRow base r w0 w v l) (o : Obj) : BRow base r w0 (w.alloc o) v l :=
  ⟨World.ownsRow.alloc h.own o, ⟨h.grew.os, h.grew.tape, h.grew.output, by have := h.grew.size; simp; omega, fun k hk hr => (Below.heap_alloc _ _ _ (Nat.lt_of_lt_of_le hk h.grew.size)).trans (h.grew.block k hk hr)⟩, h.lies⟩
theorem BRow.push {base : Nat} {r : Option Nat} {w0 w w1 : World} {v v' : Value} {l news : List Int} {m : Nat} (h : BRow base r w0 w v l) (hm : news.length = m)
    (h' : w1.ownsRow base 5 1 v' (l.length + m) (l.map (Value.int .u8) ++ news.map (Value.int .u8))) (hg : w.grownBy w1 v.ownBlock) (ha : v'.ownBlock = v.ownBlock ∨ v'.ownBlock = some w.heap.size) : BRow base r w0 w1 v' (l ++ news) := by
  have hs := h.grew.size
  refine ⟨by rw [List.length_append, List.map_append, hm]; exact h', ⟨hg.os.trans h.grew.os, hg.tape.trans h.grew.tape, hg.output.trans h.grew.output, Nat.le_trans hs hg.size, fun k hk hr => ?_⟩, ?_⟩
  · rw [hg.block k (Nat.lt_of_lt_of_le hk hs) (fun e => ?_)]
    · exact h.grew.block k hk hr
    · rcases h.lies with h1 | ⟨b, h1, h2⟩
      · exact hr (e.trans h1)
      · rw [h1] at e; injection e with e; omega
  · rcases ha with ha | ha
    · rw [ha]; exact h.lies
    · exact .inr ⟨_, ha, hs⟩
/-- A round's row is the whole's. -/
theorem BRow.join {base : Nat} {r : Option Nat} {w0 w w1 w2 : World} {v v' : Value} {l l' : List Int} (h : BRow base r w0 w v l) (hk : BRow base v.ownBlock w1 w2 v' l') (hg : w0.grownBy w1 r) : BRow base r w0 w2 v' l' := by
  have hs := hg.size
  refine ⟨hk.own, ⟨hk.grew.os.trans hg.os, hk.grew.tape.trans hg.tape, hk.grew.output.trans hg.output, Nat.le_trans hs hk.grew.size, fun k hk' hr => ?_⟩, ?_⟩
  · rw [hk.grew.block k (Nat.lt_of_lt_of_le hk' hs) (fun e => ?_)]
    · exact hg.block k hk' hr
    · rcases h.lies with h1 | ⟨b, h1, h2⟩
      · exact hr (e.trans h1)
      · rw [h1] at e; injection e with e; omega
  · rcases hk.lies with h1 | ⟨b, h1, h2⟩
    · rw [h1]; exact h.lies
    · exact .inr ⟨b, h1, Nat.le_trans hs h2⟩
theorem BRow.below {base B : Nat} {r : Option Nat} {w0 w : World} {v : Value} {l : List Int} (h : BRow base r w0 w v l) (hB : B ≤ w0.heap.size) (hr : ∀ k, r = some k → B ≤ k) : Below B w0 w := (Below.refl B w0).grown h.grew hB hr
theorem cells_new (w : World) (vs : List Value) (t : TypeId) : ∀ (j : Nat) (u : Value), vs[j]? = some u → (w.alloc (.cells vs.toArray t)).cell? ((⟨w.heap.size, 0, none⟩ : Addr).add j) = some u := by
  intro j u h
  have : (⟨w.heap.size, 0, none⟩ : Addr).add j = ⟨w.heap.size, j, none⟩ := by simp [Addr.add]; exact fun h => h.symm
  rw [this, World.cell?_alloc_new]
  simpa using h
theorem Try.infoByte : (Try.prog.info? 5).map (fun i => (i.zero, i.size, i.bytes)) = some (some (.int .u8 0), 1, 1) := by kernel_rfl
/-- The k lowest bytes of n, the highest first. -/
def numBy (n : Int) : Nat → List Int
  | 0 => []
  | k + 1 => (n / 2 ^ (8 * k)) % 256 :: numBy n k
set_option maxHeartbeats 2000000 in
theorem appendNumber_any {base : Nat} {r : Option Nat} {w0 w : World} {v : Value} {l : List Int} (h : BRow base r w0 w v l) (hB : base ≤ w0.heap.size) (n : Int) {many : Nat} (hm : many ≤ 3) (hl : l.length ≤ 4096) :
    Calls Try.prog 22 #[v, .int .i64 n, .int .i64 many] w fun e w' => ∃ v', e = .returned v' ∧ BRow base r w0 w' v' (l ++ numBy n many) := by
  obtain ⟨i0, hi, hz0, hz1, hz2⟩ := info_parts Try.infoByte
  have hw1 : IntKind.i64.wrap ((many : Int) - 1) = (many : Int) - 1 := by rw [IntKind.wrap_i64]; omega
  obtain ⟨va, vc, rfl⟩ := owns_slice h.own
  go_enter Try.func22, Try.ntmps22
  go_wp2
  go_loopw [0, 7] (fun u i wr => ∃ (k : Nat) (l' : List Int), k ≤ many ∧ i = .int .i64 ((k : Int) - 1) ∧ BRow base r w0 wr u l' ∧ l' ++ numBy n k = l ++ numBy n many ∧ l'.length + k = l.length + many) (fun _ i _ => (intOf i + 1).toNat)
  case atStart => exact ⟨many, l, Nat.le_refl _, rfl, h, rfl, rfl⟩
  case round =>
    obtain ⟨k, l', hk, rfl, hown, hcat, hlen⟩ := hrel
    obtain ⟨ua, uc, rfl⟩ := owns_slice hown.own
    have hsz := Nat.le_trans hB hown.grew.size
    by_cases h0 : k = 0
    · subst h0
      have HF : Hid (BRow base r w0 wr (.slice ua l'.length uc) (l ++ numBy n many)) := by
        have e : l' = l ++ numBy n many := by rw [← hcat]; simp [numBy]
        show BRow base r w0 wr _ _
        rw [← e]; exact hown
      go_wp2
      go_ret
      exact ⟨_, rfl, HF.out⟩
    · obtain ⟨j, rfl⟩ : ∃ j, k = j + 1 := ⟨k - 1, by omega⟩
      have hj : ((j + 1 : Nat) : Int) - 1 = (j : Int) := by omega
      rw [hj]
      have HC : Hid (l' ++ ((n / 2 ^ (8 * j)) % 256 :: numBy n j) = l ++ numBy n many) := hcat
      have hj3 : j < 3 := by omega
      have hj0 : (0 : Int) ≤ (j : Int) := by omega
      clear hcat h0
      go_wp2_with (at_builtin; refine wpList_append_own_at _ rfl _ _ 40 rfl base 5 i0 (.int .u8 0) 1 1 Try.underlying40 hi hz0 hz1 hz2 rfl (by decide) _ _ _ rfl (hown.alloc _).own ⟨wr.heap.size, 0, none⟩ 1 1 [.int .u8 (n / 2 ^ (8 * j) % 256)] rfl rfl (cell_one_new _ _ _) (by intro u hu; simp at hu; subst hu; rfl) (by unfold maxLen; omega) (by omega) (by simp; omega) ?_; intro v' w9 hown9 hgrow9 _ hat9; obtain ⟨a9, c9, hv9⟩ := owns_slice hown9; subst hv9; have RR := (hown.alloc _).push (news := [n / 2 ^ (8 * j) % 256]) rfl hown9 hgrow9 hat9)
      go_roundw
      case rel => exact ⟨j, l' ++ [n / 2 ^ (8 * j) % 256], by omega, by go_num, RR, by rw [← HC.out]; simp, by simp; omega⟩
      case measure => simp [intOf]
theorem numB_three (n : Int) : numBy n 3 = [b8 (n / 65536), b8 (n / 256), b8 n] := by
  show [n / 2 ^ (8 * 2) % 256, n / 2 ^ (8 * 1) % 256, n / 2 ^ (8 * 0) % 256] = _
  unfold b8
  simp
theorem numB_two (n : Int) : numBy n 2 = [b8 (n / 256), b8 n] := by
  show [n / 2 ^ (8 * 1) % 256, n / 2 ^ (8 * 0) % 256] = _
  unfold b8
  simp
end Go.Proofs.Ytbcicopgcmiaaaa
/-
  MEAN: image.mean, of a function that tells the number of a place.
-/
namespace Go.Proofs.Ytbcicopgcmiaaaa
set_option maxRecDepth 100000
open Go.RowKit Im

end Go.Proofs.Ytbcicopgcmiaaaa
