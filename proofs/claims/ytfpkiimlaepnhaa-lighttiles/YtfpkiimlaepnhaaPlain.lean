/-
  PLAIN: numbers and lists alone, no Go: when an image is right, and the list of its numbers by columns and rows.
-/
import Derived.Test.YtfpkiimlaepnhaaRows
namespace Go.Proofs.Ytfpkiimlaepnhaa
set_option maxRecDepth 100000
namespace Im

def sideB (n : Int) : Bool := decide (1 ≤ n) && decide (n ≤ 16)
def numB (n : Int) : Bool := decide (0 ≤ n) && decide (n ≤ 65535)
def withinB (n a b : Int) : Bool := decide (a ≤ n) && decide (n ≤ b)
/-- A right image. -/
def fineB (W H : Int) (ps : List Int) : Bool := sideB W && sideB H && decide ((ps.length : Int) = W * H) && ps.all numB

/-- An error's number: none where b holds. -/
def okIf (b : Bool) (e : Int) : Int := if b then 0 else e
theorem okIf_true (e : Int) : okIf true e = 0 := rfl
theorem okIf_false (e : Int) : okIf false e = e := rfl
theorem side_iff (n : Int) : sideB n = true ↔ 1 ≤ n ∧ n ≤ 16 := by simp [sideB]
theorem num_iff (n : Int) : numB n = true ↔ 0 ≤ n ∧ n ≤ 65535 := by simp [numB]
theorem within_side (n : Int) : withinB n 1 16 = sideB n := rfl
theorem within_num (n : Int) : withinB n 0 65535 = numB n := rfl

theorem fine_iff (W H : Int) (ps : List Int) : fineB W H ps = true ↔ (1 ≤ W ∧ W ≤ 16) ∧ (1 ≤ H ∧ H ≤ 16) ∧ (ps.length : Int) = W * H ∧ ∀ n ∈ ps, 0 ≤ n ∧ n ≤ 65535 := by
  simp [fineB, side_iff, num_iff, and_assoc]

theorem side_mul {W H : Int} (h1 : sideB W = true) (h2 : sideB H = true) : 1 ≤ W * H ∧ W * H ≤ 256 := by
  have b1 := (side_iff W).1 h1
  have b2 := (side_iff H).1 h2
  have e1 : W * H ≤ 16 * 16 := Int.mul_le_mul b1.2 b2.2 (by omega) (by omega)
  have e2 : 1 * 1 ≤ W * H := Int.mul_le_mul b1.1 b2.1 (by omega) (by omega)
  omega
/-- The first k numbers are right. -/
theorem all_succ (ps : List Int) (k : Nat) (hk : k < ps.length) (h : (ps.take k).all numB = true) (h' : numB (ps[k]?.getD 0) = true) : (ps.take (k + 1)).all numB = true := by
  rw [List.getElem?_eq_getElem hk] at h'
  rw [List.take_succ_eq_append_getElem hk, List.all_append, h]
  simpa using h'
theorem all_not (ps : List Int) (k : Nat) (hk : k < ps.length) (h' : numB (ps[k]?.getD 0) = false) : ps.all numB = false := by
  rw [List.getElem?_eq_getElem hk] at h'
  rw [List.all_eq_false]
  exact ⟨ps[k], List.getElem_mem hk, by simpa using h'⟩

/-- The numbers of an image, row by row, as far as the n-th: at column x and row y stands g x y. -/
def pix (w : Nat) (g : Nat → Nat → Int) (n : Nat) : List Int := (List.range n).map fun i => g (i % w) (i / w)
theorem pix_length (w : Nat) (g : Nat → Nat → Int) (n : Nat) : (pix w g n).length = n := by simp [pix]
theorem pix_zero (w : Nat) (g : Nat → Nat → Int) : pix w g 0 = [] := rfl
theorem pix_succ (w : Nat) (g : Nat → Nat → Int) (x y : Nat) (h : x < w) : pix w g (y * w + x + 1) = pix w g (y * w + x) ++ [g x y] := by
  have e1 : (y * w + x) % w = x := by rw [Nat.mul_comm, Nat.mul_add_mod]; exact Nat.mod_eq_of_lt h
  have e2 : (y * w + x) / w = y := by rw [Nat.mul_comm, Nat.mul_add_div (by omega), Nat.div_eq_of_lt h]; rfl
  simp [pix, List.range_succ, e1, e2]
theorem pix_getD (w : Nat) (g : Nat → Nat → Int) (n i : Nat) (h : i < n) : (pix w g n).getD i 0 = g (i % w) (i / w) := by
  simp [pix, List.getD, h]
theorem pix_at (w h : Nat) (g : Nat → Nat → Int) (x y : Nat) (hx : x < w) (hy : y < h) : (pix w g (w * h)).getD (y * w + x) 0 = g x y := by
  have e1 : (y * w + x) % w = x := by rw [Nat.mul_comm, Nat.mul_add_mod]; exact Nat.mod_eq_of_lt hx
  have e2 : (y * w + x) / w = y := by rw [Nat.mul_comm, Nat.mul_add_div (by omega), Nat.div_eq_of_lt hx]; rfl
  rw [pix_getD, e1, e2]
  calc y * w + x < y * w + w := by omega
    _ = (y + 1) * w := by rw [Nat.add_mul]; omega
    _ ≤ h * w := Nat.mul_le_mul_right _ hy
    _ = w * h := Nat.mul_comm _ _
theorem pix_congr (w h : Nat) (g g' : Nat → Nat → Int) (e : ∀ x y, x < w → y < h → g x y = g' x y) : pix w g (w * h) = pix w g' (w * h) := by
  unfold pix
  apply List.map_congr_left
  intro i hi
  simp at hi
  have hw : 0 < w := by rcases Nat.eq_zero_or_pos w with rfl | h'; · simp at hi
                        · exact h'
  exact e _ _ (Nat.mod_lt _ hw) (Nat.div_lt_of_lt_mul hi)
/-- The place of column x and row y lies in the image. -/
theorem place_lt {w h x y : Nat} (hx : x < w) (hy : y < h) : y * w + x < w * h := by
  calc y * w + x < y * w + w := by omega
    _ = (y + 1) * w := by rw [Nat.add_mul]; omega
    _ ≤ h * w := Nat.mul_le_mul_right _ hy
    _ = w * h := Nat.mul_comm _ _
theorem pix_all (w n : Nat) (g : Nat → Nat → Int) (hw : 0 < w) (h : ∀ x y, x < w → y * w + x < n → 0 ≤ g x y ∧ g x y ≤ 65535) : ∀ m ∈ pix w g n, 0 ≤ m ∧ m ≤ 65535 := by
  intro m hm
  simp [pix] at hm
  obtain ⟨i, hi, rfl⟩ := hm
  refine h _ _ (Nat.mod_lt _ hw) ?_
  have := Nat.div_add_mod i w
  rw [Nat.mul_comm] at this
  omega
/-- The number at column x and row y, of an image of W columns. -/
def px (W : Nat) (ps : List Int) (x y : Nat) : Int := ps.getD (y * W + x) 0
/-- The sum of n numbers of row y from column l on; of m such rows from row t on. -/
def sumRow (p : Nat → Nat → Int) (y l : Nat) : Nat → Int
  | 0 => 0
  | n + 1 => sumRow p y l n + p (l + n) y
def sumBox (p : Nat → Nat → Int) (l t n : Nat) : Nat → Int
  | 0 => 0
  | m + 1 => sumBox p l t n m + sumRow p (t + m) l n
theorem sumRow_bd {p : Nat → Nat → Int} {y l : Nat} : ∀ {n : Nat}, (∀ x, l ≤ x → x < l + n → 0 ≤ p x y ∧ p x y ≤ 65535) → 0 ≤ sumRow p y l n ∧ sumRow p y l n ≤ 65535 * n
  | 0, _ => by simp [sumRow]
  | n + 1, h => by
    have h1 := sumRow_bd (p := p) (y := y) (l := l) (n := n) (fun x h1 h2 => h x h1 (by omega))
    have h2 := h (l + n) (by omega) (by omega)
    unfold sumRow
    omega
theorem sumBox_bd {p : Nat → Nat → Int} {l t n : Nat} (hn : n ≤ 16) : ∀ {m : Nat}, (∀ x y, l ≤ x → x < l + n → t ≤ y → y < t + m → 0 ≤ p x y ∧ p x y ≤ 65535) → 0 ≤ sumBox p l t n m ∧ sumBox p l t n m ≤ 65535 * 16 * m
  | 0, _ => by simp [sumBox]
  | m + 1, h => by
    have h1 := sumBox_bd (p := p) (l := l) (t := t) (n := n) hn (m := m) (fun x y h1 h2 h3 h4 => h x y h1 h2 h3 (by omega))
    have h2 := sumRow_bd (p := p) (y := t + m) (l := l) (n := n) (fun x h1 h2 => h x (t + m) h1 h2 (by omega) (by omega))
    unfold sumBox
    omega
/-- The mean, rounded down, of the numbers from column l to column r and row t to row b. -/
def meanP (p : Nat → Nat → Int) (l t r b : Nat) : Int := sumBox p l t (r + 1 - l) (b + 1 - t) / (((r : Int) - l + 1) * ((b : Int) - t + 1))
end Im
end Go.Proofs.Ytfpkiimlaepnhaa
