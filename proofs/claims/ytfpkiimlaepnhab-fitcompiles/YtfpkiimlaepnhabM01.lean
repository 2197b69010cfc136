/- Plain, Base, Chk, Same, Lamp, Frm, Draw, Mean, Rule, Rules, Blur, Make, One, One2, One3, Two, Two2, Two3, Two4, Acc, MakeRef, Begun, Begun2: joined, in this order. -/
import Derived.Test.YtfpkiimlaepnhabRows
import Derived.WalkKit
import Derived.WalkSpells
import Derived.WalkLawsBesides
import Derived.Deep.QuietTactic
import Derived.BigQuiet
import Derived.Laws.EntriesVeiled
import Derived.MapKept
import Derived.Deep.RegionHeld3
import Derived.Deep.Cut
/-
  PLAIN: numbers and lists alone, no Go: when an image is right, and the list of its numbers by columns and rows.
-/
namespace Go.Proofs.Ytfpkiimlaepnhab
set_option maxRecDepth 100000
namespace Im

def sideB (n : Int) : Bool := decide (1 ≤ n) && decide (n ≤ 16)
def numB (n : Int) : Bool := decide (0 ≤ n) && decide (n ≤ 65535)
def withinB (n a b : Int) : Bool := decide (a ≤ n) && decide (n ≤ b)
/-- A right image. -/
def fineB (W H : Int) (ps : List Int) : Bool := sideB W && sideB H && decide ((ps.length : Int) = W * H) && ps.all numB

/-- An error's number: none where b holds. -/
def okIf (b : Bool) (e : Int) : Int := if b then 0 else e
theorem okIf_true (e : Int) : okIf true e = 0 := rfl
theorem okIf_false (e : Int) : okIf false e = e := rfl
theorem side_iff (n : Int) : sideB n = true ↔ 1 ≤ n ∧ n ≤ 16 := by simp [sideB]
theorem num_iff (n : Int) : numB n = true ↔ 0 ≤ n ∧ n ≤ 65535 := by simp [numB]
theorem within_side (n : Int) : withinB n 1 16 = sideB n := rfl
theorem within_num (n : Int) : withinB n 0 65535 = numB n := rfl

theorem fine_iff (W H : Int) (ps : List Int) : fineB W H ps = true ↔ (1 ≤ W ∧ W ≤ 16) ∧ (1 ≤ H ∧ H ≤ 16) ∧ (ps.length : Int) = W * H ∧ ∀ n ∈ ps, 0 ≤ n ∧ n ≤ 65535 := by
  simp [fineB, side_iff, num_iff, and_assoc]

theorem side_mul {W H : Int} (h1 : sideB W = true) (h2 : sideB H = true) : 1 ≤ W * H ∧ W * H ≤ 256 := by
  have b1 := (side_iff W).1 h1
  have b2 := (side_iff H).1 h2
  have e1 : W * H ≤ 16 * 16 := Int.mul_le_mul b1.2 b2.2 (by omega) (by omega)
  have e2 : 1 * 1 ≤ W * H := Int.mul_le_mul b1.1 b2.1 (by omega) (by omega)
  omega
/-- The first k numbers are right. -/
theorem all_succ (ps : List Int) (k : Nat) (hk : k < ps.length) (h : (ps.take k).all numB = true) (h' : numB (ps[k]?.getD 0) = true) : (ps.take (k + 1)).all numB = true := by
  rw [List.getElem?_eq_getElem hk] at h'
  rw [List.take_succ_eq_append_getElem hk, List.all_append, h]
  simpa using h'
theorem all_not (ps : List Int) (k : Nat) (hk : k < ps.length) (h' : numB (ps[k]?.getD 0) = false) : ps.all numB = false := by
  rw [List.getElem?_eq_getElem hk] at h'
  rw [List.all_eq_false]
  exact ⟨ps[k], List.getElem_mem hk, by simpa using h'⟩

/-- The numbers of an image, row by row, as far as the n-th: at column x and row y stands g x y. -/
def pix (w : Nat) (g : Nat → Nat → Int) (n : Nat) : List Int := (List.range n).map fun i => g (i % w) (i / w)
theorem pix_length (w : Nat) (g : Nat → Nat → Int) (n : Nat) : (pix w g n).length = n := by simp [pix]
theorem pix_zero (w : Nat) (g : Nat → Nat → Int) : pix w g 0 = [] := rfl
theorem pix_succ (w : Nat) (g : Nat → Nat → Int) (x y : Nat) (h : x < w) : pix w g (y * w + x + 1) = pix w g (y * w + x) ++ [g x y] := by
  have e1 : (y * w + x) % w = x := by rw [Nat.mul_comm, Nat.mul_add_mod]; exact Nat.mod_eq_of_lt h
  have e2 : (y * w + x) / w = y := by rw [Nat.mul_comm, Nat.mul_add_div (by omega), Nat.div_eq_of_lt h]; rfl
  simp [pix, List.range_succ, e1, e2]
theorem pix_getD (w : Nat) (g : Nat → Nat → Int) (n i : Nat) (h : i < n) : (pix w g n).getD i 0 = g (i % w) (i / w) := by
  simp [pix, List.getD, h]
theorem pix_at (w h : Nat) (g : Nat → Nat → Int) (x y : Nat) (hx : x < w) (hy : y < h) : (pix w g (w * h)).getD (y * w + x) 0 = g x y := by
  have e1 : (y * w + x) % w = x := by rw [Nat.mul_comm, Nat.mul_add_mod]; exact Nat.mod_eq_of_lt hx
  have e2 : (y * w + x) / w = y := by rw [Nat.mul_comm, Nat.mul_add_div (by omega), Nat.div_eq_of_lt hx]; rfl
  rw [pix_getD, e1, e2]
  calc y * w + x < y * w + w := by omega
    _ = (y + 1) * w := by rw [Nat.add_mul]; omega
    _ ≤ h * w := Nat.mul_le_mul_right _ hy
    _ = w * h := Nat.mul_comm _ _
theorem pix_congr (w h : Nat) (g g' : Nat → Nat → Int) (e : ∀ x y, x < w → y < h → g x y = g' x y) : pix w g (w * h) = pix w g' (w * h) := by
  unfold pix
  apply List.map_congr_left
  intro i hi
  simp at hi
  have hw : 0 < w := by rcases Nat.eq_zero_or_pos w with rfl | h'; · simp at hi
                        · exact h'
  exact e _ _ (Nat.mod_lt _ hw) (Nat.div_lt_of_lt_mul hi)
/-- The place of column x and row y lies in the image. -/
theorem place_lt {w h x y : Nat} (hx : x < w) (hy : y < h) : y * w + x < w * h := by
  calc y * w + x < y * w + w := by omega
    _ = (y + 1) * w := by rw [Nat.add_mul]; omega
    _ ≤ h * w := Nat.mul_le_mul_right _ hy
    _ = w * h := Nat.mul_comm _ _
theorem pix_all (w n : Nat) (g : Nat → Nat → Int) (hw : 0 < w) (h : ∀ x y, x < w → y * w + x < n → 0 ≤ g x y ∧ g x y ≤ 65535) : ∀ m ∈ pix w g n, 0 ≤ m ∧ m ≤ 65535 := by
  intro m hm
  simp [pix] at hm
  obtain ⟨i, hi, rfl⟩ := hm
  refine h _ _ (Nat.mod_lt _ hw) ?_
  have := Nat.div_add_mod i w
  rw [Nat.mul_comm] at this
  omega
/-- The number at column x and row y, of an image of W columns. -/
def px (W : Nat) (ps : List Int) (x y : Nat) : Int := ps.getD (y * W + x) 0
/-- The sum of n numbers of row y from column l on; of m such rows from row t on. -/
def sumRow (p : Nat → Nat → Int) (y l : Nat) : Nat → Int
  | 0 => 0
  | n + 1 => sumRow p y l n + p (l + n) y
def sumBox (p : Nat → Nat → Int) (l t n : Nat) : Nat → Int
  | 0 => 0
  | m + 1 => sumBox p l t n m + sumRow p (t + m) l n
theorem sumRow_bd {p : Nat → Nat → Int} {y l : Nat} : ∀ {n : Nat}, (∀ x, l ≤ x → x < l + n → 0 ≤ p x y ∧ p x y ≤ 65535) → 0 ≤ sumRow p y l n ∧ sumRow p y l n ≤ 65535 * n
  | 0, _ => by simp [sumRow]
  | n + 1, h => by
    have h1 := sumRow_bd (p := p) (y := y) (l := l) (n := n) (fun x h1 h2 => h x h1 (by omega))
    have h2 := h (l + n) (by omega) (by omega)
    unfold sumRow
    omega
theorem sumBox_bd {p : Nat → Nat → Int} {l t n : Nat} (hn : n ≤ 16) : ∀ {m : Nat}, (∀ x y, l ≤ x → x < l + n → t ≤ y → y < t + m → 0 ≤ p x y ∧ p x y ≤ 65535) → 0 ≤ sumBox p l t n m ∧ sumBox p l t n m ≤ 65535 * 16 * m
  | 0, _ => by simp [sumBox]
  | m + 1, h => by
    have h1 := sumBox_bd (p := p) (l := l) (t := t) (n := n) hn (m := m) (fun x y h1 h2 h3 h4 => h x y h1 h2 h3 (by omega))
    have h2 := sumRow_bd (p := p) (y := t + m) (l := l) (n := n) (fun x h1 h2 => h x (t + m) h1 h2 (by omega) (by omega))
    unfold sumBox
    omega
/-- The mean, rounded down, of the numbers from column l to column r and row t to row b. -/
def meanP (p : Nat → Nat → Int) (l t r b : Nat) : Int := sumBox p l t (r + 1 - l) (b + 1 - t) / (((r : Int) - l + 1) * ((b : Int) - t + 1))
end Im
end Go.Proofs.Ytfpkiimlaepnhab
/-
  BASE: how a list of numbers lies in memory ('Ints'), what stays of it, and the smallest functions.
-/
namespace Go.Proofs.Ytfpkiimlaepnhab
set_option maxRecDepth 100000
open Go.RowKit Im

/-- A slice's elements are the numbers ps: nothing is asked of its address where there are none. 'base': no block below it holds them. -/
structure Ints (base : Nat) (w : World) (a : Option Addr) (len : Nat) (ps : List Int) : Prop where
  leng : ps.length = len
  big : len ≤ 9223372036854775807
  cells : ps = [] ∨ ∃ b off, a = some ⟨b, off, none⟩ ∧ base ≤ b ∧ b < w.heap.size ∧ ∀ j, j < len → w.cell? ⟨b, off + j, none⟩ = some (.int .i64 (ps.getD j 0))

theorem Ints.below {base : Nat} {w w' : World} {a : Option Addr} {len : Nat} {ps : List Int} (h : Ints base w a len ps) {B : Nat} (hB : w.heap.size ≤ B) (hb : Below B w w') : Ints base w' a len ps := by
  refine ⟨h.leng, h.big, ?_⟩
  rcases h.cells with e | ⟨b, off, ha, h0, hl, hc⟩
  · exact .inl e
  · exact .inr ⟨b, off, ha, h0, Nat.lt_of_lt_of_le hl hb.size, fun j hj => (hb.cell (p := ⟨b, off + j, none⟩) (by show b < B; omega)).trans (hc j hj)⟩
theorem Ints.mono {base base' : Nat} {w : World} {a : Option Addr} {len : Nat} {ps : List Int} (h : Ints base w a len ps) (hb : base' ≤ base) : Ints base' w a len ps := by
  refine ⟨h.leng, h.big, ?_⟩
  rcases h.cells with e | ⟨b, off, ha, h0, hl, hc⟩
  · exact .inl e
  · exact .inr ⟨b, off, ha, by omega, hl, hc⟩
theorem Ints.setCell {base : Nat} {w : World} {a : Option Addr} {len : Nat} {ps : List Int} (h : Ints base w a len ps) {p : Addr} (hp : p.block < base) (u : Value) : Ints base (w.setCell p u) a len ps := by
  refine ⟨h.leng, h.big, ?_⟩
  rcases h.cells with e | ⟨b, off, ha, h0, hl, hc⟩
  · exact .inl e
  · refine .inr ⟨b, off, ha, h0, by simpa [World.setCell] using hl, fun j hj => ?_⟩
    rw [World.cell?_of_block (w := w) (Below.heap_setCell w p u b (by omega))]
    exact hc j hj
theorem Ints.nil (base : Nat) (w : World) : Ints base w none 0 [] := ⟨rfl, by omega, .inl rfl⟩

theorem bcell {W w1 : World} (hb : Below W.heap.size W w1) : (∀ b o, b < W.heap.size → w1.cell? ⟨b, o, none⟩ = W.cell? ⟨b, o, none⟩) ∧ (∀ b o, b < W.heap.size → w1.frozen? ⟨b, o, none⟩ = W.frozen? ⟨b, o, none⟩) :=
  ⟨fun b o h => hb.cell (p := ⟨b, o, none⟩) h, fun b o h => hb.frozen (p := ⟨b, o, none⟩) h⟩

theorem Try.info3 : (Try.prog.info? 3).map (fun i => (i.zero, i.size, i.bytes)) = some (some (.int .i64 0), 1, 8) := by kernel_rfl

theorem within_any (n a b : Int) (w : World) : Calls Try.prog 42 #[.int .i64 n, .int .i64 a, .int .i64 b] w fun e w' => e = .returned (.bool (withinB n a b)) ∧ w = w' := by
  by_cases h1 : a ≤ n
  · by_cases h2 : n ≤ b
    · go_enter Try.func42, Try.ntmps42
      go_wp2
      go_ret
      exact ⟨by simp [withinB, h1, h2], rfl⟩
    · go_enter Try.func42, Try.ntmps42
      go_wp2
      go_ret
      exact ⟨by simp [withinB, h1, h2], rfl⟩
  · go_enter Try.func42, Try.ntmps42
    go_wp2
    go_ret
    exact ⟨by simp [withinB]; omega, rfl⟩
end Go.Proofs.Ytfpkiimlaepnhab
/-
  CHK: image.Check and the reference's ImageFine tell whether an image is right.
-/
namespace Go.Proofs.Ytfpkiimlaepnhab
set_option maxRecDepth 100000
open Go.RowKit Im

end Go.Proofs.Ytfpkiimlaepnhab
/-
  SAME: the reference's SameInts and SameImages tell whether two lists of numbers, two images, are the same.
-/
namespace Go.Proofs.Ytfpkiimlaepnhab
set_option maxRecDepth 100000
open Go.RowKit Im

theorem take_same {ps qs : List Int} {k : Nat} (h1 : k < ps.length) (h2 : k < qs.length) (h : ps.take k = qs.take k) (e : ps.getD k 0 = qs.getD k 0) : ps.take (k + 1) = qs.take (k + 1) := by
  rw [List.getD_eq_getElem?_getD, List.getD_eq_getElem?_getD, List.getElem?_eq_getElem h1, List.getElem?_eq_getElem h2] at e
  simp only [Option.getD_some] at e
  rw [List.take_succ_eq_append_getElem h1, List.take_succ_eq_append_getElem h2, h, e]
theorem sameInts_len (a a' : Option Addr) (len cap len' cap' : Nat) (w : World) (_h1 : len ≤ 9223372036854775807) (_h2 : len' ≤ 9223372036854775807) (hne : ¬ len = len') :
    Calls Try.prog 62 #[.slice a len cap, .slice a' len' cap'] w fun e w' => e = .returned (.bool false) ∧ Below w.heap.size w w' := by
  go_enter Try.func62, Try.ntmps62
  go_wp2
  go_ret
  exact ⟨rfl, Below.refl _ _⟩
theorem sameInts_nil (a a' : Option Addr) (cap cap' : Nat) (w : World) :
    Calls Try.prog 62 #[.slice a 0 cap, .slice a' 0 cap'] w fun e w' => e = .returned (.bool true) ∧ Below w.heap.size w w' := by
  go_enter Try.func62, Try.ntmps62
  go_wp2
  go_loop [5] (fun i => i = .int .i64 0) (fun _ => 0)
  case atStart => rfl
  case round =>
    subst hrel
    go_wp2
    go_ret
    exact ⟨rfl, Below.refl _ _⟩
theorem sameInts_row (b off cap b' off' cap' len : Nat) (ps qs : List Int) (w : World) (hl : ps.length = len) (hl' : qs.length = len) (hbig : len ≤ 9223372036854775807)
    (hc : ∀ j, j < len → w.cell? ⟨b, off + j, none⟩ = some (.int .i64 (ps.getD j 0))) (hc' : ∀ j, j < len → w.cell? ⟨b', off' + j, none⟩ = some (.int .i64 (qs.getD j 0))) :
    Calls Try.prog 62 #[.slice (some ⟨b, off, none⟩) len cap, .slice (some ⟨b', off', none⟩) len cap'] w fun e w' => e = .returned (.bool (decide (ps = qs))) ∧ Below w.heap.size w w' := by
  go_enter Try.func62, Try.ntmps62
  go_wp2
  go_loopw [5] (fun i wr => ∃ k : Nat, k ≤ len ∧ i = .int .i64 k ∧ ps.take k = qs.take k ∧ ∃ n, wr = w.drewN n) (fun i _ => len - (intOf i).toNat)
  case atStart => exact ⟨0, Nat.zero_le _, rfl, rfl, 0, rfl⟩
  case round =>
    obtain ⟨k, hk, rfl, hall, nd, rfl⟩ := hrel
    by_cases hlt : k < len
    · obtain ⟨x, hx⟩ : ∃ n, n = ps.getD k 0 := ⟨_, rfl⟩
      obtain ⟨y, hy⟩ : ∃ n, n = qs.getD k 0 := ⟨_, rfl⟩
      have hcx := hc k hlt
      have hcy := hc' k hlt
      rw [← hx] at hcx
      rw [← hy] at hcy
      have HX : Hid (x = ps.getD k 0) := hx
      have HY : Hid (y = qs.getD k 0) := hy
      have HL : Hid (ps.take k = qs.take k) := hall
      clear hx hy hc hc' hall
      by_cases hn : x = y
      · have hnb : (x != y) = false := by simp [hn]
        go_wp2
        go_quiet (fail)
        go_wp2
        go_roundw
        case rel => exact ⟨k + 1, by omega, by go_num, take_same (by omega) (by omega) HL.out (by rw [← HX.out, ← HY.out]; exact hn), _, rfl⟩
        case measure => simp [intOf]; omega
      · have hnb : (x != y) = true := by simp [hn]
        have hd : decide (ps = qs) = false := by
          refine decide_eq_false fun e => hn ?_
          rw [HX.out, HY.out, e]
        go_wp2
        go_quiet (fail)
        go_wp2
        go_ret
        exact ⟨by first | rfl | (rw [hd]; rfl), below_drewN (below_drewN (Below.refl _ _) _) _⟩
    · have hd : decide (ps = qs) = true := by
        rw [List.take_of_length_le (by omega), List.take_of_length_le (by omega)] at hall
        exact decide_eq_true hall
      go_wp2
      go_ret
      exact ⟨by first | rfl | (rw [hd]; rfl), below_drewN (Below.refl _ _) _⟩
/-- The reference's SameInts. -/
theorem sameInts_any {a a' : Option Addr} {len len' : Nat} (cap cap' : Nat) {ps qs : List Int} {w : World} (h : Ints 0 w a len ps) (h' : Ints 0 w a' len' qs) :
    Calls Try.prog 62 #[.slice a len cap, .slice a' len' cap'] w fun e w' => e = .returned (.bool (decide (ps = qs))) ∧ Below w.heap.size w w' := by
  have l1 := h.leng
  have l2 := h'.leng
  by_cases hl : len = len'
  · subst hl
    rcases h.cells with e | ⟨b, off, rfl, _, hb, hc⟩
    · subst e
      have l3 : len = 0 := by simpa using l1.symm
      have l4 : qs = [] := by rw [l3] at l2; simpa using l2
      subst l3 l4
      simpa using sameInts_nil a a' cap cap' w
    · rcases h'.cells with e | ⟨b', off', rfl, _, hb', hc'⟩
      · subst e
        have l3 : len = 0 := by simpa using l2.symm
        have l4 : ps = [] := by rw [l3] at l1; simpa using l1
        subst l3 l4
        simpa using sameInts_nil _ a' cap cap' w
      · exact sameInts_row b off cap b' off' cap' len ps qs w l1 l2 h.big hc hc'
  · have hd : decide (ps = qs) = false := decide_eq_false fun e => hl (by rw [← l1, ← l2, e])
    rw [hd]
    exact sameInts_len a a' len cap len' cap' w h.big h'.big hl

end Go.Proofs.Ytfpkiimlaepnhab
/-
  LAMP: how lights lie in memory; the small functions of package light.
-/
namespace Go.Proofs.Ytfpkiimlaepnhab
set_option maxRecDepth 100000
open Go.RowKit Im

/-- A light. -/
structure Lt where
  X : Int
  Y : Int
  R : Int
  P : Int
abbrev Lt.zero : Lt := ⟨0, 0, 0, 0⟩
def placeB (n : Int) : Bool := decide (0 ≤ n) && decide (n < 16)
def rightB (l : Lt) : Bool := placeB l.X && placeB l.Y && decide (1 ≤ l.R) && decide (l.R ≤ 32) && decide (0 ≤ l.P) && decide (l.P ≤ 65535)
def lightsB (ls : List Lt) : Bool := decide (ls.length ≤ 8) && ls.all rightB
def lightsErr (ls : List Lt) : Int := if ls.length ≤ 8 then okIf (ls.all rightB) 3 else 2
theorem place_iff (n : Int) : placeB n = true ↔ 0 ≤ n ∧ n < 16 := by simp [placeB]
theorem right_iff (l : Lt) : rightB l = true ↔ (0 ≤ l.X ∧ l.X < 16) ∧ (0 ≤ l.Y ∧ l.Y < 16) ∧ (1 ≤ l.R ∧ l.R ≤ 32) ∧ (0 ≤ l.P ∧ l.P ≤ 65535) := by simp [rightB, place_iff, and_assoc]

/-- A slice's elements are the lights ls. -/
structure Lights (w : World) (a : Option Addr) (len : Nat) (ls : List Lt) : Prop where
  leng : ls.length = len
  big : len ≤ 9223372036854775807
  cells : ls = [] ∨ ∃ b off, a = some ⟨b, off, none⟩ ∧ b < w.heap.size ∧ ∀ j, j < len → w.cell? ⟨b, off + j * 4, none⟩ = some (.int .i64 (ls.getD j Lt.zero).X) ∧ w.cell? ⟨b, off + j * 4 + 1, none⟩ = some (.int .i64 (ls.getD j Lt.zero).Y) ∧ w.cell? ⟨b, off + j * 4 + 2, none⟩ = some (.int .i64 (ls.getD j Lt.zero).R) ∧ w.cell? ⟨b, off + j * 4 + 3, none⟩ = some (.int .i64 (ls.getD j Lt.zero).P)
theorem Lights.below {w w' : World} {a : Option Addr} {len : Nat} {ls : List Lt} (h : Lights w a len ls) (hb : Below w.heap.size w w') : Lights w' a len ls := by
  refine ⟨h.leng, h.big, ?_⟩
  rcases h.cells with e | ⟨b, off, ha, hl, hc⟩
  · exact .inl e
  · refine .inr ⟨b, off, ha, Nat.lt_of_lt_of_le hl hb.size, fun j hj => ?_⟩
    obtain ⟨c0, c1, c2, c3⟩ := hc j hj
    exact ⟨(hb.cell (p := ⟨b, off + j * 4, none⟩) hl).trans c0, (hb.cell (p := ⟨b, off + j * 4 + 1, none⟩) hl).trans c1, (hb.cell (p := ⟨b, off + j * 4 + 2, none⟩) hl).trans c2, (hb.cell (p := ⟨b, off + j * 4 + 3, none⟩) hl).trans c3⟩

theorem below_stepL {w a b : World} (h : Below w.heap.size w a) (k : Below a.heap.size a b) : Below w.heap.size w b := h.trans (k.mono h.size)
theorem isPlace_any (n : Int) (w : World) : Calls Try.prog 128 #[.int .i64 n] w fun e w' => e = .returned (.bool (placeB n)) ∧ w = w' := by
  by_cases h1 : 0 ≤ n
  · by_cases h2 : n < 16
    · go_enter Try.func128, Try.ntmps128
      go_wp2
      go_ret
      exact ⟨by simp [placeB, h1, h2], rfl⟩
    · go_enter Try.func128, Try.ntmps128
      go_wp2
      go_ret
      exact ⟨by simp [placeB, h1]; omega, rfl⟩
  · go_enter Try.func128, Try.ntmps128
    go_wp2
    go_ret
    exact ⟨by simp [placeB]; omega, rfl⟩
theorem isRight_any (l : Lt) (w : World) : Calls Try.prog 124 #[.agg #[.int .i64 l.X, .int .i64 l.Y, .int .i64 l.R, .int .i64 l.P]] w fun e w' => e = .returned (.bool (rightB l)) ∧ Below w.heap.size w w' := by
  obtain ⟨X, Y, R, P⟩ := l
  dsimp only
  have hB : ∀ o, Below w.heap.size w (w.alloc o) := fun o => (Below.refl _ _).alloc (Nat.le_refl _) _
  by_cases h1 : placeB X = true
  · by_cases h2 : placeB Y = true
    · by_cases h3 : 1 ≤ R
      · by_cases h4 : R ≤ 32
        · by_cases h5 : 0 ≤ P
          · by_cases h6 : P ≤ 65535
            · rw [show rightB ⟨X, Y, R, P⟩ = true by simp [rightB, h1, h2, h3, h4, h5, h6]]
              go_enter Try.func124, Try.ntmps124
              go_wp2_with (go_at_call 128; refine (isPlace_any _ _).mono ?_; rintro e w' ⟨rfl, rfl⟩)
              go_ret
              exact ⟨rfl, hB _⟩
            · rw [show rightB ⟨X, Y, R, P⟩ = false by simp [rightB, h6]]
              have h6' : decide (P ≤ 65535) = false := by simpa using h6
              go_enter Try.func124, Try.ntmps124
              go_wp2_with (go_at_call 128; refine (isPlace_any _ _).mono ?_; rintro e w' ⟨rfl, rfl⟩)
              go_ret
              exact ⟨rfl, hB _⟩
          · rw [show rightB ⟨X, Y, R, P⟩ = false by simp [rightB, h5]]
            go_enter Try.func124, Try.ntmps124
            go_wp2_with (go_at_call 128; refine (isPlace_any _ _).mono ?_; rintro e w' ⟨rfl, rfl⟩)
            go_ret
            exact ⟨rfl, hB _⟩
        · rw [show rightB ⟨X, Y, R, P⟩ = false by simp [rightB, h4]]
          go_enter Try.func124, Try.ntmps124
          go_wp2_with (go_at_call 128; refine (isPlace_any _ _).mono ?_; rintro e w' ⟨rfl, rfl⟩)
          go_ret
          exact ⟨rfl, hB _⟩
      · rw [show rightB ⟨X, Y, R, P⟩ = false by simp [rightB, h3]]
        go_enter Try.func124, Try.ntmps124
        go_wp2_with (go_at_call 128; refine (isPlace_any _ _).mono ?_; rintro e w' ⟨rfl, rfl⟩)
        go_ret
        exact ⟨rfl, hB _⟩
    · have h2' := eq_false_of_ne_true h2
      rw [show rightB ⟨X, Y, R, P⟩ = false by simp [rightB, h2']]
      go_enter Try.func124, Try.ntmps124
      go_wp2_with (go_at_call 128; refine (isPlace_any _ _).mono ?_; rintro e w' ⟨rfl, rfl⟩)
      go_ret
      exact ⟨rfl, hB _⟩
  · have h1' := eq_false_of_ne_true h1
    rw [show rightB ⟨X, Y, R, P⟩ = false by simp [rightB, h1']]
    go_enter Try.func124, Try.ntmps124
    go_wp2_with (go_at_call 128; refine (isPlace_any _ _).mono ?_; rintro e w' ⟨rfl, rfl⟩)
    go_ret
    exact ⟨rfl, hB _⟩

theorem rall_succ (ls : List Lt) (k : Nat) (hk : k < ls.length) (h : (ls.take k).all rightB = true) (h' : rightB (ls.getD k Lt.zero) = true) : (ls.take (k + 1)).all rightB = true := by
  rw [List.getD_eq_getElem?_getD, List.getElem?_eq_getElem hk] at h'
  rw [List.take_succ_eq_append_getElem hk, List.all_append, h]
  simpa using h'
theorem rall_not (ls : List Lt) (k : Nat) (hk : k < ls.length) (h' : rightB (ls.getD k Lt.zero) = false) : ls.all rightB = false := by
  rw [List.getD_eq_getElem?_getD, List.getElem?_eq_getElem hk] at h'
  rw [List.all_eq_false]
  exact ⟨ls[k], List.getElem_mem hk, by simpa using h'⟩

theorem checkL_many (a : Option Addr) (len cap : Nat) (w : World) (h : 8 < len) (_hb : len ≤ 9223372036854775807) : Calls Try.prog 113 #[.slice a len cap] w fun e w' => e = .returned (.int .i64 2) ∧ Below w.heap.size w w' := by
  have h' : (8 : Int) < (len : Int) := by omega
  go_enter Try.func113, Try.ntmps113
  go_wp2
  go_ret
  exact ⟨rfl, Below.refl _ _⟩
theorem checkL_nil (a : Option Addr) (cap : Nat) (w : World) : Calls Try.prog 113 #[.slice a 0 cap] w fun e w' => e = .returned (.int .i64 0) ∧ Below w.heap.size w w' := by
  go_enter Try.func113, Try.ntmps113
  go_wp2
  go_loop [10] (fun i => i = .int .i64 0) (fun _ => 0)
  case atStart => rfl
  case round =>
    subst hrel
    go_wp2
    go_ret
    exact ⟨rfl, Below.refl _ _⟩
set_option maxHeartbeats 1000000 in
theorem checkL_row (b off len cap : Nat) (ls : List Lt) (w : World) (hl : ls.length = len) (h8 : len ≤ 8) (hb : b < w.heap.size) (hc : ∀ j, j < len → w.cell? ⟨b, off + j * 4, none⟩ = some (.int .i64 (ls.getD j Lt.zero).X) ∧ w.cell? ⟨b, off + j * 4 + 1, none⟩ = some (.int .i64 (ls.getD j Lt.zero).Y) ∧ w.cell? ⟨b, off + j * 4 + 2, none⟩ = some (.int .i64 (ls.getD j Lt.zero).R) ∧ w.cell? ⟨b, off + j * 4 + 3, none⟩ = some (.int .i64 (ls.getD j Lt.zero).P)) :
    Calls Try.prog 113 #[.slice (some ⟨b, off, none⟩) len cap] w fun e w' => e = .returned (.int .i64 (okIf (ls.all rightB) 3)) ∧ Below w.heap.size w w' := by
  have h8' : ¬ (8 : Int) < (len : Int) := by omega
  go_enter Try.func113, Try.ntmps113
  go_wp2
  go_loopw [10] (fun i wr => ∃ k : Nat, k ≤ len ∧ i = .int .i64 k ∧ (ls.take k).all rightB = true ∧ Below w.heap.size w wr) (fun i _ => len - (intOf i).toNat)
  case atStart => exact ⟨0, Nat.zero_le _, rfl, rfl, Below.refl _ _⟩
  case round =>
    obtain ⟨k, hk, rfl, hall, hbr⟩ := hrel
    by_cases hlt : k < len
    · obtain ⟨c0, c1, c2, c3⟩ := hc k hlt
      replace c0 := (hbr.cell (p := ⟨b, off + k * 4, none⟩) hb).trans c0
      replace c1 := (hbr.cell (p := ⟨b, off + k * 4 + 1, none⟩) hb).trans c1
      replace c2 := (hbr.cell (p := ⟨b, off + k * 4 + 2, none⟩) hb).trans c2
      replace c3 := (hbr.cell (p := ⟨b, off + k * 4 + 3, none⟩) hb).trans c3
      have hir := fun wx => isRight_any (ls.getD k Lt.zero) wx
      have n1 := rall_succ ls k (by omega) hall
      have n2 := rall_not ls k (by omega)
      generalize ls.getD k Lt.zero = l at c0 c1 c2 c3 hir n1 n2
      obtain ⟨X, Y, R, P⟩ := l
      dsimp only at c0 c1 c2 c3 hir
      clear hc
      by_cases hr : rightB ⟨X, Y, R, P⟩ = true
      · rw [hr] at hir
        clear n2
        go_wp2_with (go_at_call 124; refine (hir _).mono ?_; rintro e w2 ⟨rfl, hb2⟩)
        have hbn := below_stepL (hbr.alloc hbr.size _) hb2
        go_roundw
        case rel => exact ⟨k + 1, by omega, by go_num, n1 hr, hbn⟩
        case measure => simp [intOf]; omega
      · have hr' := eq_false_of_ne_true hr
        rw [hr'] at hir
        have hx := n2 hr'
        clear n1 n2
        go_wp2_with (go_at_call 124; refine (hir _).mono ?_; rintro e w2 ⟨rfl, hb2⟩)
        have hbn := below_stepL (hbr.alloc hbr.size _) hb2
        go_ret
        exact ⟨by first | rfl | (rw [hx]; rfl), hbn⟩
    · have hx : ls.all rightB = true := by rw [List.take_of_length_le (by omega)] at hall; exact hall
      go_wp2
      go_ret
      exact ⟨by first | rfl | (rw [hx]; rfl), hbr⟩
/-- light.Check. -/
theorem checkL_any {a : Option Addr} {len : Nat} (cap : Nat) {ls : List Lt} {w : World} (h : Lights w a len ls) : Calls Try.prog 113 #[.slice a len cap] w fun e w' => e = .returned (.int .i64 (lightsErr ls)) ∧ Below w.heap.size w w' := by
  have hl := h.leng
  by_cases h8 : ls.length ≤ 8
  · have e : lightsErr ls = okIf (ls.all rightB) 3 := by simp [lightsErr, h8]
    rw [e]
    rcases h.cells with e | ⟨b, off, rfl, hb, hc⟩
    · subst e
      have : len = 0 := by simpa using hl.symm
      subst this
      exact checkL_nil a cap w
    · exact checkL_row b off len cap ls w hl (by omega) hb hc
  · have e : lightsErr ls = 2 := by simp [lightsErr, h8]
    rw [e]
    exact checkL_many a len cap w (by omega) h.big
end Go.Proofs.Ytfpkiimlaepnhab
/-
  FRM: what a frame is, its errors, its sizes and its sources, as numbers and lists alone.
-/
namespace Go.Proofs.Ytfpkiimlaepnhab
set_option maxRecDepth 100000
open Go.RowKit Im

/-- A pass. -/
structure Ps where
  Op : Int
  To : Int
  A : Int
  B : Int
  K : Int
  ls : List Lt
abbrev Ps.zero : Ps := ⟨0, 0, 0, 0, 0, []⟩
/-- A frame. -/
structure Fr where
  W : Int
  H : Int
  S : Int
  O : Int
  ps : List Ps
abbrev Sz := Int × Int
abbrev Sz.zero : Sz := (0, 0)

def hasA (op : Int) : Bool := withinB op 3 13
def hasB (op : Int) : Bool := withinB op 4 7
def hasK (op : Int) : Bool := decide (op = 1) || decide (op = 2) || decide (op = 8) || decide (op = 9) || decide (op = 13)
def hasL (op : Int) : Bool := decide (op = 13)
def knownB (op : Int) : Bool := withinB op 1 13
def slotB (n S : Int) : Bool := withinB n 0 (S - 1)
def kB (op k : Int) : Bool := if op = 9 then withinB k (-16) 16 else if op = 13 then withinB k 1 16 else withinB k 0 65535
def takesP (p : Ps) : List Int := if hasB p.Op then [p.A, p.B] else if hasA p.Op then [p.A] else []
def slotsB (p : Ps) (S : Int) : Bool := (takesP p).all (fun s => slotB s S) && slotB p.To S
def bareB (p : Ps) : Bool := (hasA p.Op || decide (p.A = 0)) && (hasB p.Op || decide (p.B = 0)) && (hasK p.Op || decide (p.K = 0)) && (hasL p.Op || decide (p.ls.length = 0))
def ownB (p : Ps) : Bool := (takesP p).any fun s => decide (s = p.To)
/-- The error that a pass has by itself. -/
def ownE (p : Ps) (S : Int) : Int :=
  if knownB p.Op = true then
    if slotsB p S = true ∧ (hasK p.Op = true → kB p.Op p.K = true) then
      if hasL p.Op = true ∧ lightsErr p.ls ≠ 0 then lightsErr p.ls
      else if bareB p = true ∧ ownB p = false then 0 else 1
    else 3
  else 4

/-- The last of the first n passes that made what lies in slot s; -1: none. -/
def wrt (ps : List Ps) : Nat → Int → Int
  | 0, _ => -1
  | n + 1, s => if (ps.getD n Ps.zero).To = s then n else wrt ps n s
def srcOf (ps : List Ps) (n : Nat) : List Int := (takesP (ps.getD n Ps.zero)).map (wrt ps n)
def thereB (is : List Int) : Bool := is.all fun i => decide (0 ≤ i)
def pickZ (zs : List Sz) (is : List Int) : List Sz := is.map fun i => zs.getD i.toNat Sz.zero
def sizeP (W H op : Int) (zs : List Sz) : Sz :=
  if op = 1 ∨ op = 2 then (W, H)
  else if op = 11 then ((zs.getD 0 Sz.zero).1 / 2, (zs.getD 0 Sz.zero).2 / 2)
  else if op = 12 then (2 * (zs.getD 0 Sz.zero).1, 2 * (zs.getD 0 Sz.zero).2)
  else zs.getD 0 Sz.zero
def fitP (op : Int) (zs : List Sz) : Bool :=
  if op = 11 then decide ((zs.getD 0 Sz.zero).1 % 2 = 0) && decide ((zs.getD 0 Sz.zero).2 % 2 = 0)
  else if op = 12 then decide (2 * (zs.getD 0 Sz.zero).1 ≤ 16) && decide (2 * (zs.getD 0 Sz.zero).2 ≤ 16)
  else if hasB op = true then decide (zs.getD 0 Sz.zero = zs.getD 1 Sz.zero)
  else true
/-- The sizes of the first n passes' images. -/
def szs (f : Fr) : Nat → List Sz
  | 0 => []
  | n + 1 => szs f n ++ [sizeP f.W f.H (f.ps.getD n Ps.zero).Op (pickZ (szs f n) (srcOf f.ps n))]
/-- The error of pass n, where the passes ahead of it have none. -/
def passE (f : Fr) (n : Nat) : Int :=
  if ownE (f.ps.getD n Ps.zero) f.S = 0 then
    if thereB (srcOf f.ps n) = true then
      if fitP (f.ps.getD n Ps.zero).Op (pickZ (szs f n) (srcOf f.ps n)) = true then 0 else 6
    else 5
  else ownE (f.ps.getD n Ps.zero) f.S
/-- The first error of the first n passes. -/
def firstE (f : Fr) : Nat → Int
  | 0 => 0
  | n + 1 => if firstE f n = 0 then passE f n else firstE f n
def boundsE (f : Fr) : Int :=
  if sideB f.W = true ∧ sideB f.H = true ∧ withinB f.S 1 8 = true ∧ slotB f.O f.S = true then
    if withinB f.ps.length 1 12 = true then 0 else 2
  else 3
def shownP (f : Fr) : Int := wrt f.ps f.ps.length f.O
/-- The error of a frame. -/
def frameE (f : Fr) : Int :=
  if boundsE f = 0 then
    if firstE f f.ps.length = 0 then
      if 0 ≤ shownP f then 0 else 5
    else firstE f f.ps.length
  else boundsE f

theorem szs_length (f : Fr) (n : Nat) : (szs f n).length = n := by
  induction n with
  | zero => rfl
  | succ n ih => simp [szs, ih]
theorem firstE_stays (f : Fr) {k : Nat} {e : Int} (h : firstE f k = e) (he : e ≠ 0) (n : Nat) : firstE f (k + n) = e := by
  induction n with
  | zero => exact h
  | succ n ih =>
    show (if firstE f (k + n) = 0 then passE f (k + n) else firstE f (k + n)) = e
    rw [ih, if_neg he]
theorem firstE_at (f : Fr) {k : Nat} (h : firstE f k = 0) : firstE f (k + 1) = passE f k := by
  show (if firstE f k = 0 then passE f k else firstE f k) = _
  rw [if_pos h]
theorem firstE_end (f : Fr) {k : Nat} (h : firstE f k = 0) (he : passE f k ≠ 0) {n : Nat} (hk : k < n) : firstE f n = passE f k := by
  have h1 := firstE_at f h
  obtain ⟨m, rfl⟩ : ∃ m, n = k + 1 + m := ⟨n - (k + 1), by omega⟩
  exact firstE_stays f h1 he m
theorem firstE_down (f : Fr) {n : Nat} (h : firstE f n = 0) {k : Nat} (hk : k ≤ n) : firstE f k = 0 := by
  by_cases h0 : firstE f k = 0
  · exact h0
  · obtain ⟨m, rfl⟩ : ∃ m, n = k + m := ⟨n - k, by omega⟩
    have := firstE_stays f (k := k) rfl h0 m
    omega
theorem wrt_bd (ps : List Ps) (n : Nat) (s : Int) : -1 ≤ wrt ps n s ∧ wrt ps n s < n := by
  induction n with
  | zero => simp [wrt]
  | succ n ih =>
    show -1 ≤ (if (ps.getD n Ps.zero).To = s then (n : Int) else wrt ps n s) ∧ (if (ps.getD n Ps.zero).To = s then (n : Int) else wrt ps n s) < (n + 1 : Nat)
    split <;> omega
theorem wrt_to (ps : List Ps) (n : Nat) (s : Int) (h : 0 ≤ wrt ps n s) : (ps.getD (wrt ps n s).toNat Ps.zero).To = s := by
  induction n with
  | zero => simp [wrt] at h
  | succ n ih =>
    revert h
    show 0 ≤ (if (ps.getD n Ps.zero).To = s then (n : Int) else wrt ps n s) → (ps.getD (if (ps.getD n Ps.zero).To = s then (n : Int) else wrt ps n s).toNat Ps.zero).To = s
    split
    · intro _; simpa using ‹_›
    · exact ih
/-- A right size. -/
def ZB (z : Sz) : Prop := (1 ≤ z.1 ∧ z.1 ≤ 16) ∧ (1 ≤ z.2 ∧ z.2 ≤ 16)
theorem op_cases {op : Int} (h : knownB op = true) : op = 1 ∨ op = 2 ∨ op = 3 ∨ op = 4 ∨ op = 5 ∨ op = 6 ∨ op = 7 ∨ op = 8 ∨ op = 9 ∨ op = 10 ∨ op = 11 ∨ op = 12 ∨ op = 13 := by
  simp [knownB, withinB] at h; omega
theorem ownE_zero {p : Ps} {S : Int} (h : ownE p S = 0) : knownB p.Op = true ∧ slotsB p S = true ∧ (hasK p.Op = true → kB p.Op p.K = true) ∧ (hasL p.Op = true → lightsErr p.ls = 0) ∧ bareB p = true ∧ ownB p = false := by
  unfold ownE at h
  by_cases h1 : knownB p.Op = true
  · rw [if_pos h1] at h
    by_cases h2 : slotsB p S = true ∧ (hasK p.Op = true → kB p.Op p.K = true)
    · rw [if_pos h2] at h
      by_cases h3 : hasL p.Op = true ∧ lightsErr p.ls ≠ 0
      · rw [if_pos h3] at h; exact absurd h h3.2
      · rw [if_neg h3] at h
        by_cases h4 : bareB p = true ∧ ownB p = false
        · exact ⟨h1, h2.1, h2.2, fun h5 => Classical.byContradiction fun h6 => h3 ⟨h5, h6⟩, h4.1, h4.2⟩
        · rw [if_neg h4] at h; cases h
    · rw [if_neg h2] at h; cases h
  · rw [if_neg h1] at h; cases h
theorem passE_zero {f : Fr} {n : Nat} (h : passE f n = 0) : ownE (f.ps.getD n Ps.zero) f.S = 0 ∧ thereB (srcOf f.ps n) = true ∧ fitP (f.ps.getD n Ps.zero).Op (pickZ (szs f n) (srcOf f.ps n)) = true := by
  unfold passE at h
  by_cases h1 : ownE (f.ps.getD n Ps.zero) f.S = 0
  · rw [if_pos h1] at h
    by_cases h2 : thereB (srcOf f.ps n) = true
    · rw [if_pos h2] at h
      by_cases h3 : fitP (f.ps.getD n Ps.zero).Op (pickZ (szs f n) (srcOf f.ps n)) = true
      · exact ⟨h1, h2, h3⟩
      · rw [if_neg h3] at h; cases h
    · rw [if_neg h2] at h; cases h
  · rw [if_neg h1] at h; exact absurd h h1
theorem src_bd {ps : List Ps} {n : Nat} (h : thereB (srcOf ps n) = true) : ∀ i ∈ srcOf ps n, 0 ≤ i ∧ i < n := by
  intro i hi
  have h1 : 0 ≤ i := by
    unfold thereB at h
    rw [List.all_eq_true] at h
    simpa using h i hi
  unfold srcOf at hi
  rw [List.mem_map] at hi
  obtain ⟨s, _, rfl⟩ := hi
  exact ⟨h1, (wrt_bd ps n s).2⟩
theorem hasA_of {p : Ps} (h : knownB p.Op = true) (h1 : ¬ p.Op = 1) (h2 : ¬ p.Op = 2) : hasA p.Op = true := by
  simp [knownB, withinB] at h; simp [hasA, withinB]; omega
theorem takes_pos {p : Ps} (h : hasA p.Op = true) : ∃ r, takesP p = p.A :: r := by
  unfold takesP
  by_cases hb : hasB p.Op = true
  · rw [if_pos hb]; exact ⟨_, rfl⟩
  · rw [if_neg hb, if_pos h]; exact ⟨_, rfl⟩
theorem pickZ_bd {zs : List Sz} {is : List Int} {n : Nat} (hl : zs.length = n) (hz : ∀ z ∈ zs, ZB z) (hi : ∀ i ∈ is, 0 ≤ i ∧ i < n) : ∀ z ∈ pickZ zs is, ZB z := by
  intro z h
  unfold pickZ at h
  rw [List.mem_map] at h
  obtain ⟨i, h1, rfl⟩ := h
  have h2 := hi i h1
  have h3 : i.toNat < zs.length := by omega
  rw [List.getD_eq_getElem?_getD, List.getElem?_eq_getElem h3]
  exact hz _ (List.getElem_mem h3)
theorem getD_mem {α : Type} {l : List α} {k : Nat} (h : k < l.length) (d : α) : l.getD k d ∈ l := by
  rw [List.getD_eq_getElem?_getD, List.getElem?_eq_getElem h]
  exact List.getElem_mem h
theorem sizeP_bd {W H op : Int} {zs : List Sz} (hW : 1 ≤ W ∧ W ≤ 16) (hH : 1 ≤ H ∧ H ≤ 16) (hk : knownB op = true) (hz : ∀ z ∈ zs, ZB z) (hl : hasA op = true → 0 < zs.length) (hf : fitP op zs = true) : ZB (sizeP W H op zs) := by
  unfold sizeP
  by_cases h1 : op = 1 ∨ op = 2
  · rw [if_pos h1]; exact ⟨hW, hH⟩
  · rw [if_neg h1]
    have hA : hasA op = true := by simp [knownB, withinB] at hk; simp [hasA, withinB]; omega
    have h0 := hz _ (getD_mem (hl hA) Sz.zero)
    unfold fitP at hf
    by_cases h2 : op = 11
    · rw [if_pos h2] at hf ⊢
      simp only [Bool.and_eq_true, decide_eq_true_eq] at hf
      obtain ⟨⟨a1, a2⟩, ⟨a3, a4⟩⟩ := h0
      refine ⟨⟨?_, ?_⟩, ⟨?_, ?_⟩⟩ <;> dsimp only <;> omega
    · rw [if_neg h2] at hf ⊢
      by_cases h3 : op = 12
      · rw [if_pos h3] at hf ⊢
        simp only [Bool.and_eq_true, decide_eq_true_eq] at hf
        obtain ⟨⟨a1, a2⟩, ⟨a3, a4⟩⟩ := h0
        refine ⟨⟨?_, ?_⟩, ⟨?_, ?_⟩⟩ <;> dsimp only <;> omega
      · rw [if_neg h3]; exact h0
theorem szs_bd {f : Fr} (hb : boundsE f = 0) : ∀ {n : Nat}, firstE f n = 0 → ∀ z ∈ szs f n, ZB z
  | 0, _ => by intro z h; cases h
  | n + 1, h => by
    have h0 := firstE_down f h (Nat.le_succ n)
    have ih := szs_bd hb h0
    rw [firstE_at f h0] at h
    obtain ⟨p1, p2, p3⟩ := passE_zero h
    obtain ⟨o1, _⟩ := ownE_zero p1
    have hWH : (1 ≤ f.W ∧ f.W ≤ 16) ∧ (1 ≤ f.H ∧ f.H ≤ 16) := by
      unfold boundsE at hb
      by_cases hc : sideB f.W = true ∧ sideB f.H = true ∧ withinB f.S 1 8 = true ∧ slotB f.O f.S = true
      · exact ⟨(side_iff _).1 hc.1, (side_iff _).1 hc.2.1⟩
      · rw [if_neg hc] at hb; cases hb
    intro z hz
    have e : szs f (n + 1) = szs f n ++ [sizeP f.W f.H (f.ps.getD n Ps.zero).Op (pickZ (szs f n) (srcOf f.ps n))] := rfl
    rw [e, List.mem_append] at hz
    rcases hz with hz | hz
    · exact ih z hz
    · rw [List.mem_singleton] at hz
      subst hz
      refine sizeP_bd hWH.1 hWH.2 o1 (pickZ_bd (szs_length f n) ih (src_bd p2)) (fun hA => ?_) p3
      obtain ⟨r, hr⟩ := takes_pos hA
      unfold pickZ srcOf; rw [hr]; simp
theorem boundsE_zero {f : Fr} (h : boundsE f = 0) : (1 ≤ f.W ∧ f.W ≤ 16) ∧ (1 ≤ f.H ∧ f.H ≤ 16) ∧ (1 ≤ f.S ∧ f.S ≤ 8) ∧ (0 ≤ f.O ∧ f.O < f.S) ∧ (1 ≤ f.ps.length ∧ f.ps.length ≤ 12) := by
  unfold boundsE at h
  by_cases hc : sideB f.W = true ∧ sideB f.H = true ∧ withinB f.S 1 8 = true ∧ slotB f.O f.S = true
  · rw [if_pos hc] at h
    by_cases hd : withinB f.ps.length 1 12 = true
    · obtain ⟨h1, h2, h3, h4⟩ := hc
      simp [withinB, slotB] at h3 h4 hd
      refine ⟨(side_iff _).1 h1, (side_iff _).1 h2, ?_, ?_, ?_⟩ <;> omega
    · rw [if_neg hd] at h; cases h
  · rw [if_neg hc] at h; cases h
theorem frameE_zero {f : Fr} (h : frameE f = 0) : boundsE f = 0 ∧ firstE f f.ps.length = 0 ∧ 0 ≤ shownP f := by
  unfold frameE at h
  by_cases h1 : boundsE f = 0
  · rw [if_pos h1] at h
    by_cases h2 : firstE f f.ps.length = 0
    · rw [if_pos h2] at h
      by_cases h3 : 0 ≤ shownP f
      · exact ⟨h1, h2, h3⟩
      · rw [if_neg h3] at h; cases h
    · rw [if_neg h2] at h; exact absurd h h2
  · rw [if_neg h1] at h; exact absurd h h1
end Go.Proofs.Ytfpkiimlaepnhab
/-
  DRAW: image.draw makes the image that a function of places tells.
-/
namespace Go.Proofs.Ytfpkiimlaepnhab
set_option maxRecDepth 100000
open Go.RowKit Im

/-- The slice value v is nil or the head of a row of the call's own, from block 'base' on, whose numbers are qs. -/
def Owns (base : Nat) (w : World) (v : Value) (qs : List Int) : Prop := w.ownsRow base 3 1 v qs.length (qs.map (Value.int .i64))

theorem Owns.ints {base : Nat} {w : World} {v : Value} {qs : List Int} (h : Owns base w v qs) (hb : qs.length ≤ 9223372036854775807) : ∃ a cap, v = .slice a qs.length cap ∧ Ints base w a qs.length qs := by
  obtain ⟨h1, h2⟩ := h
  rcases h2 with ⟨rfl, h0⟩ | ⟨g, cap, cur, rfl, hg, hh, hc, hm, hs, ht⟩
  · have : qs = [] := by simpa using h0
    subst this
    exact ⟨none, 0, rfl, rfl, by simp, .inl rfl⟩
  · refine ⟨_, cap, rfl, rfl, hb, .inr ⟨g, 0, rfl, hg, ?_, fun j hj => ?_⟩⟩
    · rcases Nat.lt_or_ge g w.heap.size with h | h
      · exact h
      · rw [Array.getElem?_eq_none h] at hh; cases hh
    · have := World.ownsRow.cellAt (base := base) (e := 3) (size := 1) ⟨h1, .inr ⟨g, cap, cur, rfl, hg, hh, hc, hm, hs, ht⟩⟩ j (by simpa using hj)
      rw [Nat.zero_add, this]
      simp [hj]

theorem Owns.push {base : Nat} {w wx w1 : World} {v v' : Value} {qs : List Int} {x : Int} {B0 : World} {o : Obj} (h : Owns base w v qs) (hb : Below base B0 w) (hB : base ≤ w.heap.size)
    (h' : w1.ownsRow base 3 1 v' (qs.length + 1) (qs.map (Value.int .i64) ++ [.int .i64 x])) (hx : wx = w.alloc o) (hg : wx.grownBy w1 v.ownBlock) : Owns base w1 v' (qs ++ [x]) ∧ Below base B0 w1 := by
  subst hx
  refine ⟨by unfold Owns; simpa using h', ?_⟩
  exact (hb.alloc hB o).grown hg (by simp; omega) (fun j hj => (World.ownsRow.lt (w := w) h j hj).1)
theorem Owns.below {base B : Nat} {w w' : World} {v : Value} {qs : List Int} (h : Owns base w v qs) (hb : Below B w w') (hB : w.heap.size ≤ B) : Owns base w' v qs := by
  obtain ⟨h1, h2⟩ := h
  refine ⟨h1, ?_⟩
  rcases h2 with h2 | ⟨g, cap, cur, hv, hg, hh, r⟩
  · exact .inl h2
  · refine .inr ⟨g, cap, cur, hv, hg, ?_, r⟩
    rw [hb.block g ?_]
    · exact hh
    · rcases Nat.lt_or_ge g w.heap.size with h | h
      · omega
      · rw [Array.getElem?_eq_none h] at hh; cases hh

/-- A function value tells, of column x and row y of W columns and H rows, the number g x y: in every world that has all that w has. -/
structure Tells (w : World) (n : Nat) (caps : Array Value) (W H : Nat) (g : Nat → Nat → Int) : Prop where
  enters : ∀ args w, (callFunc n args).run Try.prog w = .ok (.enter n args) w
  tells : ∀ (x y : Nat) (w1 : World), x < W → y < H → Below w.heap.size w w1 → Calls Try.prog n (#[.int .i64 x, .int .i64 y] ++ caps) w1 fun e w2 => e = .returned (.int .i64 (g x y)) ∧ Below w1.heap.size w1 w2

end Go.Proofs.Ytfpkiimlaepnhab
/-
  MEAN: image.mean, of a function that tells the number of a place.
-/
namespace Go.Proofs.Ytfpkiimlaepnhab
set_option maxRecDepth 100000
open Go.RowKit Im

end Go.Proofs.Ytfpkiimlaepnhab
/-
  RULE: the functions of places of image.One.
-/
namespace Go.Proofs.Ytfpkiimlaepnhab
set_option maxRecDepth 100000
open Go.RowKit Im

/-- A right image of W columns and H rows, its numbers ps from the offset off of block b on. -/
structure Fine (w : World) (b off : Nat) (W H : Nat) (ps : List Int) : Prop where
  hW : 1 ≤ W ∧ W ≤ 16
  hH : 1 ≤ H ∧ H ≤ 16
  hb : b < w.heap.size
  len : ps.length = W * H
  cell : ∀ j, j < W * H → w.cell? ⟨b, off + j, none⟩ = some (.int .i64 (ps.getD j 0))
  num : ∀ n ∈ ps, 0 ≤ n ∧ n ≤ 65535

theorem Fine.below {w w' : World} {b off W H : Nat} {ps : List Int} (h : Fine w b off W H ps) (hb : Below w.heap.size w w') : Fine w' b off W H ps :=
  ⟨h.hW, h.hH, Nat.lt_of_lt_of_le h.hb hb.size, h.len, fun j hj => (hb.cell (p := ⟨b, off + j, none⟩) h.hb).trans (h.cell j hj), h.num⟩
theorem Fine.small {w : World} {b off W H : Nat} {ps : List Int} (h : Fine w b off W H ps) : 1 ≤ W * H ∧ W * H ≤ 256 := by
  have := side_mul (W := (W : Int)) (H := (H : Int)) (by have := h.hW; simp [sideB]; omega) (by have := h.hH; simp [sideB]; omega)
  rw [← Int.natCast_mul] at this
  omega
theorem Fine.px_bd {w : World} {b off W H : Nat} {ps : List Int} (h : Fine w b off W H ps) (x y : Nat) (hx : x < W) (hy : y < H) : 0 ≤ px W ps x y ∧ px W ps x y ≤ 65535 := by
  have hl : y * W + x < ps.length := by rw [h.len]; exact place_lt hx hy
  unfold px
  rw [List.getD_eq_getElem?_getD, List.getElem?_eq_getElem hl]
  exact h.num _ (List.getElem_mem hl)
theorem Fine.ints {w : World} {b off W H : Nat} {ps : List Int} (h : Fine w b off W H ps) : Ints 0 w (some ⟨b, off, none⟩) (W * H) ps :=
  ⟨h.len, by have := h.small; omega, .inr ⟨b, off, rfl, Nat.zero_le _, h.hb, h.cell⟩⟩
theorem Fine.fineB {w : World} {b off W H : Nat} {ps : List Int} (h : Fine w b off W H ps) : fineB W H ps = true := by
  rw [fine_iff]
  exact ⟨by have := h.hW; omega, by have := h.hH; omega, by rw [h.len, Int.natCast_mul], h.num⟩
theorem fine_of {w : World} {a : Option Addr} {len : Nat} {W H : Int} {ps : List Int} (h : Ints 0 w a len ps) (hf : fineB W H ps = true) :
    ∃ (W' H' b off : Nat), W = W' ∧ H = H' ∧ a = some ⟨b, off, none⟩ ∧ len = W' * H' ∧ Fine w b off W' H' ps := by
  obtain ⟨h1, h2, h3, h4⟩ := (fine_iff W H ps).1 hf
  obtain ⟨W', rfl⟩ := Int.eq_ofNat_of_zero_le (show 0 ≤ W by omega)
  obtain ⟨H', rfl⟩ := Int.eq_ofNat_of_zero_le (show 0 ≤ H by omega)
  have hl : ps.length = W' * H' := by rw [← Int.natCast_mul] at h3; omega
  have hl' := h.leng
  rcases h.cells with e | ⟨b, off, ha, _, hb, hc⟩
  · subst e
    have : 1 * 1 ≤ W' * H' := Nat.mul_le_mul (by omega) (by omega)
    simp at hl; omega
  · exact ⟨W', H', b, off, rfl, rfl, ha, by omega, by omega, by omega, hb, hl, fun j hj => hc j (by omega), h4⟩

/-- The image lies in the box c. -/
structure Boxed (w : World) (c b off cap W H : Nat) : Prop where
  lt : c < w.heap.size
  c0 : w.cell? ⟨c, 0, none⟩ = some (.int .i64 W)
  c1 : w.cell? ⟨c, 1, none⟩ = some (.int .i64 H)
  c2 : w.cell? ⟨c, 2, none⟩ = some (.slice (some ⟨b, off, none⟩) (W * H) cap)
theorem Boxed.below {w w' : World} {c b off cap W H : Nat} (h : Boxed w c b off cap W H) (hb : Below w.heap.size w w') : Boxed w' c b off cap W H :=
  ⟨Nat.lt_of_lt_of_le h.lt hb.size, (hb.cell (p := ⟨c, 0, none⟩) h.lt).trans h.c0, (hb.cell (p := ⟨c, 1, none⟩) h.lt).trans h.c1, (hb.cell (p := ⟨c, 2, none⟩) h.lt).trans h.c2⟩
end Go.Proofs.Ytfpkiimlaepnhab
/-
  RULES: what stands where in what image.One makes, operation by operation.
-/
namespace Go.Proofs.Ytfpkiimlaepnhab
set_option maxRecDepth 100000
open Go.RowKit Im

/-- The column that stands for x - k. -/
def colX (x : Nat) (k : Int) (W : Nat) : Nat := (min (max ((x : Int) - k) 0) ((W : Int) - 1)).toNat
/-- What stands at column x and row y of what One makes of an image of W columns and H rows. -/
def oneG (op : Int) (W H : Nat) (k : Int) (ps : List Int) (x y : Nat) : Int :=
  if op = 8 then (if k ≤ px W ps x y then px W ps x y else 0)
  else if op = 9 then px W ps (colX x k W) y
  else if op = 10 then meanP (px W ps) (x - 1) (y - 1) (min (x + 1) (W - 1)) (min (y + 1) (H - 1))
  else if op = 11 then meanP (px W ps) (2 * x) (2 * y) (2 * x + 1) (2 * y + 1)
  else if op = 12 then px W ps (x / 2) (y / 2)
  else px W ps x y
/-- How many columns, or rows, One makes of n. -/
def oneN (op : Int) (n : Nat) : Nat := if op = 11 then n / 2 else if op = 12 then 2 * n else n

theorem colX_lt (x : Nat) (k : Int) (W : Nat) (h : 1 ≤ W) : colX x k W < W := by unfold colX; omega
theorem colX_int (x : Nat) (k : Int) (W : Nat) (h : 1 ≤ W) : min (max ((x : Int) - k) 0) ((W : Int) - 1) = (colX x k W : Int) := by unfold colX; omega

end Go.Proofs.Ytfpkiimlaepnhab
/-
  BLUR: what image.One makes of an image by Blur.
-/
namespace Go.Proofs.Ytfpkiimlaepnhab
set_option maxRecDepth 100000
open Go.RowKit Im

end Go.Proofs.Ytfpkiimlaepnhab
/-
  MAKE: image.Make, and the reference's MakeError and MakeOf.
-/
namespace Go.Proofs.Ytfpkiimlaepnhab
set_option maxRecDepth 100000
open Go.RowKit Im

/-- What stands at column x and row y of what Make makes. -/
def makeG (op k : Int) (x y : Nat) : Int := if op = 1 then k else ((x : Int) * k + y) % 65536

/-- The zero value of an image. -/
abbrev noImage : Value := .agg #[.int .i64 0, .int .i64 0, .slice none 0 0]

end Go.Proofs.Ytfpkiimlaepnhab
/-
  ONE: image.One makes what the document says of one image.
-/
namespace Go.Proofs.Ytfpkiimlaepnhab
set_option maxRecDepth 100000
open Go.RowKit Im

/-- The error of One, of a right image of W columns and H rows. -/
def oneErr (op : Int) (W H : Nat) (k : Int) : Int :=
  if op = 3 then 0 else if op = 10 then 0 else if op = 8 then okIf (numB k) 3 else if op = 9 then okIf (withinB k (-16) 16) 3
  else if op = 11 then okIf (decide (W % 2 = 0) && decide (H % 2 = 0)) 6 else if op = 12 then okIf (decide (2 * W ≤ 16) && decide (2 * H ≤ 16)) 6 else 4
theorem oneErr_none {op : Int} (W H : Nat) (k : Int) (h3 : ¬ op = 3) (h10 : ¬ op = 10) (h8 : ¬ op = 8) (h9 : ¬ op = 9) (h11 : ¬ op = 11) (h12 : ¬ op = 12) : oneErr op W H k = 4 := by
  simp [oneErr, h3, h10, h8, h9, h11, h12]

theorem side_two (n : Nat) (h : 1 ≤ n) : sideB (2 * (n : Int)) = decide (2 * n ≤ 16) := by
  rw [Bool.eq_iff_iff]; simp [sideB]; omega
/-- The operations of One. -/
theorem ones_cases (op : Int) : (op = 3 ∨ op = 10) ∨ op = 8 ∨ op = 9 ∨ op = 11 ∨ op = 12 ∨ (¬ op = 3 ∧ ¬ op = 10 ∧ ¬ op = 8 ∧ ¬ op = 9 ∧ ¬ op = 11 ∧ ¬ op = 12) := by omega
end Go.Proofs.Ytfpkiimlaepnhab
/-
  ONE2: image.One, whole.
-/
namespace Go.Proofs.Ytfpkiimlaepnhab
set_option maxRecDepth 100000
open Go.RowKit Im

end Go.Proofs.Ytfpkiimlaepnhab
/-
  ONE3: image.One answers what the document says.
-/
namespace Go.Proofs.Ytfpkiimlaepnhab
set_option maxRecDepth 100000
open Go.RowKit Im

theorem okIf_zero {b : Bool} {e : Int} (he : ¬ e = 0) (h : okIf b e = 0) : b = true := by
  cases b
  · exact absurd h he
  · rfl
theorem oneN_side {op : Int} {W H : Nat} {k : Int} (hW : 1 ≤ W ∧ W ≤ 16) (hH : 1 ≤ H ∧ H ≤ 16) (hE : oneErr op W H k = 0) : (1 ≤ oneN op W ∧ oneN op W ≤ 16) ∧ 1 ≤ oneN op H ∧ oneN op H ≤ 16 := by
  rcases ones_cases op with (rfl | rfl) | rfl | rfl | rfl | rfl | ⟨h3, h10, h8, h9, h11, h12⟩
  · exact ⟨hW, hH⟩
  · exact ⟨hW, hH⟩
  · exact ⟨hW, hH⟩
  · exact ⟨hW, hH⟩
  · have h := okIf_zero (by decide) (show okIf (decide (W % 2 = 0) && decide (H % 2 = 0)) 6 = 0 from hE)
    simp at h
    show (1 ≤ W / 2 ∧ W / 2 ≤ 16) ∧ 1 ≤ H / 2 ∧ H / 2 ≤ 16
    omega
  · have h := okIf_zero (by decide) (show okIf (decide (2 * W ≤ 16) && decide (2 * H ≤ 16)) 6 = 0 from hE)
    simp at h
    show (1 ≤ 2 * W ∧ 2 * W ≤ 16) ∧ 1 ≤ 2 * H ∧ 2 * H ≤ 16
    omega
  · rw [oneErr_none W H k h3 h10 h8 h9 h11 h12] at hE; omega
end Go.Proofs.Ytfpkiimlaepnhab
/-
  TWO: the rules of image.Two: a map of functions of two numbers.
-/
namespace Go.Proofs.Ytfpkiimlaepnhab
set_option maxRecDepth 100000
open Go.RowKit Im

/-- What becomes of two numbers. -/
def twoG (op m n : Int) : Int := if op = 4 then min (m + n) 65535 else if op = 5 then max (m - n) 0 else if op = 6 then m * n / 65535 else max m n
end Go.Proofs.Ytfpkiimlaepnhab
/-
  TWO2: the function of places of image.Two.
-/
namespace Go.Proofs.Ytfpkiimlaepnhab
set_option maxRecDepth 100000
open Go.RowKit Im

end Go.Proofs.Ytfpkiimlaepnhab
/-
  TWO3: image.Two answers what the document says.
-/
namespace Go.Proofs.Ytfpkiimlaepnhab
set_option maxRecDepth 100000
open Go.RowKit Im

theorem two_B (w : World) (o o' o'' : Obj) : Below w.heap.size w (((w.alloc o).alloc o').alloc o'') := (((Below.refl _ _).alloc (Nat.le_refl _) _).alloc (by simp) _).alloc (by simp; omega) _

end Go.Proofs.Ytfpkiimlaepnhab
/-
  TWO4: image.Two, with no error.
-/
namespace Go.Proofs.Ytfpkiimlaepnhab
set_option maxRecDepth 100000
open Go.RowKit Im

end Go.Proofs.Ytfpkiimlaepnhab
/-
  ACC: an image that is built up in a variable ('out.P = append(out.P, n)'), step by step.
-/
namespace Go.Proofs.Ytfpkiimlaepnhab
set_option maxRecDepth 100000
open Go.RowKit Im

theorem owns_slice {base e size n : Nat} {w : World} {v : Value} {xs : List Value} (h : w.ownsRow base e size v n xs) : ∃ a cap, v = .slice a n cap := by
  rcases h.2 with ⟨rfl, rfl⟩ | ⟨g, cap, cur, rfl, _⟩
  · exact ⟨none, 0, rfl⟩
  · exact ⟨_, cap, rfl⟩
end Go.Proofs.Ytfpkiimlaepnhab
/-
  MAKEREF: the reference's MakeError and MakeOf.
-/
namespace Go.Proofs.Ytfpkiimlaepnhab
set_option maxRecDepth 100000
open Go.RowKit Im

end Go.Proofs.Ytfpkiimlaepnhab
/-
  BEGUN: the closed calls of the law's imageBegun, each by its contract.
-/
namespace Go.Proofs.Ytfpkiimlaepnhab
set_option maxRecDepth 100000
open Go.RowKit Im

/-- The image that lies in block b: its columns, rows and slice, and the slice's numbers. -/
structure Pic (w : World) (b : Nat) (W H : Int) (a : Option Addr) (len cap : Nat) (ps : List Int) : Prop where
  lt : b < w.heap.size
  c0 : w.cell? ⟨b, 0, none⟩ = some (.int .i64 W)
  c1 : w.cell? ⟨b, 1, none⟩ = some (.int .i64 H)
  c2 : w.cell? ⟨b, 2, none⟩ = some (.slice a len cap)
  ints : Ints 0 w a len ps
theorem Pic.below {w w' : World} {b : Nat} {W H : Int} {a : Option Addr} {len cap : Nat} {ps : List Int} (h : Pic w b W H a len cap ps) (hb : Below w.heap.size w w') : Pic w' b W H a len cap ps :=
  ⟨Nat.lt_of_lt_of_le h.lt hb.size, (hb.cell (p := ⟨b, 0, none⟩) h.lt).trans h.c0, (hb.cell (p := ⟨b, 1, none⟩) h.lt).trans h.c1, (hb.cell (p := ⟨b, 2, none⟩) h.lt).trans h.c2, h.ints.below (Nat.le_refl _) hb⟩
theorem Pic.alloc {w : World} {b : Nat} {W H : Int} {a : Option Addr} {len cap : Nat} {ps : List Int} (h : Pic w b W H a len cap ps) (o : Obj) : Pic (w.alloc o) b W H a len cap ps :=
  h.below ((Below.refl _ _).alloc (Nat.le_refl _) _)
theorem Ints.alloc {base : Nat} {w : World} {a : Option Addr} {len : Nat} {ps : List Int} (h : Ints base w a len ps) (o : Obj) : Ints base (w.alloc o) a len ps := h.below (Nat.le_refl _) ((Below.refl _ _).alloc (Nat.le_refl _) _)
/-- A literal of numbers. -/
theorem ints_lit (w : World) (ps : List Int) (h : ps.length ≤ 9223372036854775807) : Ints 0 (w.alloc (.cells (ps.map (Value.int .i64)).toArray 3)) (some ⟨w.heap.size, 0, none⟩) ps.length ps := by
  refine ⟨rfl, h, .inr ⟨w.heap.size, 0, rfl, Nat.zero_le _, by simp, fun j hj => ?_⟩⟩
  have : (w.alloc (.cells (ps.map (Value.int .i64)).toArray 3)).heap[w.heap.size]? = some (.cells (ps.map (Value.int .i64)).toArray 3 (0, 0)) := (MapKept.heap_alloc w _).1
  unfold World.cell?
  rw [this]
  simp [hj]

end Go.Proofs.Ytfpkiimlaepnhab
/-
  BEGUN2: the law's imageBegun answers true.
-/
namespace Go.Proofs.Ytfpkiimlaepnhab
set_option maxRecDepth 100000
open Go.RowKit Im

theorem below_step {w a b : World} (h : Below w.heap.size w a) (k : Below a.heap.size a b) : Below w.heap.size w b := h.trans (k.mono h.size)
theorem below_box {w a : World} (h : Below w.heap.size w a) (o : Obj) : Below w.heap.size w (a.alloc o) := h.alloc h.size o

end Go.Proofs.Ytfpkiimlaepnhab
