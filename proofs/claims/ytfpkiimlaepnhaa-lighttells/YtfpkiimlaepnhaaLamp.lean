/-
  LAMP: how lights lie in memory; the small functions of package light.
-/
import Derived.Test.YtfpkiimlaepnhaaSame
namespace Go.Proofs.Ytfpkiimlaepnhaa
set_option maxRecDepth 100000
open Go.RowKit Im

/-- A light. -/
structure Lt where
  X : Int
  Y : Int
  R : Int
  P : Int
abbrev Lt.zero : Lt := ⟨0, 0, 0, 0⟩
def placeB (n : Int) : Bool := decide (0 ≤ n) && decide (n < 16)
def rightB (l : Lt) : Bool := placeB l.X && placeB l.Y && decide (1 ≤ l.R) && decide (l.R ≤ 32) && decide (0 ≤ l.P) && decide (l.P ≤ 65535)
def lightsB (ls : List Lt) : Bool := decide (ls.length ≤ 8) && ls.all rightB
def lightsErr (ls : List Lt) : Int := if ls.length ≤ 8 then okIf (ls.all rightB) 3 else 2
theorem place_iff (n : Int) : placeB n = true ↔ 0 ≤ n ∧ n < 16 := by simp [placeB]
theorem right_iff (l : Lt) : rightB l = true ↔ (0 ≤ l.X ∧ l.X < 16) ∧ (0 ≤ l.Y ∧ l.Y < 16) ∧ (1 ≤ l.R ∧ l.R ≤ 32) ∧ (0 ≤ l.P ∧ l.P ≤ 65535) := by simp [rightB, place_iff, and_assoc]

/-- A slice's elements are the lights ls. -/
structure Lights (w : World) (a : Option Addr) (len : Nat) (ls : List Lt) : Prop where
  leng : ls.length = len
  big : len ≤ 9223372036854775807
  cells : ls = [] ∨ ∃ b off, a = some ⟨b, off, none⟩ ∧ b < w.heap.size ∧ ∀ j, j < len → w.cell? ⟨b, off + j * 4, none⟩ = some (.int .i64 (ls.getD j Lt.zero).X) ∧ w.cell? ⟨b, off + j * 4 + 1, none⟩ = some (.int .i64 (ls.getD j Lt.zero).Y) ∧ w.cell? ⟨b, off + j * 4 + 2, none⟩ = some (.int .i64 (ls.getD j Lt.zero).R) ∧ w.cell? ⟨b, off + j * 4 + 3, none⟩ = some (.int .i64 (ls.getD j Lt.zero).P)
theorem Lights.below {w w' : World} {a : Option Addr} {len : Nat} {ls : List Lt} (h : Lights w a len ls) (hb : Below w.heap.size w w') : Lights w' a len ls := by
  refine ⟨h.leng, h.big, ?_⟩
  rcases h.cells with e | ⟨b, off, ha, hl, hc⟩
  · exact .inl e
  · refine .inr ⟨b, off, ha, Nat.lt_of_lt_of_le hl hb.size, fun j hj => ?_⟩
    obtain ⟨c0, c1, c2, c3⟩ := hc j hj
    exact ⟨(hb.cell (p := ⟨b, off + j * 4, none⟩) hl).trans c0, (hb.cell (p := ⟨b, off + j * 4 + 1, none⟩) hl).trans c1, (hb.cell (p := ⟨b, off + j * 4 + 2, none⟩) hl).trans c2, (hb.cell (p := ⟨b, off + j * 4 + 3, none⟩) hl).trans c3⟩

theorem below_stepL {w a b : World} (h : Below w.heap.size w a) (k : Below a.heap.size a b) : Below w.heap.size w b := h.trans (k.mono h.size)
theorem isPlace_any (n : Int) (w : World) : Calls Try.prog 72 #[.int .i64 n] w fun e w' => e = .returned (.bool (placeB n)) ∧ w = w' := by
  by_cases h1 : 0 ≤ n
  · by_cases h2 : n < 16
    · go_enter Try.func72, Try.ntmps72
      go_wp2
      go_ret
      exact ⟨by simp [placeB, h1, h2], rfl⟩
    · go_enter Try.func72, Try.ntmps72
      go_wp2
      go_ret
      exact ⟨by simp [placeB, h1]; omega, rfl⟩
  · go_enter Try.func72, Try.ntmps72
    go_wp2
    go_ret
    exact ⟨by simp [placeB]; omega, rfl⟩
theorem isRight_any (l : Lt) (w : World) : Calls Try.prog 78 #[.agg #[.int .i64 l.X, .int .i64 l.Y, .int .i64 l.R, .int .i64 l.P]] w fun e w' => e = .returned (.bool (rightB l)) ∧ Below w.heap.size w w' := by
  obtain ⟨X, Y, R, P⟩ := l
  dsimp only
  have hB : ∀ o, Below w.heap.size w (w.alloc o) := fun o => (Below.refl _ _).alloc (Nat.le_refl _) _
  by_cases h1 : placeB X = true
  · by_cases h2 : placeB Y = true
    · by_cases h3 : 1 ≤ R
      · by_cases h4 : R ≤ 32
        · by_cases h5 : 0 ≤ P
          · by_cases h6 : P ≤ 65535
            · rw [show rightB ⟨X, Y, R, P⟩ = true by simp [rightB, h1, h2, h3, h4, h5, h6]]
              go_enter Try.func78, Try.ntmps78
              go_wp2_with (go_at_call 72; refine (isPlace_any _ _).mono ?_; rintro e w' ⟨rfl, rfl⟩)
              go_ret
              exact ⟨rfl, hB _⟩
            · rw [show rightB ⟨X, Y, R, P⟩ = false by simp [rightB, h6]]
              have h6' : decide (P ≤ 65535) = false := by simpa using h6
              go_enter Try.func78, Try.ntmps78
              go_wp2_with (go_at_call 72; refine (isPlace_any _ _).mono ?_; rintro e w' ⟨rfl, rfl⟩)
              go_ret
              exact ⟨rfl, hB _⟩
          · rw [show rightB ⟨X, Y, R, P⟩ = false by simp [rightB, h5]]
            go_enter Try.func78, Try.ntmps78
            go_wp2_with (go_at_call 72; refine (isPlace_any _ _).mono ?_; rintro e w' ⟨rfl, rfl⟩)
            go_ret
            exact ⟨rfl, hB _⟩
        · rw [show rightB ⟨X, Y, R, P⟩ = false by simp [rightB, h4]]
          go_enter Try.func78, Try.ntmps78
          go_wp2_with (go_at_call 72; refine (isPlace_any _ _).mono ?_; rintro e w' ⟨rfl, rfl⟩)
          go_ret
          exact ⟨rfl, hB _⟩
      · rw [show rightB ⟨X, Y, R, P⟩ = false by simp [rightB, h3]]
        go_enter Try.func78, Try.ntmps78
        go_wp2_with (go_at_call 72; refine (isPlace_any _ _).mono ?_; rintro e w' ⟨rfl, rfl⟩)
        go_ret
        exact ⟨rfl, hB _⟩
    · have h2' := eq_false_of_ne_true h2
      rw [show rightB ⟨X, Y, R, P⟩ = false by simp [rightB, h2']]
      go_enter Try.func78, Try.ntmps78
      go_wp2_with (go_at_call 72; refine (isPlace_any _ _).mono ?_; rintro e w' ⟨rfl, rfl⟩)
      go_ret
      exact ⟨rfl, hB _⟩
  · have h1' := eq_false_of_ne_true h1
    rw [show rightB ⟨X, Y, R, P⟩ = false by simp [rightB, h1']]
    go_enter Try.func78, Try.ntmps78
    go_wp2_with (go_at_call 72; refine (isPlace_any _ _).mono ?_; rintro e w' ⟨rfl, rfl⟩)
    go_ret
    exact ⟨rfl, hB _⟩

theorem rall_succ (ls : List Lt) (k : Nat) (hk : k < ls.length) (h : (ls.take k).all rightB = true) (h' : rightB (ls.getD k Lt.zero) = true) : (ls.take (k + 1)).all rightB = true := by
  rw [List.getD_eq_getElem?_getD, List.getElem?_eq_getElem hk] at h'
  rw [List.take_succ_eq_append_getElem hk, List.all_append, h]
  simpa using h'
theorem rall_not (ls : List Lt) (k : Nat) (hk : k < ls.length) (h' : rightB (ls.getD k Lt.zero) = false) : ls.all rightB = false := by
  rw [List.getD_eq_getElem?_getD, List.getElem?_eq_getElem hk] at h'
  rw [List.all_eq_false]
  exact ⟨ls[k], List.getElem_mem hk, by simpa using h'⟩

theorem checkL_many (a : Option Addr) (len cap : Nat) (w : World) (h : 8 < len) (_hb : len ≤ 9223372036854775807) : Calls Try.prog 35 #[.slice a len cap] w fun e w' => e = .returned (.int .i64 2) ∧ Below w.heap.size w w' := by
  have h' : (8 : Int) < (len : Int) := by omega
  go_enter Try.func35, Try.ntmps35
  go_wp2
  go_ret
  exact ⟨rfl, Below.refl _ _⟩
theorem checkL_nil (a : Option Addr) (cap : Nat) (w : World) : Calls Try.prog 35 #[.slice a 0 cap] w fun e w' => e = .returned (.int .i64 0) ∧ Below w.heap.size w w' := by
  go_enter Try.func35, Try.ntmps35
  go_wp2
  go_loop [10] (fun i => i = .int .i64 0) (fun _ => 0)
  case atStart => rfl
  case round =>
    subst hrel
    go_wp2
    go_ret
    exact ⟨rfl, Below.refl _ _⟩
set_option maxHeartbeats 1000000 in
theorem checkL_row (b off len cap : Nat) (ls : List Lt) (w : World) (hl : ls.length = len) (h8 : len ≤ 8) (hb : b < w.heap.size) (hc : ∀ j, j < len → w.cell? ⟨b, off + j * 4, none⟩ = some (.int .i64 (ls.getD j Lt.zero).X) ∧ w.cell? ⟨b, off + j * 4 + 1, none⟩ = some (.int .i64 (ls.getD j Lt.zero).Y) ∧ w.cell? ⟨b, off + j * 4 + 2, none⟩ = some (.int .i64 (ls.getD j Lt.zero).R) ∧ w.cell? ⟨b, off + j * 4 + 3, none⟩ = some (.int .i64 (ls.getD j Lt.zero).P)) :
    Calls Try.prog 35 #[.slice (some ⟨b, off, none⟩) len cap] w fun e w' => e = .returned (.int .i64 (okIf (ls.all rightB) 3)) ∧ Below w.heap.size w w' := by
  have h8' : ¬ (8 : Int) < (len : Int) := by omega
  go_enter Try.func35, Try.ntmps35
  go_wp2
  go_loopw [10] (fun i wr => ∃ k : Nat, k ≤ len ∧ i = .int .i64 k ∧ (ls.take k).all rightB = true ∧ Below w.heap.size w wr) (fun i _ => len - (intOf i).toNat)
  case atStart => exact ⟨0, Nat.zero_le _, rfl, rfl, Below.refl _ _⟩
  case round =>
    obtain ⟨k, hk, rfl, hall, hbr⟩ := hrel
    by_cases hlt : k < len
    · obtain ⟨c0, c1, c2, c3⟩ := hc k hlt
      replace c0 := (hbr.cell (p := ⟨b, off + k * 4, none⟩) hb).trans c0
      replace c1 := (hbr.cell (p := ⟨b, off + k * 4 + 1, none⟩) hb).trans c1
      replace c2 := (hbr.cell (p := ⟨b, off + k * 4 + 2, none⟩) hb).trans c2
      replace c3 := (hbr.cell (p := ⟨b, off + k * 4 + 3, none⟩) hb).trans c3
      have hir := fun wx => isRight_any (ls.getD k Lt.zero) wx
      have n1 := rall_succ ls k (by omega) hall
      have n2 := rall_not ls k (by omega)
      generalize ls.getD k Lt.zero = l at c0 c1 c2 c3 hir n1 n2
      obtain ⟨X, Y, R, P⟩ := l
      dsimp only at c0 c1 c2 c3 hir
      clear hc
      by_cases hr : rightB ⟨X, Y, R, P⟩ = true
      · rw [hr] at hir
        clear n2
        go_wp2_with (go_at_call 78; refine (hir _).mono ?_; rintro e w2 ⟨rfl, hb2⟩)
        have hbn := below_stepL (hbr.alloc hbr.size _) hb2
        go_roundw
        case rel => exact ⟨k + 1, by omega, by go_num, n1 hr, hbn⟩
        case measure => simp [intOf]; omega
      · have hr' := eq_false_of_ne_true hr
        rw [hr'] at hir
        have hx := n2 hr'
        clear n1 n2
        go_wp2_with (go_at_call 78; refine (hir _).mono ?_; rintro e w2 ⟨rfl, hb2⟩)
        have hbn := below_stepL (hbr.alloc hbr.size _) hb2
        go_ret
        exact ⟨by first | rfl | (rw [hx]; rfl), hbn⟩
    · have hx : ls.all rightB = true := by rw [List.take_of_length_le (by omega)] at hall; exact hall
      go_wp2
      go_ret
      exact ⟨by first | rfl | (rw [hx]; rfl), hbr⟩
/-- light.Check. -/
theorem checkL_any {a : Option Addr} {len : Nat} (cap : Nat) {ls : List Lt} {w : World} (h : Lights w a len ls) : Calls Try.prog 35 #[.slice a len cap] w fun e w' => e = .returned (.int .i64 (lightsErr ls)) ∧ Below w.heap.size w w' := by
  have hl := h.leng
  by_cases h8 : ls.length ≤ 8
  · have e : lightsErr ls = okIf (ls.all rightB) 3 := by simp [lightsErr, h8]
    rw [e]
    rcases h.cells with e | ⟨b, off, rfl, hb, hc⟩
    · subst e
      have : len = 0 := by simpa using hl.symm
      subst this
      exact checkL_nil a cap w
    · exact checkL_row b off len cap ls w hl (by omega) hb hc
  · have e : lightsErr ls = 2 := by simp [lightsErr, h8]
    rw [e]
    exact checkL_many a len cap w (by omega) h.big
end Go.Proofs.Ytfpkiimlaepnhaa
