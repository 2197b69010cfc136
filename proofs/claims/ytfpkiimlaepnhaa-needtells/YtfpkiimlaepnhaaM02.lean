/- Same, Lamp: joined, in this order. -/
import Derived.Test.YtfpkiimlaepnhaaM01
import Derived.Deep.QuietTactic
import Derived.BigQuiet
/-
  SAME: the reference's SameInts and SameImages tell whether two lists of numbers, two images, are the same.
-/
namespace Go.Proofs.Ytfpkiimlaepnhaa
set_option maxRecDepth 100000
open Go.RowKit Im

theorem take_same {ps qs : List Int} {k : Nat} (h1 : k < ps.length) (h2 : k < qs.length) (h : ps.take k = qs.take k) (e : ps.getD k 0 = qs.getD k 0) : ps.take (k + 1) = qs.take (k + 1) := by
  rw [List.getD_eq_getElem?_getD, List.getD_eq_getElem?_getD, List.getElem?_eq_getElem h1, List.getElem?_eq_getElem h2] at e
  simp only [Option.getD_some] at e
  rw [List.take_succ_eq_append_getElem h1, List.take_succ_eq_append_getElem h2, h, e]
theorem sameInts_len (a a' : Option Addr) (len cap len' cap' : Nat) (w : World) (_h1 : len ≤ 9223372036854775807) (_h2 : len' ≤ 9223372036854775807) (hne : ¬ len = len') :
    Calls Try.prog 36 #[.slice a len cap, .slice a' len' cap'] w fun e w' => e = .returned (.bool false) ∧ Below w.heap.size w w' := by
  go_enter Try.func36, Try.ntmps36
  go_wp2
  go_ret
  exact ⟨rfl, Below.refl _ _⟩
theorem sameInts_nil (a a' : Option Addr) (cap cap' : Nat) (w : World) :
    Calls Try.prog 36 #[.slice a 0 cap, .slice a' 0 cap'] w fun e w' => e = .returned (.bool true) ∧ Below w.heap.size w w' := by
  go_enter Try.func36, Try.ntmps36
  go_wp2
  go_loop [5] (fun i => i = .int .i64 0) (fun _ => 0)
  case atStart => rfl
  case round =>
    subst hrel
    go_wp2
    go_ret
    exact ⟨rfl, Below.refl _ _⟩
theorem sameInts_row (b off cap b' off' cap' len : Nat) (ps qs : List Int) (w : World) (hl : ps.length = len) (hl' : qs.length = len) (hbig : len ≤ 9223372036854775807)
    (hc : ∀ j, j < len → w.cell? ⟨b, off + j, none⟩ = some (.int .i64 (ps.getD j 0))) (hc' : ∀ j, j < len → w.cell? ⟨b', off' + j, none⟩ = some (.int .i64 (qs.getD j 0))) :
    Calls Try.prog 36 #[.slice (some ⟨b, off, none⟩) len cap, .slice (some ⟨b', off', none⟩) len cap'] w fun e w' => e = .returned (.bool (decide (ps = qs))) ∧ Below w.heap.size w w' := by
  go_enter Try.func36, Try.ntmps36
  go_wp2
  go_loopw [5] (fun i wr => ∃ k : Nat, k ≤ len ∧ i = .int .i64 k ∧ ps.take k = qs.take k ∧ ∃ n, wr = w.drewN n) (fun i _ => len - (intOf i).toNat)
  case atStart => exact ⟨0, Nat.zero_le _, rfl, rfl, 0, rfl⟩
  case round =>
    obtain ⟨k, hk, rfl, hall, nd, rfl⟩ := hrel
    by_cases hlt : k < len
    · obtain ⟨x, hx⟩ : ∃ n, n = ps.getD k 0 := ⟨_, rfl⟩
      obtain ⟨y, hy⟩ : ∃ n, n = qs.getD k 0 := ⟨_, rfl⟩
      have hcx := hc k hlt
      have hcy := hc' k hlt
      rw [← hx] at hcx
      rw [← hy] at hcy
      have HX : Hid (x = ps.getD k 0) := hx
      have HY : Hid (y = qs.getD k 0) := hy
      have HL : Hid (ps.take k = qs.take k) := hall
      clear hx hy hc hc' hall
      by_cases hn : x = y
      · have hnb : (x != y) = false := by simp [hn]
        go_wp2
        go_quiet (fail)
        go_wp2
        go_roundw
        case rel => exact ⟨k + 1, by omega, by go_num, take_same (by omega) (by omega) HL.out (by rw [← HX.out, ← HY.out]; exact hn), _, rfl⟩
        case measure => simp [intOf]; omega
      · have hnb : (x != y) = true := by simp [hn]
        have hd : decide (ps = qs) = false := by
          refine decide_eq_false fun e => hn ?_
          rw [HX.out, HY.out, e]
        go_wp2
        go_quiet (fail)
        go_wp2
        go_ret
        exact ⟨by first | rfl | (rw [hd]; rfl), below_drewN (below_drewN (Below.refl _ _) _) _⟩
    · have hd : decide (ps = qs) = true := by
        rw [List.take_of_length_le (by omega), List.take_of_length_le (by omega)] at hall
        exact decide_eq_true hall
      go_wp2
      go_ret
      exact ⟨by first | rfl | (rw [hd]; rfl), below_drewN (Below.refl _ _) _⟩
/-- The reference's SameInts. -/
theorem sameInts_any {a a' : Option Addr} {len len' : Nat} (cap cap' : Nat) {ps qs : List Int} {w : World} (h : Ints 0 w a len ps) (h' : Ints 0 w a' len' qs) :
    Calls Try.prog 36 #[.slice a len cap, .slice a' len' cap'] w fun e w' => e = .returned (.bool (decide (ps = qs))) ∧ Below w.heap.size w w' := by
  have l1 := h.leng
  have l2 := h'.leng
  by_cases hl : len = len'
  · subst hl
    rcases h.cells with e | ⟨b, off, rfl, _, hb, hc⟩
    · subst e
      have l3 : len = 0 := by simpa using l1.symm
      have l4 : qs = [] := by rw [l3] at l2; simpa using l2
      subst l3 l4
      simpa using sameInts_nil a a' cap cap' w
    · rcases h'.cells with e | ⟨b', off', rfl, _, hb', hc'⟩
      · subst e
        have l3 : len = 0 := by simpa using l2.symm
        have l4 : ps = [] := by rw [l3] at l1; simpa using l1
        subst l3 l4
        simpa using sameInts_nil _ a' cap cap' w
      · exact sameInts_row b off cap b' off' cap' len ps qs w l1 l2 h.big hc hc'
  · have hd : decide (ps = qs) = false := decide_eq_false fun e => hl (by rw [← l1, ← l2, e])
    rw [hd]
    exact sameInts_len a a' len cap len' cap' w h.big h'.big hl

/-- The reference's SameImages. -/
theorem sameImages_any (W H W' H' : Int) {a a' : Option Addr} {len len' : Nat} (cap cap' : Nat) {ps qs : List Int} {w : World} (h : Ints 0 w a len ps) (h' : Ints 0 w a' len' qs) :
    Calls Try.prog 21 #[.agg #[.int .i64 W, .int .i64 H, .slice a len cap], .agg #[.int .i64 W', .int .i64 H', .slice a' len' cap']] w fun e w' => e = .returned (.bool (decide (W = W' ∧ H = H' ∧ ps = qs))) ∧ Below w.heap.size w w' := by
  have hB : ∀ o o', Below w.heap.size w ((w.alloc o).alloc o') := fun o o' => ((Below.refl _ _).alloc (Nat.le_refl _) _).alloc (by simp) _
  have h1 := h.below (Nat.le_refl _) (hB (.cells #[.int .i64 W, .int .i64 H, .slice a len cap] 24) (.cells #[.int .i64 W', .int .i64 H', .slice a' len' cap'] 24))
  have h2 := h'.below (Nat.le_refl _) (hB (.cells #[.int .i64 W, .int .i64 H, .slice a len cap] 24) (.cells #[.int .i64 W', .int .i64 H', .slice a' len' cap'] 24))
  by_cases e1 : W = W'
  · have e1b : (W == W') = true := by simp [e1]
    by_cases e2 : H = H'
    · have e2b : (H == H') = true := by simp [e2]
      have hd : decide (W = W' ∧ H = H' ∧ ps = qs) = decide (ps = qs) := by simp [e1, e2]
      rw [hd]
      clear hd e1 e2
      go_enter Try.func21, Try.ntmps21
      go_wp2_with (go_at_call 36; refine (sameInts_any _ _ h1 h2).mono ?_; rintro e w' ⟨rfl, hb⟩)
      go_ret
      exact ⟨rfl, (hB _ _).trans (hb.mono (by simp; omega))⟩
    · have e2b : (H == H') = false := by simp [e2]
      have hd : decide (W = W' ∧ H = H' ∧ ps = qs) = false := by simp [e2]
      rw [hd]
      go_enter Try.func21, Try.ntmps21
      go_wp2
      go_ret
      exact ⟨rfl, hB _ _⟩
  · have e1b : (W == W') = false := by simp [e1]
    have hd : decide (W = W' ∧ H = H' ∧ ps = qs) = false := by simp [e1]
    rw [hd]
    go_enter Try.func21, Try.ntmps21
    go_wp2
    go_ret
    exact ⟨rfl, hB _ _⟩
end Go.Proofs.Ytfpkiimlaepnhaa
/-
  LAMP: how lights lie in memory; the small functions of package light.
-/
namespace Go.Proofs.Ytfpkiimlaepnhaa
set_option maxRecDepth 100000
open Go.RowKit Im

/-- A light. -/
structure Lt where
  X : Int
  Y : Int
  R : Int
  P : Int
abbrev Lt.zero : Lt := ⟨0, 0, 0, 0⟩
def placeB (n : Int) : Bool := decide (0 ≤ n) && decide (n < 16)
def rightB (l : Lt) : Bool := placeB l.X && placeB l.Y && decide (1 ≤ l.R) && decide (l.R ≤ 32) && decide (0 ≤ l.P) && decide (l.P ≤ 65535)
def lightsB (ls : List Lt) : Bool := decide (ls.length ≤ 8) && ls.all rightB
def lightsErr (ls : List Lt) : Int := if ls.length ≤ 8 then okIf (ls.all rightB) 3 else 2
theorem place_iff (n : Int) : placeB n = true ↔ 0 ≤ n ∧ n < 16 := by simp [placeB]
theorem right_iff (l : Lt) : rightB l = true ↔ (0 ≤ l.X ∧ l.X < 16) ∧ (0 ≤ l.Y ∧ l.Y < 16) ∧ (1 ≤ l.R ∧ l.R ≤ 32) ∧ (0 ≤ l.P ∧ l.P ≤ 65535) := by simp [rightB, place_iff, and_assoc]

/-- A slice's elements are the lights ls. -/
structure Lights (w : World) (a : Option Addr) (len : Nat) (ls : List Lt) : Prop where
  leng : ls.length = len
  big : len ≤ 9223372036854775807
  cells : ls = [] ∨ ∃ b off, a = some ⟨b, off, none⟩ ∧ b < w.heap.size ∧ ∀ j, j < len → w.cell? ⟨b, off + j * 4, none⟩ = some (.int .i64 (ls.getD j Lt.zero).X) ∧ w.cell? ⟨b, off + j * 4 + 1, none⟩ = some (.int .i64 (ls.getD j Lt.zero).Y) ∧ w.cell? ⟨b, off + j * 4 + 2, none⟩ = some (.int .i64 (ls.getD j Lt.zero).R) ∧ w.cell? ⟨b, off + j * 4 + 3, none⟩ = some (.int .i64 (ls.getD j Lt.zero).P)
theorem Lights.below {w w' : World} {a : Option Addr} {len : Nat} {ls : List Lt} (h : Lights w a len ls) (hb : Below w.heap.size w w') : Lights w' a len ls := by
  refine ⟨h.leng, h.big, ?_⟩
  rcases h.cells with e | ⟨b, off, ha, hl, hc⟩
  · exact .inl e
  · refine .inr ⟨b, off, ha, Nat.lt_of_lt_of_le hl hb.size, fun j hj => ?_⟩
    obtain ⟨c0, c1, c2, c3⟩ := hc j hj
    exact ⟨(hb.cell (p := ⟨b, off + j * 4, none⟩) hl).trans c0, (hb.cell (p := ⟨b, off + j * 4 + 1, none⟩) hl).trans c1, (hb.cell (p := ⟨b, off + j * 4 + 2, none⟩) hl).trans c2, (hb.cell (p := ⟨b, off + j * 4 + 3, none⟩) hl).trans c3⟩

theorem below_stepL {w a b : World} (h : Below w.heap.size w a) (k : Below a.heap.size a b) : Below w.heap.size w b := h.trans (k.mono h.size)
theorem isPlace_any (n : Int) (w : World) : Calls Try.prog 72 #[.int .i64 n] w fun e w' => e = .returned (.bool (placeB n)) ∧ w = w' := by
  by_cases h1 : 0 ≤ n
  · by_cases h2 : n < 16
    · go_enter Try.func72, Try.ntmps72
      go_wp2
      go_ret
      exact ⟨by simp [placeB, h1, h2], rfl⟩
    · go_enter Try.func72, Try.ntmps72
      go_wp2
      go_ret
      exact ⟨by simp [placeB, h1]; omega, rfl⟩
  · go_enter Try.func72, Try.ntmps72
    go_wp2
    go_ret
    exact ⟨by simp [placeB]; omega, rfl⟩
theorem isRight_any (l : Lt) (w : World) : Calls Try.prog 78 #[.agg #[.int .i64 l.X, .int .i64 l.Y, .int .i64 l.R, .int .i64 l.P]] w fun e w' => e = .returned (.bool (rightB l)) ∧ Below w.heap.size w w' := by
  obtain ⟨X, Y, R, P⟩ := l
  dsimp only
  have hB : ∀ o, Below w.heap.size w (w.alloc o) := fun o => (Below.refl _ _).alloc (Nat.le_refl _) _
  by_cases h1 : placeB X = true
  · by_cases h2 : placeB Y = true
    · by_cases h3 : 1 ≤ R
      · by_cases h4 : R ≤ 32
        · by_cases h5 : 0 ≤ P
          · by_cases h6 : P ≤ 65535
            · rw [show rightB ⟨X, Y, R, P⟩ = true by simp [rightB, h1, h2, h3, h4, h5, h6]]
              go_enter Try.func78, Try.ntmps78
              go_wp2_with (go_at_call 72; refine (isPlace_any _ _).mono ?_; rintro e w' ⟨rfl, rfl⟩)
              go_ret
              exact ⟨rfl, hB _⟩
            · rw [show rightB ⟨X, Y, R, P⟩ = false by simp [rightB, h6]]
              have h6' : decide (P ≤ 65535) = false := by simpa using h6
              go_enter Try.func78, Try.ntmps78
              go_wp2_with (go_at_call 72; refine (isPlace_any _ _).mono ?_; rintro e w' ⟨rfl, rfl⟩)
              go_ret
              exact ⟨rfl, hB _⟩
          · rw [show rightB ⟨X, Y, R, P⟩ = false by simp [rightB, h5]]
            go_enter Try.func78, Try.ntmps78
            go_wp2_with (go_at_call 72; refine (isPlace_any _ _).mono ?_; rintro e w' ⟨rfl, rfl⟩)
            go_ret
            exact ⟨rfl, hB _⟩
        · rw [show rightB ⟨X, Y, R, P⟩ = false by simp [rightB, h4]]
          go_enter Try.func78, Try.ntmps78
          go_wp2_with (go_at_call 72; refine (isPlace_any _ _).mono ?_; rintro e w' ⟨rfl, rfl⟩)
          go_ret
          exact ⟨rfl, hB _⟩
      · rw [show rightB ⟨X, Y, R, P⟩ = false by simp [rightB, h3]]
        go_enter Try.func78, Try.ntmps78
        go_wp2_with (go_at_call 72; refine (isPlace_any _ _).mono ?_; rintro e w' ⟨rfl, rfl⟩)
        go_ret
        exact ⟨rfl, hB _⟩
    · have h2' := eq_false_of_ne_true h2
      rw [show rightB ⟨X, Y, R, P⟩ = false by simp [rightB, h2']]
      go_enter Try.func78, Try.ntmps78
      go_wp2_with (go_at_call 72; refine (isPlace_any _ _).mono ?_; rintro e w' ⟨rfl, rfl⟩)
      go_ret
      exact ⟨rfl, hB _⟩
  · have h1' := eq_false_of_ne_true h1
    rw [show rightB ⟨X, Y, R, P⟩ = false by simp [rightB, h1']]
    go_enter Try.func78, Try.ntmps78
    go_wp2_with (go_at_call 72; refine (isPlace_any _ _).mono ?_; rintro e w' ⟨rfl, rfl⟩)
    go_ret
    exact ⟨rfl, hB _⟩

theorem rall_succ (ls : List Lt) (k : Nat) (hk : k < ls.length) (h : (ls.take k).all rightB = true) (h' : rightB (ls.getD k Lt.zero) = true) : (ls.take (k + 1)).all rightB = true := by
  rw [List.getD_eq_getElem?_getD, List.getElem?_eq_getElem hk] at h'
  rw [List.take_succ_eq_append_getElem hk, List.all_append, h]
  simpa using h'
theorem rall_not (ls : List Lt) (k : Nat) (hk : k < ls.length) (h' : rightB (ls.getD k Lt.zero) = false) : ls.all rightB = false := by
  rw [List.getD_eq_getElem?_getD, List.getElem?_eq_getElem hk] at h'
  rw [List.all_eq_false]
  exact ⟨ls[k], List.getElem_mem hk, by simpa using h'⟩

theorem checkL_many (a : Option Addr) (len cap : Nat) (w : World) (h : 8 < len) (_hb : len ≤ 9223372036854775807) : Calls Try.prog 35 #[.slice a len cap] w fun e w' => e = .returned (.int .i64 2) ∧ Below w.heap.size w w' := by
  have h' : (8 : Int) < (len : Int) := by omega
  go_enter Try.func35, Try.ntmps35
  go_wp2
  go_ret
  exact ⟨rfl, Below.refl _ _⟩
theorem checkL_nil (a : Option Addr) (cap : Nat) (w : World) : Calls Try.prog 35 #[.slice a 0 cap] w fun e w' => e = .returned (.int .i64 0) ∧ Below w.heap.size w w' := by
  go_enter Try.func35, Try.ntmps35
  go_wp2
  go_loop [10] (fun i => i = .int .i64 0) (fun _ => 0)
  case atStart => rfl
  case round =>
    subst hrel
    go_wp2
    go_ret
    exact ⟨rfl, Below.refl _ _⟩
set_option maxHeartbeats 1000000 in
theorem checkL_row (b off len cap : Nat) (ls : List Lt) (w : World) (hl : ls.length = len) (h8 : len ≤ 8) (hb : b < w.heap.size) (hc : ∀ j, j < len → w.cell? ⟨b, off + j * 4, none⟩ = some (.int .i64 (ls.getD j Lt.zero).X) ∧ w.cell? ⟨b, off + j * 4 + 1, none⟩ = some (.int .i64 (ls.getD j Lt.zero).Y) ∧ w.cell? ⟨b, off + j * 4 + 2, none⟩ = some (.int .i64 (ls.getD j Lt.zero).R) ∧ w.cell? ⟨b, off + j * 4 + 3, none⟩ = some (.int .i64 (ls.getD j Lt.zero).P)) :
    Calls Try.prog 35 #[.slice (some ⟨b, off, none⟩) len cap] w fun e w' => e = .returned (.int .i64 (okIf (ls.all rightB) 3)) ∧ Below w.heap.size w w' := by
  have h8' : ¬ (8 : Int) < (len : Int) := by omega
  go_enter Try.func35, Try.ntmps35
  go_wp2
  go_loopw [10] (fun i wr => ∃ k : Nat, k ≤ len ∧ i = .int .i64 k ∧ (ls.take k).all rightB = true ∧ Below w.heap.size w wr) (fun i _ => len - (intOf i).toNat)
  case atStart => exact ⟨0, Nat.zero_le _, rfl, rfl, Below.refl _ _⟩
  case round =>
    obtain ⟨k, hk, rfl, hall, hbr⟩ := hrel
    by_cases hlt : k < len
    · obtain ⟨c0, c1, c2, c3⟩ := hc k hlt
      replace c0 := (hbr.cell (p := ⟨b, off + k * 4, none⟩) hb).trans c0
      replace c1 := (hbr.cell (p := ⟨b, off + k * 4 + 1, none⟩) hb).trans c1
      replace c2 := (hbr.cell (p := ⟨b, off + k * 4 + 2, none⟩) hb).trans c2
      replace c3 := (hbr.cell (p := ⟨b, off + k * 4 + 3, none⟩) hb).trans c3
      have hir := fun wx => isRight_any (ls.getD k Lt.zero) wx
      have n1 := rall_succ ls k (by omega) hall
      have n2 := rall_not ls k (by omega)
      generalize ls.getD k Lt.zero = l at c0 c1 c2 c3 hir n1 n2
      obtain ⟨X, Y, R, P⟩ := l
      dsimp only at c0 c1 c2 c3 hir
      clear hc
      by_cases hr : rightB ⟨X, Y, R, P⟩ = true
      · rw [hr] at hir
        clear n2
        go_wp2_with (go_at_call 78; refine (hir _).mono ?_; rintro e w2 ⟨rfl, hb2⟩)
        have hbn := below_stepL (hbr.alloc hbr.size _) hb2
        go_roundw
        case rel => exact ⟨k + 1, by omega, by go_num, n1 hr, hbn⟩
        case measure => simp [intOf]; omega
      · have hr' := eq_false_of_ne_true hr
        rw [hr'] at hir
        have hx := n2 hr'
        clear n1 n2
        go_wp2_with (go_at_call 78; refine (hir _).mono ?_; rintro e w2 ⟨rfl, hb2⟩)
        have hbn := below_stepL (hbr.alloc hbr.size _) hb2
        go_ret
        exact ⟨by first | rfl | (rw [hx]; rfl), hbn⟩
    · have hx : ls.all rightB = true := by rw [List.take_of_length_le (by omega)] at hall; exact hall
      go_wp2
      go_ret
      exact ⟨by first | rfl | (rw [hx]; rfl), hbr⟩
/-- light.Check. -/
theorem checkL_any {a : Option Addr} {len : Nat} (cap : Nat) {ls : List Lt} {w : World} (h : Lights w a len ls) : Calls Try.prog 35 #[.slice a len cap] w fun e w' => e = .returned (.int .i64 (lightsErr ls)) ∧ Below w.heap.size w w' := by
  have hl := h.leng
  by_cases h8 : ls.length ≤ 8
  · have e : lightsErr ls = okIf (ls.all rightB) 3 := by simp [lightsErr, h8]
    rw [e]
    rcases h.cells with e | ⟨b, off, rfl, hb, hc⟩
    · subst e
      have : len = 0 := by simpa using hl.symm
      subst this
      exact checkL_nil a cap w
    · exact checkL_row b off len cap ls w hl (by omega) hb hc
  · have e : lightsErr ls = 2 := by simp [lightsErr, h8]
    rw [e]
    exact checkL_many a len cap w (by omega) h.big
end Go.Proofs.Ytfpkiimlaepnhaa
