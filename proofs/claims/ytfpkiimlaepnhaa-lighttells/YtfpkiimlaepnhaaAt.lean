/-
  AT: light.At.
-/
import Derived.Test.YtfpkiimlaepnhaaGiven
namespace Go.Proofs.Ytfpkiimlaepnhaa
set_option maxRecDepth 100000
open Go.RowKit Im

/-- What all lights give to a place, added. -/
def sumG (x y : Int) : List Lt → Int
  | [] => 0
  | l :: r => givenP l x y + sumG x y r
theorem sumG_snoc (x y : Int) (l : Lt) : ∀ ls, sumG x y (ls ++ [l]) = sumG x y ls + givenP l x y
  | [] => by simp [sumG]
  | m :: r => by simp [sumG, sumG_snoc x y l r, Int.add_assoc]
theorem sumG_bd (x y : Int) (hx : 0 ≤ x ∧ x < 16) (hy : 0 ≤ y ∧ y < 16) : ∀ ls : List Lt, ls.all rightB = true → 0 ≤ sumG x y ls ∧ sumG x y ls ≤ 65535 * ls.length
  | [], _ => by simp [sumG]
  | l :: r, h => by
    simp only [List.all_cons, Bool.and_eq_true] at h
    have h1 := sumG_bd x y hx hy r h.2
    have h2 := given_bd h.1 x y hx hy
    simp only [sumG, List.length_cons]
    omega
theorem take_snocL (ls : List Lt) (k : Nat) (hk : k < ls.length) : ls.take (k + 1) = ls.take k ++ [ls.getD k Lt.zero] := by
  rw [List.take_succ_eq_append_getElem hk, List.getD_eq_getElem?_getD, List.getElem?_eq_getElem hk]; rfl
theorem all_take (ls : List Lt) (k : Nat) (h : ls.all rightB = true) : (ls.take k).all rightB = true := by
  rw [List.all_eq_true] at h ⊢
  exact fun x hx => h x (List.mem_of_mem_take hx)
theorem all_getD (ls : List Lt) (k : Nat) (hk : k < ls.length) (h : ls.all rightB = true) : rightB (ls.getD k Lt.zero) = true := by
  rw [List.getD_eq_getElem?_getD, List.getElem?_eq_getElem hk]
  exact List.all_eq_true.1 h _ (List.getElem_mem hk)

theorem at_error {a : Option Addr} {len : Nat} (cap : Nat) {ls : List Lt} (x y : Int) {w : World} (h : Lights w a len ls) (hE : ¬ lightsErr ls = 0) :
    Calls Try.prog 29 #[.slice a len cap, .int .i64 x, .int .i64 y] w fun e w' => e = .returned (.tuple #[.int .i64 0, .int .i64 (lightsErr ls)]) ∧ Below w.heap.size w w' := by
  have hc := checkL_any cap h
  generalize lightsErr ls = E at hc hE
  have hne : (E != 0) = true := by simpa using hE
  clear hE
  go_enter Try.func29, Try.ntmps29
  go_wp2_with (go_at_call 35; refine hc.mono ?_; rintro e wA ⟨rfl, bA⟩)
  go_ret2
  exact ⟨rfl, bA⟩
theorem at_range {a : Option Addr} {len : Nat} (cap : Nat) {ls : List Lt} (x y : Int) {w : World} (h : Lights w a len ls) (hE : lightsErr ls = 0) (hp : (placeB x && placeB y) = false) :
    Calls Try.prog 29 #[.slice a len cap, .int .i64 x, .int .i64 y] w fun e w' => e = .returned (.tuple #[.int .i64 0, .int .i64 3]) ∧ Below w.heap.size w w' := by
  have hc := checkL_any cap h
  rw [hE] at hc
  clear hE
  by_cases h1 : placeB x = true
  · have h2 : placeB y = false := by rw [h1] at hp; simpa using hp
    clear hp
    go_enter Try.func29, Try.ntmps29
    go_wp2_with (first | (go_at_call 35; refine hc.mono ?_; rintro e wA ⟨rfl, bA⟩) | (go_at_call 72; refine (isPlace_any _ _).mono ?_; rintro e w' ⟨rfl, rfl⟩))
    go_ret2
    exact ⟨rfl, bA⟩
  · have h1' := eq_false_of_ne_true h1
    clear hp
    go_enter Try.func29, Try.ntmps29
    go_wp2_with (first | (go_at_call 35; refine hc.mono ?_; rintro e wA ⟨rfl, bA⟩) | (go_at_call 72; refine (isPlace_any _ _).mono ?_; rintro e w' ⟨rfl, rfl⟩))
    go_ret2
    exact ⟨rfl, bA⟩
set_option maxHeartbeats 1000000 in
theorem at_ok {a : Option Addr} {len : Nat} (cap : Nat) {ls : List Lt} (x y : Int) {w : World} (h : Lights w a len ls) (h8 : ls.length ≤ 8) (hr : ls.all rightB = true) (hx : placeB x = true) (hy : placeB y = true) :
    Calls Try.prog 29 #[.slice a len cap, .int .i64 x, .int .i64 y] w fun e w' => e = .returned (.tuple #[.int .i64 (sumG x y ls), .int .i64 0]) ∧ Below w.heap.size w w' := by
  have hc := checkL_any cap h
  rw [show lightsErr ls = 0 by simp [lightsErr, h8, hr, okIf]] at hc
  have bx := (place_iff x).1 hx
  have by' := (place_iff y).1 hy
  have hl := h.leng
  rcases h.cells with e | ⟨b, off, rfl, hb, hcl⟩
  · subst e
    have : len = 0 := by simpa using hl.symm
    subst this
    go_enter Try.func29, Try.ntmps29
    go_wp2_with (first | (go_at_call 35; refine hc.mono ?_; rintro e wA ⟨rfl, bA⟩) | (go_at_call 72; refine (isPlace_any _ _).mono ?_; rintro e w' ⟨rfl, rfl⟩))
    go_loop [9, 27] (fun s i => s = .int .i64 0 ∧ i = .int .i64 0) (fun _ _ => 0)
    case atStart => exact ⟨rfl, rfl⟩
    case round =>
      obtain ⟨rfl, rfl⟩ := hrel
      go_wp2
      go_ret2
      exact ⟨rfl, bA⟩
  · go_enter Try.func29, Try.ntmps29
    go_wp2_with (first | (go_at_call 35; refine hc.mono ?_; rintro e wA ⟨rfl, bA⟩) | (go_at_call 72; refine (isPlace_any _ _).mono ?_; rintro e w' ⟨rfl, rfl⟩))
    go_loopw [9, 27] (fun s i wr => ∃ k : Nat, k ≤ len ∧ i = .int .i64 k ∧ s = .int .i64 (sumG x y (ls.take k)) ∧ Below w.heap.size w wr) (fun _ i _ => len - (intOf i).toNat)
    case atStart => exact ⟨0, Nat.zero_le _, rfl, rfl, bA⟩
    case round =>
      obtain ⟨k, hk, rfl, rfl, hbr⟩ := hrel
      have sb := sumG_bd x y bx by' (ls.take k) (all_take ls k hr)
      have sl : (ls.take k).length ≤ 8 := by rw [List.length_take]; omega
      have sb2 : sumG x y (ls.take k) ≤ 65535 * 8 := by omega
      obtain ⟨sb1, _⟩ := sb
      by_cases hlt : k < len
      · obtain ⟨c0, c1, c2, c3⟩ := hcl k hlt
        replace c0 := (hbr.cell (p := ⟨b, off + k * 4, none⟩) hb).trans c0
        replace c1 := (hbr.cell (p := ⟨b, off + k * 4 + 1, none⟩) hb).trans c1
        replace c2 := (hbr.cell (p := ⟨b, off + k * 4 + 2, none⟩) hb).trans c2
        replace c3 := (hbr.cell (p := ⟨b, off + k * 4 + 3, none⟩) hb).trans c3
        have hrk := all_getD ls k (by omega) hr
        have hgv := fun wx => given_any (ls.getD k Lt.zero) x y wx hrk bx by'
        have hgb := given_bd hrk x y bx by'
        have hsn : Hid (sumG x y (ls.take (k + 1)) = sumG x y (ls.take k) + givenP (ls.getD k Lt.zero) x y) := by show _ = _; rw [take_snocL ls k (by omega), sumG_snoc]
        clear hrk
        generalize givenP (ls.getD k Lt.zero) x y = gv at hgv hgb hsn
        generalize ls.getD k Lt.zero = l at c0 c1 c2 c3 hgv
        obtain ⟨X, Y, R, P⟩ := l
        dsimp only at c0 c1 c2 c3 hgv
        clear hcl hc
        go_wp2_with (go_at_call 73; refine (hgv _).mono ?_; rintro e w2 ⟨rfl, hb2⟩)
        have hbn := below_stepL (hbr.alloc hbr.size _) hb2
        go_roundw
        case rel => exact ⟨k + 1, by omega, by go_num, by rw [hsn.out], hbn⟩
        case measure => simp [intOf]; omega
      · have e : ls.take k = ls := List.take_of_length_le (by omega)
        go_wp2
        go_ret2
        exact ⟨by first | rfl | (rw [e]; rfl), hbr⟩
def atE (ls : List Lt) (x y : Int) : Int := if lightsErr ls = 0 then okIf (placeB x && placeB y) 3 else lightsErr ls
def atV (ls : List Lt) (x y : Int) : Int := if atE ls x y = 0 then sumG x y ls else 0
theorem lightsErr_zero {ls : List Lt} (h : lightsErr ls = 0) : ls.length ≤ 8 ∧ ls.all rightB = true := by
  unfold lightsErr at h
  by_cases h8 : ls.length ≤ 8
  · rw [if_pos h8] at h
    refine ⟨h8, ?_⟩
    cases hr : ls.all rightB
    · rw [hr] at h; cases h
    · rfl
  · rw [if_neg h8] at h; cases h
/-- light.At. -/
theorem atL_any {a : Option Addr} {len : Nat} (cap : Nat) {ls : List Lt} (x y : Int) {w : World} (h : Lights w a len ls) :
    Calls Try.prog 29 #[.slice a len cap, .int .i64 x, .int .i64 y] w fun e w' => e = .returned (.tuple #[.int .i64 (atV ls x y), .int .i64 (atE ls x y)]) ∧ Below w.heap.size w w' := by
  by_cases hE : lightsErr ls = 0
  · by_cases hp : (placeB x && placeB y) = true
    · have e : atE ls x y = 0 := by simp only [atE, if_pos hE, hp]; rfl
      have e' : atV ls x y = sumG x y ls := by simp only [atV, if_pos e]
      rw [e, e']
      obtain ⟨h8, hr⟩ := lightsErr_zero hE
      rw [Bool.and_eq_true] at hp
      exact at_ok cap x y h h8 hr hp.1 hp.2
    · have hp' := eq_false_of_ne_true hp
      have e : atE ls x y = 3 := by simp only [atE, if_pos hE, hp']; rfl
      have e' : atV ls x y = 0 := by simp only [atV, e]; rfl
      rw [e, e']
      exact at_range cap x y h hE hp'
  · have e : atE ls x y = lightsErr ls := by simp only [atE, if_neg hE]
    have e' : atV ls x y = 0 := by simp only [atV, e, if_neg hE]
    rw [e, e']
    exact at_error cap x y h hE
end Go.Proofs.Ytfpkiimlaepnhaa
