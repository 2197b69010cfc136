/- Lamp, Frm, Draw, Mean, Rule, Rules, Blur, Make: joined, in this order. -/
import Derived.Test.YtihliofhhjjeaaaGreatM02
set_option maxRecDepth 100000
namespace Go.Proofs.YtihliofhhjjeaaaGreat
open Go.RowKit Im
structure Lt where
  X : Int
  Y : Int
  R : Int
  P : Int
abbrev Lt.zero : Lt := ⟨0, 0, 0, 0⟩
def placeB (n : Int) : Bool := decide (0 ≤ n) && decide (n < 16)
def rightB (l : Lt) : Bool := placeB l.X && placeB l.Y && decide (1 ≤ l.R) && decide (l.R ≤ 32) && decide (0 ≤ l.P) && decide (l.P ≤ 65535)
def lightsErr (ls : List Lt) : Int := if ls.length ≤ 8 then okIf (ls.all rightB) 3 else 2
theorem place_iff (n : Int) : placeB n = true ↔ 0 ≤ n ∧ n < 16 := by simp [placeB]
theorem right_iff (l : Lt) : rightB l = true ↔ (0 ≤ l.X ∧ l.X < 16) ∧ (0 ≤ l.Y ∧ l.Y < 16) ∧ (1 ≤ l.R ∧ l.R ≤ 32) ∧ (0 ≤ l.P ∧ l.P ≤ 65535) := by simp [rightB, place_iff, and_assoc]
structure Lights (w : World) (a : Option Addr) (len : Nat) (ls : List Lt) : Prop where
  leng : ls.length = len
  big : len ≤ 9223372036854775807
  cells : ls = [] ∨ ∃ b off, a = some ⟨b, off, none⟩ ∧ b < w.heap.size ∧ ∀ j, j < len → w.cell? ⟨b, off + j * 4, none⟩ = some (.int .i64 (ls.getD j Lt.zero).X) ∧ w.cell? ⟨b, off + j * 4 + 1, none⟩ = some (.int .i64 (ls.getD j Lt.zero).Y) ∧ w.cell? ⟨b, off + j * 4 + 2, none⟩ = some (.int .i64 (ls.getD j Lt.zero).R) ∧ w.cell? ⟨b, off + j * 4 + 3, none⟩ = some (.int .i64 (ls.getD j Lt.zero).P)
theorem Lights.below {w w' : World} {a : Option Addr} {len : Nat} {ls : List Lt} (h : Lights w a len ls) (hb : Below w.heap.size w w') : Lights w' a len ls := by
  refine ⟨h.leng, h.big, ?_⟩
  rcases h.cells with e | ⟨b, off, ha, hl, hc⟩
  · exact .inl e
  · refine .inr ⟨b, off, ha, Nat.lt_of_lt_of_le hl hb.size, fun j hj => ?_⟩
    obtain ⟨c0, c1, c2, c3⟩ := hc j hj
    exact ⟨(hb.cell (p := ⟨b, off + j * 4, none⟩) hl).trans c0, (hb.cell (p := ⟨b, off + j * 4 + 1, none⟩) hl).trans c1, (hb.cell (p := ⟨b, off + j * 4 + 2, none⟩) hl).trans c2, (hb.cell (p := ⟨b, off + j * 4 + 3, none⟩) hl).trans c3⟩
theorem below_stepL {w a b : World} (h : Below w.heap.size w a) (k : Below a.heap.size a b) : Below w.heap.size w b := h.trans (k.mono h.size)
theorem isPlace_any (n : Int) (w : World) : Calls Tryz.prog 160 #[.int .i64 n] w fun e w' => e = .returned (.bool (placeB n)) ∧ w = w' := by
  by_cases h1 : 0 ≤ n
  · by_cases h2 : n < 16
    · go_enter Tryz.func160, Tryz.ntmps160
      go_wp2
      go_ret
      exact ⟨by simp [placeB, h1, h2], rfl⟩
    · go_enter Tryz.func160, Tryz.ntmps160
      go_wp2
      go_ret
      exact ⟨by simp [placeB, h1]; omega, rfl⟩
  · go_enter Tryz.func160, Tryz.ntmps160
    go_wp2
    go_ret
    exact ⟨by simp [placeB]; omega, rfl⟩
theorem isRight_any (l : Lt) (w : World) : Calls Tryz.prog 137 #[.agg #[.int .i64 l.X, .int .i64 l.Y, .int .i64 l.R, .int .i64 l.P]] w fun e w' => e = .returned (.bool (rightB l)) ∧ Below w.heap.size w w' := by
  obtain ⟨X, Y, R, P⟩ := l
  dsimp only
  have hB : ∀ o, Below w.heap.size w (w.alloc o) := fun o => (Below.refl _ _).alloc (Nat.le_refl _) _
  by_cases h1 : placeB X = true
  · by_cases h2 : placeB Y = true
    · by_cases h3 : 1 ≤ R
      · by_cases h4 : R ≤ 32
        · by_cases h5 : 0 ≤ P
          · by_cases h6 : P ≤ 65535
            · rw [show rightB ⟨X, Y, R, P⟩ = true by simp [rightB, h1, h2, h3, h4, h5, h6]]
              go_enter Tryz.func137, Tryz.ntmps137
              go_wp2_with (go_at_call 160; refine (isPlace_any _ _).mono ?_; rintro e w' ⟨rfl, rfl⟩)
              go_ret
              exact ⟨rfl, hB _⟩
            · rw [show rightB ⟨X, Y, R, P⟩ = false by simp [rightB, h6]]
              have h6' : decide (P ≤ 65535) = false := by simpa using h6
              go_enter Tryz.func137, Tryz.ntmps137
              go_wp2_with (go_at_call 160; refine (isPlace_any _ _).mono ?_; rintro e w' ⟨rfl, rfl⟩)
              go_ret
              exact ⟨rfl, hB _⟩
          · rw [show rightB ⟨X, Y, R, P⟩ = false by simp [rightB, h5]]
            go_enter Tryz.func137, Tryz.ntmps137
            go_wp2_with (go_at_call 160; refine (isPlace_any _ _).mono ?_; rintro e w' ⟨rfl, rfl⟩)
            go_ret
            exact ⟨rfl, hB _⟩
        · rw [show rightB ⟨X, Y, R, P⟩ = false by simp [rightB, h4]]
          go_enter Tryz.func137, Tryz.ntmps137
          go_wp2_with (go_at_call 160; refine (isPlace_any _ _).mono ?_; rintro e w' ⟨rfl, rfl⟩)
          go_ret
          exact ⟨rfl, hB _⟩
      · rw [show rightB ⟨X, Y, R, P⟩ = false by simp [rightB, h3]]
        go_enter Tryz.func137, Tryz.ntmps137
        go_wp2_with (go_at_call 160; refine (isPlace_any _ _).mono ?_; rintro e w' ⟨rfl, rfl⟩)
        go_ret
        exact ⟨rfl, hB _⟩
    · have h2' := eq_false_of_ne_true h2
      rw [show rightB ⟨X, Y, R, P⟩ = false by simp [rightB, h2']]
      go_enter Tryz.func137, Tryz.ntmps137
      go_wp2_with (go_at_call 160; refine (isPlace_any _ _).mono ?_; rintro e w' ⟨rfl, rfl⟩)
      go_ret
      exact ⟨rfl, hB _⟩
  · have h1' := eq_false_of_ne_true h1
    rw [show rightB ⟨X, Y, R, P⟩ = false by simp [rightB, h1']]
    go_enter Tryz.func137, Tryz.ntmps137
    go_wp2_with (go_at_call 160; refine (isPlace_any _ _).mono ?_; rintro e w' ⟨rfl, rfl⟩)
    go_ret
    exact ⟨rfl, hB _⟩
theorem rall_succ (ls : List Lt) (k : Nat) (hk : k < ls.length) (h : (ls.take k).all rightB = true) (h' : rightB (ls.getD k Lt.zero) = true) : (ls.take (k + 1)).all rightB = true := by
  rw [List.getD_eq_getElem?_getD, List.getElem?_eq_getElem hk] at h'
  rw [List.take_succ_eq_append_getElem hk, List.all_append, h]
  simpa using h'
theorem rall_not (ls : List Lt) (k : Nat) (hk : k < ls.length) (h' : rightB (ls.getD k Lt.zero) = false) : ls.all rightB = false := by
  rw [List.getD_eq_getElem?_getD, List.getElem?_eq_getElem hk] at h'
  rw [List.all_eq_false]
  exact ⟨ls[k], List.getElem_mem hk, by simpa using h'⟩
theorem checkL_many (a : Option Addr) (len cap : Nat) (w : World) (h : 8 < len) (_hb : len ≤ 9223372036854775807) : Calls Tryz.prog 102 #[.slice a len cap] w fun e w' => e = .returned (.int .i64 2) ∧ Below w.heap.size w w' := by
  have h' : (8 : Int) < (len : Int) := by omega
  go_enter Tryz.func102, Tryz.ntmps102
  go_wp2
  go_ret
  exact ⟨rfl, Below.refl _ _⟩
theorem checkL_nil (a : Option Addr) (cap : Nat) (w : World) : Calls Tryz.prog 102 #[.slice a 0 cap] w fun e w' => e = .returned (.int .i64 0) ∧ Below w.heap.size w w' := by
  go_enter Tryz.func102, Tryz.ntmps102
  go_wp2
  go_loop [10] (fun i => i = .int .i64 0) (fun _ => 0)
  case atStart => rfl
  case round =>
    subst hrel
    go_wp2
    go_ret
    exact ⟨rfl, Below.refl _ _⟩
set_option maxHeartbeats 1000000 in
theorem checkL_row (b off len cap : Nat) (ls : List Lt) (w : World) (hl : ls.length = len) (h8 : len ≤ 8) (hb : b < w.heap.size) (hc : ∀ j, j < len → w.cell? ⟨b, off + j * 4, none⟩ = some (.int .i64 (ls.getD j Lt.zero).X) ∧ w.cell? ⟨b, off + j * 4 + 1, none⟩ = some (.int .i64 (ls.getD j Lt.zero).Y) ∧ w.cell? ⟨b, off + j * 4 + 2, none⟩ = some (.int .i64 (ls.getD j Lt.zero).R) ∧ w.cell? ⟨b, off + j * 4 + 3, none⟩ = some (.int .i64 (ls.getD j Lt.zero).P)) :
    Calls Tryz.prog 102 #[.slice (some ⟨b, off, none⟩) len cap] w fun e w' => e = .returned (.int .i64 (okIf (ls.all rightB) 3)) ∧ Below w.heap.size w w' := by
  have h8' : ¬ (8 : Int) < (len : Int) := by omega
  go_enter Tryz.func102, Tryz.ntmps102
  go_wp2
  go_loopw [10] (fun i wr => ∃ k : Nat, k ≤ len ∧ i = .int .i64 k ∧ (ls.take k).all rightB = true ∧ Below w.heap.size w wr) (fun i _ => len - (intOf i).toNat)
  case atStart => exact ⟨0, Nat.zero_le _, rfl, rfl, Below.refl _ _⟩
  case round =>
    obtain ⟨k, hk, rfl, hall, hbr⟩ := hrel
    by_cases hlt : k < len
    · obtain ⟨c0, c1, c2, c3⟩ := hc k hlt
      replace c0 := (hbr.cell (p := ⟨b, off + k * 4, none⟩) hb).trans c0
      replace c1 := (hbr.cell (p := ⟨b, off + k * 4 + 1, none⟩) hb).trans c1
      replace c2 := (hbr.cell (p := ⟨b, off + k * 4 + 2, none⟩) hb).trans c2
      replace c3 := (hbr.cell (p := ⟨b, off + k * 4 + 3, none⟩) hb).trans c3
      have hir := fun wx => isRight_any (ls.getD k Lt.zero) wx
      have n1 := rall_succ ls k (by omega) hall
      have n2 := rall_not ls k (by omega)
      generalize ls.getD k Lt.zero = l at c0 c1 c2 c3 hir n1 n2
      obtain ⟨X, Y, R, P⟩ := l
      dsimp only at c0 c1 c2 c3 hir
      clear hc
      by_cases hr : rightB ⟨X, Y, R, P⟩ = true
      · rw [hr] at hir
        clear n2
        go_wp2_with (go_at_call 137; refine (hir _).mono ?_; rintro e w2 ⟨rfl, hb2⟩)
        have hbn := below_stepL (hbr.alloc hbr.size _) hb2
        go_roundw
        case rel => exact ⟨k + 1, by omega, by go_num, n1 hr, hbn⟩
        case measure => simp [intOf]; omega
      · have hr' := eq_false_of_ne_true hr
        rw [hr'] at hir
        have hx := n2 hr'
        clear n1 n2
        go_wp2_with (go_at_call 137; refine (hir _).mono ?_; rintro e w2 ⟨rfl, hb2⟩)
        have hbn := below_stepL (hbr.alloc hbr.size _) hb2
        go_ret
        exact ⟨by first | rfl | (rw [hx]; rfl), hbn⟩
    · have hx : ls.all rightB = true := by rw [List.take_of_length_le (by omega)] at hall; exact hall
      go_wp2
      go_ret
      exact ⟨by first | rfl | (rw [hx]; rfl), hbr⟩
theorem checkL_any {a : Option Addr} {len : Nat} (cap : Nat) {ls : List Lt} {w : World} (h : Lights w a len ls) : Calls Tryz.prog 102 #[.slice a len cap] w fun e w' => e = .returned (.int .i64 (lightsErr ls)) ∧ Below w.heap.size w w' := by
  have hl := h.leng
  by_cases h8 : ls.length ≤ 8
  · have e : lightsErr ls = okIf (ls.all rightB) 3 := by simp [lightsErr, h8]
    rw [e]
    rcases h.cells with e | ⟨b, off, rfl, hb, hc⟩
    · subst e
      have : len = 0 := by simpa using hl.symm
      subst this
      exact checkL_nil a cap w
    · exact checkL_row b off len cap ls w hl (by omega) hb hc
  · have e : lightsErr ls = 2 := by simp [lightsErr, h8]
    rw [e]
    exact checkL_many a len cap w (by omega) h.big
end Go.Proofs.YtihliofhhjjeaaaGreat
namespace Go.Proofs.YtihliofhhjjeaaaGreat
open Go.RowKit Im
structure Ps where
  Op : Int
  To : Int
  A : Int
  B : Int
  K : Int
  ls : List Lt
abbrev Ps.zero : Ps := ⟨0, 0, 0, 0, 0, []⟩
structure Fr where
  W : Int
  H : Int
  S : Int
  O : Int
  ps : List Ps
abbrev Sz := Int × Int
abbrev Sz.zero : Sz := (0, 0)
def hasA (op : Int) : Bool := withinB op 3 13
def hasB (op : Int) : Bool := withinB op 4 7
def hasK (op : Int) : Bool := decide (op = 1) || decide (op = 2) || decide (op = 8) || decide (op = 9) || decide (op = 13)
def hasL (op : Int) : Bool := decide (op = 13)
def knownB (op : Int) : Bool := withinB op 1 13
def slotB (n S : Int) : Bool := withinB n 0 (S - 1)
def kB (op k : Int) : Bool := if op = 9 then withinB k (-16) 16 else if op = 13 then withinB k 1 16 else withinB k 0 65535
def takesP (p : Ps) : List Int := if hasB p.Op then [p.A, p.B] else if hasA p.Op then [p.A] else []
def slotsB (p : Ps) (S : Int) : Bool := (takesP p).all (fun s => slotB s S) && slotB p.To S
def bareB (p : Ps) : Bool := (hasA p.Op || decide (p.A = 0)) && (hasB p.Op || decide (p.B = 0)) && (hasK p.Op || decide (p.K = 0)) && (hasL p.Op || decide (p.ls.length = 0))
def ownB (p : Ps) : Bool := (takesP p).any fun s => decide (s = p.To)
def ownE (p : Ps) (S : Int) : Int :=
  if knownB p.Op = true then
    if slotsB p S = true ∧ (hasK p.Op = true → kB p.Op p.K = true) then
      if hasL p.Op = true ∧ lightsErr p.ls ≠ 0 then lightsErr p.ls
      else if bareB p = true ∧ ownB p = false then 0 else 1
    else 3
  else 4
def wrt (ps : List Ps) : Nat → Int → Int
  | 0, _ => -1
  | n + 1, s => if (ps.getD n Ps.zero).To = s then n else wrt ps n s
def srcOf (ps : List Ps) (n : Nat) : List Int := (takesP (ps.getD n Ps.zero)).map (wrt ps n)
def thereB (is : List Int) : Bool := is.all fun i => decide (0 ≤ i)
def pickZ (zs : List Sz) (is : List Int) : List Sz := is.map fun i => zs.getD i.toNat Sz.zero
def sizeP (W H op : Int) (zs : List Sz) : Sz :=
  if op = 1 ∨ op = 2 then (W, H)
  else if op = 11 then ((zs.getD 0 Sz.zero).1 / 2, (zs.getD 0 Sz.zero).2 / 2)
  else if op = 12 then (2 * (zs.getD 0 Sz.zero).1, 2 * (zs.getD 0 Sz.zero).2)
  else zs.getD 0 Sz.zero
def fitP (op : Int) (zs : List Sz) : Bool :=
  if op = 11 then decide ((zs.getD 0 Sz.zero).1 % 2 = 0) && decide ((zs.getD 0 Sz.zero).2 % 2 = 0)
  else if op = 12 then decide (2 * (zs.getD 0 Sz.zero).1 ≤ 16) && decide (2 * (zs.getD 0 Sz.zero).2 ≤ 16)
  else if hasB op = true then decide (zs.getD 0 Sz.zero = zs.getD 1 Sz.zero)
  else true
def szs (f : Fr) : Nat → List Sz
  | 0 => []
  | n + 1 => szs f n ++ [sizeP f.W f.H (f.ps.getD n Ps.zero).Op (pickZ (szs f n) (srcOf f.ps n))]
def passE (f : Fr) (n : Nat) : Int :=
  if ownE (f.ps.getD n Ps.zero) f.S = 0 then
    if thereB (srcOf f.ps n) = true then
      if fitP (f.ps.getD n Ps.zero).Op (pickZ (szs f n) (srcOf f.ps n)) = true then 0 else 6
    else 5
  else ownE (f.ps.getD n Ps.zero) f.S
def firstE (f : Fr) : Nat → Int
  | 0 => 0
  | n + 1 => if firstE f n = 0 then passE f n else firstE f n
def boundsE (f : Fr) : Int :=
  if sideB f.W = true ∧ sideB f.H = true ∧ withinB f.S 1 8 = true ∧ slotB f.O f.S = true then
    if withinB f.ps.length 1 12 = true then 0 else 2
  else 3
def shownP (f : Fr) : Int := wrt f.ps f.ps.length f.O
def frameE (f : Fr) : Int :=
  if boundsE f = 0 then
    if firstE f f.ps.length = 0 then
      if 0 ≤ shownP f then 0 else 5
    else firstE f f.ps.length
  else boundsE f
theorem szs_length (f : Fr) (n : Nat) : (szs f n).length = n := by
  induction n with
  | zero => rfl
  | succ n ih => simp [szs, ih]
theorem firstE_stays (f : Fr) {k : Nat} {e : Int} (h : firstE f k = e) (he : e ≠ 0) (n : Nat) : firstE f (k + n) = e := by
  induction n with
  | zero => exact h
  | succ n ih =>
    show (if firstE f (k + n) = 0 then passE f (k + n) else firstE f (k + n)) = e
    rw [ih, if_neg he]
theorem firstE_at (f : Fr) {k : Nat} (h : firstE f k = 0) : firstE f (k + 1) = passE f k := by
  show (if firstE f k = 0 then passE f k else firstE f k) = _
  rw [if_pos h]
theorem firstE_end (f : Fr) {k : Nat} (h : firstE f k = 0) (he : passE f k ≠ 0) {n : Nat} (hk : k < n) : firstE f n = passE f k := by
  have h1 := firstE_at f h
  obtain ⟨m, rfl⟩ : ∃ m, n = k + 1 + m := ⟨n - (k + 1), by omega⟩
  exact firstE_stays f h1 he m
theorem firstE_down (f : Fr) {n : Nat} (h : firstE f n = 0) {k : Nat} (hk : k ≤ n) : firstE f k = 0 := by
  by_cases h0 : firstE f k = 0
  · exact h0
  · obtain ⟨m, rfl⟩ : ∃ m, n = k + m := ⟨n - k, by omega⟩
    have := firstE_stays f (k := k) rfl h0 m
    omega
theorem wrt_bd (ps : List Ps) (n : Nat) (s : Int) : -1 ≤ wrt ps n s ∧ wrt ps n s < n := by
  induction n with
  | zero => simp [wrt]
  | succ n ih =>
    show -1 ≤ (if (ps.getD n Ps.zero).To = s then (n : Int) else wrt ps n s) ∧ (if (ps.getD n Ps.zero).To = s then (n : Int) else wrt ps n s) < (n + 1 : Nat)
    split <;> omega
theorem wrt_to (ps : List Ps) (n : Nat) (s : Int) (h : 0 ≤ wrt ps n s) : (ps.getD (wrt ps n s).toNat Ps.zero).To = s := by
  induction n with
  | zero => simp [wrt] at h
  | succ n ih =>
    revert h
    show 0 ≤ (if (ps.getD n Ps.zero).To = s then (n : Int) else wrt ps n s) → (ps.getD (if (ps.getD n Ps.zero).To = s then (n : Int) else wrt ps n s).toNat Ps.zero).To = s
    split
    · intro _; simpa using ‹_›
    · exact ih
def ZB (z : Sz) : Prop := (1 ≤ z.1 ∧ z.1 ≤ 16) ∧ (1 ≤ z.2 ∧ z.2 ≤ 16)
theorem op_cases {op : Int} (h : knownB op = true) : op = 1 ∨ op = 2 ∨ op = 3 ∨ op = 4 ∨ op = 5 ∨ op = 6 ∨ op = 7 ∨ op = 8 ∨ op = 9 ∨ op = 10 ∨ op = 11 ∨ op = 12 ∨ op = 13 := by
  simp [knownB, withinB] at h; omega
theorem ownE_zero {p : Ps} {S : Int} (h : ownE p S = 0) : knownB p.Op = true ∧ slotsB p S = true ∧ (hasK p.Op = true → kB p.Op p.K = true) ∧ (hasL p.Op = true → lightsErr p.ls = 0) ∧ bareB p = true ∧ ownB p = false := by
  unfold ownE at h
  by_cases h1 : knownB p.Op = true
  · rw [if_pos h1] at h
    by_cases h2 : slotsB p S = true ∧ (hasK p.Op = true → kB p.Op p.K = true)
    · rw [if_pos h2] at h
      by_cases h3 : hasL p.Op = true ∧ lightsErr p.ls ≠ 0
      · rw [if_pos h3] at h; exact absurd h h3.2
      · rw [if_neg h3] at h
        by_cases h4 : bareB p = true ∧ ownB p = false
        · exact ⟨h1, h2.1, h2.2, fun h5 => Classical.byContradiction fun h6 => h3 ⟨h5, h6⟩, h4.1, h4.2⟩
        · rw [if_neg h4] at h; cases h
    · rw [if_neg h2] at h; cases h
  · rw [if_neg h1] at h; cases h
theorem passE_zero {f : Fr} {n : Nat} (h : passE f n = 0) : ownE (f.ps.getD n Ps.zero) f.S = 0 ∧ thereB (srcOf f.ps n) = true ∧ fitP (f.ps.getD n Ps.zero).Op (pickZ (szs f n) (srcOf f.ps n)) = true := by
  unfold passE at h
  by_cases h1 : ownE (f.ps.getD n Ps.zero) f.S = 0
  · rw [if_pos h1] at h
    by_cases h2 : thereB (srcOf f.ps n) = true
    · rw [if_pos h2] at h
      by_cases h3 : fitP (f.ps.getD n Ps.zero).Op (pickZ (szs f n) (srcOf f.ps n)) = true
      · exact ⟨h1, h2, h3⟩
      · rw [if_neg h3] at h; cases h
    · rw [if_neg h2] at h; cases h
  · rw [if_neg h1] at h; exact absurd h h1
theorem src_bd {ps : List Ps} {n : Nat} (h : thereB (srcOf ps n) = true) : ∀ i ∈ srcOf ps n, 0 ≤ i ∧ i < n := by
  intro i hi
  have h1 : 0 ≤ i := by
    unfold thereB at h
    rw [List.all_eq_true] at h
    simpa using h i hi
  unfold srcOf at hi
  rw [List.mem_map] at hi
  obtain ⟨s, _, rfl⟩ := hi
  exact ⟨h1, (wrt_bd ps n s).2⟩
theorem hasA_of {p : Ps} (h : knownB p.Op = true) (h1 : ¬ p.Op = 1) (h2 : ¬ p.Op = 2) : hasA p.Op = true := by
  simp [knownB, withinB] at h; simp [hasA, withinB]; omega
theorem takes_pos {p : Ps} (h : hasA p.Op = true) : ∃ r, takesP p = p.A :: r := by
  unfold takesP
  by_cases hb : hasB p.Op = true
  · rw [if_pos hb]; exact ⟨_, rfl⟩
  · rw [if_neg hb, if_pos h]; exact ⟨_, rfl⟩
theorem pickZ_bd {zs : List Sz} {is : List Int} {n : Nat} (hl : zs.length = n) (hz : ∀ z ∈ zs, ZB z) (hi : ∀ i ∈ is, 0 ≤ i ∧ i < n) : ∀ z ∈ pickZ zs is, ZB z := by
  intro z h
  unfold pickZ at h
  rw [List.mem_map] at h
  obtain ⟨i, h1, rfl⟩ := h
  have h2 := hi i h1
  have h3 : i.toNat < zs.length := by omega
  rw [List.getD_eq_getElem?_getD, List.getElem?_eq_getElem h3]
  exact hz _ (List.getElem_mem h3)
theorem getD_mem {α : Type} {l : List α} {k : Nat} (h : k < l.length) (d : α) : l.getD k d ∈ l := by
  rw [List.getD_eq_getElem?_getD, List.getElem?_eq_getElem h]
  exact List.getElem_mem h
theorem sizeP_bd {W H op : Int} {zs : List Sz} (hW : 1 ≤ W ∧ W ≤ 16) (hH : 1 ≤ H ∧ H ≤ 16) (hk : knownB op = true) (hz : ∀ z ∈ zs, ZB z) (hl : hasA op = true → 0 < zs.length) (hf : fitP op zs = true) : ZB (sizeP W H op zs) := by
  unfold sizeP
  by_cases h1 : op = 1 ∨ op = 2
  · rw [if_pos h1]; exact ⟨hW, hH⟩
  · rw [if_neg h1]
    have hA : hasA op = true := by simp [knownB, withinB] at hk; simp [hasA, withinB]; omega
    have h0 := hz _ (getD_mem (hl hA) Sz.zero)
    unfold fitP at hf
    by_cases h2 : op = 11
    · rw [if_pos h2] at hf ⊢
      simp only [Bool.and_eq_true, decide_eq_true_eq] at hf
      obtain ⟨⟨a1, a2⟩, ⟨a3, a4⟩⟩ := h0
      refine ⟨⟨?_, ?_⟩, ⟨?_, ?_⟩⟩ <;> dsimp only <;> omega
    · rw [if_neg h2] at hf ⊢
      by_cases h3 : op = 12
      · rw [if_pos h3] at hf ⊢
        simp only [Bool.and_eq_true, decide_eq_true_eq] at hf
        obtain ⟨⟨a1, a2⟩, ⟨a3, a4⟩⟩ := h0
        refine ⟨⟨?_, ?_⟩, ⟨?_, ?_⟩⟩ <;> dsimp only <;> omega
      · rw [if_neg h3]; exact h0
theorem szs_bd {f : Fr} (hb : boundsE f = 0) : ∀ {n : Nat}, firstE f n = 0 → ∀ z ∈ szs f n, ZB z
  | 0, _ => by intro z h; cases h
  | n + 1, h => by
    have h0 := firstE_down f h (Nat.le_succ n)
    have ih := szs_bd hb h0
    rw [firstE_at f h0] at h
    obtain ⟨p1, p2, p3⟩ := passE_zero h
    obtain ⟨o1, _⟩ := ownE_zero p1
    have hWH : (1 ≤ f.W ∧ f.W ≤ 16) ∧ (1 ≤ f.H ∧ f.H ≤ 16) := by
      unfold boundsE at hb
      by_cases hc : sideB f.W = true ∧ sideB f.H = true ∧ withinB f.S 1 8 = true ∧ slotB f.O f.S = true
      · exact ⟨(side_iff _).1 hc.1, (side_iff _).1 hc.2.1⟩
      · rw [if_neg hc] at hb; cases hb
    intro z hz
    have e : szs f (n + 1) = szs f n ++ [sizeP f.W f.H (f.ps.getD n Ps.zero).Op (pickZ (szs f n) (srcOf f.ps n))] := rfl
    rw [e, List.mem_append] at hz
    rcases hz with hz | hz
    · exact ih z hz
    · rw [List.mem_singleton] at hz
      subst hz
      refine sizeP_bd hWH.1 hWH.2 o1 (pickZ_bd (szs_length f n) ih (src_bd p2)) (fun hA => ?_) p3
      obtain ⟨r, hr⟩ := takes_pos hA
      unfold pickZ srcOf; rw [hr]; simp
theorem boundsE_zero {f : Fr} (h : boundsE f = 0) : (1 ≤ f.W ∧ f.W ≤ 16) ∧ (1 ≤ f.H ∧ f.H ≤ 16) ∧ (1 ≤ f.S ∧ f.S ≤ 8) ∧ (0 ≤ f.O ∧ f.O < f.S) ∧ (1 ≤ f.ps.length ∧ f.ps.length ≤ 12) := by
  unfold boundsE at h
  by_cases hc : sideB f.W = true ∧ sideB f.H = true ∧ withinB f.S 1 8 = true ∧ slotB f.O f.S = true
  · rw [if_pos hc] at h
    by_cases hd : withinB f.ps.length 1 12 = true
    · obtain ⟨h1, h2, h3, h4⟩ := hc
      simp [withinB, slotB] at h3 h4 hd
      refine ⟨(side_iff _).1 h1, (side_iff _).1 h2, ?_, ?_, ?_⟩ <;> omega
    · rw [if_neg hd] at h; cases h
  · rw [if_neg hc] at h; cases h
theorem frameE_zero {f : Fr} (h : frameE f = 0) : boundsE f = 0 ∧ firstE f f.ps.length = 0 ∧ 0 ≤ shownP f := by
  unfold frameE at h
  by_cases h1 : boundsE f = 0
  · rw [if_pos h1] at h
    by_cases h2 : firstE f f.ps.length = 0
    · rw [if_pos h2] at h
      by_cases h3 : 0 ≤ shownP f
      · exact ⟨h1, h2, h3⟩
      · rw [if_neg h3] at h; cases h
    · rw [if_neg h2] at h; exact absurd h h2
  · rw [if_neg h1] at h; exact absurd h h1
end Go.Proofs.YtihliofhhjjeaaaGreat
namespace Go.Proofs.YtihliofhhjjeaaaGreat
open Go.RowKit Im
def Owns (base : Nat) (w : World) (v : Value) (qs : List Int) : Prop := w.ownsRow base 3 1 v qs.length (qs.map (Value.int .i64))
theorem Owns.ints {base : Nat} {w : World} {v : Value} {qs : List Int} (h : Owns base w v qs) (hb : qs.length ≤ 9223372036854775807) : ∃ a cap, v = .slice a qs.length cap ∧ Ints base w a qs.length qs := by
  obtain ⟨h1, h2⟩ := h
  rcases h2 with ⟨rfl, h0⟩ | ⟨g, cap, cur, rfl, hg, hh, hc, hm, hs, ht⟩
  · have : qs = [] := by simpa using h0
    subst this
    exact ⟨none, 0, rfl, rfl, by simp, .inl rfl, fun _ => .inl rfl⟩
  · have hfz := fun o => World.ownsRow.frozenAt (base := base) (e := 3) (size := 1) (n := qs.length) (xs := qs.map (Value.int .i64)) (w := w) ⟨h1, .inr ⟨g, cap, cur, rfl, hg, hh, hc, hm, hs, ht⟩⟩ o
    refine ⟨_, cap, rfl, rfl, hb, .inr ⟨g, 0, rfl, hg, ?_, fun j hj => ?_⟩, fun _ => .inr fun b off ha j _ => by injection ha with ha; injection ha with e1 e2; subst e1; exact hfz _⟩
    · rcases Nat.lt_or_ge g w.heap.size with h | h
      · exact h
      · rw [Array.getElem?_eq_none h] at hh; cases hh
    · have := World.ownsRow.cellAt (base := base) (e := 3) (size := 1) ⟨h1, .inr ⟨g, cap, cur, rfl, hg, hh, hc, hm, hs, ht⟩⟩ j (by simpa using hj)
      rw [Nat.zero_add, this]
      simp [hj]
theorem Owns.push {base : Nat} {w wx w1 : World} {v v' : Value} {qs : List Int} {x : Int} {B0 : World} {o : Obj} (h : Owns base w v qs) (hb : Below base B0 w) (hB : base ≤ w.heap.size)
    (h' : w1.ownsRow base 3 1 v' (qs.length + 1) (qs.map (Value.int .i64) ++ [.int .i64 x])) (hx : wx = w.alloc o) (hg : wx.grownBy w1 v.ownBlock) : Owns base w1 v' (qs ++ [x]) ∧ Below base B0 w1 := by
  subst hx
  refine ⟨by unfold Owns; simpa using h', ?_⟩
  exact (hb.alloc hB o).grown hg (by simp; omega) (fun j hj => (World.ownsRow.lt (w := w) h j hj).1)
theorem Owns.below {base B : Nat} {w w' : World} {v : Value} {qs : List Int} (h : Owns base w v qs) (hb : Below B w w') (hB : w.heap.size ≤ B) : Owns base w' v qs := by
  obtain ⟨h1, h2⟩ := h
  refine ⟨h1, ?_⟩
  rcases h2 with h2 | ⟨g, cap, cur, hv, hg, hh, r⟩
  · exact .inl h2
  · refine .inr ⟨g, cap, cur, hv, hg, ?_, r⟩
    rw [hb.block g ?_]
    · exact hh
    · rcases Nat.lt_or_ge g w.heap.size with h | h
      · omega
      · rw [Array.getElem?_eq_none h] at hh; cases hh
structure Tells (w : World) (n : Nat) (caps : Array Value) (W H : Nat) (g : Nat → Nat → Int) : Prop where
  enters : ∀ args w, (callFunc n args).run Tryz.prog w = .ok (.enter n args) w
  tells : ∀ (x y : Nat) (w1 : World), x < W → y < H → Below w.heap.size w w1 → Calls Tryz.prog n (#[.int .i64 x, .int .i64 y] ++ caps) w1 fun e w2 => e = .returned (.int .i64 (g x y)) ∧ Below w1.heap.size w1 w2
set_option maxHeartbeats 1000000 in
theorem draw_any (W H : Nat) (n : Nat) (caps : Array Value) (g : Nat → Nat → Int) (w : World) (hW : 1 ≤ W ∧ W ≤ 16) (hH : 1 ≤ H ∧ H ≤ 16) (hf : Tells w n caps W H g) :
    Calls Tryz.prog 106 #[.int .i64 W, .int .i64 H, .func (.func n) #[] caps] w fun e w' =>
      ∃ a cap, e = .returned (.agg #[.int .i64 W, .int .i64 H, .slice a (W * H) cap]) ∧ Ints w.heap.size w' a (W * H) (pix W g (W * H)) ∧ Below w.heap.size w w' := by
  obtain ⟨i0, hi, hz0, hz1, hz2⟩ := info_parts Tryz.info3
  have hWH : 1 ≤ (W : Int) * H ∧ (W : Int) * H ≤ 256 := side_mul (by simp [sideB]; omega) (by simp [sideB]; omega)
  have hWN : W * H ≤ 256 := by have := hWH.2; rw [← Int.natCast_mul] at this; omega
  obtain ⟨k1, k2⟩ := hWH
  have hent := hf.enters
  go_enter Tryz.func106, Tryz.ntmps106
  go_wp2_with (at_make; refine wpList_make_own _ rfl _ _ 25 rfl (w.heap.size + 1) 3 i0 (.int .i64 0) 1 Tryz.underlying25 hi hz0 hz1 .i64 .i64 _ (W * H) rfl rfl (by simp) (by rw [hz2]; omega) (by unfold maxLen; omega) (by simp) ?_; intro w1 hown hgrow)
  have hb1 : Below (w.heap.size + 1) (w.alloc (.cells #[.int .i64 0, .int .i64 0, .slice none 0 0] 31)) w1 := (Below.refl _ _).grown hgrow (by simp) (by simp)
  go_loopw [7, 15] (fun v i wr => ∃ y : Nat, y ≤ H ∧ i = .int .i64 y ∧ Owns (w.heap.size + 1) wr v (pix W g (y * W)) ∧ Below (w.heap.size + 1) (w.alloc (.cells #[.int .i64 0, .int .i64 0, .slice none 0 0] 31)) wr) (fun _ i _ => H - (intOf i).toNat)
  case atStart => exact ⟨0, Nat.zero_le _, rfl, by rw [Nat.zero_mul]; simpa [Owns, pix] using hown, hb1⟩
  case round =>
    obtain ⟨y, hy, rfl, hownr, hbr⟩ := hrel
    by_cases hlt : y < H
    · go_wp2
      go_loopw [7, 19] (fun v i ws => ∃ x : Nat, x ≤ W ∧ i = .int .i64 x ∧ Owns (w.heap.size + 1) ws v (pix W g (y * W + x)) ∧ Below (w.heap.size + 1) (w.alloc (.cells #[.int .i64 0, .int .i64 0, .slice none 0 0] 31)) ws) (fun _ i _ => W - (intOf i).toNat)
      case atStart => exact ⟨0, Nat.zero_le _, rfl, hownr, hbr⟩
      case round =>
        obtain ⟨x, hx, rfl, howns, hbs⟩ := hrel
        by_cases hlx : x < W
        · have hsz : w.heap.size + 1 ≤ wr.heap.size := by have := hbs.size; simpa using this
          have hbw : Below w.heap.size w wr := ((Below.refl _ _).alloc (Nat.le_refl _) _).trans (hbs.mono (by omega))
          have hpl : y * W + x < W * H := place_lt hlx hlt
          have hlen : (pix W g (y * W + x)).length = y * W + x := pix_length _ _ _
          go_wp2_with (first
            | (refine (hf.tells x y _ hlx hlt hbw).mono ?_; rintro e w2 ⟨rfl, hb2⟩; have hown2 := howns.below hb2 (Nat.le_refl _))
            | (at_builtin; refine wpList_append_own _ rfl _ _ 25 rfl (w.heap.size + 1) 3 i0 (.int .i64 0) 1 8 Tryz.underlying25 hi hz0 hz1 hz2 rfl (by decide) _ _ _ rfl (World.ownsRow.alloc hown2 _) ⟨w2.heap.size, 0, none⟩ 1 1 [.int .i64 (g x y)] rfl rfl (cell_one_new _ _ _) (by intro u hu; simp at hu; subst hu; rfl) (by rw [hlen]; unfold maxLen; omega) (by rw [hlen]; omega) (by have := hb2.size; simp; omega) ?_; intro v' w3 hown3 hgrow3 _))
          have R := Owns.push hown2 (hbs.trans (hb2.mono hsz)) (by have := hb2.size; omega) hown3 rfl hgrow3
          go_roundw
          case rel => exact ⟨x + 1, by omega, by go_num, by rw [← Nat.add_assoc, pix_succ W g x y hlx]; exact R.1, R.2⟩
          case measure => simp [intOf]; omega
        · have hxW : x = W := by omega
          subst hxW
          go_wp2
          go_roundw
          case rel => exact ⟨y + 1, by omega, by go_num, by rw [Nat.add_mul, Nat.one_mul]; exact howns, hbs⟩
          case measure => simp [intOf]; omega
    · have hyH : y = H := by omega
      subst hyH
      have hlen : (pix W g (y * W)).length = y * W := pix_length _ _ _
      obtain ⟨a, cap, hv, hints⟩ := hownr.ints (by rw [hlen, Nat.mul_comm]; omega)
      have c0 : wr.cell? ⟨w.heap.size, 0, none⟩ = some (.int .i64 0) := by rw [hbr.cell (by simp)]; simp [go_sem]
      have c1 : wr.cell? ⟨w.heap.size, 1, none⟩ = some (.int .i64 0) := by rw [hbr.cell (by simp)]; simp [go_sem]
      have c2 : wr.cell? ⟨w.heap.size, 2, none⟩ = some (.slice none 0 0) := by rw [hbr.cell (by simp)]; simp [go_sem]
      have f0 : wr.frozen? ⟨w.heap.size, 0, none⟩ = false := by rw [hbr.frozen (by simp)]; simp [go_sem]
      have f1 : wr.frozen? ⟨w.heap.size, 1, none⟩ = false := by rw [hbr.frozen (by simp)]; simp [go_sem]
      have f2 : wr.frozen? ⟨w.heap.size, 2, none⟩ = false := by rw [hbr.frozen (by simp)]; simp [go_sem]
      rw [hv]
      go_wp2
      rw [hlen, Nat.mul_comm] at hints
      refine bodyPost_ret (v := .agg #[.int .i64 W, .int .i64 y, .slice a (W * y) cap]) (by simp [results, Tryz.results106, go_sem, c0, c1, c2]; exact Nat.mul_comm _ _) rfl ⟨a, cap, rfl, ?_, ?_⟩
      · exact (((hints.setCell (by simp) _).setCell (by simp) _).setCell (by simp) _).mono (by omega)
      · exact (((((Below.refl _ _).alloc (Nat.le_refl _) _).trans (hbr.mono (by omega))).setCell (by simp) _).setCell (by simp) _).setCell (by simp) _
end Go.Proofs.YtihliofhhjjeaaaGreat
namespace Go.Proofs.YtihliofhhjjeaaaGreat
open Go.RowKit Im
set_option maxHeartbeats 1000000 in
theorem mean_any (W H : Nat) (n : Nat) (caps : Array Value) (p : Nat → Nat → Int) (w : World) (l t r b : Nat) (hW : W ≤ 16) (hH : H ≤ 16) (h1 : l ≤ r) (h2 : r < W) (h3 : t ≤ b) (h4 : b < H)
    (hp : ∀ x y, x < W → y < H → 0 ≤ p x y ∧ p x y ≤ 65535) (hf : Tells w n caps W H p) :
    Calls Tryz.prog 149 #[.func (.func n) #[] caps, .int .i64 l, .int .i64 t, .int .i64 r, .int .i64 b] w fun e w' => e = .returned (.int .i64 (meanP p l t r b)) ∧ Below w.heap.size w w' := by
  have hent := hf.enters
  go_enter Tryz.func149, Tryz.ntmps149
  go_wp2
  go_loopw [11, 12] (fun s i wr => ∃ j : Nat, j ≤ b + 1 - t ∧ i = .int .i64 ((t : Int) + (j : Int)) ∧ s = .int .i64 (sumBox p l t (r + 1 - l) j) ∧ Below w.heap.size w wr) (fun _ i _ => b + 1 - (intOf i).toNat)
  case atStart => exact ⟨0, Nat.zero_le _, by simp, rfl, Below.refl _ _⟩
  case round =>
    obtain ⟨j, hj, rfl, rfl, hbr⟩ := hrel
    have sb := sumBox_bd (p := p) (l := l) (t := t) (n := r + 1 - l) (by omega) (m := j) (fun x y _ _ _ _ => hp x y (by omega) (by omega))
    by_cases hlt : j < b + 1 - t
    · have hle : (t : Int) + (j : Int) ≤ b := by omega
      go_wp2
      go_loopw [11, 13] (fun s i wr => ∃ i' : Nat, i' ≤ r + 1 - l ∧ i = .int .i64 ((l : Int) + (i' : Int)) ∧ s = .int .i64 (sumBox p l t (r + 1 - l) j + sumRow p (t + j) l i') ∧ Below w.heap.size w wr) (fun _ i _ => r + 1 - (intOf i).toNat)
      case atStart => exact ⟨0, Nat.zero_le _, by simp, by simp [sumRow], hbr⟩
      case round =>
        obtain ⟨i, hi, rfl, rfl, hbs⟩ := hrel
        have sr := sumRow_bd (p := p) (y := t + j) (l := l) (n := i) (fun x _ _ => hp x (t + j) (by omega) (by omega))
        by_cases hli : i < r + 1 - l
        · have hli2 : (l : Int) + (i : Int) ≤ r := by omega
          have hpp := hp (l + i) (t + j) (by omega) (by omega)
          go_wp2_with (refine (hf.tells (l + i) (t + j) _ (by omega) (by omega) hbs).mono ?_; rintro e w2 ⟨rfl, hb2⟩)
          have hbw := hbs.trans (hb2.mono (by have := hbs.size; omega))
          go_roundw
          case rel => exact ⟨i + 1, by omega, by go_num, by show _ = Value.int .i64 (_ + (sumRow p (t + j) l i + p (l + i) (t + j))); go_num, hbw⟩
          case measure => simp [intOf]; omega
        · have hie : i = r + 1 - l := by omega
          subst hie
          go_wp2
          go_roundw
          case rel => exact ⟨j + 1, by omega, by go_num, rfl, hbs⟩
          case measure => simp [intOf]; omega
    · have hje : j = b + 1 - t := by omega
      subst hje
      have m1 : 1 ≤ ((r : Int) - l + 1) * ((b : Int) - t + 1) := (side_mul (by simp [sideB]; omega) (by simp [sideB]; omega)).1
      have m2 : ((r : Int) - l + 1) * ((b : Int) - t + 1) ≤ 256 := (side_mul (by simp [sideB]; omega) (by simp [sideB]; omega)).2
      go_wp2
      go_ret
      exact ⟨rfl, hbr⟩
end Go.Proofs.YtihliofhhjjeaaaGreat
namespace Go.Proofs.YtihliofhhjjeaaaGreat
open Go.RowKit Im
structure Fine (w : World) (b off : Nat) (W H : Nat) (ps : List Int) : Prop where
  hW : 1 ≤ W ∧ W ≤ 16
  hH : 1 ≤ H ∧ H ≤ 16
  hb : b < w.heap.size
  len : ps.length = W * H
  cell : ∀ j, j < W * H → w.cell? ⟨b, off + j, none⟩ = some (.int .i64 (ps.getD j 0))
  num : ∀ n ∈ ps, 0 ≤ n ∧ n ≤ 65535
theorem Fine.below {w w' : World} {b off W H : Nat} {ps : List Int} (h : Fine w b off W H ps) (hb : Below w.heap.size w w') : Fine w' b off W H ps :=
  ⟨h.hW, h.hH, Nat.lt_of_lt_of_le h.hb hb.size, h.len, fun j hj => (hb.cell (p := ⟨b, off + j, none⟩) h.hb).trans (h.cell j hj), h.num⟩
theorem Fine.small {w : World} {b off W H : Nat} {ps : List Int} (h : Fine w b off W H ps) : 1 ≤ W * H ∧ W * H ≤ 256 := by
  have := side_mul (W := (W : Int)) (H := (H : Int)) (by have := h.hW; simp [sideB]; omega) (by have := h.hH; simp [sideB]; omega)
  rw [← Int.natCast_mul] at this
  omega
theorem Fine.px_bd {w : World} {b off W H : Nat} {ps : List Int} (h : Fine w b off W H ps) (x y : Nat) (hx : x < W) (hy : y < H) : 0 ≤ px W ps x y ∧ px W ps x y ≤ 65535 := by
  have hl : y * W + x < ps.length := by rw [h.len]; exact place_lt hx hy
  unfold px
  rw [List.getD_eq_getElem?_getD, List.getElem?_eq_getElem hl]
  exact h.num _ (List.getElem_mem hl)
theorem Fine.ints {w : World} {b off W H : Nat} {ps : List Int} (h : Fine w b off W H ps) : Ints 0 w (some ⟨b, off, none⟩) (W * H) ps :=
  ⟨h.len, by have := h.small; omega, .inr ⟨b, off, rfl, Nat.zero_le _, h.hb, h.cell⟩, fun h0 => absurd h0 (Nat.lt_irrefl 0)⟩
theorem Fine.fineB {w : World} {b off W H : Nat} {ps : List Int} (h : Fine w b off W H ps) : fineB W H ps = true := by
  rw [fine_iff]
  exact ⟨by have := h.hW; omega, by have := h.hH; omega, by rw [h.len, Int.natCast_mul], h.num⟩
theorem fine_of {w : World} {a : Option Addr} {len : Nat} {W H : Int} {ps : List Int} (h : Ints 0 w a len ps) (hf : fineB W H ps = true) :
    ∃ (W' H' b off : Nat), W = W' ∧ H = H' ∧ a = some ⟨b, off, none⟩ ∧ len = W' * H' ∧ Fine w b off W' H' ps := by
  obtain ⟨h1, h2, h3, h4⟩ := (fine_iff W H ps).1 hf
  obtain ⟨W', rfl⟩ := Int.eq_ofNat_of_zero_le (show 0 ≤ W by omega)
  obtain ⟨H', rfl⟩ := Int.eq_ofNat_of_zero_le (show 0 ≤ H by omega)
  have hl : ps.length = W' * H' := by rw [← Int.natCast_mul] at h3; omega
  have hl' := h.leng
  rcases h.cells with e | ⟨b, off, ha, _, hb, hc⟩
  · subst e
    have : 1 * 1 ≤ W' * H' := Nat.mul_le_mul (by omega) (by omega)
    simp at hl; omega
  · exact ⟨W', H', b, off, rfl, rfl, ha, by omega, by omega, by omega, hb, hl, fun j hj => hc j (by omega), h4⟩
theorem numbers_enters : ∀ args w, (callFunc 142 args).run Tryz.prog w = .ok (.enter 142 args) w := fun _ _ => by kernel_rfl
theorem numbersOf_any (W H : Int) (a : Option Addr) (len cap : Nat) (w : World) :
    Calls Tryz.prog 110 #[.agg #[.int .i64 W, .int .i64 H, .slice a len cap]] w fun e w' => e = .returned (.func (.func 142) #[] #[.pointer (some ⟨w.heap.size, 0, none⟩)]) ∧ w' = w.alloc (.cells #[.int .i64 W, .int .i64 H, .slice a len cap] 31) := by
  go_enter Tryz.func110, Tryz.ntmps110
  go_wp2
  go_ret
  exact ⟨rfl, rfl⟩
structure Boxed (w : World) (c b off cap W H : Nat) : Prop where
  lt : c < w.heap.size
  c0 : w.cell? ⟨c, 0, none⟩ = some (.int .i64 W)
  c1 : w.cell? ⟨c, 1, none⟩ = some (.int .i64 H)
  c2 : w.cell? ⟨c, 2, none⟩ = some (.slice (some ⟨b, off, none⟩) (W * H) cap)
theorem Boxed.below {w w' : World} {c b off cap W H : Nat} (h : Boxed w c b off cap W H) (hb : Below w.heap.size w w') : Boxed w' c b off cap W H :=
  ⟨Nat.lt_of_lt_of_le h.lt hb.size, (hb.cell (p := ⟨c, 0, none⟩) h.lt).trans h.c0, (hb.cell (p := ⟨c, 1, none⟩) h.lt).trans h.c1, (hb.cell (p := ⟨c, 2, none⟩) h.lt).trans h.c2⟩
theorem numbers_tells {w : World} {c b off cap W H : Nat} {ps : List Int} (hB : Boxed w c b off cap W H) (hF : Fine w b off W H ps) : Tells w 142 #[.pointer (some ⟨c, 0, none⟩)] W H (px W ps) := by
  refine ⟨numbers_enters, fun x y w1 hx hy hbel => ?_⟩
  obtain ⟨hlt, c0, c1, c2⟩ := hB.below hbel
  have hc := (hF.below hbel).cell (y * W + x) (place_lt hx hy)
  have hpl := place_lt hx hy
  obtain ⟨hm, hM⟩ := hF.small
  have hb1 := hF.hW
  have hb2 := hF.hH
  have hpi : (y : Int) * (W : Int) + (x : Int) < (W : Int) * (H : Int) := by rw [← Int.natCast_mul, ← Int.natCast_mul]; omega
  have hp0 : 0 ≤ (y : Int) * (W : Int) := Int.mul_nonneg (by omega) (by omega)
  have hpM : (W : Int) * (H : Int) ≤ 256 := by rw [← Int.natCast_mul]; omega
  obtain ⟨v, hv⟩ : ∃ v, v = px W ps x y := ⟨_, rfl⟩
  have hc' : w1.cell? ⟨b, off + (y * W + x), none⟩ = some (.int .i64 v) := by rw [hv]; exact hc
  show Calls Tryz.prog 142 #[.int .i64 x, .int .i64 y, .pointer (some ⟨c, 0, none⟩)] w1 _
  rw [← hv]
  clear hc hv hF hB hpl
  go_enter Tryz.func142, Tryz.ntmps142
  go_wp2
  go_ret
  exact ⟨rfl, Below.refl _ _⟩
end Go.Proofs.YtihliofhhjjeaaaGreat
namespace Go.Proofs.YtihliofhhjjeaaaGreat
open Go.RowKit Im
def colX (x : Nat) (k : Int) (W : Nat) : Nat := (min (max ((x : Int) - k) 0) ((W : Int) - 1)).toNat
def oneG (op : Int) (W H : Nat) (k : Int) (ps : List Int) (x y : Nat) : Int :=
  if op = 8 then (if k ≤ px W ps x y then px W ps x y else 0)
  else if op = 9 then px W ps (colX x k W) y
  else if op = 10 then meanP (px W ps) (x - 1) (y - 1) (min (x + 1) (W - 1)) (min (y + 1) (H - 1))
  else if op = 11 then meanP (px W ps) (2 * x) (2 * y) (2 * x + 1) (2 * y + 1)
  else if op = 12 then px W ps (x / 2) (y / 2)
  else px W ps x y
def oneN (op : Int) (n : Nat) : Nat := if op = 11 then n / 2 else if op = 12 then 2 * n else n
structure Old (w : World) (d c b off cap W H : Nat) (ps : List Int) : Prop where
  lt : d < w.heap.size
  cd : w.cell? ⟨d, 0, none⟩ = some (.func (.func 142) #[] #[.pointer (some ⟨c, 0, none⟩)])
  bx : Boxed w c b off cap W H
  fn : Fine w b off W H ps
theorem Old.below {w w' : World} {d c b off cap W H : Nat} {ps : List Int} (h : Old w d c b off cap W H ps) (hb : Below w.heap.size w w') : Old w' d c b off cap W H ps :=
  ⟨Nat.lt_of_lt_of_le h.lt hb.size, (hb.cell (p := ⟨d, 0, none⟩) h.lt).trans h.cd, h.bx.below hb, h.fn.below hb⟩
theorem Old.call {w : World} {d c b off cap W H : Nat} {ps : List Int} (h : Old w d c b off cap W H ps) (x y : Nat) (hx : x < W) (hy : y < H) :
    Calls Tryz.prog 142 #[.int .i64 x, .int .i64 y, .pointer (some ⟨c, 0, none⟩)] w fun e w2 => e = .returned (.int .i64 (px W ps x y)) ∧ Below w.heap.size w w2 :=
  (numbers_tells h.bx h.fn).tells x y w hx hy (Below.refl _ _)
theorem Old.callI {w : World} {d c b off cap W H : Nat} {ps : List Int} (h : Old w d c b off cap W H ps) (X Y : Int) (x y : Nat) (hX : X = x) (hY : Y = y) (hx : x < W) (hy : y < H) :
    Calls Tryz.prog 142 #[.int .i64 X, .int .i64 Y, .pointer (some ⟨c, 0, none⟩)] w fun e w2 => e = .returned (.int .i64 (px W ps x y)) ∧ Below w.heap.size w w2 := by
  subst hX hY; exact h.call x y hx hy
theorem rule1_enters : ∀ args w, (callFunc 146 args).run Tryz.prog w = .ok (.enter 146 args) w := fun _ _ => by kernel_rfl
theorem rule2_enters : ∀ args w, (callFunc 147 args).run Tryz.prog w = .ok (.enter 147 args) w := fun _ _ => by kernel_rfl
theorem rule3_enters : ∀ args w, (callFunc 148 args).run Tryz.prog w = .ok (.enter 148 args) w := fun _ _ => by kernel_rfl
theorem rule4_enters : ∀ args w, (callFunc 150 args).run Tryz.prog w = .ok (.enter 150 args) w := fun _ _ => by kernel_rfl
theorem rule5_enters : ∀ args w, (callFunc 151 args).run Tryz.prog w = .ok (.enter 151 args) w := fun _ _ => by kernel_rfl
theorem rule1_tells {w : World} {d c b off cap W H kb : Nat} {ps : List Int} {k : Int} (hO : Old w d c b off cap W H ps) (hk : w.cell? ⟨kb, 0, none⟩ = some (.int .i64 k)) (hkl : kb < w.heap.size) :
    Tells w 146 #[.pointer (some ⟨d, 0, none⟩), .pointer (some ⟨kb, 0, none⟩)] W H (oneG 8 W H k ps) := by
  refine ⟨rule1_enters, fun x y w1 hx hy hbel => ?_⟩
  have hO1 := hO.below hbel
  have hcd := hO1.cd
  have hk1 : w1.cell? ⟨kb, 0, none⟩ = some (.int .i64 k) := (hbel.cell (p := ⟨kb, 0, none⟩) hkl).trans hk
  have hcall := hO1.call x y hx hy
  have hkl1 := Nat.lt_of_lt_of_le hkl hbel.size
  obtain ⟨v, hv⟩ : ∃ v, v = px W ps x y := ⟨_, rfl⟩
  have hg : oneG 8 W H k ps x y = if k ≤ v then v else 0 := by rw [hv]; rfl
  rw [← hv] at hcall
  rw [hg]
  clear hg hv hO hbel hk
  show Calls Tryz.prog 146 #[.int .i64 x, .int .i64 y, .pointer (some ⟨d, 0, none⟩), .pointer (some ⟨kb, 0, none⟩)] w1 _
  by_cases hkv : k ≤ v
  · rw [if_pos hkv]
    go_enter Tryz.func146, Tryz.ntmps146
    go_wp2_with (go_at_call 142; refine hcall.mono ?_; rintro e w2 ⟨rfl, hb2⟩; have hk2 := (hb2.cell (p := ⟨kb, 0, none⟩) hkl1).trans hk1)
    go_ret
    exact ⟨rfl, hb2⟩
  · rw [if_neg hkv]
    go_enter Tryz.func146, Tryz.ntmps146
    go_wp2_with (go_at_call 142; refine hcall.mono ?_; rintro e w2 ⟨rfl, hb2⟩; have hk2 := (hb2.cell (p := ⟨kb, 0, none⟩) hkl1).trans hk1)
    go_ret
    exact ⟨rfl, hb2⟩
theorem colX_lt (x : Nat) (k : Int) (W : Nat) (h : 1 ≤ W) : colX x k W < W := by unfold colX; omega
theorem rule2_tells {w : World} {d c b off cap W H kb ib : Nat} {ps : List Int} {k : Int} (hO : Old w d c b off cap W H ps) (hk : w.cell? ⟨kb, 0, none⟩ = some (.int .i64 k)) (hkl : kb < w.heap.size) (hk16 : -16 ≤ k ∧ k ≤ 16)
    (hI : Boxed w ib b off cap W H) :
    Tells w 147 #[.pointer (some ⟨d, 0, none⟩), .pointer (some ⟨kb, 0, none⟩), .pointer (some ⟨ib, 0, none⟩)] W H (oneG 9 W H k ps) := by
  refine ⟨rule2_enters, fun x y w1 hx hy hbel => ?_⟩
  have hO1 := hO.below hbel
  have hcd := hO1.cd
  obtain ⟨hw1, hw2⟩ := hO.fn.hW
  have hk1 : w1.cell? ⟨kb, 0, none⟩ = some (.int .i64 k) := (hbel.cell (p := ⟨kb, 0, none⟩) hkl).trans hk
  have hi0 := (hI.below hbel).c0
  clear hO hbel hk hI
  have hl := colX_lt x k W hw1
  show Calls Tryz.prog 147 #[.int .i64 x, .int .i64 y, .pointer (some ⟨d, 0, none⟩), .pointer (some ⟨kb, 0, none⟩), .pointer (some ⟨ib, 0, none⟩)] w1 fun e w2 => e = .returned (.int .i64 (px W ps (colX x k W) y)) ∧ _
  by_cases h0 : (x : Int) - k < 0
  · have hcall := (hO1.callI 0 y (colX x k W) y (by unfold colX; omega) rfl hl hy)
    have h0' : 0 ≤ (W : Int) - 1 := by omega
    go_enter Tryz.func147, Tryz.ntmps147
    go_wp2_with (go_at_call 142; refine hcall.mono ?_; rintro e w2 ⟨rfl, hb2⟩)
    go_ret
    exact ⟨rfl, hb2⟩
  · by_cases h1 : (W : Int) - 1 < (x : Int) - k
    · have hcall := (hO1.callI ((W : Int) - 1) y (colX x k W) y (by unfold colX; omega) rfl hl hy)
      go_enter Tryz.func147, Tryz.ntmps147
      go_wp2_with (go_at_call 142; refine hcall.mono ?_; rintro e w2 ⟨rfl, hb2⟩)
      go_ret
      exact ⟨rfl, hb2⟩
    · have hcall := (hO1.callI ((x : Int) - k) y (colX x k W) y (by unfold colX; omega) rfl hl hy)
      go_enter Tryz.func147, Tryz.ntmps147
      go_wp2_with (go_at_call 142; refine hcall.mono ?_; rintro e w2 ⟨rfl, hb2⟩)
      go_ret
      exact ⟨rfl, hb2⟩
theorem rule5_tells {w : World} {d c b off cap W H : Nat} {ps : List Int} (k : Int) (hO : Old w d c b off cap W H ps) :
    Tells w 151 #[.pointer (some ⟨d, 0, none⟩)] (2 * W) (2 * H) (oneG 12 W H k ps) := by
  refine ⟨rule5_enters, fun x y w1 hx hy hbel => ?_⟩
  have hO1 := hO.below hbel
  have hcd := hO1.cd
  obtain ⟨hw1, hw2⟩ := hO.fn.hW
  obtain ⟨hh1, hh2⟩ := hO.fn.hH
  have hcall := (hO1.callI ((x : Int) / 2) ((y : Int) / 2) (x / 2) (y / 2) (by omega) (by omega) (by omega) (by omega))
  clear hO hbel
  show Calls Tryz.prog 151 #[.int .i64 x, .int .i64 y, .pointer (some ⟨d, 0, none⟩)] w1 fun e w2 => e = .returned (.int .i64 (px W ps (x / 2) (y / 2))) ∧ _
  go_enter Tryz.func151, Tryz.ntmps151
  go_wp2_with (go_at_call 142; refine hcall.mono ?_; rintro e w2 ⟨rfl, hb2⟩)
  go_ret
  exact ⟨rfl, hb2⟩
theorem mean_anyI (W H : Nat) (n : Nat) (caps : Array Value) (p : Nat → Nat → Int) (w : World) (L T R B : Int) (l t r b : Nat) (e1 : L = l) (e2 : T = t) (e3 : R = r) (e4 : B = b) (hW : W ≤ 16) (hH : H ≤ 16) (h1 : l ≤ r) (h2 : r < W) (h3 : t ≤ b) (h4 : b < H)
    (hp : ∀ x y, x < W → y < H → 0 ≤ p x y ∧ p x y ≤ 65535) (hf : Tells w n caps W H p) :
    Calls Tryz.prog 149 #[.func (.func n) #[] caps, .int .i64 L, .int .i64 T, .int .i64 R, .int .i64 B] w fun e w' => e = .returned (.int .i64 (meanP p l t r b)) ∧ Below w.heap.size w w' := by
  subst e1 e2 e3 e4; exact mean_any W H n caps p w l t r b hW hH h1 h2 h3 h4 hp hf
theorem rule4_tells {w : World} {d c b off cap W H : Nat} {ps : List Int} (k : Int) (hO : Old w d c b off cap W H ps) :
    Tells w 150 #[.pointer (some ⟨d, 0, none⟩)] (W / 2) (H / 2) (oneG 11 W H k ps) := by
  refine ⟨rule4_enters, fun x y w1 hx hy hbel => ?_⟩
  have hO1 := hO.below hbel
  have hcd := hO1.cd
  obtain ⟨hw1, hw2⟩ := hO.fn.hW
  obtain ⟨hh1, hh2⟩ := hO.fn.hH
  have hcall := (mean_anyI W H _ _ _ w1 (2 * (x : Int)) (2 * (y : Int)) (2 * (x : Int) + 1) (2 * (y : Int) + 1) (2 * x) (2 * y) (2 * x + 1) (2 * y + 1) (by omega) (by omega) (by omega) (by omega) hw2 hh2 (by omega) (by omega) (by omega) (by omega) hO1.fn.px_bd (numbers_tells hO1.bx hO1.fn))
  clear hO hbel
  show Calls Tryz.prog 150 #[.int .i64 x, .int .i64 y, .pointer (some ⟨d, 0, none⟩)] w1 fun e w2 => e = .returned (.int .i64 (meanP (px W ps) (2 * x) (2 * y) (2 * x + 1) (2 * y + 1))) ∧ _
  go_enter Tryz.func150, Tryz.ntmps150
  go_wp2_with (go_at_call 149; refine hcall.mono ?_; rintro e w2 ⟨rfl, hb2⟩)
  go_ret
  exact ⟨rfl, hb2⟩
end Go.Proofs.YtihliofhhjjeaaaGreat
namespace Go.Proofs.YtihliofhhjjeaaaGreat
open Go.RowKit Im
theorem rule3_tells {w : World} {d c b off cap W H ib : Nat} {ps : List Int} (k : Int) (hO : Old w d c b off cap W H ps) (hI : Boxed w ib b off cap W H) :
    Tells w 148 #[.pointer (some ⟨d, 0, none⟩), .pointer (some ⟨ib, 0, none⟩)] W H (oneG 10 W H k ps) := by
  refine ⟨rule3_enters, fun x y w1 hx hy hbel => ?_⟩
  have hO1 := hO.below hbel
  have hcd := hO1.cd
  obtain ⟨hw1, hw2⟩ := hO.fn.hW
  obtain ⟨hh1, hh2⟩ := hO.fn.hH
  have hi0 := (hI.below hbel).c0
  have hi1 := (hI.below hbel).c1
  obtain ⟨L, hL⟩ : ∃ L : Int, (if (x : Int) - 1 < 0 then 0 else (x : Int) - 1) = L := ⟨_, rfl⟩
  obtain ⟨T, hT⟩ : ∃ L : Int, (if (y : Int) - 1 < 0 then 0 else (y : Int) - 1) = L := ⟨_, rfl⟩
  obtain ⟨R, hR⟩ : ∃ L : Int, (if (W : Int) - 1 < (x : Int) + 1 then (W : Int) - 1 else (x : Int) + 1) = L := ⟨_, rfl⟩
  obtain ⟨B, hB⟩ : ∃ L : Int, (if (H : Int) - 1 < (y : Int) + 1 then (H : Int) - 1 else (y : Int) + 1) = L := ⟨_, rfl⟩
  have hcall := mean_anyI W H _ _ _ w1 L T R B (x - 1) (y - 1) (min (x + 1) (W - 1)) (min (y + 1) (H - 1)) (by subst hL; split <;> omega) (by subst hT; split <;> omega) (by subst hR; split <;> omega) (by subst hB; split <;> omega) hw2 hh2 (by omega) (by omega) (by omega) (by omega) hO1.fn.px_bd (numbers_tells hO1.bx hO1.fn)
  clear hO hbel hI hO1
  show Calls Tryz.prog 148 #[.int .i64 x, .int .i64 y, .pointer (some ⟨d, 0, none⟩), .pointer (some ⟨ib, 0, none⟩)] w1 fun e w2 => e = .returned (.int .i64 (meanP (px W ps) (x - 1) (y - 1) (min (x + 1) (W - 1)) (min (y + 1) (H - 1)))) ∧ _
  go_enter Tryz.func148, Tryz.ntmps148
  go_wp2_with (go_at_call 149; refine hcall.mono ?_; rintro e w2 ⟨rfl, hb2⟩)
  go_ret
  exact ⟨rfl, hb2⟩
end Go.Proofs.YtihliofhhjjeaaaGreat
namespace Go.Proofs.YtihliofhhjjeaaaGreat
open Go.RowKit Im
def makeG (op k : Int) (x y : Nat) : Int := if op = 1 then k else ((x : Int) * k + y) % 65536
abbrev noImage : Value := .agg #[.int .i64 0, .int .i64 0, .slice none 0 0]
theorem make1_enters : ∀ args w, (callFunc 107 args).run Tryz.prog w = .ok (.enter 107 args) w := fun _ _ => by kernel_rfl
theorem make2_enters : ∀ args w, (callFunc 108 args).run Tryz.prog w = .ok (.enter 108 args) w := fun _ _ => by kernel_rfl
theorem make1_tells (w : World) (b W H : Nat) (k : Int) (hb : b < w.heap.size) (hc : w.cell? ⟨b, 0, none⟩ = some (.int .i64 k)) : Tells w 107 #[.pointer (some ⟨b, 0, none⟩)] W H (makeG 1 k) := by
  refine ⟨make1_enters, fun x y w1 _ _ hbel => ?_⟩
  have hc1 : w1.cell? ⟨b, 0, none⟩ = some (.int .i64 k) := (hbel.cell (p := ⟨b, 0, none⟩) hb).trans hc
  show Calls Tryz.prog 107 #[.int .i64 x, .int .i64 y, .pointer (some ⟨b, 0, none⟩)] w1 _
  go_enter Tryz.func107, Tryz.ntmps107
  go_wp2
  go_ret
  exact ⟨rfl, Below.refl _ _⟩
theorem make2_tells (w : World) (b W H : Nat) (k : Int) (hb : b < w.heap.size) (hc : w.cell? ⟨b, 0, none⟩ = some (.int .i64 k)) (hW : W ≤ 16) (hH : H ≤ 16) (hk : 0 ≤ k ∧ k ≤ 65535) : Tells w 108 #[.pointer (some ⟨b, 0, none⟩)] W H (makeG 2 k) := by
  refine ⟨make2_enters, fun x y w1 hx hy hbel => ?_⟩
  have hc1 : w1.cell? ⟨b, 0, none⟩ = some (.int .i64 k) := (hbel.cell (p := ⟨b, 0, none⟩) hb).trans hc
  have hm1 : 0 ≤ (x : Int) * k := Int.mul_nonneg (by omega) hk.1
  have hm2 : (x : Int) * k ≤ 16 * 65535 := Int.mul_le_mul (by omega) hk.2 hk.1 (by omega)
  show Calls Tryz.prog 108 #[.int .i64 x, .int .i64 y, .pointer (some ⟨b, 0, none⟩)] w1 _
  go_enter Tryz.func108, Tryz.ntmps108
  go_wp2
  go_ret
  exact ⟨rfl, Below.refl _ _⟩
theorem make_kind (op W H k : Int) (w : World) (h : ¬ op = 1) (h' : ¬ op = 2) :
    Calls Tryz.prog 69 #[.int .i64 op, .int .i64 W, .int .i64 H, .int .i64 k] w fun e w' => e = .returned (.tuple #[noImage, .int .i64 4]) ∧ Below w.heap.size w w' := by
  have hb : (op != 1) = true := by simpa using h
  have hb' : (op != 2) = true := by simpa using h'
  go_enter Tryz.func69, Tryz.ntmps69
  go_wp2
  exact bodyPost_ret (v := .tuple #[noImage, .int .i64 4]) (by simp [results, Tryz.results69, go_sem]) rfl ⟨rfl, ((Below.refl _ _).alloc (Nat.le_refl _) _).alloc (by simp) _⟩
theorem make_range (op W H k : Int) (w : World) (h : op = 1 ∨ op = 2) (hr : (sideB W && sideB H && numB k) = false) :
    Calls Tryz.prog 69 #[.int .i64 op, .int .i64 W, .int .i64 H, .int .i64 k] w fun e w' => e = .returned (.tuple #[noImage, .int .i64 3]) ∧ Below w.heap.size w w' := by
  rcases h with rfl | rfl
  all_goals
    by_cases h1 : sideB W = true
    · by_cases h2 : sideB H = true
      · have h3 : numB k = false := by rw [h1, h2] at hr; simpa using hr
        clear hr
        go_enter Tryz.func69, Tryz.ntmps69
        go_wp2_with (first | (go_at_call 50; refine (isSide_any _ _).mono ?_; rintro e w' ⟨rfl, rfl⟩) | (go_at_call 51; refine (isNumber_any _ _).mono ?_; rintro e w' ⟨rfl, rfl⟩))
        exact bodyPost_ret (v := .tuple #[noImage, .int .i64 3]) (by simp [results, Tryz.results69, go_sem]) rfl ⟨rfl, ((Below.refl _ _).alloc (Nat.le_refl _) _).alloc (by simp) _⟩
      · have h2' : sideB H = false := by simpa using h2
        clear hr
        go_enter Tryz.func69, Tryz.ntmps69
        go_wp2_with (first | (go_at_call 50; refine (isSide_any _ _).mono ?_; rintro e w' ⟨rfl, rfl⟩) | (go_at_call 51; refine (isNumber_any _ _).mono ?_; rintro e w' ⟨rfl, rfl⟩))
        exact bodyPost_ret (v := .tuple #[noImage, .int .i64 3]) (by simp [results, Tryz.results69, go_sem]) rfl ⟨rfl, ((Below.refl _ _).alloc (Nat.le_refl _) _).alloc (by simp) _⟩
    · have h1' : sideB W = false := by simpa using h1
      clear hr
      go_enter Tryz.func69, Tryz.ntmps69
      go_wp2_with (first | (go_at_call 50; refine (isSide_any _ _).mono ?_; rintro e w' ⟨rfl, rfl⟩) | (go_at_call 51; refine (isNumber_any _ _).mono ?_; rintro e w' ⟨rfl, rfl⟩))
      exact bodyPost_ret (v := .tuple #[noImage, .int .i64 3]) (by simp [results, Tryz.results69, go_sem]) rfl ⟨rfl, ((Below.refl _ _).alloc (Nat.le_refl _) _).alloc (by simp) _⟩
set_option maxHeartbeats 1000000 in
theorem make_ok (op : Int) (W H : Nat) (k : Int) (w : World) (h : op = 1 ∨ op = 2) (h1 : sideB W = true) (h2 : sideB H = true) (h3 : numB k = true) :
    Calls Tryz.prog 69 #[.int .i64 op, .int .i64 W, .int .i64 H, .int .i64 k] w fun e w' =>
      ∃ a cap, e = .returned (.tuple #[.agg #[.int .i64 W, .int .i64 H, .slice a (W * H) cap], .int .i64 0]) ∧ Ints w.heap.size w' a (W * H) (pix W (makeG op k) (W * H)) ∧ Below w.heap.size w w' := by
  have b1 := (side_iff _).1 h1
  have b2 := (side_iff _).1 h2
  have b3 := (num_iff _).1 h3
  have hB : Below w.heap.size w ((w.alloc (.cells #[.int .i64 k] 3)).alloc (.cells #[.int .i64 0, .int .i64 0, .slice none 0 0] 31)) := ((Below.refl _ _).alloc (Nat.le_refl _) _).alloc (by simp) _
  have hk : ((w.alloc (.cells #[.int .i64 k] 3)).alloc (.cells #[.int .i64 0, .int .i64 0, .slice none 0 0] 31)).cell? ⟨w.heap.size, 0, none⟩ = some (.int .i64 k) := by simp [go_sem]
  rcases h with rfl | rfl
  · have t := make1_tells _ w.heap.size W H k (by simp; omega) hk
    go_enter Tryz.func69, Tryz.ntmps69
    go_wp2_with (first
      | (go_at_call 50; refine (isSide_any _ _).mono ?_; rintro e w' ⟨rfl, rfl⟩)
      | (go_at_call 51; refine (isNumber_any _ _).mono ?_; rintro e w' ⟨rfl, rfl⟩)
      | (go_at_call 106; refine (draw_any W H _ _ _ _ (by omega) (by omega) t).mono ?_; rintro e w2 ⟨a, cap, rfl, hints, hbel⟩; obtain ⟨hcc, hff⟩ := bcell hbel; have hsz : w.heap.size + 1 < w2.heap.size := by have := hbel.size; simp at this; omega))
    have e1 : w2.cell? ⟨w.heap.size + 1, 0, none⟩ = some (.int .i64 0) := by rw [hcc _ _ (by simp)]; simp [go_sem]
    have e2 : w2.cell? ⟨w.heap.size + 1, 1, none⟩ = some (.int .i64 0) := by rw [hcc _ _ (by simp)]; simp [go_sem]
    have e3 : w2.cell? ⟨w.heap.size + 1, 2, none⟩ = some (.slice none 0 0) := by rw [hcc _ _ (by simp)]; simp [go_sem]
    refine bodyPost_ret (v := .tuple #[.agg #[.int .i64 W, .int .i64 H, .slice a (W * H) cap], .int .i64 0]) (by simp [results, Tryz.results69, go_sem, e1, e2, e3]) rfl ⟨a, cap, rfl, ?_, ?_⟩
    · exact (((hints.setCell (by simp) _).setCell (by simp) _).setCell (by simp) _).mono (by simp; omega)
    · exact (((hB.trans (hbel.mono (by simp; omega))).setCell (by simp) _).setCell (by simp) _).setCell (by simp) _
  · have t := make2_tells _ w.heap.size W H k (by simp; omega) hk (by omega) (by omega) b3
    go_enter Tryz.func69, Tryz.ntmps69
    go_wp2_with (first
      | (go_at_call 50; refine (isSide_any _ _).mono ?_; rintro e w' ⟨rfl, rfl⟩)
      | (go_at_call 51; refine (isNumber_any _ _).mono ?_; rintro e w' ⟨rfl, rfl⟩)
      | (go_at_call 106; refine (draw_any W H _ _ _ _ (by omega) (by omega) t).mono ?_; rintro e w2 ⟨a, cap, rfl, hints, hbel⟩; obtain ⟨hcc, hff⟩ := bcell hbel; have hsz : w.heap.size + 1 < w2.heap.size := by have := hbel.size; simp at this; omega))
    have e1 : w2.cell? ⟨w.heap.size + 1, 0, none⟩ = some (.int .i64 0) := by rw [hcc _ _ (by simp)]; simp [go_sem]
    have e2 : w2.cell? ⟨w.heap.size + 1, 1, none⟩ = some (.int .i64 0) := by rw [hcc _ _ (by simp)]; simp [go_sem]
    have e3 : w2.cell? ⟨w.heap.size + 1, 2, none⟩ = some (.slice none 0 0) := by rw [hcc _ _ (by simp)]; simp [go_sem]
    refine bodyPost_ret (v := .tuple #[.agg #[.int .i64 W, .int .i64 H, .slice a (W * H) cap], .int .i64 0]) (by simp [results, Tryz.results69, go_sem, e1, e2, e3]) rfl ⟨a, cap, rfl, ?_, ?_⟩
    · exact (((hints.setCell (by simp) _).setCell (by simp) _).setCell (by simp) _).mono (by simp; omega)
    · exact (((hB.trans (hbel.mono (by simp; omega))).setCell (by simp) _).setCell (by simp) _).setCell (by simp) _
end Go.Proofs.YtihliofhhjjeaaaGreat
