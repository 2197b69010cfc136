/- Frm, InRef, Given: joined, in this order. -/
import Derived.Test.YtfpkiimlaepnhaaM02
/-
  FRM: what a frame is, its errors, its sizes and its sources, as numbers and lists alone.
-/
namespace Go.Proofs.Ytfpkiimlaepnhaa
set_option maxRecDepth 100000
open Go.RowKit Im

/-- A pass. -/
structure Ps where
  Op : Int
  To : Int
  A : Int
  B : Int
  K : Int
  ls : List Lt
abbrev Ps.zero : Ps := ⟨0, 0, 0, 0, 0, []⟩
/-- A frame. -/
structure Fr where
  W : Int
  H : Int
  S : Int
  O : Int
  ps : List Ps
abbrev Sz := Int × Int
abbrev Sz.zero : Sz := (0, 0)

def hasA (op : Int) : Bool := withinB op 3 13
def hasB (op : Int) : Bool := withinB op 4 7
def hasK (op : Int) : Bool := decide (op = 1) || decide (op = 2) || decide (op = 8) || decide (op = 9) || decide (op = 13)
def hasL (op : Int) : Bool := decide (op = 13)
def knownB (op : Int) : Bool := withinB op 1 13
def slotB (n S : Int) : Bool := withinB n 0 (S - 1)
def kB (op k : Int) : Bool := if op = 9 then withinB k (-16) 16 else if op = 13 then withinB k 1 16 else withinB k 0 65535
def takesP (p : Ps) : List Int := if hasB p.Op then [p.A, p.B] else if hasA p.Op then [p.A] else []
def slotsB (p : Ps) (S : Int) : Bool := (takesP p).all (fun s => slotB s S) && slotB p.To S
def bareB (p : Ps) : Bool := (hasA p.Op || decide (p.A = 0)) && (hasB p.Op || decide (p.B = 0)) && (hasK p.Op || decide (p.K = 0)) && (hasL p.Op || decide (p.ls.length = 0))
def ownB (p : Ps) : Bool := (takesP p).any fun s => decide (s = p.To)
/-- The error that a pass has by itself. -/
def ownE (p : Ps) (S : Int) : Int :=
  if knownB p.Op = true then
    if slotsB p S = true ∧ (hasK p.Op = true → kB p.Op p.K = true) then
      if hasL p.Op = true ∧ lightsErr p.ls ≠ 0 then lightsErr p.ls
      else if bareB p = true ∧ ownB p = false then 0 else 1
    else 3
  else 4

/-- The last of the first n passes that made what lies in slot s; -1: none. -/
def wrt (ps : List Ps) : Nat → Int → Int
  | 0, _ => -1
  | n + 1, s => if (ps.getD n Ps.zero).To = s then n else wrt ps n s
def srcOf (ps : List Ps) (n : Nat) : List Int := (takesP (ps.getD n Ps.zero)).map (wrt ps n)
def thereB (is : List Int) : Bool := is.all fun i => decide (0 ≤ i)
def pickZ (zs : List Sz) (is : List Int) : List Sz := is.map fun i => zs.getD i.toNat Sz.zero
def sizeP (W H op : Int) (zs : List Sz) : Sz :=
  if op = 1 ∨ op = 2 then (W, H)
  else if op = 11 then ((zs.getD 0 Sz.zero).1 / 2, (zs.getD 0 Sz.zero).2 / 2)
  else if op = 12 then (2 * (zs.getD 0 Sz.zero).1, 2 * (zs.getD 0 Sz.zero).2)
  else zs.getD 0 Sz.zero
def fitP (op : Int) (zs : List Sz) : Bool :=
  if op = 11 then decide ((zs.getD 0 Sz.zero).1 % 2 = 0) && decide ((zs.getD 0 Sz.zero).2 % 2 = 0)
  else if op = 12 then decide (2 * (zs.getD 0 Sz.zero).1 ≤ 16) && decide (2 * (zs.getD 0 Sz.zero).2 ≤ 16)
  else if hasB op = true then decide (zs.getD 0 Sz.zero = zs.getD 1 Sz.zero)
  else true
/-- The sizes of the first n passes' images. -/
def szs (f : Fr) : Nat → List Sz
  | 0 => []
  | n + 1 => szs f n ++ [sizeP f.W f.H (f.ps.getD n Ps.zero).Op (pickZ (szs f n) (srcOf f.ps n))]
/-- The error of pass n, where the passes ahead of it have none. -/
def passE (f : Fr) (n : Nat) : Int :=
  if ownE (f.ps.getD n Ps.zero) f.S = 0 then
    if thereB (srcOf f.ps n) = true then
      if fitP (f.ps.getD n Ps.zero).Op (pickZ (szs f n) (srcOf f.ps n)) = true then 0 else 6
    else 5
  else ownE (f.ps.getD n Ps.zero) f.S
/-- The first error of the first n passes. -/
def firstE (f : Fr) : Nat → Int
  | 0 => 0
  | n + 1 => if firstE f n = 0 then passE f n else firstE f n
def boundsE (f : Fr) : Int :=
  if sideB f.W = true ∧ sideB f.H = true ∧ withinB f.S 1 8 = true ∧ slotB f.O f.S = true then
    if withinB f.ps.length 1 12 = true then 0 else 2
  else 3
def shownP (f : Fr) : Int := wrt f.ps f.ps.length f.O
/-- The error of a frame. -/
def frameE (f : Fr) : Int :=
  if boundsE f = 0 then
    if firstE f f.ps.length = 0 then
      if 0 ≤ shownP f then 0 else 5
    else firstE f f.ps.length
  else boundsE f

theorem szs_length (f : Fr) (n : Nat) : (szs f n).length = n := by
  induction n with
  | zero => rfl
  | succ n ih => simp [szs, ih]
theorem firstE_stays (f : Fr) {k : Nat} {e : Int} (h : firstE f k = e) (he : e ≠ 0) (n : Nat) : firstE f (k + n) = e := by
  induction n with
  | zero => exact h
  | succ n ih =>
    show (if firstE f (k + n) = 0 then passE f (k + n) else firstE f (k + n)) = e
    rw [ih, if_neg he]
theorem firstE_at (f : Fr) {k : Nat} (h : firstE f k = 0) : firstE f (k + 1) = passE f k := by
  show (if firstE f k = 0 then passE f k else firstE f k) = _
  rw [if_pos h]
theorem firstE_end (f : Fr) {k : Nat} (h : firstE f k = 0) (he : passE f k ≠ 0) {n : Nat} (hk : k < n) : firstE f n = passE f k := by
  have h1 := firstE_at f h
  obtain ⟨m, rfl⟩ : ∃ m, n = k + 1 + m := ⟨n - (k + 1), by omega⟩
  exact firstE_stays f h1 he m
theorem firstE_down (f : Fr) {n : Nat} (h : firstE f n = 0) {k : Nat} (hk : k ≤ n) : firstE f k = 0 := by
  by_cases h0 : firstE f k = 0
  · exact h0
  · obtain ⟨m, rfl⟩ : ∃ m, n = k + m := ⟨n - k, by omega⟩
    have := firstE_stays f (k := k) rfl h0 m
    omega
theorem wrt_bd (ps : List Ps) (n : Nat) (s : Int) : -1 ≤ wrt ps n s ∧ wrt ps n s < n := by
  induction n with
  | zero => simp [wrt]
  | succ n ih =>
    show -1 ≤ (if (ps.getD n Ps.zero).To = s then (n : Int) else wrt ps n s) ∧ (if (ps.getD n Ps.zero).To = s then (n : Int) else wrt ps n s) < (n + 1 : Nat)
    split <;> omega
theorem wrt_to (ps : List Ps) (n : Nat) (s : Int) (h : 0 ≤ wrt ps n s) : (ps.getD (wrt ps n s).toNat Ps.zero).To = s := by
  induction n with
  | zero => simp [wrt] at h
  | succ n ih =>
    revert h
    show 0 ≤ (if (ps.getD n Ps.zero).To = s then (n : Int) else wrt ps n s) → (ps.getD (if (ps.getD n Ps.zero).To = s then (n : Int) else wrt ps n s).toNat Ps.zero).To = s
    split
    · intro _; simpa using ‹_›
    · exact ih
/-- A right size. -/
def ZB (z : Sz) : Prop := (1 ≤ z.1 ∧ z.1 ≤ 16) ∧ (1 ≤ z.2 ∧ z.2 ≤ 16)
theorem op_cases {op : Int} (h : knownB op = true) : op = 1 ∨ op = 2 ∨ op = 3 ∨ op = 4 ∨ op = 5 ∨ op = 6 ∨ op = 7 ∨ op = 8 ∨ op = 9 ∨ op = 10 ∨ op = 11 ∨ op = 12 ∨ op = 13 := by
  simp [knownB, withinB] at h; omega
theorem ownE_zero {p : Ps} {S : Int} (h : ownE p S = 0) : knownB p.Op = true ∧ slotsB p S = true ∧ (hasK p.Op = true → kB p.Op p.K = true) ∧ (hasL p.Op = true → lightsErr p.ls = 0) ∧ bareB p = true ∧ ownB p = false := by
  unfold ownE at h
  by_cases h1 : knownB p.Op = true
  · rw [if_pos h1] at h
    by_cases h2 : slotsB p S = true ∧ (hasK p.Op = true → kB p.Op p.K = true)
    · rw [if_pos h2] at h
      by_cases h3 : hasL p.Op = true ∧ lightsErr p.ls ≠ 0
      · rw [if_pos h3] at h; exact absurd h h3.2
      · rw [if_neg h3] at h
        by_cases h4 : bareB p = true ∧ ownB p = false
        · exact ⟨h1, h2.1, h2.2, fun h5 => Classical.byContradiction fun h6 => h3 ⟨h5, h6⟩, h4.1, h4.2⟩
        · rw [if_neg h4] at h; cases h
    · rw [if_neg h2] at h; cases h
  · rw [if_neg h1] at h; cases h
theorem passE_zero {f : Fr} {n : Nat} (h : passE f n = 0) : ownE (f.ps.getD n Ps.zero) f.S = 0 ∧ thereB (srcOf f.ps n) = true ∧ fitP (f.ps.getD n Ps.zero).Op (pickZ (szs f n) (srcOf f.ps n)) = true := by
  unfold passE at h
  by_cases h1 : ownE (f.ps.getD n Ps.zero) f.S = 0
  · rw [if_pos h1] at h
    by_cases h2 : thereB (srcOf f.ps n) = true
    · rw [if_pos h2] at h
      by_cases h3 : fitP (f.ps.getD n Ps.zero).Op (pickZ (szs f n) (srcOf f.ps n)) = true
      · exact ⟨h1, h2, h3⟩
      · rw [if_neg h3] at h; cases h
    · rw [if_neg h2] at h; cases h
  · rw [if_neg h1] at h; exact absurd h h1
theorem src_bd {ps : List Ps} {n : Nat} (h : thereB (srcOf ps n) = true) : ∀ i ∈ srcOf ps n, 0 ≤ i ∧ i < n := by
  intro i hi
  have h1 : 0 ≤ i := by
    unfold thereB at h
    rw [List.all_eq_true] at h
    simpa using h i hi
  unfold srcOf at hi
  rw [List.mem_map] at hi
  obtain ⟨s, _, rfl⟩ := hi
  exact ⟨h1, (wrt_bd ps n s).2⟩
theorem hasA_of {p : Ps} (h : knownB p.Op = true) (h1 : ¬ p.Op = 1) (h2 : ¬ p.Op = 2) : hasA p.Op = true := by
  simp [knownB, withinB] at h; simp [hasA, withinB]; omega
theorem takes_pos {p : Ps} (h : hasA p.Op = true) : ∃ r, takesP p = p.A :: r := by
  unfold takesP
  by_cases hb : hasB p.Op = true
  · rw [if_pos hb]; exact ⟨_, rfl⟩
  · rw [if_neg hb, if_pos h]; exact ⟨_, rfl⟩
theorem pickZ_bd {zs : List Sz} {is : List Int} {n : Nat} (hl : zs.length = n) (hz : ∀ z ∈ zs, ZB z) (hi : ∀ i ∈ is, 0 ≤ i ∧ i < n) : ∀ z ∈ pickZ zs is, ZB z := by
  intro z h
  unfold pickZ at h
  rw [List.mem_map] at h
  obtain ⟨i, h1, rfl⟩ := h
  have h2 := hi i h1
  have h3 : i.toNat < zs.length := by omega
  rw [List.getD_eq_getElem?_getD, List.getElem?_eq_getElem h3]
  exact hz _ (List.getElem_mem h3)
theorem getD_mem {α : Type} {l : List α} {k : Nat} (h : k < l.length) (d : α) : l.getD k d ∈ l := by
  rw [List.getD_eq_getElem?_getD, List.getElem?_eq_getElem h]
  exact List.getElem_mem h
theorem sizeP_bd {W H op : Int} {zs : List Sz} (hW : 1 ≤ W ∧ W ≤ 16) (hH : 1 ≤ H ∧ H ≤ 16) (hk : knownB op = true) (hz : ∀ z ∈ zs, ZB z) (hl : hasA op = true → 0 < zs.length) (hf : fitP op zs = true) : ZB (sizeP W H op zs) := by
  unfold sizeP
  by_cases h1 : op = 1 ∨ op = 2
  · rw [if_pos h1]; exact ⟨hW, hH⟩
  · rw [if_neg h1]
    have hA : hasA op = true := by simp [knownB, withinB] at hk; simp [hasA, withinB]; omega
    have h0 := hz _ (getD_mem (hl hA) Sz.zero)
    unfold fitP at hf
    by_cases h2 : op = 11
    · rw [if_pos h2] at hf ⊢
      simp only [Bool.and_eq_true, decide_eq_true_eq] at hf
      obtain ⟨⟨a1, a2⟩, ⟨a3, a4⟩⟩ := h0
      refine ⟨⟨?_, ?_⟩, ⟨?_, ?_⟩⟩ <;> dsimp only <;> omega
    · rw [if_neg h2] at hf ⊢
      by_cases h3 : op = 12
      · rw [if_pos h3] at hf ⊢
        simp only [Bool.and_eq_true, decide_eq_true_eq] at hf
        obtain ⟨⟨a1, a2⟩, ⟨a3, a4⟩⟩ := h0
        refine ⟨⟨?_, ?_⟩, ⟨?_, ?_⟩⟩ <;> dsimp only <;> omega
      · rw [if_neg h3]; exact h0
theorem szs_bd {f : Fr} (hb : boundsE f = 0) : ∀ {n : Nat}, firstE f n = 0 → ∀ z ∈ szs f n, ZB z
  | 0, _ => by intro z h; cases h
  | n + 1, h => by
    have h0 := firstE_down f h (Nat.le_succ n)
    have ih := szs_bd hb h0
    rw [firstE_at f h0] at h
    obtain ⟨p1, p2, p3⟩ := passE_zero h
    obtain ⟨o1, _⟩ := ownE_zero p1
    have hWH : (1 ≤ f.W ∧ f.W ≤ 16) ∧ (1 ≤ f.H ∧ f.H ≤ 16) := by
      unfold boundsE at hb
      by_cases hc : sideB f.W = true ∧ sideB f.H = true ∧ withinB f.S 1 8 = true ∧ slotB f.O f.S = true
      · exact ⟨(side_iff _).1 hc.1, (side_iff _).1 hc.2.1⟩
      · rw [if_neg hc] at hb; cases hb
    intro z hz
    have e : szs f (n + 1) = szs f n ++ [sizeP f.W f.H (f.ps.getD n Ps.zero).Op (pickZ (szs f n) (srcOf f.ps n))] := rfl
    rw [e, List.mem_append] at hz
    rcases hz with hz | hz
    · exact ih z hz
    · rw [List.mem_singleton] at hz
      subst hz
      refine sizeP_bd hWH.1 hWH.2 o1 (pickZ_bd (szs_length f n) ih (src_bd p2)) (fun hA => ?_) p3
      obtain ⟨r, hr⟩ := takes_pos hA
      unfold pickZ srcOf; rw [hr]; simp
theorem boundsE_zero {f : Fr} (h : boundsE f = 0) : (1 ≤ f.W ∧ f.W ≤ 16) ∧ (1 ≤ f.H ∧ f.H ≤ 16) ∧ (1 ≤ f.S ∧ f.S ≤ 8) ∧ (0 ≤ f.O ∧ f.O < f.S) ∧ (1 ≤ f.ps.length ∧ f.ps.length ≤ 12) := by
  unfold boundsE at h
  by_cases hc : sideB f.W = true ∧ sideB f.H = true ∧ withinB f.S 1 8 = true ∧ slotB f.O f.S = true
  · rw [if_pos hc] at h
    by_cases hd : withinB f.ps.length 1 12 = true
    · obtain ⟨h1, h2, h3, h4⟩ := hc
      simp [withinB, slotB] at h3 h4 hd
      refine ⟨(side_iff _).1 h1, (side_iff _).1 h2, ?_, ?_, ?_⟩ <;> omega
    · rw [if_neg hd] at h; cases h
  · rw [if_neg hc] at h; cases h
theorem frameE_zero {f : Fr} (h : frameE f = 0) : boundsE f = 0 ∧ firstE f f.ps.length = 0 ∧ 0 ≤ shownP f := by
  unfold frameE at h
  by_cases h1 : boundsE f = 0
  · rw [if_pos h1] at h
    by_cases h2 : firstE f f.ps.length = 0
    · rw [if_pos h2] at h
      by_cases h3 : 0 ≤ shownP f
      · exact ⟨h1, h2, h3⟩
      · rw [if_neg h3] at h; cases h
    · rw [if_neg h2] at h; exact absurd h h2
  · rw [if_neg h1] at h; exact absurd h h1
end Go.Proofs.Ytfpkiimlaepnhaa
/-
  INREF: numbers and lists alone: the sizes by slots, as the reference holds them, and its error of a pass.
-/
namespace Go.Proofs.Ytfpkiimlaepnhaa
set_option maxRecDepth 100000
open Go.RowKit Im

/-- The size of what lies in slot s ahead of pass n; (0, 0): nothing. -/
def inP (f : Fr) (n : Nat) (s : Int) : Sz := if 0 ≤ wrt f.ps n s then (szs f n).getD (wrt f.ps n s).toNat Sz.zero else Sz.zero
theorem inP_some {f : Fr} {n : Nat} {s : Int} (hb : boundsE f = 0) (h : firstE f n = 0) (hw : 0 ≤ wrt f.ps n s) : ZB (inP f n s) := by
  unfold inP
  rw [if_pos hw]
  have := wrt_bd f.ps n s
  exact szs_bd hb h _ (getD_mem (by rw [szs_length]; omega) _)
theorem inP_none {f : Fr} {n : Nat} {s : Int} (hw : ¬ 0 ≤ wrt f.ps n s) : inP f n s = (0, 0) := by unfold inP; rw [if_neg hw]
theorem inP_zero {f : Fr} {n : Nat} {s : Int} (hb : boundsE f = 0) (h : firstE f n = 0) : (inP f n s).1 = 0 ↔ ¬ 0 ≤ wrt f.ps n s := by
  constructor
  · intro e hw
    have := (inP_some hb h hw).1
    omega
  · intro hw
    rw [inP_none hw]
theorem inP_start (f : Fr) (s : Int) : inP f 0 s = (0, 0) := inP_none (by simp [wrt])
theorem inP_succ (f : Fr) (n : Nat) (s : Int) : inP f (n + 1) s = if (f.ps.getD n Ps.zero).To = s then sizeP f.W f.H (f.ps.getD n Ps.zero).Op (pickZ (szs f n) (srcOf f.ps n)) else inP f n s := by
  have e : szs f (n + 1) = szs f n ++ [sizeP f.W f.H (f.ps.getD n Ps.zero).Op (pickZ (szs f n) (srcOf f.ps n))] := rfl
  have hl := szs_length f n
  have ew : wrt f.ps (n + 1) s = if (f.ps.getD n Ps.zero).To = s then (n : Int) else wrt f.ps n s := rfl
  unfold inP
  rw [ew]
  by_cases ht : (f.ps.getD n Ps.zero).To = s
  · rw [if_pos ht, if_pos ht, if_pos (by omega), e, Int.toNat_natCast, List.getD_eq_getElem?_getD, List.getElem?_append_right (by omega)]
    simp [hl]
  · rw [if_neg ht, if_neg ht]
    by_cases hw : 0 ≤ wrt f.ps n s
    · have := wrt_bd f.ps n s
      rw [if_pos hw, if_pos hw, e, List.getD_eq_getElem?_getD, List.getElem?_append_left (by omega), ← List.getD_eq_getElem?_getD]
    · rw [if_neg hw, if_neg hw]
/-- The reference's error of a pass that takes images of the sizes zA and zB. -/
def refE (p : Ps) (S : Int) (zA zB : Sz) : Int :=
  if ownE p S = 0 then
    if (hasA p.Op = true ∧ zA.1 = 0) ∨ (hasB p.Op = true ∧ zB.1 = 0) then 5
    else if hasB p.Op = true ∧ zA ≠ zB then 6
    else if (p.Op = 11 ∧ (zA.1 % 2 = 1 ∨ zA.2 % 2 = 1)) ∨ (p.Op = 12 ∧ (16 < 2 * zA.1 ∨ 16 < 2 * zA.2)) then 6
    else 0
  else ownE p S
theorem hasB_hasA {op : Int} (h : hasB op = true) : hasA op = true := by simp [hasB, withinB] at h; simp [hasA, withinB]; omega
theorem refE_eq {f : Fr} {n : Nat} (hb : boundsE f = 0) (h : firstE f n = 0) : refE (f.ps.getD n Ps.zero) f.S (inP f n (f.ps.getD n Ps.zero).A) (inP f n (f.ps.getD n Ps.zero).B) = passE f n := by
  have zA := inP_zero (f := f) (n := n) (s := (f.ps.getD n Ps.zero).A) hb h
  have zB := inP_zero (f := f) (n := n) (s := (f.ps.getD n Ps.zero).B) hb h
  have eA : 0 ≤ wrt f.ps n (f.ps.getD n Ps.zero).A → (szs f n).getD (wrt f.ps n (f.ps.getD n Ps.zero).A).toNat Sz.zero = inP f n (f.ps.getD n Ps.zero).A := fun hw => by unfold inP; rw [if_pos hw]
  have eB : 0 ≤ wrt f.ps n (f.ps.getD n Ps.zero).B → (szs f n).getD (wrt f.ps n (f.ps.getD n Ps.zero).B).toNat Sz.zero = inP f n (f.ps.getD n Ps.zero).B := fun hw => by unfold inP; rw [if_pos hw]
  unfold refE passE srcOf thereB
  by_cases ho : ownE (f.ps.getD n Ps.zero) f.S = 0
  · rw [if_pos ho, if_pos ho]
    clear ho
    generalize f.ps.getD n Ps.zero = p at *
    generalize inP f n p.A = za at *
    generalize inP f n p.B = zb at *
    unfold takesP fitP
    rw [List.getD_eq_getElem?_getD] at eA eB
    by_cases hB : hasB p.Op = true
    · have hA := hasB_hasA hB
      have n11 : ¬ p.Op = 11 := by simp [hasB, withinB] at hB; omega
      have n12 : ¬ p.Op = 12 := by simp [hasB, withinB] at hB; omega
      by_cases a1 : 0 ≤ wrt f.ps n p.A
      · have za0 : ¬ za.1 = 0 := fun e => (zA.1 e) a1
        by_cases b1 : 0 ≤ wrt f.ps n p.B
        · have zb0 : ¬ zb.1 = 0 := fun e => (zB.1 e) b1
          by_cases e : za = zb
          · simp [hB, hA, n11, n12, a1, b1, zb0, eA a1, eB b1, pickZ, e]
          · simp [hB, hA, n11, n12, a1, b1, za0, zb0, eA a1, eB b1, pickZ, e]
        · have zb0 := zB.2 b1
          simp [hB, hA, b1, zb0]
      · have za0 := zA.2 a1
        simp [hB, hA, a1, za0]
    · by_cases hA : hasA p.Op = true
      · by_cases a1 : 0 ≤ wrt f.ps n p.A
        · have za0 : ¬ za.1 = 0 := fun e => (zA.1 e) a1
          by_cases h11 : p.Op = 11
          · have x1 : hasA 11 = true := rfl
            have x2 : hasB 11 = false := rfl
            by_cases c1 : za.1 % 2 = 0 <;> by_cases c2 : za.2 % 2 = 0
            all_goals simp [x1, x2, a1, za0, eA a1, pickZ, h11, c1, c2]
            all_goals omega
          · by_cases h12 : p.Op = 12
            · have x1 : hasA 12 = true := rfl
              have x2 : hasB 12 = false := rfl
              by_cases c1 : 2 * za.1 ≤ 16 <;> by_cases c2 : 2 * za.2 ≤ 16
              all_goals simp [x1, x2, a1, za0, eA a1, pickZ, h12, c1, c2]
              all_goals omega
            · simp [hB, hA, a1, za0, h11, h12]
        · have za0 := zA.2 a1
          simp [hB, hA, a1, za0]
      · have n11 : ¬ p.Op = 11 := fun e => hA (by rw [e]; rfl)
        have n12 : ¬ p.Op = 12 := fun e => hA (by rw [e]; rfl)
        simp [hA, hB, n11, n12]
  · rw [if_neg ho, if_neg ho]
end Go.Proofs.Ytfpkiimlaepnhaa
/-
  GIVEN: what a light gives to a place; how far it is from a part.
-/
namespace Go.Proofs.Ytfpkiimlaepnhaa
set_option maxRecDepth 100000
open Go.RowKit Im

/-- How far c is from the nearest of n columns (or rows) from f on. -/
def awayP (c f n : Int) : Int := max (max (f - c) (c - (f + n - 1))) 0
theorem away_any (c f n : Int) (w : World) (hc : 0 ≤ c ∧ c < 16) (hf : 0 ≤ f ∧ f < 16) (hn : 1 ≤ n ∧ n ≤ 16) : Calls Try.prog 75 #[.int .i64 c, .int .i64 f, .int .i64 n] w fun e w' => e = .returned (.int .i64 (awayP c f n)) ∧ w' = w := by
  obtain ⟨m, hm⟩ : ∃ m, m = awayP c f n := ⟨_, rfl⟩
  rw [← hm]
  by_cases h1 : f - c < c - (f + n - 1)
  · by_cases h2 : c - (f + n - 1) < 0
    · have e : m = 0 := by rw [hm]; unfold awayP; omega
      subst e
      clear hm
      go_enter Try.func75, Try.ntmps75
      go_wp2
      go_ret
      exact ⟨rfl, rfl⟩
    · have e : m = c - (f + n - 1) := by rw [hm]; unfold awayP; omega
      subst e
      clear hm
      go_enter Try.func75, Try.ntmps75
      go_wp2
      go_ret
      exact ⟨rfl, rfl⟩
  · by_cases h2 : f - c < 0
    · have e : m = 0 := by rw [hm]; unfold awayP; omega
      subst e
      clear hm
      go_enter Try.func75, Try.ntmps75
      go_wp2
      go_ret
      exact ⟨rfl, rfl⟩
    · have e : m = f - c := by rw [hm]; unfold awayP; omega
      subst e
      clear hm
      go_enter Try.func75, Try.ntmps75
      go_wp2
      go_ret
      exact ⟨rfl, rfl⟩
theorem away_bd (c f n : Int) (hc : 0 ≤ c ∧ c < 16) (hf : 0 ≤ f ∧ f < 16) (hn : 1 ≤ n ∧ n ≤ 16) : 0 ≤ awayP c f n ∧ awayP c f n ≤ 15 := by unfold awayP; omega
/-- What a light gives to a place. -/
def givenP (l : Lt) (x y : Int) : Int := l.P * max (l.R - (awayP l.X x 1 + awayP l.Y y 1)) 0 / l.R
theorem given_bd {l : Lt} (hl : rightB l = true) (x y : Int) (hx : 0 ≤ x ∧ x < 16) (hy : 0 ≤ y ∧ y < 16) : 0 ≤ givenP l x y ∧ givenP l x y ≤ 65535 := by
  obtain ⟨hX, hY, hR, hP⟩ := (right_iff l).1 hl
  have a1 := away_bd l.X x 1 hX hx (by omega)
  have a2 := away_bd l.Y y 1 hY hy (by omega)
  unfold givenP
  have hd : 0 ≤ awayP l.X x 1 + awayP l.Y y 1 := by omega
  generalize awayP l.X x 1 + awayP l.Y y 1 = d at hd ⊢
  have h1 : 0 ≤ max (l.R - d) 0 ∧ max (l.R - d) 0 ≤ l.R := by omega
  · have m1 : 0 ≤ l.P * max (l.R - d) 0 := Int.mul_nonneg hP.1 h1.1
    have m2 : l.P * max (l.R - d) 0 ≤ 65535 * l.R := Int.mul_le_mul hP.2 h1.2 h1.1 (by omega)
    refine ⟨Int.ediv_nonneg m1 (by omega), ?_⟩
    have : l.P * max (l.R - d) 0 / l.R < 65536 := Int.ediv_lt_of_lt_mul (by omega) (by omega)
    omega
theorem given_any (l : Lt) (x y : Int) (w : World) (hl : rightB l = true) (hx : 0 ≤ x ∧ x < 16) (hy : 0 ≤ y ∧ y < 16) :
    Calls Try.prog 73 #[.agg #[.int .i64 l.X, .int .i64 l.Y, .int .i64 l.R, .int .i64 l.P], .int .i64 x, .int .i64 y] w fun e w' => e = .returned (.int .i64 (givenP l x y)) ∧ Below w.heap.size w w' := by
  obtain ⟨hX, hY, hR, hP⟩ := (right_iff l).1 hl
  have c1 := fun wx => away_any l.X x 1 wx hX hx (by omega)
  have c2 := fun wx => away_any l.Y y 1 wx hY hy (by omega)
  have a1 := away_bd l.X x 1 hX hx (by omega)
  have a2 := away_bd l.Y y 1 hY hy (by omega)
  have hg : givenP l x y = l.P * max (l.R - (awayP l.X x 1 + awayP l.Y y 1)) 0 / l.R := rfl
  generalize awayP l.X x 1 = d1 at *
  generalize awayP l.Y y 1 = d2 at *
  obtain ⟨X, Y, R, P⟩ := l
  dsimp only at *
  obtain ⟨m, hm⟩ : ∃ m, (if R - (d1 + d2) < 0 then 0 else R - (d1 + d2)) = m := ⟨_, rfl⟩
  have hm' : max (R - (d1 + d2)) 0 = m := by rw [← hm]; split <;> omega
  rw [hg, hm']
  have b1 : 0 ≤ m ∧ m ≤ 32 := by omega
  have m1 : 0 ≤ P * m := Int.mul_nonneg hP.1 b1.1
  have m2 : P * m ≤ 65535 * 32 := Int.mul_le_mul hP.2 b1.2 b1.1 (by omega)
  clear hg hm' hl
  go_enter Try.func73, Try.ntmps73
  go_wp2
  go_quiet ((first | (go_at_call 75; with_reducible exact Calls.quiet_of_same (c1 _)) | (go_at_call 75; with_reducible exact Calls.quiet_of_same (c2 _))))
  clear c1 c2
  go_wp2
  go_ret
  exact ⟨rfl, below_drewN ((Below.refl _ _).alloc (Nat.le_refl _) _) _⟩
theorem given_pos {l : Lt} {x y d : Int} (hd : awayP l.X x 1 + awayP l.Y y 1 = d) (h : d < l.R) : givenP l x y = l.P * (l.R - d) / l.R := by
  unfold givenP; rw [hd, show max (l.R - d) 0 = l.R - d by omega]
theorem given_zero {l : Lt} {x y d : Int} (hd : awayP l.X x 1 + awayP l.Y y 1 = d) (h : ¬ d < l.R) : givenP l x y = 0 := by
  unfold givenP; rw [hd, show max (l.R - d) 0 = 0 by omega]; simp
def stretchB (f n : Int) : Bool := placeB f && decide (1 ≤ n) && decide (n ≤ 16 - f)
theorem isStretch_any (f n : Int) (w : World) : Calls Try.prog 74 #[.int .i64 f, .int .i64 n] w fun e w' => e = .returned (.bool (stretchB f n)) ∧ w = w' := by
  by_cases h1 : placeB f = true
  · have hf := (place_iff f).1 h1
    by_cases h2 : 1 ≤ n
    · by_cases h3 : n ≤ 16 - f
      · rw [show stretchB f n = true by simp [stretchB, h1, h2, h3]]
        go_enter Try.func74, Try.ntmps74
        go_wp2_with (go_at_call 72; refine (isPlace_any _ _).mono ?_; rintro e w' ⟨rfl, rfl⟩)
        go_ret
        exact ⟨by first | rfl | simp [h3], rfl⟩
      · rw [show stretchB f n = false by simp [stretchB, h3]]
        have h3' : decide (n ≤ 16 - f) = false := by simpa using h3
        go_enter Try.func74, Try.ntmps74
        go_wp2_with (go_at_call 72; refine (isPlace_any _ _).mono ?_; rintro e w' ⟨rfl, rfl⟩)
        go_ret
        exact ⟨by first | rfl | simp [h3], rfl⟩
    · rw [show stretchB f n = false by simp [stretchB, h2]]
      go_enter Try.func74, Try.ntmps74
      go_wp2_with (go_at_call 72; refine (isPlace_any _ _).mono ?_; rintro e w' ⟨rfl, rfl⟩)
      go_ret
      exact ⟨rfl, rfl⟩
  · have h1' := eq_false_of_ne_true h1
    rw [show stretchB f n = false by simp [stretchB, h1']]
    go_enter Try.func74, Try.ntmps74
    go_wp2_with (go_at_call 72; refine (isPlace_any _ _).mono ?_; rintro e w' ⟨rfl, rfl⟩)
    go_ret
    exact ⟨rfl, rfl⟩
end Go.Proofs.Ytfpkiimlaepnhaa
