/- Frm, Draw, Mean: joined, in this order. -/
import Derived.Test.YtfpkiimlaepnhaaM02
/-
  FRM: what a frame is, its errors, its sizes and its sources, as numbers and lists alone.
-/
namespace Go.Proofs.Ytfpkiimlaepnhaa
set_option maxRecDepth 100000
open Go.RowKit Im

/-- A pass. -/
structure Ps where
  Op : Int
  To : Int
  A : Int
  B : Int
  K : Int
  ls : List Lt
abbrev Ps.zero : Ps := ⟨0, 0, 0, 0, 0, []⟩
/-- A frame. -/
structure Fr where
  W : Int
  H : Int
  S : Int
  O : Int
  ps : List Ps
abbrev Sz := Int × Int
abbrev Sz.zero : Sz := (0, 0)

def hasA (op : Int) : Bool := withinB op 3 13
def hasB (op : Int) : Bool := withinB op 4 7
def hasK (op : Int) : Bool := decide (op = 1) || decide (op = 2) || decide (op = 8) || decide (op = 9) || decide (op = 13)
def hasL (op : Int) : Bool := decide (op = 13)
def knownB (op : Int) : Bool := withinB op 1 13
def slotB (n S : Int) : Bool := withinB n 0 (S - 1)
def kB (op k : Int) : Bool := if op = 9 then withinB k (-16) 16 else if op = 13 then withinB k 1 16 else withinB k 0 65535
def takesP (p : Ps) : List Int := if hasB p.Op then [p.A, p.B] else if hasA p.Op then [p.A] else []
def slotsB (p : Ps) (S : Int) : Bool := (takesP p).all (fun s => slotB s S) && slotB p.To S
def bareB (p : Ps) : Bool := (hasA p.Op || decide (p.A = 0)) && (hasB p.Op || decide (p.B = 0)) && (hasK p.Op || decide (p.K = 0)) && (hasL p.Op || decide (p.ls.length = 0))
def ownB (p : Ps) : Bool := (takesP p).any fun s => decide (s = p.To)
/-- The error that a pass has by itself. -/
def ownE (p : Ps) (S : Int) : Int :=
  if knownB p.Op = true then
    if slotsB p S = true ∧ (hasK p.Op = true → kB p.Op p.K = true) then
      if hasL p.Op = true ∧ lightsErr p.ls ≠ 0 then lightsErr p.ls
      else if bareB p = true ∧ ownB p = false then 0 else 1
    else 3
  else 4

/-- The last of the first n passes that made what lies in slot s; -1: none. -/
def wrt (ps : List Ps) : Nat → Int → Int
  | 0, _ => -1
  | n + 1, s => if (ps.getD n Ps.zero).To = s then n else wrt ps n s
def srcOf (ps : List Ps) (n : Nat) : List Int := (takesP (ps.getD n Ps.zero)).map (wrt ps n)
def thereB (is : List Int) : Bool := is.all fun i => decide (0 ≤ i)
def pickZ (zs : List Sz) (is : List Int) : List Sz := is.map fun i => zs.getD i.toNat Sz.zero
def sizeP (W H op : Int) (zs : List Sz) : Sz :=
  if op = 1 ∨ op = 2 then (W, H)
  else if op = 11 then ((zs.getD 0 Sz.zero).1 / 2, (zs.getD 0 Sz.zero).2 / 2)
  else if op = 12 then (2 * (zs.getD 0 Sz.zero).1, 2 * (zs.getD 0 Sz.zero).2)
  else zs.getD 0 Sz.zero
def fitP (op : Int) (zs : List Sz) : Bool :=
  if op = 11 then decide ((zs.getD 0 Sz.zero).1 % 2 = 0) && decide ((zs.getD 0 Sz.zero).2 % 2 = 0)
  else if op = 12 then decide (2 * (zs.getD 0 Sz.zero).1 ≤ 16) && decide (2 * (zs.getD 0 Sz.zero).2 ≤ 16)
  else if hasB op = true then decide (zs.getD 0 Sz.zero = zs.getD 1 Sz.zero)
  else true
/-- The sizes of the first n passes' images. -/
def szs (f : Fr) : Nat → List Sz
  | 0 => []
  | n + 1 => szs f n ++ [sizeP f.W f.H (f.ps.getD n Ps.zero).Op (pickZ (szs f n) (srcOf f.ps n))]
/-- The error of pass n, where the passes ahead of it have none. -/
def passE (f : Fr) (n : Nat) : Int :=
  if ownE (f.ps.getD n Ps.zero) f.S = 0 then
    if thereB (srcOf f.ps n) = true then
      if fitP (f.ps.getD n Ps.zero).Op (pickZ (szs f n) (srcOf f.ps n)) = true then 0 else 6
    else 5
  else ownE (f.ps.getD n Ps.zero) f.S
/-- The first error of the first n passes. -/
def firstE (f : Fr) : Nat → Int
  | 0 => 0
  | n + 1 => if firstE f n = 0 then passE f n else firstE f n
def boundsE (f : Fr) : Int :=
  if sideB f.W = true ∧ sideB f.H = true ∧ withinB f.S 1 8 = true ∧ slotB f.O f.S = true then
    if withinB f.ps.length 1 12 = true then 0 else 2
  else 3
def shownP (f : Fr) : Int := wrt f.ps f.ps.length f.O
/-- The error of a frame. -/
def frameE (f : Fr) : Int :=
  if boundsE f = 0 then
    if firstE f f.ps.length = 0 then
      if 0 ≤ shownP f then 0 else 5
    else firstE f f.ps.length
  else boundsE f

theorem szs_length (f : Fr) (n : Nat) : (szs f n).length = n := by
  induction n with
  | zero => rfl
  | succ n ih => simp [szs, ih]
theorem firstE_stays (f : Fr) {k : Nat} {e : Int} (h : firstE f k = e) (he : e ≠ 0) (n : Nat) : firstE f (k + n) = e := by
  induction n with
  | zero => exact h
  | succ n ih =>
    show (if firstE f (k + n) = 0 then passE f (k + n) else firstE f (k + n)) = e
    rw [ih, if_neg he]
theorem firstE_at (f : Fr) {k : Nat} (h : firstE f k = 0) : firstE f (k + 1) = passE f k := by
  show (if firstE f k = 0 then passE f k else firstE f k) = _
  rw [if_pos h]
theorem firstE_end (f : Fr) {k : Nat} (h : firstE f k = 0) (he : passE f k ≠ 0) {n : Nat} (hk : k < n) : firstE f n = passE f k := by
  have h1 := firstE_at f h
  obtain ⟨m, rfl⟩ : ∃ m, n = k + 1 + m := ⟨n - (k + 1), by omega⟩
  exact firstE_stays f h1 he m
theorem firstE_down (f : Fr) {n : Nat} (h : firstE f n = 0) {k : Nat} (hk : k ≤ n) : firstE f k = 0 := by
  by_cases h0 : firstE f k = 0
  · exact h0
  · obtain ⟨m, rfl⟩ : ∃ m, n = k + m := ⟨n - k, by omega⟩
    have := firstE_stays f (k := k) rfl h0 m
    omega
theorem wrt_bd (ps : List Ps) (n : Nat) (s : Int) : -1 ≤ wrt ps n s ∧ wrt ps n s < n := by
  induction n with
  | zero => simp [wrt]
  | succ n ih =>
    show -1 ≤ (if (ps.getD n Ps.zero).To = s then (n : Int) else wrt ps n s) ∧ (if (ps.getD n Ps.zero).To = s then (n : Int) else wrt ps n s) < (n + 1 : Nat)
    split <;> omega
theorem wrt_to (ps : List Ps) (n : Nat) (s : Int) (h : 0 ≤ wrt ps n s) : (ps.getD (wrt ps n s).toNat Ps.zero).To = s := by
  induction n with
  | zero => simp [wrt] at h
  | succ n ih =>
    revert h
    show 0 ≤ (if (ps.getD n Ps.zero).To = s then (n : Int) else wrt ps n s) → (ps.getD (if (ps.getD n Ps.zero).To = s then (n : Int) else wrt ps n s).toNat Ps.zero).To = s
    split
    · intro _; simpa using ‹_›
    · exact ih
/-- A right size. -/
def ZB (z : Sz) : Prop := (1 ≤ z.1 ∧ z.1 ≤ 16) ∧ (1 ≤ z.2 ∧ z.2 ≤ 16)
theorem op_cases {op : Int} (h : knownB op = true) : op = 1 ∨ op = 2 ∨ op = 3 ∨ op = 4 ∨ op = 5 ∨ op = 6 ∨ op = 7 ∨ op = 8 ∨ op = 9 ∨ op = 10 ∨ op = 11 ∨ op = 12 ∨ op = 13 := by
  simp [knownB, withinB] at h; omega
theorem ownE_zero {p : Ps} {S : Int} (h : ownE p S = 0) : knownB p.Op = true ∧ slotsB p S = true ∧ (hasK p.Op = true → kB p.Op p.K = true) ∧ (hasL p.Op = true → lightsErr p.ls = 0) ∧ bareB p = true ∧ ownB p = false := by
  unfold ownE at h
  by_cases h1 : knownB p.Op = true
  · rw [if_pos h1] at h
    by_cases h2 : slotsB p S = true ∧ (hasK p.Op = true → kB p.Op p.K = true)
    · rw [if_pos h2] at h
      by_cases h3 : hasL p.Op = true ∧ lightsErr p.ls ≠ 0
      · rw [if_pos h3] at h; exact absurd h h3.2
      · rw [if_neg h3] at h
        by_cases h4 : bareB p = true ∧ ownB p = false
        · exact ⟨h1, h2.1, h2.2, fun h5 => Classical.byContradiction fun h6 => h3 ⟨h5, h6⟩, h4.1, h4.2⟩
        · rw [if_neg h4] at h; cases h
    · rw [if_neg h2] at h; cases h
  · rw [if_neg h1] at h; cases h
theorem passE_zero {f : Fr} {n : Nat} (h : passE f n = 0) : ownE (f.ps.getD n Ps.zero) f.S = 0 ∧ thereB (srcOf f.ps n) = true ∧ fitP (f.ps.getD n Ps.zero).Op (pickZ (szs f n) (srcOf f.ps n)) = true := by
  unfold passE at h
  by_cases h1 : ownE (f.ps.getD n Ps.zero) f.S = 0
  · rw [if_pos h1] at h
    by_cases h2 : thereB (srcOf f.ps n) = true
    · rw [if_pos h2] at h
      by_cases h3 : fitP (f.ps.getD n Ps.zero).Op (pickZ (szs f n) (srcOf f.ps n)) = true
      · exact ⟨h1, h2, h3⟩
      · rw [if_neg h3] at h; cases h
    · rw [if_neg h2] at h; cases h
  · rw [if_neg h1] at h; exact absurd h h1
theorem src_bd {ps : List Ps} {n : Nat} (h : thereB (srcOf ps n) = true) : ∀ i ∈ srcOf ps n, 0 ≤ i ∧ i < n := by
  intro i hi
  have h1 : 0 ≤ i := by
    unfold thereB at h
    rw [List.all_eq_true] at h
    simpa using h i hi
  unfold srcOf at hi
  rw [List.mem_map] at hi
  obtain ⟨s, _, rfl⟩ := hi
  exact ⟨h1, (wrt_bd ps n s).2⟩
theorem hasA_of {p : Ps} (h : knownB p.Op = true) (h1 : ¬ p.Op = 1) (h2 : ¬ p.Op = 2) : hasA p.Op = true := by
  simp [knownB, withinB] at h; simp [hasA, withinB]; omega
theorem takes_pos {p : Ps} (h : hasA p.Op = true) : ∃ r, takesP p = p.A :: r := by
  unfold takesP
  by_cases hb : hasB p.Op = true
  · rw [if_pos hb]; exact ⟨_, rfl⟩
  · rw [if_neg hb, if_pos h]; exact ⟨_, rfl⟩
theorem pickZ_bd {zs : List Sz} {is : List Int} {n : Nat} (hl : zs.length = n) (hz : ∀ z ∈ zs, ZB z) (hi : ∀ i ∈ is, 0 ≤ i ∧ i < n) : ∀ z ∈ pickZ zs is, ZB z := by
  intro z h
  unfold pickZ at h
  rw [List.mem_map] at h
  obtain ⟨i, h1, rfl⟩ := h
  have h2 := hi i h1
  have h3 : i.toNat < zs.length := by omega
  rw [List.getD_eq_getElem?_getD, List.getElem?_eq_getElem h3]
  exact hz _ (List.getElem_mem h3)
theorem getD_mem {α : Type} {l : List α} {k : Nat} (h : k < l.length) (d : α) : l.getD k d ∈ l := by
  rw [List.getD_eq_getElem?_getD, List.getElem?_eq_getElem h]
  exact List.getElem_mem h
theorem sizeP_bd {W H op : Int} {zs : List Sz} (hW : 1 ≤ W ∧ W ≤ 16) (hH : 1 ≤ H ∧ H ≤ 16) (hk : knownB op = true) (hz : ∀ z ∈ zs, ZB z) (hl : hasA op = true → 0 < zs.length) (hf : fitP op zs = true) : ZB (sizeP W H op zs) := by
  unfold sizeP
  by_cases h1 : op = 1 ∨ op = 2
  · rw [if_pos h1]; exact ⟨hW, hH⟩
  · rw [if_neg h1]
    have hA : hasA op = true := by simp [knownB, withinB] at hk; simp [hasA, withinB]; omega
    have h0 := hz _ (getD_mem (hl hA) Sz.zero)
    unfold fitP at hf
    by_cases h2 : op = 11
    · rw [if_pos h2] at hf ⊢
      simp only [Bool.and_eq_true, decide_eq_true_eq] at hf
      obtain ⟨⟨a1, a2⟩, ⟨a3, a4⟩⟩ := h0
      refine ⟨⟨?_, ?_⟩, ⟨?_, ?_⟩⟩ <;> dsimp only <;> omega
    · rw [if_neg h2] at hf ⊢
      by_cases h3 : op = 12
      · rw [if_pos h3] at hf ⊢
        simp only [Bool.and_eq_true, decide_eq_true_eq] at hf
        obtain ⟨⟨a1, a2⟩, ⟨a3, a4⟩⟩ := h0
        refine ⟨⟨?_, ?_⟩, ⟨?_, ?_⟩⟩ <;> dsimp only <;> omega
      · rw [if_neg h3]; exact h0
theorem szs_bd {f : Fr} (hb : boundsE f = 0) : ∀ {n : Nat}, firstE f n = 0 → ∀ z ∈ szs f n, ZB z
  | 0, _ => by intro z h; cases h
  | n + 1, h => by
    have h0 := firstE_down f h (Nat.le_succ n)
    have ih := szs_bd hb h0
    rw [firstE_at f h0] at h
    obtain ⟨p1, p2, p3⟩ := passE_zero h
    obtain ⟨o1, _⟩ := ownE_zero p1
    have hWH : (1 ≤ f.W ∧ f.W ≤ 16) ∧ (1 ≤ f.H ∧ f.H ≤ 16) := by
      unfold boundsE at hb
      by_cases hc : sideB f.W = true ∧ sideB f.H = true ∧ withinB f.S 1 8 = true ∧ slotB f.O f.S = true
      · exact ⟨(side_iff _).1 hc.1, (side_iff _).1 hc.2.1⟩
      · rw [if_neg hc] at hb; cases hb
    intro z hz
    have e : szs f (n + 1) = szs f n ++ [sizeP f.W f.H (f.ps.getD n Ps.zero).Op (pickZ (szs f n) (srcOf f.ps n))] := rfl
    rw [e, List.mem_append] at hz
    rcases hz with hz | hz
    · exact ih z hz
    · rw [List.mem_singleton] at hz
      subst hz
      refine sizeP_bd hWH.1 hWH.2 o1 (pickZ_bd (szs_length f n) ih (src_bd p2)) (fun hA => ?_) p3
      obtain ⟨r, hr⟩ := takes_pos hA
      unfold pickZ srcOf; rw [hr]; simp
theorem boundsE_zero {f : Fr} (h : boundsE f = 0) : (1 ≤ f.W ∧ f.W ≤ 16) ∧ (1 ≤ f.H ∧ f.H ≤ 16) ∧ (1 ≤ f.S ∧ f.S ≤ 8) ∧ (0 ≤ f.O ∧ f.O < f.S) ∧ (1 ≤ f.ps.length ∧ f.ps.length ≤ 12) := by
  unfold boundsE at h
  by_cases hc : sideB f.W = true ∧ sideB f.H = true ∧ withinB f.S 1 8 = true ∧ slotB f.O f.S = true
  · rw [if_pos hc] at h
    by_cases hd : withinB f.ps.length 1 12 = true
    · obtain ⟨h1, h2, h3, h4⟩ := hc
      simp [withinB, slotB] at h3 h4 hd
      refine ⟨(side_iff _).1 h1, (side_iff _).1 h2, ?_, ?_, ?_⟩ <;> omega
    · rw [if_neg hd] at h; cases h
  · rw [if_neg hc] at h; cases h
theorem frameE_zero {f : Fr} (h : frameE f = 0) : boundsE f = 0 ∧ firstE f f.ps.length = 0 ∧ 0 ≤ shownP f := by
  unfold frameE at h
  by_cases h1 : boundsE f = 0
  · rw [if_pos h1] at h
    by_cases h2 : firstE f f.ps.length = 0
    · rw [if_pos h2] at h
      by_cases h3 : 0 ≤ shownP f
      · exact ⟨h1, h2, h3⟩
      · rw [if_neg h3] at h; cases h
    · rw [if_neg h2] at h; exact absurd h h2
  · rw [if_neg h1] at h; exact absurd h h1
end Go.Proofs.Ytfpkiimlaepnhaa
/-
  DRAW: image.draw makes the image that a function of places tells.
-/
namespace Go.Proofs.Ytfpkiimlaepnhaa
set_option maxRecDepth 100000
open Go.RowKit Im

/-- The slice value v is nil or the head of a row of the call's own, from block 'base' on, whose numbers are qs. -/
def Owns (base : Nat) (w : World) (v : Value) (qs : List Int) : Prop := w.ownsRow base 3 1 v qs.length (qs.map (Value.int .i64))

theorem Owns.ints {base : Nat} {w : World} {v : Value} {qs : List Int} (h : Owns base w v qs) (hb : qs.length ≤ 9223372036854775807) : ∃ a cap, v = .slice a qs.length cap ∧ Ints base w a qs.length qs := by
  obtain ⟨h1, h2⟩ := h
  rcases h2 with ⟨rfl, h0⟩ | ⟨g, cap, cur, rfl, hg, hh, hc, hm, hs, ht⟩
  · have : qs = [] := by simpa using h0
    subst this
    exact ⟨none, 0, rfl, rfl, by simp, .inl rfl⟩
  · refine ⟨_, cap, rfl, rfl, hb, .inr ⟨g, 0, rfl, hg, ?_, fun j hj => ?_⟩⟩
    · rcases Nat.lt_or_ge g w.heap.size with h | h
      · exact h
      · rw [Array.getElem?_eq_none h] at hh; cases hh
    · have := World.ownsRow.cellAt (base := base) (e := 3) (size := 1) ⟨h1, .inr ⟨g, cap, cur, rfl, hg, hh, hc, hm, hs, ht⟩⟩ j (by simpa using hj)
      rw [Nat.zero_add, this]
      simp [hj]

theorem Owns.push {base : Nat} {w wx w1 : World} {v v' : Value} {qs : List Int} {x : Int} {B0 : World} {o : Obj} (h : Owns base w v qs) (hb : Below base B0 w) (hB : base ≤ w.heap.size)
    (h' : w1.ownsRow base 3 1 v' (qs.length + 1) (qs.map (Value.int .i64) ++ [.int .i64 x])) (hx : wx = w.alloc o) (hg : wx.grownBy w1 v.ownBlock) : Owns base w1 v' (qs ++ [x]) ∧ Below base B0 w1 := by
  subst hx
  refine ⟨by unfold Owns; simpa using h', ?_⟩
  exact (hb.alloc hB o).grown hg (by simp; omega) (fun j hj => (World.ownsRow.lt (w := w) h j hj).1)
theorem Owns.below {base B : Nat} {w w' : World} {v : Value} {qs : List Int} (h : Owns base w v qs) (hb : Below B w w') (hB : w.heap.size ≤ B) : Owns base w' v qs := by
  obtain ⟨h1, h2⟩ := h
  refine ⟨h1, ?_⟩
  rcases h2 with h2 | ⟨g, cap, cur, hv, hg, hh, r⟩
  · exact .inl h2
  · refine .inr ⟨g, cap, cur, hv, hg, ?_, r⟩
    rw [hb.block g ?_]
    · exact hh
    · rcases Nat.lt_or_ge g w.heap.size with h | h
      · omega
      · rw [Array.getElem?_eq_none h] at hh; cases hh

/-- A function value tells, of column x and row y of W columns and H rows, the number g x y: in every world that has all that w has. -/
structure Tells (w : World) (n : Nat) (caps : Array Value) (W H : Nat) (g : Nat → Nat → Int) : Prop where
  enters : ∀ args w, (callFunc n args).run Try.prog w = .ok (.enter n args) w
  tells : ∀ (x y : Nat) (w1 : World), x < W → y < H → Below w.heap.size w w1 → Calls Try.prog n (#[.int .i64 x, .int .i64 y] ++ caps) w1 fun e w2 => e = .returned (.int .i64 (g x y)) ∧ Below w1.heap.size w1 w2

set_option maxHeartbeats 1000000 in
theorem draw_any (W H : Nat) (n : Nat) (caps : Array Value) (g : Nat → Nat → Int) (w : World) (hW : 1 ≤ W ∧ W ≤ 16) (hH : 1 ≤ H ∧ H ≤ 16) (hf : Tells w n caps W H g) :
    Calls Try.prog 58 #[.int .i64 W, .int .i64 H, .func (.func n) #[] caps] w fun e w' =>
      ∃ a cap, e = .returned (.agg #[.int .i64 W, .int .i64 H, .slice a (W * H) cap]) ∧ Ints w.heap.size w' a (W * H) (pix W g (W * H)) ∧ Below w.heap.size w w' := by
  obtain ⟨i0, hi, hz0, hz1, hz2⟩ := info_parts Try.info3
  have hWH : 1 ≤ (W : Int) * H ∧ (W : Int) * H ≤ 256 := side_mul (by simp [sideB]; omega) (by simp [sideB]; omega)
  have hWN : W * H ≤ 256 := by have := hWH.2; rw [← Int.natCast_mul] at this; omega
  obtain ⟨k1, k2⟩ := hWH
  have hent := hf.enters
  go_enter Try.func58, Try.ntmps58
  go_wp2_with (at_make; refine wpList_make_own _ rfl _ _ 22 rfl (w.heap.size + 1) 3 i0 (.int .i64 0) 1 Try.underlying22 hi hz0 hz1 .i64 .i64 _ (W * H) rfl rfl (by simp) (by rw [hz2]; omega) (by unfold maxLen; omega) (by simp) ?_; intro w1 hown hgrow)
  have hb1 : Below (w.heap.size + 1) (w.alloc (.cells #[.int .i64 0, .int .i64 0, .slice none 0 0] 24)) w1 := (Below.refl _ _).grown hgrow (by simp) (by simp)
  go_loopw [7, 15] (fun v i wr => ∃ y : Nat, y ≤ H ∧ i = .int .i64 y ∧ Owns (w.heap.size + 1) wr v (pix W g (y * W)) ∧ Below (w.heap.size + 1) (w.alloc (.cells #[.int .i64 0, .int .i64 0, .slice none 0 0] 24)) wr) (fun _ i _ => H - (intOf i).toNat)
  case atStart => exact ⟨0, Nat.zero_le _, rfl, by rw [Nat.zero_mul]; simpa [Owns, pix] using hown, hb1⟩
  case round =>
    obtain ⟨y, hy, rfl, hownr, hbr⟩ := hrel
    by_cases hlt : y < H
    · go_wp2
      go_loopw [7, 19] (fun v i ws => ∃ x : Nat, x ≤ W ∧ i = .int .i64 x ∧ Owns (w.heap.size + 1) ws v (pix W g (y * W + x)) ∧ Below (w.heap.size + 1) (w.alloc (.cells #[.int .i64 0, .int .i64 0, .slice none 0 0] 24)) ws) (fun _ i _ => W - (intOf i).toNat)
      case atStart => exact ⟨0, Nat.zero_le _, rfl, hownr, hbr⟩
      case round =>
        obtain ⟨x, hx, rfl, howns, hbs⟩ := hrel
        by_cases hlx : x < W
        · have hsz : w.heap.size + 1 ≤ wr.heap.size := by have := hbs.size; simpa using this
          have hbw : Below w.heap.size w wr := ((Below.refl _ _).alloc (Nat.le_refl _) _).trans (hbs.mono (by omega))
          have hpl : y * W + x < W * H := place_lt hlx hlt
          have hlen : (pix W g (y * W + x)).length = y * W + x := pix_length _ _ _
          go_wp2_with (first
            | (refine (hf.tells x y _ hlx hlt hbw).mono ?_; rintro e w2 ⟨rfl, hb2⟩; have hown2 := howns.below hb2 (Nat.le_refl _))
            | (at_builtin; refine wpList_append_own _ rfl _ _ 22 rfl (w.heap.size + 1) 3 i0 (.int .i64 0) 1 8 Try.underlying22 hi hz0 hz1 hz2 rfl (by decide) _ _ _ rfl (World.ownsRow.alloc hown2 _) ⟨w2.heap.size, 0, none⟩ 1 1 [.int .i64 (g x y)] rfl rfl (cell_one_new _ _ _) (by intro u hu; simp at hu; subst hu; rfl) (by rw [hlen]; unfold maxLen; omega) (by rw [hlen]; omega) (by have := hb2.size; simp; omega) ?_; intro v' w3 hown3 hgrow3 _))
          have R := Owns.push hown2 (hbs.trans (hb2.mono hsz)) (by have := hb2.size; omega) hown3 rfl hgrow3
          go_roundw
          case rel => exact ⟨x + 1, by omega, by go_num, by rw [← Nat.add_assoc, pix_succ W g x y hlx]; exact R.1, R.2⟩
          case measure => simp [intOf]; omega
        · have hxW : x = W := by omega
          subst hxW
          go_wp2
          go_roundw
          case rel => exact ⟨y + 1, by omega, by go_num, by rw [Nat.add_mul, Nat.one_mul]; exact howns, hbs⟩
          case measure => simp [intOf]; omega
    · have hyH : y = H := by omega
      subst hyH
      have hlen : (pix W g (y * W)).length = y * W := pix_length _ _ _
      obtain ⟨a, cap, hv, hints⟩ := hownr.ints (by rw [hlen, Nat.mul_comm]; omega)
      have c0 : wr.cell? ⟨w.heap.size, 0, none⟩ = some (.int .i64 0) := by rw [hbr.cell (by simp)]; simp [go_sem]
      have c1 : wr.cell? ⟨w.heap.size, 1, none⟩ = some (.int .i64 0) := by rw [hbr.cell (by simp)]; simp [go_sem]
      have c2 : wr.cell? ⟨w.heap.size, 2, none⟩ = some (.slice none 0 0) := by rw [hbr.cell (by simp)]; simp [go_sem]
      have f0 : wr.frozen? ⟨w.heap.size, 0, none⟩ = false := by rw [hbr.frozen (by simp)]; simp [go_sem]
      have f1 : wr.frozen? ⟨w.heap.size, 1, none⟩ = false := by rw [hbr.frozen (by simp)]; simp [go_sem]
      have f2 : wr.frozen? ⟨w.heap.size, 2, none⟩ = false := by rw [hbr.frozen (by simp)]; simp [go_sem]
      rw [hv]
      go_wp2
      rw [hlen, Nat.mul_comm] at hints
      refine bodyPost_ret (v := .agg #[.int .i64 W, .int .i64 y, .slice a (W * y) cap]) (by simp [results, Try.results58, go_sem, c0, c1, c2]; exact Nat.mul_comm _ _) rfl ⟨a, cap, rfl, ?_, ?_⟩
      · exact (((hints.setCell (by simp) _).setCell (by simp) _).setCell (by simp) _).mono (by omega)
      · exact (((((Below.refl _ _).alloc (Nat.le_refl _) _).trans (hbr.mono (by omega))).setCell (by simp) _).setCell (by simp) _).setCell (by simp) _
end Go.Proofs.Ytfpkiimlaepnhaa
/-
  MEAN: image.mean, of a function that tells the number of a place.
-/
namespace Go.Proofs.Ytfpkiimlaepnhaa
set_option maxRecDepth 100000
open Go.RowKit Im

set_option maxHeartbeats 1000000 in
theorem mean_any (W H : Nat) (n : Nat) (caps : Array Value) (p : Nat → Nat → Int) (w : World) (l t r b : Nat) (hW : W ≤ 16) (hH : H ≤ 16) (h1 : l ≤ r) (h2 : r < W) (h3 : t ≤ b) (h4 : b < H)
    (hp : ∀ x y, x < W → y < H → 0 ≤ p x y ∧ p x y ≤ 65535) (hf : Tells w n caps W H p) :
    Calls Try.prog 97 #[.func (.func n) #[] caps, .int .i64 l, .int .i64 t, .int .i64 r, .int .i64 b] w fun e w' => e = .returned (.int .i64 (meanP p l t r b)) ∧ Below w.heap.size w w' := by
  have hent := hf.enters
  go_enter Try.func97, Try.ntmps97
  go_wp2
  go_loopw [11, 12] (fun s i wr => ∃ j : Nat, j ≤ b + 1 - t ∧ i = .int .i64 ((t : Int) + (j : Int)) ∧ s = .int .i64 (sumBox p l t (r + 1 - l) j) ∧ Below w.heap.size w wr) (fun _ i _ => b + 1 - (intOf i).toNat)
  case atStart => exact ⟨0, Nat.zero_le _, by simp, rfl, Below.refl _ _⟩
  case round =>
    obtain ⟨j, hj, rfl, rfl, hbr⟩ := hrel
    have sb := sumBox_bd (p := p) (l := l) (t := t) (n := r + 1 - l) (by omega) (m := j) (fun x y _ _ _ _ => hp x y (by omega) (by omega))
    by_cases hlt : j < b + 1 - t
    · have hle : (t : Int) + (j : Int) ≤ b := by omega
      go_wp2
      go_loopw [11, 13] (fun s i wr => ∃ i' : Nat, i' ≤ r + 1 - l ∧ i = .int .i64 ((l : Int) + (i' : Int)) ∧ s = .int .i64 (sumBox p l t (r + 1 - l) j + sumRow p (t + j) l i') ∧ Below w.heap.size w wr) (fun _ i _ => r + 1 - (intOf i).toNat)
      case atStart => exact ⟨0, Nat.zero_le _, by simp, by simp [sumRow], hbr⟩
      case round =>
        obtain ⟨i, hi, rfl, rfl, hbs⟩ := hrel
        have sr := sumRow_bd (p := p) (y := t + j) (l := l) (n := i) (fun x _ _ => hp x (t + j) (by omega) (by omega))
        by_cases hli : i < r + 1 - l
        · have hli2 : (l : Int) + (i : Int) ≤ r := by omega
          have hpp := hp (l + i) (t + j) (by omega) (by omega)
          go_wp2_with (refine (hf.tells (l + i) (t + j) _ (by omega) (by omega) hbs).mono ?_; rintro e w2 ⟨rfl, hb2⟩)
          have hbw := hbs.trans (hb2.mono (by have := hbs.size; omega))
          go_roundw
          case rel => exact ⟨i + 1, by omega, by go_num, by show _ = Value.int .i64 (_ + (sumRow p (t + j) l i + p (l + i) (t + j))); go_num, hbw⟩
          case measure => simp [intOf]; omega
        · have hie : i = r + 1 - l := by omega
          subst hie
          go_wp2
          go_roundw
          case rel => exact ⟨j + 1, by omega, by go_num, rfl, hbs⟩
          case measure => simp [intOf]; omega
    · have hje : j = b + 1 - t := by omega
      subst hje
      have m1 : 1 ≤ ((r : Int) - l + 1) * ((b : Int) - t + 1) := (side_mul (by simp [sideB]; omega) (by simp [sideB]; omega)).1
      have m2 : ((r : Int) - l + 1) * ((b : Int) - t + 1) ≤ 256 := (side_mul (by simp [sideB]; omega) (by simp [sideB]; omega)).2
      go_wp2
      go_ret
      exact ⟨rfl, hbr⟩
end Go.Proofs.Ytfpkiimlaepnhaa
