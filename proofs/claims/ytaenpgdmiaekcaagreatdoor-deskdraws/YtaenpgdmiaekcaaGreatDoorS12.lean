/- TilesMath, InRef, Pics, Paint, Paint2: joined, in this order. -/
import Derived.Test.YtaenpgdmiaekcaaGreatDoorS09
import Derived.Test.YtaenpgdmiaekcaaGreatDoorS11
import Derived.Test.YtaenpgdmiaekcaaGreatDoorS01
import Derived.Test.YtaenpgdmiaekcaaGreatDoorS05
import Derived.Test.YtaenpgdmiaekcaaGreatDoorS06
import Derived.Deep.RegionHeld3
/-
  TILESMATH: Lit and Near, each told by one answer; lights picked out of a list; what choose answers.
-/
namespace Go.Proofs.YtaenpgdmiaekcaaGreatDoor
set_option maxRecDepth 100000
open Go.RowKit Im

def litRes (W H : Int) (ps : List Int) (ls : List Lt) (tile : Int) : Res :=
  if fineB W H ps = true then
    if lightsErr ls = 0 then
      if 1 ≤ tile ∧ tile ≤ 16 then ⟨0, W, H, pix W.toNat (litG W.toNat ps ls) (W.toNat * H.toNat)⟩ else noRes 3
    else noRes (lightsErr ls)
  else noRes 1
theorem lit_told {W H : Int} {a : Option Addr} {len : Nat} (cap : Nat) {ps : List Int} {la : Option Addr} {llen : Nat} (lcap : Nat) {ls : List Lt} {tile : Int} {w : World} (h : Ints 0 w a len ps) (hl : Lights w la llen ls) {r : Res} (hr : litRes W H ps ls tile = r) :
    Calls Tryz.prog 70 #[.agg #[.int .i64 W, .int .i64 H, .slice a len cap], .slice la llen lcap, .int .i64 tile] w (Told w r) := by
  subst hr
  unfold litRes
  by_cases hf : fineB W H ps = true
  · rw [if_pos hf]
    obtain ⟨W', H', b, off, rfl, rfl, rfl, rfl, hF⟩ := fine_of h hf
    simp only [Int.toNat_natCast]
    by_cases hE : lightsErr ls = 0
    · rw [if_pos hE]
      by_cases ht : 1 ≤ tile ∧ tile ≤ 16
      · rw [if_pos ht]
        obtain ⟨tn, rfl⟩ := Int.eq_ofNat_of_zero_le (show 0 ≤ tile by omega)
        refine (lit_ok cap lcap tn hF hl hE (by omega)).mono fun e w' ⟨a, cap', he, hi, hb⟩ => ⟨a, cap', ?_, ?_, hb⟩
        · simp only [pix_length]; exact he
        · simp only [pix_length]; exact hi
      · rw [if_neg ht]
        exact (lit_range cap lcap tile hF hl hE (by omega)).mono fun e w' h => told_no h
    · rw [if_neg hE]
      exact (lit_lights cap lcap tile hF hl hE).mono fun e w' h => told_no h
  · rw [if_neg hf]
    exact (lit_form cap lcap tile h (eq_false_of_ne_true hf)).mono fun e w' h => told_no h

/-- Lights' cells, one after another. -/
def lcells : List Lt → List Value
  | [] => []
  | l :: r => .int .i64 l.X :: .int .i64 l.Y :: .int .i64 l.R :: .int .i64 l.P :: lcells r
theorem lcells_len : ∀ ls, (lcells ls).length = ls.length * 4
  | [] => rfl
  | l :: r => by simp only [lcells, List.length_cons, lcells_len r]; omega
theorem lcells_snoc (l : Lt) : ∀ ls, lcells (ls ++ [l]) = lcells ls ++ [.int .i64 l.X, .int .i64 l.Y, .int .i64 l.R, .int .i64 l.P]
  | [] => rfl
  | m :: r => by simp only [List.cons_append, lcells, lcells_snoc l r]
theorem lcells_get : ∀ (ls : List Lt) (j : Nat), j < ls.length → (lcells ls)[j * 4]? = some (.int .i64 (ls.getD j Lt.zero).X) ∧ (lcells ls)[j * 4 + 1]? = some (.int .i64 (ls.getD j Lt.zero).Y) ∧ (lcells ls)[j * 4 + 2]? = some (.int .i64 (ls.getD j Lt.zero).R) ∧ (lcells ls)[j * 4 + 3]? = some (.int .i64 (ls.getD j Lt.zero).P)
  | [], j, h => by simp at h
  | l :: r, 0, _ => by simp [lcells]
  | l :: r, j + 1, h => by
    have ih := lcells_get r j (by simpa using h)
    have e0 : ∀ t, (lcells (l :: r))[t + 4]? = (lcells r)[t]? := fun t => by simp [lcells]
    rw [show (j + 1) * 4 = j * 4 + 4 by omega, show j * 4 + 4 + 1 = j * 4 + 1 + 4 by omega, show j * 4 + 4 + 2 = j * 4 + 2 + 4 by omega, show j * 4 + 4 + 3 = j * 4 + 3 + 4 by omega, e0, e0, e0, e0]
    exact ih
/-- A slice of the call's own that holds the lights ls. -/
def OwnsL (base : Nat) (w : World) (v : Value) (ls : List Lt) : Prop := w.ownsRow base 106 4 v ls.length (lcells ls)
theorem OwnsL.lights {base : Nat} {w : World} {v : Value} {ls : List Lt} (h : OwnsL base w v ls) (hb : ls.length ≤ 8) : ∃ a cap, v = .slice a ls.length cap ∧ Lights w a ls.length ls := by
  obtain ⟨h1, h2⟩ := h
  rcases h2 with ⟨rfl, h0⟩ | ⟨g, cap, cur, rfl, hg, hh, hc, hm, hs, ht⟩
  · have : ls = [] := by simpa using h0
    subst this
    exact ⟨none, 0, rfl, rfl, by simp, .inl rfl⟩
  · refine ⟨_, cap, rfl, rfl, by omega, .inr ⟨g, 0, rfl, ?_, fun j hj => ?_⟩⟩
    · rcases Nat.lt_or_ge g w.heap.size with h | h
      · exact h
      · rw [Array.getElem?_eq_none h] at hh; cases hh
    · have hl := lcells_len ls
      have hg4 := lcells_get ls j hj
      have this := fun i hi => World.ownsRow.cellAt (base := base) (e := 106) (size := 4) ⟨h1, .inr ⟨g, cap, cur, rfl, hg, hh, hc, hm, hs, ht⟩⟩ i hi
      rw [Nat.zero_add]
      exact ⟨(this (j * 4) (by omega)).trans hg4.1, (this (j * 4 + 1) (by omega)).trans hg4.2.1, (this (j * 4 + 2) (by omega)).trans hg4.2.2.1, (this (j * 4 + 3) (by omega)).trans hg4.2.2.2⟩
theorem OwnsL.push {base : Nat} {w wx w1 : World} {v v' : Value} {ls : List Lt} {l : Lt} {B0 : World} {o : Obj} (h : OwnsL base w v ls) (hb : Below base B0 w) (hB : base ≤ w.heap.size)
    (h' : w1.ownsRow base 106 4 v' (ls.length + 1) (lcells ls ++ [.int .i64 l.X, .int .i64 l.Y, .int .i64 l.R, .int .i64 l.P])) (hx : wx = w.alloc o) (hg : wx.grownBy w1 v.ownBlock) : OwnsL base w1 v' (ls ++ [l]) ∧ Below base B0 w1 := by
  subst hx
  refine ⟨by unfold OwnsL; rw [lcells_snoc]; simpa using h', ?_⟩
  exact (hb.alloc hB o).grown hg (by simp; omega) (fun j hj => (World.ownsRow.lt (w := w) h j hj).1)
theorem Tryz.infoLight : (Tryz.prog.info? 106).map (fun i => (i.zero, i.size, i.bytes)) = some (some (.agg #[.int .i64 0, .int .i64 0, .int .i64 0, .int .i64 0]), 4, 32) := by kernel_rfl
theorem cell_four_new (w : World) (v0 v1 v2 v3 : Value) (t : TypeId) : ∀ (j : Nat) (u : Value), [v0, v1, v2, v3][j]? = some u → (w.alloc (.cells #[v0, v1, v2, v3] t)).cell? ((⟨w.heap.size, 0, none⟩ : Addr).add j) = some u := by
  intro j u h
  have hj : j < 4 := by
    rcases Nat.lt_or_ge j 4 with h4 | h4
    · exact h4
    · rw [List.getElem?_eq_none (by simpa using h4)] at h; cases h
  match j, hj with
  | 0, _ => simp at h; subst h; simp [go_sem]
  | 1, _ => simp at h; subst h; simp [go_sem]
  | 2, _ => simp at h; subst h; simp [go_sem]
  | 3, _ => simp at h; subst h; simp [go_sem]
end Go.Proofs.YtaenpgdmiaekcaaGreatDoor
/-
  INREF: numbers and lists alone: the sizes by slots, as the reference holds them, and its error of a pass.
-/
namespace Go.Proofs.YtaenpgdmiaekcaaGreatDoor
set_option maxRecDepth 100000
open Go.RowKit Im

/-- The size of what lies in slot s ahead of pass n; (0, 0): nothing. -/
def inP (f : Fr) (n : Nat) (s : Int) : Sz := if 0 ≤ wrt f.ps n s then (szs f n).getD (wrt f.ps n s).toNat Sz.zero else Sz.zero
theorem inP_some {f : Fr} {n : Nat} {s : Int} (hb : boundsE f = 0) (h : firstE f n = 0) (hw : 0 ≤ wrt f.ps n s) : ZB (inP f n s) := by
  unfold inP
  rw [if_pos hw]
  have := wrt_bd f.ps n s
  exact szs_bd hb h _ (getD_mem (by rw [szs_length]; omega) _)
theorem inP_none {f : Fr} {n : Nat} {s : Int} (hw : ¬ 0 ≤ wrt f.ps n s) : inP f n s = (0, 0) := by unfold inP; rw [if_neg hw]
theorem inP_zero {f : Fr} {n : Nat} {s : Int} (hb : boundsE f = 0) (h : firstE f n = 0) : (inP f n s).1 = 0 ↔ ¬ 0 ≤ wrt f.ps n s := by
  constructor
  · intro e hw
    have := (inP_some hb h hw).1
    omega
  · intro hw
    rw [inP_none hw]
theorem inP_succ (f : Fr) (n : Nat) (s : Int) : inP f (n + 1) s = if (f.ps.getD n Ps.zero).To = s then sizeP f.W f.H (f.ps.getD n Ps.zero).Op (pickZ (szs f n) (srcOf f.ps n)) else inP f n s := by
  have e : szs f (n + 1) = szs f n ++ [sizeP f.W f.H (f.ps.getD n Ps.zero).Op (pickZ (szs f n) (srcOf f.ps n))] := rfl
  have hl := szs_length f n
  have ew : wrt f.ps (n + 1) s = if (f.ps.getD n Ps.zero).To = s then (n : Int) else wrt f.ps n s := rfl
  unfold inP
  rw [ew]
  by_cases ht : (f.ps.getD n Ps.zero).To = s
  · rw [if_pos ht, if_pos ht, if_pos (by omega), e, Int.toNat_natCast, List.getD_eq_getElem?_getD, List.getElem?_append_right (by omega)]
    simp [hl]
  · rw [if_neg ht, if_neg ht]
    by_cases hw : 0 ≤ wrt f.ps n s
    · have := wrt_bd f.ps n s
      rw [if_pos hw, if_pos hw, e, List.getD_eq_getElem?_getD, List.getElem?_append_left (by omega), ← List.getD_eq_getElem?_getD]
    · rw [if_neg hw, if_neg hw]
/-- The reference's error of a pass that takes images of the sizes zA and zB. -/
def refE (p : Ps) (S : Int) (zA zB : Sz) : Int :=
  if ownE p S = 0 then
    if (hasA p.Op = true ∧ zA.1 = 0) ∨ (hasB p.Op = true ∧ zB.1 = 0) then 5
    else if hasB p.Op = true ∧ zA ≠ zB then 6
    else if (p.Op = 11 ∧ (zA.1 % 2 = 1 ∨ zA.2 % 2 = 1)) ∨ (p.Op = 12 ∧ (16 < 2 * zA.1 ∨ 16 < 2 * zA.2)) then 6
    else 0
  else ownE p S
theorem hasB_hasA {op : Int} (h : hasB op = true) : hasA op = true := by simp [hasB, withinB] at h; simp [hasA, withinB]; omega
theorem refE_eq {f : Fr} {n : Nat} (hb : boundsE f = 0) (h : firstE f n = 0) : refE (f.ps.getD n Ps.zero) f.S (inP f n (f.ps.getD n Ps.zero).A) (inP f n (f.ps.getD n Ps.zero).B) = passE f n := by
  have zA := inP_zero (f := f) (n := n) (s := (f.ps.getD n Ps.zero).A) hb h
  have zB := inP_zero (f := f) (n := n) (s := (f.ps.getD n Ps.zero).B) hb h
  have eA : 0 ≤ wrt f.ps n (f.ps.getD n Ps.zero).A → (szs f n).getD (wrt f.ps n (f.ps.getD n Ps.zero).A).toNat Sz.zero = inP f n (f.ps.getD n Ps.zero).A := fun hw => by unfold inP; rw [if_pos hw]
  have eB : 0 ≤ wrt f.ps n (f.ps.getD n Ps.zero).B → (szs f n).getD (wrt f.ps n (f.ps.getD n Ps.zero).B).toNat Sz.zero = inP f n (f.ps.getD n Ps.zero).B := fun hw => by unfold inP; rw [if_pos hw]
  unfold refE passE srcOf thereB
  by_cases ho : ownE (f.ps.getD n Ps.zero) f.S = 0
  · rw [if_pos ho, if_pos ho]
    clear ho
    generalize f.ps.getD n Ps.zero = p at *
    generalize inP f n p.A = za at *
    generalize inP f n p.B = zb at *
    unfold takesP fitP
    rw [List.getD_eq_getElem?_getD] at eA eB
    by_cases hB : hasB p.Op = true
    · have hA := hasB_hasA hB
      have n11 : ¬ p.Op = 11 := by simp [hasB, withinB] at hB; omega
      have n12 : ¬ p.Op = 12 := by simp [hasB, withinB] at hB; omega
      by_cases a1 : 0 ≤ wrt f.ps n p.A
      · have za0 : ¬ za.1 = 0 := fun e => (zA.1 e) a1
        by_cases b1 : 0 ≤ wrt f.ps n p.B
        · have zb0 : ¬ zb.1 = 0 := fun e => (zB.1 e) b1
          by_cases e : za = zb
          · simp [hB, hA, n11, n12, a1, b1, zb0, eA a1, eB b1, pickZ, e]
          · simp [hB, hA, n11, n12, a1, b1, za0, zb0, eA a1, eB b1, pickZ, e]
        · have zb0 := zB.2 b1
          simp [hB, hA, b1, zb0]
      · have za0 := zA.2 a1
        simp [hB, hA, a1, za0]
    · by_cases hA : hasA p.Op = true
      · by_cases a1 : 0 ≤ wrt f.ps n p.A
        · have za0 : ¬ za.1 = 0 := fun e => (zA.1 e) a1
          by_cases h11 : p.Op = 11
          · have x1 : hasA 11 = true := rfl
            have x2 : hasB 11 = false := rfl
            by_cases c1 : za.1 % 2 = 0 <;> by_cases c2 : za.2 % 2 = 0
            all_goals simp [x1, x2, a1, za0, eA a1, pickZ, h11, c1, c2]
            all_goals omega
          · by_cases h12 : p.Op = 12
            · have x1 : hasA 12 = true := rfl
              have x2 : hasB 12 = false := rfl
              by_cases c1 : 2 * za.1 ≤ 16 <;> by_cases c2 : 2 * za.2 ≤ 16
              all_goals simp [x1, x2, a1, za0, eA a1, pickZ, h12, c1, c2]
              all_goals omega
            · simp [hB, hA, a1, za0, h11, h12]
        · have za0 := zA.2 a1
          simp [hB, hA, a1, za0]
      · have n11 : ¬ p.Op = 11 := fun e => hA (by rw [e]; rfl)
        have n12 : ¬ p.Op = 12 := fun e => hA (by rw [e]; rfl)
        simp [hA, hB, n11, n12]
  · rw [if_neg ho, if_neg ho]
end Go.Proofs.YtaenpgdmiaekcaaGreatDoor
/-
  PICS: numbers and lists alone: the images that the passes of a frame make, and that they are right.
-/
namespace Go.Proofs.YtaenpgdmiaekcaaGreatDoor
set_option maxRecDepth 100000
open Go.RowKit Im

/-- What a pass makes out of the images fr, where z is its size. -/
def paintRes (p : Ps) (z : Sz) (fr : List Res) : Res :=
  if p.Op = 1 ∨ p.Op = 2 then makeRes p.Op z.1 z.2 p.K
  else if hasB p.Op = true then twoRes p.Op (fr.getD 0 (noRes 0)).W (fr.getD 0 (noRes 0)).H (fr.getD 0 (noRes 0)).ps (fr.getD 1 (noRes 0)).W (fr.getD 1 (noRes 0)).H (fr.getD 1 (noRes 0)).ps
  else if p.Op = 13 then litRes (fr.getD 0 (noRes 0)).W (fr.getD 0 (noRes 0)).H (fr.getD 0 (noRes 0)).ps p.ls p.K
  else oneRes p.Op (fr.getD 0 (noRes 0)).W (fr.getD 0 (noRes 0)).H (fr.getD 0 (noRes 0)).ps p.K
def pickR (rs : List Res) (is : List Int) : List Res := is.map fun i => rs.getD i.toNat (noRes 0)
/-- The size of what pass n makes. -/
def sizeN (f : Fr) (n : Nat) : Sz := sizeP f.W f.H (f.ps.getD n Ps.zero).Op (pickZ (szs f n) (srcOf f.ps n))
/-- The images of the first n passes. -/
def pics (f : Fr) : Nat → List Res
  | 0 => []
  | n + 1 => pics f n ++ [paintRes (f.ps.getD n Ps.zero) (sizeN f n) (pickR (pics f n) (srcOf f.ps n))]
theorem pics_length (f : Fr) (n : Nat) : (pics f n).length = n := by
  induction n with
  | zero => rfl
  | succ n ih => simp [pics, ih]
/-- A right image of the size z. -/
def RB (r : Res) (z : Sz) : Prop := r.E = 0 ∧ fineB r.W r.H r.ps = true ∧ r.W = z.1 ∧ r.H = z.2
theorem make_right {op W H k : Int} (hop : op = 1 ∨ op = 2) (hW : 1 ≤ W ∧ W ≤ 16) (hH : 1 ≤ H ∧ H ≤ 16) (hk : 0 ≤ k ∧ k ≤ 65535) : RB (makeRes op W H k) (W, H) := by
  have hE : makeErr op W H k = 0 := by
    unfold makeErr
    rw [if_pos hop, (side_iff W).2 hW, (side_iff H).2 hH, (num_iff k).2 hk]; rfl
  unfold makeRes
  rw [if_pos hE]
  obtain ⟨W1, rfl⟩ := Int.eq_ofNat_of_zero_le (show 0 ≤ W by omega)
  obtain ⟨H1, rfl⟩ := Int.eq_ofNat_of_zero_le (show 0 ≤ H by omega)
  simp only [Int.toNat_natCast]
  refine ⟨rfl, fine_pix (by omega) (by omega) (fun x y _ _ => ?_), rfl, rfl⟩
  unfold makeG
  split
  · exact hk
  · have := Int.emod_nonneg ((x : Int) * k + y) (show (65536 : Int) ≠ 0 by decide)
    have := Int.emod_lt_of_pos ((x : Int) * k + y) (show (0 : Int) < 65536 by decide)
    omega
theorem two_right {op : Int} {a b : Res} {z : Sz} (hop : op = 4 ∨ op = 5 ∨ op = 6 ∨ op = 7) (ha : RB a z) (hb : RB b z) : RB (twoRes op a.W a.H a.ps b.W b.H b.ps) z := by
  obtain ⟨_, a1, a2, a3⟩ := ha
  obtain ⟨_, b1, b2, b3⟩ := hb
  have hw : withinB op 4 7 = true := by simp [withinB]; omega
  have hE : (twoRes op a.W a.H a.ps b.W b.H b.ps).E = 0 := by
    unfold twoRes
    rw [if_pos (by rw [a1, b1]; rfl), if_pos hw, if_pos (by rw [a2, b2, a3, b3]; exact ⟨rfl, rfl⟩)]
  refine ⟨hE, twoRes_fine hE, ?_, ?_⟩
  all_goals
    unfold twoRes
    rw [if_pos (by rw [a1, b1]; rfl), if_pos hw, if_pos (by rw [a2, b2, a3, b3]; exact ⟨rfl, rfl⟩)]
    assumption
theorem one_right {op k : Int} {a : Res} {z : Sz} (hA : hasA op = true) (hB : hasB op = false) (hL : ¬ op = 13) (hk : hasK op = true → kB op k = true) (hf : fitP op [z] = true) (ha : RB a z) : RB (oneRes op a.W a.H a.ps k) (sizeP 0 0 op [z]) := by
  obtain ⟨_, a1, a2, a3⟩ := ha
  obtain ⟨zw, zh⟩ := z
  dsimp only at a2 a3
  obtain ⟨E, aW, aH, aps⟩ := a
  dsimp only at a1 a2 a3 ⊢
  subst a2 a3
  obtain ⟨b1, b2, b3, b4⟩ := (fine_iff _ _ _).1 a1
  obtain ⟨W, rfl⟩ := Int.eq_ofNat_of_zero_le (show 0 ≤ aW by omega)
  obtain ⟨H, rfl⟩ := Int.eq_ofNat_of_zero_le (show 0 ≤ aH by omega)
  have hop : op = 3 ∨ op = 8 ∨ op = 9 ∨ op = 10 ∨ op = 11 ∨ op = 12 := by simp [hasA, withinB] at hA; simp [hasB, withinB] at hB; omega
  have hE : oneErr op W H k = 0 := by
    rcases hop with rfl | rfl | rfl | rfl | rfl | rfl
    · rfl
    · have := hk rfl
      have e : withinB k 0 65535 = true := this
      have e' : numB k = true := by simp [withinB] at e; exact (num_iff k).2 e
      simp [oneErr, e', okIf]
    · have := hk rfl
      have e : withinB k (-16) 16 = true := this
      simp [oneErr, e, okIf]
    · rfl
    · have e : (decide ((W : Int) % 2 = 0) && decide ((H : Int) % 2 = 0)) = true := hf
      simp only [Bool.and_eq_true, decide_eq_true_eq] at e
      have e1 : W % 2 = 0 := by omega
      have e2 : H % 2 = 0 := by omega
      simp [oneErr, okIf, e1, e2]
    · have e : (decide (2 * (W : Int) ≤ 16) && decide (2 * (H : Int) ≤ 16)) = true := hf
      simp only [Bool.and_eq_true, decide_eq_true_eq] at e
      have e1 : 2 * W ≤ 16 := by omega
      have e2 : 2 * H ≤ 16 := by omega
      simp [oneErr, okIf, e1, e2]
  have h0 : (oneRes op W H aps k).E = 0 := by
    unfold oneRes
    rw [if_pos a1]; simp only [Int.toNat_natCast]; rw [if_pos hE]
  refine ⟨h0, oneRes_fine h0, ?_, ?_⟩
  all_goals
    unfold oneRes
    rw [if_pos a1]; simp only [Int.toNat_natCast]; rw [if_pos hE]
    rcases hop with rfl | rfl | rfl | rfl | rfl | rfl <;> simp [oneN, sizeP]
theorem lit_right {k : Int} {a : Res} {z : Sz} {ls : List Lt} (hl : lightsErr ls = 0) (hk : 1 ≤ k ∧ k ≤ 16) (ha : RB a z) : RB (litRes a.W a.H a.ps ls k) z := by
  obtain ⟨_, a1, a2, a3⟩ := ha
  obtain ⟨b1, b2, b3, b4⟩ := (fine_iff _ _ _).1 a1
  have hr := lightsErr_zero hl
  unfold litRes
  rw [if_pos a1, if_pos hl, if_pos hk]
  refine ⟨rfl, ?_, a2, a3⟩
  dsimp only
  clear a2 a3
  generalize a.W = aW at *
  generalize a.H = aH at *
  generalize a.ps = ps at *
  obtain ⟨W, rfl⟩ := Int.eq_ofNat_of_zero_le (show 0 ≤ aW by omega)
  obtain ⟨H, rfl⟩ := Int.eq_ofNat_of_zero_le (show 0 ≤ aH by omega)
  simp only [Int.toNat_natCast]
  refine fine_pix (by omega) (by omega) (fun x y hx hy => ?_)
  have h1 := px_bd' (W := W) (H := H) (by rw [← Int.natCast_mul] at b3; omega) b4 x y hx hy
  have h2 := sumG_bd x y (by omega) (by omega) ls hr.2
  unfold litG
  omega
theorem takes_two' {p : Ps} (h : hasB p.Op = true) : takesP p = [p.A, p.B] := by unfold takesP; rw [if_pos h]
theorem pickR_right {f : Fr} {n : Nat} (hR : ∀ k, k < n → RB ((pics f n).getD k (noRes 0)) ((szs f n).getD k Sz.zero)) {is : List Int} (hi : ∀ i ∈ is, 0 ≤ i ∧ i < n) {j : Nat} (hj : j < is.length) : RB ((pickR (pics f n) is).getD j (noRes 0)) ((pickZ (szs f n) is).getD j Sz.zero) := by
  have h1 := hi _ (List.getElem_mem hj)
  have e1 : (pickR (pics f n) is).getD j (noRes 0) = (pics f n).getD (is[j]).toNat (noRes 0) := by
    unfold pickR
    simp [List.getD_eq_getElem?_getD, List.getElem?_map, List.getElem?_eq_getElem hj]
  have e2 : (pickZ (szs f n) is).getD j Sz.zero = (szs f n).getD (is[j]).toNat Sz.zero := by
    unfold pickZ
    simp [List.getD_eq_getElem?_getD, List.getElem?_map, List.getElem?_eq_getElem hj]
  rw [e1, e2]
  exact hR _ (by omega)
theorem sizeP_one {W H op : Int} {zs : List Sz} (h : ¬ (op = 1 ∨ op = 2)) : sizeP W H op zs = sizeP 0 0 op [zs.getD 0 Sz.zero] := by
  unfold sizeP
  rw [if_neg h, if_neg h]
  rfl
/-- What a right pass makes is a right image. -/
theorem paint_right {f : Fr} {n : Nat} (hb : boundsE f = 0) (hE : passE f n = 0) (hR : ∀ k, k < n → RB ((pics f n).getD k (noRes 0)) ((szs f n).getD k Sz.zero)) : RB (paintRes (f.ps.getD n Ps.zero) (sizeN f n) (pickR (pics f n) (srcOf f.ps n))) (sizeN f n) := by
  obtain ⟨hW, hH, _⟩ := boundsE_zero hb
  obtain ⟨o1, o2, o3⟩ := passE_zero hE
  obtain ⟨hkn, hsl, hk, hl, hbare, _⟩ := ownE_zero o1
  have hs := src_bd o2
  have hpick := fun j hj => pickR_right hR hs (j := j) hj
  have hlen : (srcOf f.ps n).length = (takesP (f.ps.getD n Ps.zero)).length := by simp [srcOf]
  unfold sizeN at *
  generalize f.ps.getD n Ps.zero = p at *
  generalize pickR (pics f n) (srcOf f.ps n) = rs at *
  generalize pickZ (szs f n) (srcOf f.ps n) = zs at *
  unfold paintRes
  by_cases h12 : p.Op = 1 ∨ p.Op = 2
  · rw [if_pos h12]
    have e : sizeP f.W f.H p.Op zs = (f.W, f.H) := by unfold sizeP; rw [if_pos h12]
    rw [e]
    have hK : hasK p.Op = true := by rcases h12 with h | h <;> rw [h] <;> rfl
    have := hk hK
    have e2 : kB p.Op p.K = withinB p.K 0 65535 := by unfold kB; rw [if_neg (by omega), if_neg (by omega)]
    rw [e2] at this
    exact make_right h12 hW hH (by simp [withinB] at this; omega)
  · rw [if_neg h12]
    have hA := hasA_of hkn (fun h => h12 (.inl h)) (fun h => h12 (.inr h))
    obtain ⟨r, hr⟩ := takes_pos hA
    have h0 := hpick 0 (by rw [hlen, hr]; simp)
    rw [sizeP_one h12]
    by_cases hB : hasB p.Op = true
    · rw [if_pos hB]
      have h1 := hpick 1 (by rw [hlen, takes_two' hB]; simp)
      have hop : p.Op = 4 ∨ p.Op = 5 ∨ p.Op = 6 ∨ p.Op = 7 := by simp [hasB, withinB] at hB; omega
      have ef : zs.getD 0 Sz.zero = zs.getD 1 Sz.zero := by
        unfold fitP at o3
        rw [if_neg (by omega), if_neg (by omega), if_pos hB] at o3
        simpa using o3
      rw [← ef] at h1
      have e : sizeP 0 0 p.Op [zs.getD 0 Sz.zero] = zs.getD 0 Sz.zero := by
        unfold sizeP
        rw [if_neg (by omega), if_neg (by omega), if_neg (by omega)]; rfl
      rw [e]
      exact two_right hop h0 h1
    · rw [if_neg hB]
      have hB' := eq_false_of_ne_true hB
      by_cases h13 : p.Op = 13
      · rw [if_pos h13]
        have e : sizeP 0 0 p.Op [zs.getD 0 Sz.zero] = zs.getD 0 Sz.zero := by
          unfold sizeP
          rw [if_neg (by omega), if_neg (by omega), if_neg (by omega)]; rfl
        rw [e]
        have hK : hasK p.Op = true := by rw [h13]; rfl
        have hL : hasL p.Op = true := by rw [h13]; rfl
        have := hk hK
        have e2 : kB p.Op p.K = withinB p.K 1 16 := by unfold kB; rw [if_neg (by omega), if_pos h13]
        rw [e2] at this
        exact lit_right (hl hL) (by simp [withinB] at this; omega) h0
      · rw [if_neg h13]
        refine one_right hA hB' h13 hk ?_ h0
        unfold fitP at o3 ⊢
        rw [hB'] at o3 ⊢
        exact o3
theorem getD_left {α : Type} (l m : List α) (d : α) {k : Nat} (h : k < l.length) : (l ++ m).getD k d = l.getD k d := by
  rw [List.getD_eq_getElem?_getD, List.getD_eq_getElem?_getD, List.getElem?_append_left h]
theorem getD_last {α : Type} (l : List α) (x d : α) {k : Nat} (h : k = l.length) : (l ++ [x]).getD k d = x := by
  subst h
  rw [List.getD_eq_getElem?_getD, List.getElem?_append_right (Nat.le_refl _), Nat.sub_self]; rfl
theorem pics_right {f : Fr} (hb : boundsE f = 0) : ∀ {n : Nat}, firstE f n = 0 → ∀ k, k < n → RB ((pics f n).getD k (noRes 0)) ((szs f n).getD k Sz.zero)
  | 0, _ => fun k hk => by omega
  | n + 1, h => by
    have h0 := firstE_down f h (Nat.le_succ n)
    have ih := pics_right hb h0
    rw [firstE_at f h0] at h
    have hp := paint_right hb h ih
    intro k hk
    have e1 : pics f (n + 1) = pics f n ++ [paintRes (f.ps.getD n Ps.zero) (sizeN f n) (pickR (pics f n) (srcOf f.ps n))] := rfl
    have e2 : szs f (n + 1) = szs f n ++ [sizeN f n] := rfl
    have l1 := pics_length f n
    have l2 := szs_length f n
    rw [e1, e2]
    by_cases hkn : k < n
    · rw [getD_left _ _ _ (by omega), getD_left _ _ _ (by omega)]
      exact ih k hkn
    · rw [getD_last _ _ _ (by omega), getD_last _ _ _ (by omega)]
      exact hp
end Go.Proofs.YtaenpgdmiaekcaaGreatDoor
/-
  PAINT: lists of images in memory; paint.Pass.
-/
namespace Go.Proofs.YtaenpgdmiaekcaaGreatDoor
set_option maxRecDepth 100000
open Go.RowKit Im

/-- A slice's elements are the images rs; their numbers lie in blocks from base on. -/
structure Imgs (base : Nat) (w : World) (a : Option Addr) (len : Nat) (rs : List Res) : Prop where
  leng : rs.length = len
  big : len ≤ 9223372036854775807
  cells : rs = [] ∨ ∃ b off, a = some ⟨b, off, none⟩ ∧ b < w.heap.size ∧ ∀ j, j < len → ∃ pa cap, w.cell? ⟨b, off + j * 3, none⟩ = some (.int .i64 (rs.getD j (noRes 0)).W) ∧ w.cell? ⟨b, off + j * 3 + 1, none⟩ = some (.int .i64 (rs.getD j (noRes 0)).H) ∧ w.cell? ⟨b, off + j * 3 + 2, none⟩ = some (.slice pa (rs.getD j (noRes 0)).ps.length cap) ∧ Ints base w pa (rs.getD j (noRes 0)).ps.length (rs.getD j (noRes 0)).ps
theorem Imgs.below {base : Nat} {w w' : World} {a : Option Addr} {len : Nat} {rs : List Res} (h : Imgs base w a len rs) (hb : Below w.heap.size w w') : Imgs base w' a len rs := by
  refine ⟨h.leng, h.big, ?_⟩
  rcases h.cells with e | ⟨b, off, ha, hl, hc⟩
  · exact .inl e
  · refine .inr ⟨b, off, ha, Nat.lt_of_lt_of_le hl hb.size, fun j hj => ?_⟩
    obtain ⟨pa, cap, c0, c1, c2, hi⟩ := hc j hj
    exact ⟨pa, cap, (hb.cell (p := ⟨b, off + j * 3, none⟩) hl).trans c0, (hb.cell (p := ⟨b, off + j * 3 + 1, none⟩) hl).trans c1, (hb.cell (p := ⟨b, off + j * 3 + 2, none⟩) hl).trans c2, hi.below (Nat.le_refl _) hb⟩
theorem Imgs.nth {base : Nat} {w : World} {a : Option Addr} {len : Nat} {rs : List Res} (h : Imgs base w a len rs) {k : Nat} (hk : k < len) : ∃ b off pa cap, a = some ⟨b, off, none⟩ ∧ b < w.heap.size ∧ w.cell? ⟨b, off + k * 3, none⟩ = some (.int .i64 (rs.getD k (noRes 0)).W) ∧ w.cell? ⟨b, off + k * 3 + 1, none⟩ = some (.int .i64 (rs.getD k (noRes 0)).H) ∧ w.cell? ⟨b, off + k * 3 + 2, none⟩ = some (.slice pa (rs.getD k (noRes 0)).ps.length cap) ∧ Ints base w pa (rs.getD k (noRes 0)).ps.length (rs.getD k (noRes 0)).ps := by
  rcases h.cells with e | ⟨b, off, ha, hl, hc⟩
  · have := h.leng; subst e; simp at this; omega
  · obtain ⟨pa, cap, r⟩ := hc k hk
    exact ⟨b, off, pa, cap, ha, hl, r⟩
/-- The world behind paint.Pass's boxes. -/
abbrev pw (w : World) (Op To A B K : Int) (la : Option Addr) (ll lc : Nat) (zw zh : Int) : World :=
  ((w.alloc (.cells #[.int .i64 Op, .int .i64 To, .int .i64 A, .int .i64 B, .int .i64 K, .slice la ll lc] 72)).alloc (.cells #[.int .i64 zw, .int .i64 zh] 75)).alloc (.cells #[.int .i64 0, .int .i64 0, .slice none 0 0] 24)
/-- An image that is nothing, in a block of its own. -/
structure IBox (w : World) (b : Nat) : Prop where
  lt : b < w.heap.size
  c0 : w.cell? ⟨b, 0, none⟩ = some (.int .i64 0)
  c1 : w.cell? ⟨b, 1, none⟩ = some (.int .i64 0)
  c2 : w.cell? ⟨b, 2, none⟩ = some (.slice none 0 0)
  f0 : w.frozen? ⟨b, 0, none⟩ = false
  f1 : w.frozen? ⟨b, 1, none⟩ = false
  f2 : w.frozen? ⟨b, 2, none⟩ = false
theorem IBox.new (w : World) : IBox (w.alloc (.cells #[.int .i64 0, .int .i64 0, .slice none 0 0] 24)) w.heap.size :=
  ⟨by simp, by simp [go_sem], by simp [go_sem], by simp [go_sem], by simp [go_sem], by simp [go_sem], by simp [go_sem]⟩
theorem IBox.below {w w' : World} {b B : Nat} (h : IBox w b) (hb : Below B w w') (hB : b < B) (hs : w.heap.size ≤ w'.heap.size) : IBox w' b :=
  ⟨Nat.lt_of_lt_of_le h.lt hs, (hb.cell (p := ⟨b, 0, none⟩) hB).trans h.c0, (hb.cell (p := ⟨b, 1, none⟩) hB).trans h.c1, (hb.cell (p := ⟨b, 2, none⟩) hB).trans h.c2, (hb.frozen (p := ⟨b, 0, none⟩) hB).trans h.f0, (hb.frozen (p := ⟨b, 1, none⟩) hB).trans h.f1, (hb.frozen (p := ⟨b, 2, none⟩) hB).trans h.f2⟩
theorem pw_below (w : World) (Op To A B K : Int) (la : Option Addr) (ll lc : Nat) (zw zh : Int) : Below w.heap.size w (pw w Op To A B K la ll lc zw zh) := below_box (below_box (below_box (Below.refl _ _) _) _) _
theorem pw_size (w : World) (Op To A B K : Int) (la : Option Addr) (ll lc : Nat) (zw zh : Int) : (pw w Op To A B K la ll lc zw zh).heap.size = w.heap.size + 3 := by simp [pw]
theorem pw_box (w : World) (Op To A B K : Int) (la : Option Addr) (ll lc : Nat) (zw zh : Int) : IBox (pw w Op To A B K la ll lc zw zh) (w.heap.size + 2) := by
  have := IBox.new ((w.alloc (.cells #[.int .i64 Op, .int .i64 To, .int .i64 A, .int .i64 B, .int .i64 K, .slice la ll lc] 72)).alloc (.cells #[.int .i64 zw, .int .i64 zh] 75))
  simpa using this
/-- What is told, behind the store of the image into its box. -/
theorem paint_told {w wx w' : World} {b : Nat} {r : Res} {ra : Option Addr} {rc : Nat} (hx : Below w.heap.size w wx) (hlt : b < wx.heap.size) (hb0 : w.heap.size ≤ b) (hi : Ints wx.heap.size w' ra r.ps.length r.ps) (hb : Below wx.heap.size wx w') :
    Told w r (.returned (.tuple #[.agg #[.int .i64 r.W, .int .i64 r.H, .slice ra r.ps.length rc], .int .i64 r.E])) (((w'.setCell ⟨b, 0, none⟩ (.int .i64 r.W)).setCell ⟨b, 1, none⟩ (.int .i64 r.H)).setCell ⟨b, 2, none⟩ (.slice ra r.ps.length rc)) :=
  ⟨ra, rc, rfl, (((hi.setCell (p := ⟨b, 0, none⟩) hlt _).setCell (p := ⟨b, 1, none⟩) hlt _).setCell (p := ⟨b, 2, none⟩) hlt _).mono hx.size, (((below_step hx hb).setCell (p := ⟨b, 0, none⟩) hb0 _).setCell (p := ⟨b, 1, none⟩) hb0 _).setCell (p := ⟨b, 2, none⟩) hb0 _⟩
set_option maxHeartbeats 1000000 in
theorem paint_make (Op To A B K : Int) (la : Option Addr) (ll lc : Nat) (zw zh : Int) (fa : Option Addr) (flen fcap : Nat) (w : World) (h12 : Op = 1 ∨ Op = 2) {r : Res} (hr : makeRes Op zw zh K = r) :
    Calls Tryz.prog 31 #[.agg #[.int .i64 Op, .int .i64 To, .int .i64 A, .int .i64 B, .int .i64 K, .slice la ll lc], .agg #[.int .i64 zw, .int .i64 zh], .slice fa flen fcap] w (Told w r) := by
  have hm := fun wx => make_told wx hr
  have hbx := pw_below w Op To A B K la ll lc zw zh
  have hbox := pw_box w Op To A B K la ll lc zw zh
  have hsz := pw_size w Op To A B K la ll lc zw zh
  clear hr
  rcases h12 with rfl | rfl
  all_goals
    go_enter Tryz.func31, Tryz.ntmps31
    go_wp2_with fail
    refine (hm _).mono ?_
    rintro e w' ⟨ra, rc, rfl, hri, hb⟩
    obtain ⟨_, c0, c1, c2, f0, f1, f2⟩ := hbox.below hb hbox.lt hb.size
    clear hm
    have hT := paint_told (rc := rc) hbx hbox.lt (by omega) hri hb
    have HT : Hid (_) := hT
    clear hT hri hb hbx hbox
    go_wp2
    refine bodyPost_ret (v := .tuple #[.agg #[.int .i64 r.W, .int .i64 r.H, .slice ra r.ps.length rc], .int .i64 r.E]) (by simp [results, Tryz.results31, go_sem, c0, c1, c2]) rfl HT.out
end Go.Proofs.YtaenpgdmiaekcaaGreatDoor
/-
  PAINT2: paint.Pass, of passes that take images.
-/
namespace Go.Proofs.YtaenpgdmiaekcaaGreatDoor
set_option maxRecDepth 100000
open Go.RowKit Im

/-- What the walk holds: the boxes' own cells and the image's. -/
theorem keepI {W3 w' : World} {N b off pb i j : Nat} {x0 x1 x2 y0 y1 : Value} (h : Below N W3 w') (hb : b < N) (hp : pb < N) (e0 : W3.cell? ⟨b, off, none⟩ = some x0) (e1 : W3.cell? ⟨b, off + 1, none⟩ = some x1) (e2 : W3.cell? ⟨b, off + 2, none⟩ = some x2) (p0 : W3.cell? ⟨pb, i, none⟩ = some y0) (p1 : W3.cell? ⟨pb, j, none⟩ = some y1) :
    w'.cell? ⟨b, off, none⟩ = some x0 ∧ w'.cell? ⟨b, off + 1, none⟩ = some x1 ∧ w'.cell? ⟨b, off + 2, none⟩ = some x2 ∧ w'.cell? ⟨pb, i, none⟩ = some y0 ∧ w'.cell? ⟨pb, j, none⟩ = some y1 :=
  ⟨(h.cell (p := ⟨b, off, none⟩) hb).trans e0, (h.cell (p := ⟨b, off + 1, none⟩) hb).trans e1, (h.cell (p := ⟨b, off + 2, none⟩) hb).trans e2, (h.cell (p := ⟨pb, i, none⟩) hp).trans p0, (h.cell (p := ⟨pb, j, none⟩) hp).trans p1⟩
theorem keepI2 {W3 w' : World} {N b off pb i : Nat} {x0 x1 x2 x3 x4 x5 y0 : Value} (h : Below N W3 w') (hb : b < N) (hp : pb < N) (e0 : W3.cell? ⟨b, off, none⟩ = some x0) (e1 : W3.cell? ⟨b, off + 1, none⟩ = some x1) (e2 : W3.cell? ⟨b, off + 2, none⟩ = some x2) (e3 : W3.cell? ⟨b, off + 3, none⟩ = some x3) (e4 : W3.cell? ⟨b, off + 3 + 1, none⟩ = some x4) (e5 : W3.cell? ⟨b, off + 3 + 2, none⟩ = some x5) (p0 : W3.cell? ⟨pb, i, none⟩ = some y0) :
    w'.cell? ⟨b, off, none⟩ = some x0 ∧ w'.cell? ⟨b, off + 1, none⟩ = some x1 ∧ w'.cell? ⟨b, off + 2, none⟩ = some x2 ∧ w'.cell? ⟨b, off + 3, none⟩ = some x3 ∧ w'.cell? ⟨b, off + 3 + 1, none⟩ = some x4 ∧ w'.cell? ⟨b, off + 3 + 2, none⟩ = some x5 ∧ w'.cell? ⟨pb, i, none⟩ = some y0 :=
  ⟨(h.cell (p := ⟨b, off, none⟩) hb).trans e0, (h.cell (p := ⟨b, off + 1, none⟩) hb).trans e1, (h.cell (p := ⟨b, off + 2, none⟩) hb).trans e2, (h.cell (p := ⟨b, off + 3, none⟩) hb).trans e3, (h.cell (p := ⟨b, off + 3 + 1, none⟩) hb).trans e4, (h.cell (p := ⟨b, off + 3 + 2, none⟩) hb).trans e5, (h.cell (p := ⟨pb, i, none⟩) hp).trans p0⟩
set_option maxHeartbeats 2000000 in
theorem paint_one (Op To A B K : Int) (la : Option Addr) (ll lc : Nat) (zw zh : Int) (flen fcap : Nat) (w : World) (hop : Op = 3 ∨ Op = 8 ∨ Op = 9 ∨ Op = 10 ∨ Op = 11 ∨ Op = 12) (b off : Nat) (hb : b < w.heap.size) (hl : 0 < flen) (iw ih : Int) (pa : Option Addr) (cap : Nat) (ps : List Int)
    (d0 : w.cell? ⟨b, off, none⟩ = some (.int .i64 iw)) (d1 : w.cell? ⟨b, off + 1, none⟩ = some (.int .i64 ih)) (d2 : w.cell? ⟨b, off + 2, none⟩ = some (.slice pa ps.length cap)) (hi : Ints 0 w pa ps.length ps) {r : Res} (hr : oneRes Op iw ih ps K = r) :
    Calls Tryz.prog 31 #[.agg #[.int .i64 Op, .int .i64 To, .int .i64 A, .int .i64 B, .int .i64 K, .slice la ll lc], .agg #[.int .i64 zw, .int .i64 zh], .slice (some ⟨b, off, none⟩) flen fcap] w (Told w r) := by
  have hb3 := pw_below w Op To A B K la ll lc zw zh
  have hbx := hb3.drew
  have hbN : b < w.heap.size + 2 := by omega
  have hpN : w.heap.size < w.heap.size + 2 := by omega
  have hm := one_told (op := Op) (W := iw) (H := ih) cap (k := K) (hi.below (Nat.le_refl _) hbx) hr
  have hbox0 := pw_box w Op To A B K la ll lc zw zh
  have hbox := hbox0.below (Below.refl _ _).drew hbox0.lt (Nat.le_refl _)
  clear hbox0
  have hsz := pw_size w Op To A B K la ll lc zw zh
  have hsN : w.heap.size + 2 ≤ (pw w Op To A B K la ll lc zw zh).drew.heap.size := by show _ ≤ (pw w Op To A B K la ll lc zw zh).heap.size; omega
  have e0 := (hb3.cell (p := ⟨b, off, none⟩) hb).trans d0
  have e1 := (hb3.cell (p := ⟨b, off + 1, none⟩) hb).trans d1
  have e2 := (hb3.cell (p := ⟨b, off + 2, none⟩) hb).trans d2
  have hP := ((PBox.new w Op To A B K la ll lc).alloc (.cells #[.int .i64 zw, .int .i64 zh] 75)).alloc (.cells #[.int .i64 0, .int .i64 0, .slice none 0 0] 24)
  obtain ⟨_, p0, p1, p2, p3, p4, p5⟩ := hP
  clear hr d0 d1 d2 hi
  have n1 : ¬ Op = 1 := by omega
  have n2 : ¬ Op = 2 := by omega
  have n4 : ¬ Op = 4 := by omega
  have n5 : ¬ Op = 5 := by omega
  have n6 : ¬ Op = 6 := by omega
  have n7 : ¬ Op = 7 := by omega
  have n13 : ¬ Op = 13 := by omega
  clear hop
  · go_enter Tryz.func31, Tryz.ntmps31
    go_wp2_with fail
    go_region_held3 (fun w' => w'.cell? ⟨b, off, none⟩ = some (.int .i64 iw) ∧ w'.cell? ⟨b, off + 1, none⟩ = some (.int .i64 ih) ∧ w'.cell? ⟨b, off + 2, none⟩ = some (.slice pa ps.length cap) ∧ w'.cell? ⟨w.heap.size, 0, none⟩ = some (.int .i64 Op) ∧ w'.cell? ⟨w.heap.size, 4, none⟩ = some (.int .i64 K))
      (first | exact keepI (Below.refl _ _).drew hbN hpN e0 e1 e2 p0 p4 | exact keepI hbW hbN hpN e0 e1 e2 p0 p4 | exact keepI (((hbW.setCell (Nat.le_refl _) _).setCell (Nat.le_refl _) _).setCell (Nat.le_refl _) _) hbN hpN e0 e1 e2 p0 p4)
      ((go_at_call 71; refine hm.mono ?_; rintro e w' ⟨ra, rc, rfl, hri, hbb⟩; obtain ⟨_, c0, c1, c2, f0, f1, f2⟩ := hbox.below hbb hbox.lt hbb.size; have hbW := (Below.refl (w.heap.size + 2) _).drew.trans (hbb.mono hsN)))
    all_goals
      have HT : Hid (_) := paint_told (rc := rc) hbx hbox.lt (by omega) hri hbb
      clear hri hbb hbx hbox hm e0 e1 e2
      go_wp2
      refine bodyPost_ret (v := .tuple #[.agg #[.int .i64 r.W, .int .i64 r.H, .slice ra r.ps.length rc], .int .i64 r.E]) (by simp [results, Tryz.results31, go_sem, c0, c1, c2]) rfl HT.out
set_option maxHeartbeats 2000000 in
theorem paint_lit (To A B K : Int) (la : Option Addr) (ll lc : Nat) (ls : List Lt) (zw zh : Int) (flen fcap : Nat) (w : World) (hL : Lights w la ll ls) (b off : Nat) (hb : b < w.heap.size) (hl : 0 < flen) (iw ih : Int) (pa : Option Addr) (cap : Nat) (ps : List Int)
    (d0 : w.cell? ⟨b, off, none⟩ = some (.int .i64 iw)) (d1 : w.cell? ⟨b, off + 1, none⟩ = some (.int .i64 ih)) (d2 : w.cell? ⟨b, off + 2, none⟩ = some (.slice pa ps.length cap)) (hi : Ints 0 w pa ps.length ps) {r : Res} (hr : litRes iw ih ps ls K = r) :
    Calls Tryz.prog 31 #[.agg #[.int .i64 13, .int .i64 To, .int .i64 A, .int .i64 B, .int .i64 K, .slice la ll lc], .agg #[.int .i64 zw, .int .i64 zh], .slice (some ⟨b, off, none⟩) flen fcap] w (Told w r) := by
  have hb3 := pw_below w 13 To A B K la ll lc zw zh
  have hbx := hb3.drew
  have hbN : b < w.heap.size + 2 := by omega
  have hpN : w.heap.size < w.heap.size + 2 := by omega
  have hm := lit_told (W := iw) (H := ih) cap lc (tile := K) (hi.below (Nat.le_refl _) hbx) (hL.below hbx) hr
  have hbox0 := pw_box w 13 To A B K la ll lc zw zh
  have hbox := hbox0.below (Below.refl _ _).drew hbox0.lt (Nat.le_refl _)
  clear hbox0
  have hsz := pw_size w 13 To A B K la ll lc zw zh
  have hsN : w.heap.size + 2 ≤ (pw w 13 To A B K la ll lc zw zh).drew.heap.size := by show _ ≤ (pw w 13 To A B K la ll lc zw zh).heap.size; omega
  have e0 := (hb3.cell (p := ⟨b, off, none⟩) hb).trans d0
  have e1 := (hb3.cell (p := ⟨b, off + 1, none⟩) hb).trans d1
  have e2 := (hb3.cell (p := ⟨b, off + 2, none⟩) hb).trans d2
  have hP := ((PBox.new w 13 To A B K la ll lc).alloc (.cells #[.int .i64 zw, .int .i64 zh] 75)).alloc (.cells #[.int .i64 0, .int .i64 0, .slice none 0 0] 24)
  obtain ⟨_, p0, p1, p2, p3, p4, p5⟩ := hP
  clear hr d0 d1 d2 hi
  · go_enter Tryz.func31, Tryz.ntmps31
    go_wp2_with fail
    go_region_held3 (fun w' => w'.cell? ⟨b, off, none⟩ = some (.int .i64 iw) ∧ w'.cell? ⟨b, off + 1, none⟩ = some (.int .i64 ih) ∧ w'.cell? ⟨b, off + 2, none⟩ = some (.slice pa ps.length cap) ∧ w'.cell? ⟨w.heap.size, 4, none⟩ = some (.int .i64 K) ∧ w'.cell? ⟨w.heap.size, 5, none⟩ = some (.slice la ll lc))
      (first | exact keepI (Below.refl _ _).drew hbN hpN e0 e1 e2 p4 p5 | exact keepI hbW hbN hpN e0 e1 e2 p4 p5 | exact keepI (((hbW.setCell (Nat.le_refl _) _).setCell (Nat.le_refl _) _).setCell (Nat.le_refl _) _) hbN hpN e0 e1 e2 p4 p5)
      ((go_at_call 70; refine hm.mono ?_; rintro e w' ⟨ra, rc, rfl, hri, hbb⟩; obtain ⟨_, c0, c1, c2, f0, f1, f2⟩ := hbox.below hbb hbox.lt hbb.size; have hbW := (Below.refl (w.heap.size + 2) _).drew.trans (hbb.mono hsN)))
    all_goals
      have HT : Hid (_) := paint_told (rc := rc) hbx hbox.lt (by omega) hri hbb
      clear hri hbb hbx hbox hm e0 e1 e2
      go_wp2
      refine bodyPost_ret (v := .tuple #[.agg #[.int .i64 r.W, .int .i64 r.H, .slice ra r.ps.length rc], .int .i64 r.E]) (by simp [results, Tryz.results31, go_sem, c0, c1, c2]) rfl HT.out
set_option maxHeartbeats 4000000 in
theorem paint_two (Op To A B K : Int) (la : Option Addr) (ll lc : Nat) (zw zh : Int) (flen fcap : Nat) (w : World) (hop : Op = 4 ∨ Op = 5 ∨ Op = 6 ∨ Op = 7) (b off : Nat) (hb : b < w.heap.size) (hl0 : 0 < flen) (hl : (1 : Int) < (flen : Int)) (iw ih : Int) (pa : Option Addr) (cap : Nat) (ps : List Int)
    (d0 : w.cell? ⟨b, off, none⟩ = some (.int .i64 iw)) (d1 : w.cell? ⟨b, off + 1, none⟩ = some (.int .i64 ih)) (d2 : w.cell? ⟨b, off + 2, none⟩ = some (.slice pa ps.length cap)) (hi : Ints 0 w pa ps.length ps)
    (jw jh : Int) (qa : Option Addr) (qcap : Nat) (qs : List Int) (g0 : w.cell? ⟨b, off + 3, none⟩ = some (.int .i64 jw)) (g1 : w.cell? ⟨b, off + 3 + 1, none⟩ = some (.int .i64 jh)) (g2 : w.cell? ⟨b, off + 3 + 2, none⟩ = some (.slice qa qs.length qcap)) (hj : Ints 0 w qa qs.length qs) {r : Res} (hr : twoRes Op iw ih ps jw jh qs = r) :
    Calls Tryz.prog 31 #[.agg #[.int .i64 Op, .int .i64 To, .int .i64 A, .int .i64 B, .int .i64 K, .slice la ll lc], .agg #[.int .i64 zw, .int .i64 zh], .slice (some ⟨b, off, none⟩) flen fcap] w (Told w r) := by
  have hb3 := pw_below w Op To A B K la ll lc zw zh
  have hbx := hb3.drew
  have hbN : b < w.heap.size + 2 := by omega
  have hpN : w.heap.size < w.heap.size + 2 := by omega
  have hm := two_told (op := Op) (W := iw) (H := ih) (W' := jw) (H' := jh) cap qcap (hi.below (Nat.le_refl _) hbx) (hj.below (Nat.le_refl _) hbx) hr
  have hbox0 := pw_box w Op To A B K la ll lc zw zh
  have hbox := hbox0.below (Below.refl _ _).drew hbox0.lt (Nat.le_refl _)
  clear hbox0
  have hsz := pw_size w Op To A B K la ll lc zw zh
  have hsN : w.heap.size + 2 ≤ (pw w Op To A B K la ll lc zw zh).drew.heap.size := by show _ ≤ (pw w Op To A B K la ll lc zw zh).heap.size; omega
  have e0 := (hb3.cell (p := ⟨b, off, none⟩) hb).trans d0
  have e1 := (hb3.cell (p := ⟨b, off + 1, none⟩) hb).trans d1
  have e2 := (hb3.cell (p := ⟨b, off + 2, none⟩) hb).trans d2
  have e3 := (hb3.cell (p := ⟨b, off + 3, none⟩) hb).trans g0
  have e4 := (hb3.cell (p := ⟨b, off + 3 + 1, none⟩) hb).trans g1
  have e5 := (hb3.cell (p := ⟨b, off + 3 + 2, none⟩) hb).trans g2
  have hP := ((PBox.new w Op To A B K la ll lc).alloc (.cells #[.int .i64 zw, .int .i64 zh] 75)).alloc (.cells #[.int .i64 0, .int .i64 0, .slice none 0 0] 24)
  obtain ⟨_, p0, p1, p2, p3, p4, p5⟩ := hP
  clear hr d0 d1 d2 hi g0 g1 g2 hj
  rcases hop with rfl | rfl | rfl | rfl
  · go_enter Tryz.func31, Tryz.ntmps31
    go_wp2_with fail
    go_region_held3 (fun w' => w'.cell? ⟨b, off, none⟩ = some (.int .i64 iw) ∧ w'.cell? ⟨b, off + 1, none⟩ = some (.int .i64 ih) ∧ w'.cell? ⟨b, off + 2, none⟩ = some (.slice pa ps.length cap) ∧ w'.cell? ⟨b, off + 3, none⟩ = some (.int .i64 jw) ∧ w'.cell? ⟨b, off + 3 + 1, none⟩ = some (.int .i64 jh) ∧ w'.cell? ⟨b, off + 3 + 2, none⟩ = some (.slice qa qs.length qcap) ∧ w'.cell? ⟨w.heap.size, 0, none⟩ = some (.int .i64 4))
      (first | exact keepI2 (Below.refl _ _).drew hbN hpN e0 e1 e2 e3 e4 e5 p0 | exact keepI2 hbW hbN hpN e0 e1 e2 e3 e4 e5 p0 | exact keepI2 (((hbW.setCell (Nat.le_refl _) _).setCell (Nat.le_refl _) _).setCell (Nat.le_refl _) _) hbN hpN e0 e1 e2 e3 e4 e5 p0)
      ((go_at_call 69; refine hm.mono ?_; rintro e w' ⟨ra, rc, rfl, hri, hbb⟩; obtain ⟨_, c0, c1, c2, f0, f1, f2⟩ := hbox.below hbb hbox.lt hbb.size; have hbW := (Below.refl (w.heap.size + 2) _).drew.trans (hbb.mono hsN)))
    all_goals
      have HT : Hid (_) := paint_told (rc := rc) hbx hbox.lt (by omega) hri hbb
      clear hri hbb hbx hbox hm e0 e1 e2 e3 e4 e5
      go_wp2
      refine bodyPost_ret (v := .tuple #[.agg #[.int .i64 r.W, .int .i64 r.H, .slice ra r.ps.length rc], .int .i64 r.E]) (by simp [results, Tryz.results31, go_sem, c0, c1, c2]) rfl HT.out
  · go_enter Tryz.func31, Tryz.ntmps31
    go_wp2_with fail
    go_region_held3 (fun w' => w'.cell? ⟨b, off, none⟩ = some (.int .i64 iw) ∧ w'.cell? ⟨b, off + 1, none⟩ = some (.int .i64 ih) ∧ w'.cell? ⟨b, off + 2, none⟩ = some (.slice pa ps.length cap) ∧ w'.cell? ⟨b, off + 3, none⟩ = some (.int .i64 jw) ∧ w'.cell? ⟨b, off + 3 + 1, none⟩ = some (.int .i64 jh) ∧ w'.cell? ⟨b, off + 3 + 2, none⟩ = some (.slice qa qs.length qcap) ∧ w'.cell? ⟨w.heap.size, 0, none⟩ = some (.int .i64 5))
      (first | exact keepI2 (Below.refl _ _).drew hbN hpN e0 e1 e2 e3 e4 e5 p0 | exact keepI2 hbW hbN hpN e0 e1 e2 e3 e4 e5 p0 | exact keepI2 (((hbW.setCell (Nat.le_refl _) _).setCell (Nat.le_refl _) _).setCell (Nat.le_refl _) _) hbN hpN e0 e1 e2 e3 e4 e5 p0)
      ((go_at_call 69; refine hm.mono ?_; rintro e w' ⟨ra, rc, rfl, hri, hbb⟩; obtain ⟨_, c0, c1, c2, f0, f1, f2⟩ := hbox.below hbb hbox.lt hbb.size; have hbW := (Below.refl (w.heap.size + 2) _).drew.trans (hbb.mono hsN)))
    all_goals
      have HT : Hid (_) := paint_told (rc := rc) hbx hbox.lt (by omega) hri hbb
      clear hri hbb hbx hbox hm e0 e1 e2 e3 e4 e5
      go_wp2
      refine bodyPost_ret (v := .tuple #[.agg #[.int .i64 r.W, .int .i64 r.H, .slice ra r.ps.length rc], .int .i64 r.E]) (by simp [results, Tryz.results31, go_sem, c0, c1, c2]) rfl HT.out
  · go_enter Tryz.func31, Tryz.ntmps31
    go_wp2_with fail
    go_region_held3 (fun w' => w'.cell? ⟨b, off, none⟩ = some (.int .i64 iw) ∧ w'.cell? ⟨b, off + 1, none⟩ = some (.int .i64 ih) ∧ w'.cell? ⟨b, off + 2, none⟩ = some (.slice pa ps.length cap) ∧ w'.cell? ⟨b, off + 3, none⟩ = some (.int .i64 jw) ∧ w'.cell? ⟨b, off + 3 + 1, none⟩ = some (.int .i64 jh) ∧ w'.cell? ⟨b, off + 3 + 2, none⟩ = some (.slice qa qs.length qcap) ∧ w'.cell? ⟨w.heap.size, 0, none⟩ = some (.int .i64 6))
      (first | exact keepI2 (Below.refl _ _).drew hbN hpN e0 e1 e2 e3 e4 e5 p0 | exact keepI2 hbW hbN hpN e0 e1 e2 e3 e4 e5 p0 | exact keepI2 (((hbW.setCell (Nat.le_refl _) _).setCell (Nat.le_refl _) _).setCell (Nat.le_refl _) _) hbN hpN e0 e1 e2 e3 e4 e5 p0)
      ((go_at_call 69; refine hm.mono ?_; rintro e w' ⟨ra, rc, rfl, hri, hbb⟩; obtain ⟨_, c0, c1, c2, f0, f1, f2⟩ := hbox.below hbb hbox.lt hbb.size; have hbW := (Below.refl (w.heap.size + 2) _).drew.trans (hbb.mono hsN)))
    all_goals
      have HT : Hid (_) := paint_told (rc := rc) hbx hbox.lt (by omega) hri hbb
      clear hri hbb hbx hbox hm e0 e1 e2 e3 e4 e5
      go_wp2
      refine bodyPost_ret (v := .tuple #[.agg #[.int .i64 r.W, .int .i64 r.H, .slice ra r.ps.length rc], .int .i64 r.E]) (by simp [results, Tryz.results31, go_sem, c0, c1, c2]) rfl HT.out
  · go_enter Tryz.func31, Tryz.ntmps31
    go_wp2_with fail
    go_region_held3 (fun w' => w'.cell? ⟨b, off, none⟩ = some (.int .i64 iw) ∧ w'.cell? ⟨b, off + 1, none⟩ = some (.int .i64 ih) ∧ w'.cell? ⟨b, off + 2, none⟩ = some (.slice pa ps.length cap) ∧ w'.cell? ⟨b, off + 3, none⟩ = some (.int .i64 jw) ∧ w'.cell? ⟨b, off + 3 + 1, none⟩ = some (.int .i64 jh) ∧ w'.cell? ⟨b, off + 3 + 2, none⟩ = some (.slice qa qs.length qcap) ∧ w'.cell? ⟨w.heap.size, 0, none⟩ = some (.int .i64 7))
      (first | exact keepI2 (Below.refl _ _).drew hbN hpN e0 e1 e2 e3 e4 e5 p0 | exact keepI2 hbW hbN hpN e0 e1 e2 e3 e4 e5 p0 | exact keepI2 (((hbW.setCell (Nat.le_refl _) _).setCell (Nat.le_refl _) _).setCell (Nat.le_refl _) _) hbN hpN e0 e1 e2 e3 e4 e5 p0)
      ((go_at_call 69; refine hm.mono ?_; rintro e w' ⟨ra, rc, rfl, hri, hbb⟩; obtain ⟨_, c0, c1, c2, f0, f1, f2⟩ := hbox.below hbb hbox.lt hbb.size; have hbW := (Below.refl (w.heap.size + 2) _).drew.trans (hbb.mono hsN)))
    all_goals
      have HT : Hid (_) := paint_told (rc := rc) hbx hbox.lt (by omega) hri hbb
      clear hri hbb hbx hbox hm e0 e1 e2 e3 e4 e5
      go_wp2
      refine bodyPost_ret (v := .tuple #[.agg #[.int .i64 r.W, .int .i64 r.H, .slice ra r.ps.length rc], .int .i64 r.E]) (by simp [results, Tryz.results31, go_sem, c0, c1, c2]) rfl HT.out
end Go.Proofs.YtaenpgdmiaekcaaGreatDoor
