/-
  RES: One, Two and Make, each told by one answer.
-/
import Derived.Test.YtfpkiimlaepnhaaTrueMath
namespace Go.Proofs.Ytfpkiimlaepnhaa
set_option maxRecDepth 100000
open Go.RowKit Im

/-- An answer: the error's number, and the image. -/
structure Res where
  E : Int
  W : Int
  H : Int
  ps : List Int
def noRes (E : Int) : Res := ⟨E, 0, 0, []⟩
/-- The call's end tells the answer r; its numbers lie in memory. -/
def Told (w : World) (r : Res) (e : Ending) (w' : World) : Prop :=
  ∃ a cap, e = .returned (.tuple #[.agg #[.int .i64 r.W, .int .i64 r.H, .slice a r.ps.length cap], .int .i64 r.E]) ∧ Ints w.heap.size w' a r.ps.length r.ps ∧ Below w.heap.size w w'
theorem told_no {w : World} {E : Int} {e : Ending} {w' : World} (h : e = .returned (.tuple #[noImage, .int .i64 E]) ∧ Below w.heap.size w w') : Told w (noRes E) e w' :=
  ⟨none, 0, h.1, Ints.nil _ w', h.2⟩

def oneRes (op W H : Int) (ps : List Int) (k : Int) : Res :=
  if fineB W H ps = true then
    if oneErr op W.toNat H.toNat k = 0 then ⟨0, oneN op W.toNat, oneN op H.toNat, pix (oneN op W.toNat) (oneG op W.toNat H.toNat k ps) (oneN op W.toNat * oneN op H.toNat)⟩ else noRes (oneErr op W.toNat H.toNat k)
  else noRes 1
theorem one_told {op W H : Int} {a : Option Addr} {len : Nat} (cap : Nat) {k : Int} {ps : List Int} {w : World} (h : Ints 0 w a len ps) {r : Res} (hr : oneRes op W H ps k = r) :
    Calls Try.prog 22 #[.int .i64 op, .agg #[.int .i64 W, .int .i64 H, .slice a len cap], .int .i64 k] w (Told w r) := by
  subst hr
  unfold oneRes
  by_cases hf : fineB W H ps = true
  · rw [if_pos hf]
    obtain ⟨W', H', b, off, rfl, rfl, rfl, rfl, hF⟩ := fine_of h hf
    simp only [Int.toNat_natCast]
    by_cases hE : oneErr op W' H' k = 0
    · rw [if_pos hE]
      refine (one_ok op cap k hF hE).mono fun e w' ⟨a, cap', he, hi, hb⟩ => ⟨a, cap', ?_, ?_, hb⟩
      · simp only [pix_length]; exact he
      · simp only [pix_length]; exact hi
    · rw [if_neg hE]
      exact (one_err op cap k hF _ rfl hE).mono fun e w' h => told_no h
  · rw [if_neg hf]
    exact (one_not op cap k h (eq_false_of_ne_true hf)).mono fun e w' h => told_no h
theorem oneRes_fine {op W H : Int} {ps : List Int} {k : Int} (h : (oneRes op W H ps k).E = 0) : fineB (oneRes op W H ps k).W (oneRes op W H ps k).H (oneRes op W H ps k).ps = true := by
  unfold oneRes at h ⊢
  by_cases hf : fineB W H ps = true
  · rw [if_pos hf] at h ⊢
    have hb := (fine_iff _ _ _).1 hf
    obtain ⟨W', rfl⟩ := Int.eq_ofNat_of_zero_le (show 0 ≤ W by omega)
    obtain ⟨H', rfl⟩ := Int.eq_ofNat_of_zero_le (show 0 ≤ H by omega)
    simp only [Int.toNat_natCast] at h ⊢
    by_cases hE : oneErr op W' H' k = 0
    · rw [if_pos hE]; exact one_fine hf hE
    · rw [if_neg hE] at h; exact absurd h hE
  · rw [if_neg hf] at h; cases h

def twoRes (op W H : Int) (ps : List Int) (W' H' : Int) (qs : List Int) : Res :=
  if (fineB W H ps && fineB W' H' qs) = true then
    if withinB op 4 7 = true then
      if W = W' ∧ H = H' then ⟨0, W, H, pix W.toNat (fun x y => twoG op (px W.toNat ps x y) (px W.toNat qs x y)) (W.toNat * H.toNat)⟩ else noRes 6
    else noRes 4
  else noRes 1
theorem two_told {op W H W' H' : Int} {a a' : Option Addr} {len len' : Nat} (cap cap' : Nat) {ps qs : List Int} {w : World} (h : Ints 0 w a len ps) (h' : Ints 0 w a' len' qs) {r : Res} (hr : twoRes op W H ps W' H' qs = r) :
    Calls Try.prog 25 #[.int .i64 op, .agg #[.int .i64 W, .int .i64 H, .slice a len cap], .agg #[.int .i64 W', .int .i64 H', .slice a' len' cap']] w (Told w r) := by
  subst hr
  unfold twoRes
  by_cases hf : (fineB W H ps && fineB W' H' qs) = true
  · rw [if_pos hf]
    rw [Bool.and_eq_true] at hf
    obtain ⟨W1, H1, b, off, rfl, rfl, rfl, rfl, hF⟩ := fine_of h hf.1
    obtain ⟨W2, H2, b', off', rfl, rfl, rfl, rfl, hG⟩ := fine_of h' hf.2
    by_cases hw : withinB op 4 7 = true
    · rw [if_pos hw]
      have hop : op = 4 ∨ op = 5 ∨ op = 6 ∨ op = 7 := by simp [withinB] at hw; omega
      by_cases hs : (W1 : Int) = W2 ∧ (H1 : Int) = H2
      · rw [if_pos hs]
        obtain rfl : W1 = W2 := by omega
        obtain rfl : H1 = H2 := by omega
        simp only [Int.toNat_natCast]
        refine (two_ok cap cap' hF hG hop).mono fun e w' ⟨a, cap', he, hi, hb⟩ => ⟨a, cap', ?_, ?_, hb⟩
        · simp only [pix_length]; exact he
        · simp only [pix_length]; exact hi
      · rw [if_neg hs]
        exact (two_size cap cap' hF hG hop (by omega)).mono fun e w' h => told_no h
    · rw [if_neg hw]
      have hn : ¬ (op = 4 ∨ op = 5 ∨ op = 6 ∨ op = 7) := fun h => hw (by simp [withinB]; omega)
      exact (two_kind cap cap' hF hG (by omega) (by omega) (by omega) (by omega)).mono fun e w' h => told_no h
  · rw [if_neg hf]
    exact (two_form op cap cap' h h' (eq_false_of_ne_true hf)).mono fun e w' h => told_no h
theorem twoRes_fine {op W H : Int} {ps : List Int} {W' H' : Int} {qs : List Int} (h : (twoRes op W H ps W' H' qs).E = 0) : fineB (twoRes op W H ps W' H' qs).W (twoRes op W H ps W' H' qs).H (twoRes op W H ps W' H' qs).ps = true := by
  unfold twoRes at h ⊢
  by_cases hf : (fineB W H ps && fineB W' H' qs) = true
  · rw [if_pos hf] at h ⊢
    rw [Bool.and_eq_true] at hf
    by_cases hw : withinB op 4 7 = true
    · rw [if_pos hw] at h ⊢
      have hop : op = 4 ∨ op = 5 ∨ op = 6 ∨ op = 7 := by simp [withinB] at hw; omega
      by_cases hs : W = W' ∧ H = H'
      · rw [if_pos hs]
        obtain ⟨rfl, rfl⟩ := hs
        have hb := (fine_iff _ _ _).1 hf.1
        obtain ⟨W', rfl⟩ := Int.eq_ofNat_of_zero_le (show 0 ≤ W by omega)
        obtain ⟨H', rfl⟩ := Int.eq_ofNat_of_zero_le (show 0 ≤ H by omega)
        exact two_fine hop hf.1 hf.2
      · rw [if_neg hs] at h; cases h
    · rw [if_neg hw] at h; cases h
  · rw [if_neg hf] at h; cases h
theorem twoRes_comm {op W H : Int} {ps : List Int} {W' H' : Int} {qs : List Int} (hop : op = 4 ∨ op = 6 ∨ op = 7) : twoRes op W H ps W' H' qs = twoRes op W' H' qs W H ps := by
  unfold twoRes
  rw [Bool.and_comm]
  by_cases hs : W = W' ∧ H = H'
  · obtain ⟨rfl, rfl⟩ := hs
    simp only [twoG_comm hop]
  · have hs' : ¬ (W' = W ∧ H' = H) := fun h => hs ⟨h.1.symm, h.2.symm⟩
    rw [if_neg hs, if_neg hs']
/-- Up, and then Down, is as it was. -/
theorem up_then_down {W H : Int} {ps : List Int} {r : Res} (hr : oneRes 12 W H ps 0 = r) (h : r.E = 0) : oneRes 11 r.W r.H r.ps 0 = ⟨0, W, H, ps⟩ := by
  have hfr := oneRes_fine (by rw [hr]; exact h)
  rw [hr] at hfr
  subst hr
  unfold oneRes at h hfr
  by_cases hf : fineB W H ps = true
  · rw [if_pos hf] at h hfr
    have hb := (fine_iff _ _ _).1 hf
    obtain ⟨W', rfl⟩ := Int.eq_ofNat_of_zero_le (show 0 ≤ W by omega)
    obtain ⟨H', rfl⟩ := Int.eq_ofNat_of_zero_le (show 0 ≤ H by omega)
    simp only [Int.toNat_natCast] at h hfr
    by_cases hE : oneErr 12 W' H' 0 = 0
    · have hl : ps.length = W' * H' := by have := hb.2.2.1; rw [← Int.natCast_mul] at this; omega
      have e1 : oneRes 12 (W' : Int) (H' : Int) ps 0 = ⟨0, (2 * W' : Nat), (2 * H' : Nat), pix (2 * W') (oneG 12 W' H' 0 ps) (2 * W' * (2 * H'))⟩ := by
        unfold oneRes; rw [if_pos hf]; simp only [Int.toNat_natCast]; rw [if_pos hE]; rfl
      rw [if_pos hE] at hfr
      have hfr' : fineB ((2 * W' : Nat) : Int) ((2 * H' : Nat) : Int) (pix (2 * W') (oneG 12 W' H' 0 ps) (2 * W' * (2 * H'))) = true := hfr
      rw [e1]
      unfold oneRes
      rw [if_pos hfr']
      simp only [Int.toNat_natCast]
      have e2 : oneErr 11 (2 * W') (2 * H') 0 = 0 := by
        show okIf (decide (2 * W' % 2 = 0) && decide (2 * H' % 2 = 0)) 6 = 0
        simp [okIf]
      rw [if_pos e2]
      have n1 : oneN 11 (2 * W') = W' := by show 2 * W' / 2 = W'; omega
      have n2 : oneN 11 (2 * H') = H' := by show 2 * H' / 2 = H'; omega
      rw [n1, n2, up_down hl]
    · rw [if_neg hE] at h; exact absurd h hE
  · rw [if_neg hf] at h; cases h
/-- Less itself an image is 0. -/
theorem less_itself {W H : Int} {ps : List Int} {r : Res} (hr : twoRes 5 W H ps W H ps = r) : ∀ n ∈ r.ps, n = 0 := by
  subst hr
  unfold twoRes
  by_cases hf : (fineB W H ps && fineB W H ps) = true
  · rw [if_pos hf, if_pos (by decide), if_pos ⟨rfl, rfl⟩]
    exact sub_self ps
  · rw [if_neg hf]; intro n hn; cases hn
def makeRes (op W H k : Int) : Res :=
  if makeErr op W H k = 0 then ⟨0, W, H, pix W.toNat (makeG op k) (W.toNat * H.toNat)⟩ else noRes (makeErr op W H k)
theorem make_told {op W H k : Int} (w : World) {r : Res} (hr : makeRes op W H k = r) : Calls Try.prog 15 #[.int .i64 op, .int .i64 W, .int .i64 H, .int .i64 k] w (Told w r) := by
  subst hr
  unfold makeRes
  by_cases hE : makeErr op W H k = 0
  · rw [if_pos hE]
    obtain ⟨W1, H1, rfl, rfl, hop, h1, h2, h3⟩ := makeErr_zero hE
    simp only [Int.toNat_natCast]
    refine (make_ok op W1 H1 k w hop h1 h2 h3).mono fun e w' ⟨a, cap', he, hi, hb⟩ => ⟨a, cap', ?_, ?_, hb⟩
    · simp only [pix_length]; exact he
    · simp only [pix_length]; exact hi
  · rw [if_neg hE]
    exact (make_error op W H k w hE).mono fun e w' h => told_no h
/-- An image of one number stays one under Blur and Shift. -/
theorem plain_stays {W H k : Int} {r : Res} (hr : makeRes 1 W H k = r) (h : r.E = 0) (j : Int) (hj : -16 ≤ j ∧ j ≤ 16) : oneRes 10 r.W r.H r.ps 0 = r ∧ oneRes 9 r.W r.H r.ps j = r := by
  subst hr
  unfold makeRes at h ⊢
  by_cases hE : makeErr 1 W H k = 0
  · rw [if_pos hE]
    obtain ⟨W1, H1, rfl, rfl, hop, h1, h2, h3⟩ := makeErr_zero hE
    have b1 := (side_iff _).1 h1
    have b2 := (side_iff _).1 h2
    have b3 := (num_iff _).1 h3
    simp only [Int.toNat_natCast]
    have hf : fineB (W1 : Int) (H1 : Int) (pix W1 (makeG 1 k) (W1 * H1)) = true := fine_pix (by omega) (by omega) (fun x y _ _ => b3)
    unfold oneRes
    rw [if_pos hf, if_pos hf]
    simp only [Int.toNat_natCast]
    have e9 : oneErr 9 W1 H1 j = 0 := by
      show okIf (withinB j (-16) 16) 3 = 0
      rw [show withinB j (-16) 16 = true by simp [withinB]; omega]; rfl
    rw [if_pos (show oneErr 10 W1 H1 0 = 0 from rfl), if_pos e9]
    exact ⟨by rw [show oneN 10 W1 = W1 from rfl, show oneN 10 H1 = H1 from rfl, fill_blur k (by omega) (by omega)], by rw [show oneN 9 W1 = W1 from rfl, show oneN 9 H1 = H1 from rfl, fill_shift k j (by omega)]⟩
  · rw [if_neg hE] at h; exact absurd h hE
end Go.Proofs.Ytfpkiimlaepnhaa
