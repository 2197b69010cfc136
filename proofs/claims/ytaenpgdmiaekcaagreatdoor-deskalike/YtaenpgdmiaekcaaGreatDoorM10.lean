/- OneOfB, OneOfC, OneErr, LawMakes, LawOnes: joined, in this order. -/
import Derived.Test.YtaenpgdmiaekcaaGreatDoorM09
import Derived.Test.YtaenpgdmiaekcaaGreatDoorM04
import Derived.Deep.RegionHeld3
/-
  ONEOFB: the reference's OneOf, operation by operation.
-/
namespace Go.Proofs.YtaenpgdmiaekcaaGreatDoor
set_option maxRecDepth 100000
open Go.RowKit Im

end Go.Proofs.YtaenpgdmiaekcaaGreatDoor
/-
  ONEOFC: the reference's OneOf, operation by operation.
-/
namespace Go.Proofs.YtaenpgdmiaekcaaGreatDoor
set_option maxRecDepth 100000
open Go.RowKit Im

end Go.Proofs.YtaenpgdmiaekcaaGreatDoor
/-
  ONEERR: the reference's OneError; OneOf whole.
-/
namespace Go.Proofs.YtaenpgdmiaekcaaGreatDoor
set_option maxRecDepth 100000
open Go.RowKit Im

end Go.Proofs.YtaenpgdmiaekcaaGreatDoor
/-
  LAWMAKES: the walk of the law ImageMakes.
-/
namespace Go.Proofs.YtaenpgdmiaekcaaGreatDoor
set_option maxRecDepth 100000
open Go.RowKit Im

/-- The error of Make. -/
def makeErr (op W H k : Int) : Int := if op = 1 ∨ op = 2 then okIf (sideB W && sideB H && numB k) 3 else 4
theorem make_error (op W H k : Int) (w : World) (hE : ¬ makeErr op W H k = 0) : Calls Tryz.prog 68 #[.int .i64 op, .int .i64 W, .int .i64 H, .int .i64 k] w fun e w' => e = .returned (.tuple #[noImage, .int .i64 (makeErr op W H k)]) ∧ Below w.heap.size w w' := by
  by_cases h : op = 1 ∨ op = 2
  · have e : makeErr op W H k = okIf (sideB W && sideB H && numB k) 3 := by simp [makeErr, h]
    by_cases hr : (sideB W && sideB H && numB k) = true
    · rw [e, hr] at hE; exact absurd rfl hE
    · rw [e, eq_false_of_ne_true hr]; exact make_range op W H k w h (eq_false_of_ne_true hr)
  · have e : makeErr op W H k = 4 := by simp [makeErr, h]
    rw [e]; exact make_kind op W H k w (fun h' => h (.inl h')) (fun h' => h (.inr h'))
theorem makeErr_zero {op W H k : Int} (hE : makeErr op W H k = 0) : ∃ W' H' : Nat, W = W' ∧ H = H' ∧ (op = 1 ∨ op = 2) ∧ sideB W' = true ∧ sideB H' = true ∧ numB k = true := by
  by_cases h : op = 1 ∨ op = 2
  · have e : makeErr op W H k = okIf (sideB W && sideB H && numB k) 3 := by simp [makeErr, h]
    rw [e] at hE
    have := okIf_zero (by decide) hE
    simp only [Bool.and_eq_true] at this
    obtain ⟨⟨h1, h2⟩, h3⟩ := this
    have b1 := (side_iff _).1 h1
    have b2 := (side_iff _).1 h2
    obtain ⟨W', rfl⟩ := Int.eq_ofNat_of_zero_le (show 0 ≤ W by omega)
    obtain ⟨H', rfl⟩ := Int.eq_ofNat_of_zero_le (show 0 ≤ H by omega)
    exact ⟨W', H', rfl, rfl, h, h1, h2, h3⟩
  · have e : makeErr op W H k = 4 := by simp [makeErr, h]
    rw [e] at hE; omega

end Go.Proofs.YtaenpgdmiaekcaaGreatDoor
/-
  LAWONES: the walk of the law ImageOnes.
-/
namespace Go.Proofs.YtaenpgdmiaekcaaGreatDoor
set_option maxRecDepth 100000
open Go.RowKit Im

end Go.Proofs.YtaenpgdmiaekcaaGreatDoor
