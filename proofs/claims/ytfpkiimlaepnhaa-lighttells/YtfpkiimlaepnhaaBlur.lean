/-
  BLUR: what image.One makes of an image by Blur.
-/
import Derived.Test.YtfpkiimlaepnhaaRules
namespace Go.Proofs.Ytfpkiimlaepnhaa
set_option maxRecDepth 100000
open Go.RowKit Im

theorem rule3_tells {w : World} {d c b off cap W H ib : Nat} {ps : List Int} (k : Int) (hO : Old w d c b off cap W H ps) (hI : Boxed w ib b off cap W H) :
    Tells w 96 #[.pointer (some ⟨d, 0, none⟩), .pointer (some ⟨ib, 0, none⟩)] W H (oneG 10 W H k ps) := by
  refine ⟨rule3_enters, fun x y w1 hx hy hbel => ?_⟩
  have hO1 := hO.below hbel
  have hcd := hO1.cd
  obtain ⟨hw1, hw2⟩ := hO.fn.hW
  obtain ⟨hh1, hh2⟩ := hO.fn.hH
  have hi0 := (hI.below hbel).c0
  have hi1 := (hI.below hbel).c1
  obtain ⟨L, hL⟩ : ∃ L : Int, (if (x : Int) - 1 < 0 then 0 else (x : Int) - 1) = L := ⟨_, rfl⟩
  obtain ⟨T, hT⟩ : ∃ L : Int, (if (y : Int) - 1 < 0 then 0 else (y : Int) - 1) = L := ⟨_, rfl⟩
  obtain ⟨R, hR⟩ : ∃ L : Int, (if (W : Int) - 1 < (x : Int) + 1 then (W : Int) - 1 else (x : Int) + 1) = L := ⟨_, rfl⟩
  obtain ⟨B, hB⟩ : ∃ L : Int, (if (H : Int) - 1 < (y : Int) + 1 then (H : Int) - 1 else (y : Int) + 1) = L := ⟨_, rfl⟩
  have hcall := mean_anyI W H _ _ _ w1 L T R B (x - 1) (y - 1) (min (x + 1) (W - 1)) (min (y + 1) (H - 1)) (by subst hL; split <;> omega) (by subst hT; split <;> omega) (by subst hR; split <;> omega) (by subst hB; split <;> omega) hw2 hh2 (by omega) (by omega) (by omega) (by omega) hO1.fn.px_bd (numbers_tells hO1.bx hO1.fn)
  clear hO hbel hI hO1
  show Calls Try.prog 96 #[.int .i64 x, .int .i64 y, .pointer (some ⟨d, 0, none⟩), .pointer (some ⟨ib, 0, none⟩)] w1 fun e w2 => e = .returned (.int .i64 (meanP (px W ps) (x - 1) (y - 1) (min (x + 1) (W - 1)) (min (y + 1) (H - 1)))) ∧ _
  go_enter Try.func96, Try.ntmps96
  go_wp2_with (go_at_call 97; refine hcall.mono ?_; rintro e w2 ⟨rfl, hb2⟩)
  go_ret
  exact ⟨rfl, hb2⟩
end Go.Proofs.Ytfpkiimlaepnhaa
