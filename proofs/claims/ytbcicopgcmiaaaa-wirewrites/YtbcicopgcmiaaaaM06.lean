/- TrueMath, Res, TilesMath, InRef, Pics, Paint, Paint2, ImgRow, RenderA: joined, in this order. -/
import Derived.Test.YtbcicopgcmiaaaaM05
import Derived.Test.YtbcicopgcmiaaaaM01
import Derived.Test.YtbcicopgcmiaaaaM02
import Derived.Test.YtbcicopgcmiaaaaM03
import Derived.Deep.RegionHeld3
import Derived.Test.YtbcicopgcmiaaaaM04
/-
  TRUEMATH: plain facts on what One, Two and Make make: right images; Up and then Down; one number; either order; less itself.
-/
namespace Go.Proofs.Ytbcicopgcmiaaaa
set_option maxRecDepth 100000
open Go.RowKit Im

theorem sumBox_le {p : Nat → Nat → Int} {l t n : Nat} : ∀ {m : Nat}, (∀ x y, l ≤ x → x < l + n → t ≤ y → y < t + m → 0 ≤ p x y ∧ p x y ≤ 65535) → 0 ≤ sumBox p l t n m ∧ sumBox p l t n m ≤ 65535 * ((n : Int) * (m : Int))
  | 0, _ => by simp [sumBox]
  | m + 1, h => by
    have h1 := sumBox_le (p := p) (l := l) (t := t) (n := n) (m := m) (fun x y h1 h2 h3 h4 => h x y h1 h2 h3 (by omega))
    have h2 := sumRow_bd (p := p) (y := t + m) (l := l) (n := n) (fun x h1 h2 => h x (t + m) h1 h2 (by omega) (by omega))
    unfold sumBox
    have e : (n : Int) * ((m + 1 : Nat) : Int) = (n : Int) * (m : Int) + n := by rw [Int.natCast_add, Int.mul_add]; simp
    rw [e]
    generalize (n : Int) * (m : Int) = z at h1 ⊢
    omega
theorem meanP_bd {p : Nat → Nat → Int} {l t r b : Nat} (h1 : l ≤ r) (h2 : t ≤ b) (h : ∀ x y, x ≤ r → y ≤ b → 0 ≤ p x y ∧ p x y ≤ 65535) : 0 ≤ meanP p l t r b ∧ meanP p l t r b ≤ 65535 := by
  rw [mean_eq p l (r + 1 - l) t (b + 1 - t) r b (by omega) (by omega)]
  have hb := sumBox_le (p := p) (l := l) (t := t) (n := r + 1 - l) (m := b + 1 - t) (fun x y _ _ _ _ => h x y (by omega) (by omega))
  have hpos : 0 < ((b + 1 - t : Nat) : Int) * ((r + 1 - l : Nat) : Int) := Int.mul_pos (by omega) (by omega)
  rw [Int.mul_comm ((r + 1 - l : Nat) : Int)] at hb
  generalize ((b + 1 - t : Nat) : Int) * ((r + 1 - l : Nat) : Int) = c at hb hpos ⊢
  refine ⟨Int.ediv_nonneg hb.1 (by omega), ?_⟩
  have : sumBox p l t (r + 1 - l) (b + 1 - t) / c < 65536 := Int.ediv_lt_of_lt_mul hpos (by omega)
  omega
theorem sumRow_const {p : Nat → Nat → Int} {y l : Nat} (k : Int) : ∀ {n : Nat}, (∀ x, l ≤ x → x < l + n → p x y = k) → sumRow p y l n = k * n
  | 0, _ => by simp [sumRow]
  | n + 1, h => by
    have h1 := sumRow_const (p := p) (y := y) (l := l) k (n := n) (fun x h1 h2 => h x h1 (by omega))
    have h2 := h (l + n) (by omega) (by omega)
    unfold sumRow
    rw [h1, h2, Int.natCast_add, Int.mul_add]; simp
theorem sumBox_const {p : Nat → Nat → Int} {l t n : Nat} (k : Int) : ∀ {m : Nat}, (∀ x y, l ≤ x → x < l + n → t ≤ y → y < t + m → p x y = k) → sumBox p l t n m = k * ((m : Int) * n)
  | 0, _ => by simp [sumBox]
  | m + 1, h => by
    have h1 := sumBox_const (p := p) (l := l) (t := t) (n := n) k (m := m) (fun x y h1 h2 h3 h4 => h x y h1 h2 h3 (by omega))
    have h2 := sumRow_const (p := p) (y := t + m) (l := l) k (n := n) (fun x h1 h2 => h x (t + m) h1 h2 (by omega) (by omega))
    unfold sumBox
    rw [h1, h2, Int.natCast_add, Int.add_mul, Int.mul_add]; simp
theorem meanP_const {p : Nat → Nat → Int} {l t r b : Nat} (k : Int) (h1 : l ≤ r) (h2 : t ≤ b) (h : ∀ x y, l ≤ x → x ≤ r → t ≤ y → y ≤ b → p x y = k) : meanP p l t r b = k := by
  rw [mean_eq p l (r + 1 - l) t (b + 1 - t) r b (by omega) (by omega), sumBox_const k (fun x y _ _ _ _ => h x y (by omega) (by omega) (by omega) (by omega))]
  have hpos : 0 < ((b + 1 - t : Nat) : Int) * ((r + 1 - l : Nat) : Int) := Int.mul_pos (by omega) (by omega)
  exact Int.mul_ediv_cancel _ (by omega)

/-- The numbers of a right image, by places. -/
theorem px_bd' {W H : Nat} {ps : List Int} (hl : ps.length = W * H) (hn : ∀ n ∈ ps, 0 ≤ n ∧ n ≤ 65535) (x y : Nat) (hx : x < W) (hy : y < H) : 0 ≤ px W ps x y ∧ px W ps x y ≤ 65535 := by
  have h : y * W + x < ps.length := by rw [hl]; exact place_lt hx hy
  unfold px
  rw [List.getD_eq_getElem?_getD, List.getElem?_eq_getElem h]
  exact hn _ (List.getElem_mem h)
theorem fine_pix {W H : Nat} {g : Nat → Nat → Int} (hW : 1 ≤ W ∧ W ≤ 16) (hH : 1 ≤ H ∧ H ≤ 16) (h : ∀ x y, x < W → y < H → 0 ≤ g x y ∧ g x y ≤ 65535) : fineB W H (pix W g (W * H)) = true := by
  rw [fine_iff]
  refine ⟨by omega, by omega, by rw [pix_length, Int.natCast_mul], pix_all W (W * H) g (by omega) (fun x y hx hy => h x y hx ?_)⟩
  rcases Nat.lt_or_ge y H with hh | hh
  · exact hh
  · have : H * W ≤ y * W := Nat.mul_le_mul_right _ hh
    rw [Nat.mul_comm] at this; omega
/-- What One makes is right. -/
theorem oneG_bd {op : Int} {W H : Nat} {k : Int} {ps : List Int} (hW : 1 ≤ W ∧ W ≤ 16) (hH : 1 ≤ H ∧ H ≤ 16) (hp : ∀ x y, x < W → y < H → 0 ≤ px W ps x y ∧ px W ps x y ≤ 65535) (hE : oneErr op W H k = 0) (x y : Nat) (hx : x < oneN op W) (hy : y < oneN op H) :
    0 ≤ oneG op W H k ps x y ∧ oneG op W H k ps x y ≤ 65535 := by
  rcases ones_cases op with (rfl | rfl) | rfl | rfl | rfl | rfl | ⟨h3, h10, h8, h9, h11, h12⟩
  · exact hp x y hx hy
  · have hx' : x < W := hx
    have hy' : y < H := hy
    exact meanP_bd (p := px W ps) (by omega) (by omega) (fun a b _ _ => hp a b (by omega) (by omega))
  · have := hp x y hx hy
    show 0 ≤ (if k ≤ px W ps x y then px W ps x y else 0) ∧ (if k ≤ px W ps x y then px W ps x y else 0) ≤ 65535
    split
    · exact this
    · omega
  · exact hp _ y (colX_lt x k W hW.1) hy
  · have hx' : x < W / 2 := hx
    have hy' : y < H / 2 := hy
    exact meanP_bd (p := px W ps) (by omega) (by omega) (fun a b _ _ => hp a b (by omega) (by omega))
  · have hx' : x < 2 * W := hx
    have hy' : y < 2 * H := hy
    exact hp _ _ (by omega) (by omega)
  · rw [oneErr_none W H k h3 h10 h8 h9 h11 h12] at hE; omega
theorem one_fine {op : Int} {W H : Nat} {k : Int} {ps : List Int} (hf : fineB W H ps = true) (hE : oneErr op W H k = 0) : fineB (oneN op W) (oneN op H) (pix (oneN op W) (oneG op W H k ps) (oneN op W * oneN op H)) = true := by
  obtain ⟨h1, h2, h3, h4⟩ := (fine_iff _ _ _).1 hf
  have hs := oneN_side (W := W) (H := H) (by omega) (by omega) hE
  exact fine_pix hs.1 hs.2 (fun x y hx hy => oneG_bd (by omega) (by omega) (px_bd' (by rw [← Int.natCast_mul] at h3; omega) h4) hE x y hx hy)
theorem two_fine {op : Int} {W H : Nat} {ps qs : List Int} (hop : op = 4 ∨ op = 5 ∨ op = 6 ∨ op = 7) (hf : fineB W H ps = true) (hg : fineB W H qs = true) : fineB W H (pix W (fun x y => twoG op (px W ps x y) (px W qs x y)) (W * H)) = true := by
  obtain ⟨h1, h2, h3, h4⟩ := (fine_iff _ _ _).1 hf
  obtain ⟨_, _, g3, g4⟩ := (fine_iff _ _ _).1 hg
  refine fine_pix (by omega) (by omega) (fun x y hx hy => ?_)
  have a := px_bd' (W := W) (H := H) (by rw [← Int.natCast_mul] at h3; omega) h4 x y hx hy
  have b := px_bd' (W := W) (H := H) (by rw [← Int.natCast_mul] at g3; omega) g4 x y hx hy
  generalize px W ps x y = m at a
  generalize px W qs x y = n at b
  rcases hop with rfl | rfl | rfl | rfl
  · show 0 ≤ min (m + n) 65535 ∧ min (m + n) 65535 ≤ 65535
    omega
  · show 0 ≤ max (m - n) 0 ∧ max (m - n) 0 ≤ 65535
    omega
  · show 0 ≤ m * n / 65535 ∧ m * n / 65535 ≤ 65535
    have e1 : 0 ≤ m * n := Int.mul_nonneg a.1 b.1
    have e2 : m * n ≤ 65535 * 65535 := Int.mul_le_mul a.2 b.2 b.1 (by omega)
    omega
  · show 0 ≤ max m n ∧ max m n ≤ 65535
    omega
theorem twoG_comm {op : Int} (h : op = 4 ∨ op = 6 ∨ op = 7) (m n : Int) : twoG op m n = twoG op n m := by
  rcases h with rfl | rfl | rfl
  · show min (m + n) 65535 = min (n + m) 65535
    rw [Int.add_comm]
  · show m * n / 65535 = n * m / 65535
    rw [Int.mul_comm]
  · show max m n = max n m
    omega
theorem pix_px {W H : Nat} {ps : List Int} (hl : ps.length = W * H) : pix W (px W ps) (W * H) = ps := by
  apply List.ext_getElem
  · rw [pix_length, hl]
  · intro i h1 h2
    have e : i / W * W + i % W = i := by rw [Nat.mul_comm]; exact Nat.div_add_mod i W
    simp [pix, px, e, h2]
/-- Up, and then Down. -/
theorem up_down {W H : Nat} {ps : List Int} (hl : ps.length = W * H) : pix W (oneG 11 (2 * W) (2 * H) 0 (pix (2 * W) (oneG 12 W H 0 ps) (2 * W * (2 * H)))) (W * H) = ps := by
  rw [show pix W (oneG 11 (2 * W) (2 * H) 0 (pix (2 * W) (oneG 12 W H 0 ps) (2 * W * (2 * H)))) (W * H) = pix W (px W ps) (W * H) from pix_congr W H _ _ (fun x y hx hy => ?_)]
  · exact pix_px hl
  · show meanP (px (2 * W) (pix (2 * W) (oneG 12 W H 0 ps) (2 * W * (2 * H)))) (2 * x) (2 * y) (2 * x + 1) (2 * y + 1) = px W ps x y
    refine meanP_const _ (by omega) (by omega) (fun a b h1 h2 h3 h4 => ?_)
    show (pix (2 * W) (oneG 12 W H 0 ps) (2 * W * (2 * H))).getD (b * (2 * W) + a) 0 = _
    rw [pix_at (2 * W) (2 * H) _ a b (by omega) (by omega)]
    show px W ps (a / 2) (b / 2) = px W ps x y
    rw [show a / 2 = x by omega, show b / 2 = y by omega]
theorem fill_blur {W H : Nat} (k : Int) (hW : 1 ≤ W) (hH : 1 ≤ H) : pix W (oneG 10 W H 0 (pix W (makeG 1 k) (W * H))) (W * H) = pix W (makeG 1 k) (W * H) :=
  pix_congr W H _ _ (fun x y hx hy => by
    show meanP (px W (pix W (makeG 1 k) (W * H))) (x - 1) (y - 1) (min (x + 1) (W - 1)) (min (y + 1) (H - 1)) = k
    refine meanP_const _ (by omega) (by omega) (fun a b _ _ _ _ => ?_)
    show (pix W (makeG 1 k) (W * H)).getD (b * W + a) 0 = k
    rw [pix_at W H _ a b (by omega) (by omega)]; rfl)
theorem fill_shift {W H : Nat} (k j : Int) (hW : 1 ≤ W) : pix W (oneG 9 W H j (pix W (makeG 1 k) (W * H))) (W * H) = pix W (makeG 1 k) (W * H) :=
  pix_congr W H _ _ (fun x y hx hy => by
    show (pix W (makeG 1 k) (W * H)).getD (y * W + colX x j W) 0 = k
    rw [pix_at W H _ _ y (colX_lt x j W hW) hy]; rfl)
theorem sub_self {W H : Nat} (ps : List Int) : ∀ n ∈ pix W (fun x y => twoG 5 (px W ps x y) (px W ps x y)) (W * H), n = 0 := by
  intro n hn
  simp [pix] at hn
  obtain ⟨i, _, rfl⟩ := hn
  show max (px W ps (i % W) (i / W) - px W ps (i % W) (i / W)) 0 = 0
  omega
end Go.Proofs.Ytbcicopgcmiaaaa
/-
  RES: One, Two and Make, each told by one answer.
-/
namespace Go.Proofs.Ytbcicopgcmiaaaa
set_option maxRecDepth 100000
open Go.RowKit Im

/-- An answer: the error's number, and the image. -/
structure Res where
  E : Int
  W : Int
  H : Int
  ps : List Int
def noRes (E : Int) : Res := ⟨E, 0, 0, []⟩
/-- The call's end tells the answer r; its numbers lie in memory. -/
def Told (w : World) (r : Res) (e : Ending) (w' : World) : Prop :=
  ∃ a cap, e = .returned (.tuple #[.agg #[.int .i64 r.W, .int .i64 r.H, .slice a r.ps.length cap], .int .i64 r.E]) ∧ Ints w.heap.size w' a r.ps.length r.ps ∧ Below w.heap.size w w'
theorem told_no {w : World} {E : Int} {e : Ending} {w' : World} (h : e = .returned (.tuple #[noImage, .int .i64 E]) ∧ Below w.heap.size w w') : Told w (noRes E) e w' :=
  ⟨none, 0, h.1, Ints.nil _ w', h.2⟩

def oneRes (op W H : Int) (ps : List Int) (k : Int) : Res :=
  if fineB W H ps = true then
    if oneErr op W.toNat H.toNat k = 0 then ⟨0, oneN op W.toNat, oneN op H.toNat, pix (oneN op W.toNat) (oneG op W.toNat H.toNat k ps) (oneN op W.toNat * oneN op H.toNat)⟩ else noRes (oneErr op W.toNat H.toNat k)
  else noRes 1
theorem oneRes_fine {op W H : Int} {ps : List Int} {k : Int} (h : (oneRes op W H ps k).E = 0) : fineB (oneRes op W H ps k).W (oneRes op W H ps k).H (oneRes op W H ps k).ps = true := by
  unfold oneRes at h ⊢
  by_cases hf : fineB W H ps = true
  · rw [if_pos hf] at h ⊢
    have hb := (fine_iff _ _ _).1 hf
    obtain ⟨W', rfl⟩ := Int.eq_ofNat_of_zero_le (show 0 ≤ W by omega)
    obtain ⟨H', rfl⟩ := Int.eq_ofNat_of_zero_le (show 0 ≤ H by omega)
    simp only [Int.toNat_natCast] at h ⊢
    by_cases hE : oneErr op W' H' k = 0
    · rw [if_pos hE]; exact one_fine hf hE
    · rw [if_neg hE] at h; exact absurd h hE
  · rw [if_neg hf] at h; cases h

def twoRes (op W H : Int) (ps : List Int) (W' H' : Int) (qs : List Int) : Res :=
  if (fineB W H ps && fineB W' H' qs) = true then
    if withinB op 4 7 = true then
      if W = W' ∧ H = H' then ⟨0, W, H, pix W.toNat (fun x y => twoG op (px W.toNat ps x y) (px W.toNat qs x y)) (W.toNat * H.toNat)⟩ else noRes 6
    else noRes 4
  else noRes 1
theorem twoRes_fine {op W H : Int} {ps : List Int} {W' H' : Int} {qs : List Int} (h : (twoRes op W H ps W' H' qs).E = 0) : fineB (twoRes op W H ps W' H' qs).W (twoRes op W H ps W' H' qs).H (twoRes op W H ps W' H' qs).ps = true := by
  unfold twoRes at h ⊢
  by_cases hf : (fineB W H ps && fineB W' H' qs) = true
  · rw [if_pos hf] at h ⊢
    rw [Bool.and_eq_true] at hf
    by_cases hw : withinB op 4 7 = true
    · rw [if_pos hw] at h ⊢
      have hop : op = 4 ∨ op = 5 ∨ op = 6 ∨ op = 7 := by simp [withinB] at hw; omega
      by_cases hs : W = W' ∧ H = H'
      · rw [if_pos hs]
        obtain ⟨rfl, rfl⟩ := hs
        have hb := (fine_iff _ _ _).1 hf.1
        obtain ⟨W', rfl⟩ := Int.eq_ofNat_of_zero_le (show 0 ≤ W by omega)
        obtain ⟨H', rfl⟩ := Int.eq_ofNat_of_zero_le (show 0 ≤ H by omega)
        exact two_fine hop hf.1 hf.2
      · rw [if_neg hs] at h; cases h
    · rw [if_neg hw] at h; cases h
  · rw [if_neg hf] at h; cases h
theorem twoRes_comm {op W H : Int} {ps : List Int} {W' H' : Int} {qs : List Int} (hop : op = 4 ∨ op = 6 ∨ op = 7) : twoRes op W H ps W' H' qs = twoRes op W' H' qs W H ps := by
  unfold twoRes
  rw [Bool.and_comm]
  by_cases hs : W = W' ∧ H = H'
  · obtain ⟨rfl, rfl⟩ := hs
    simp only [twoG_comm hop]
  · have hs' : ¬ (W' = W ∧ H' = H) := fun h => hs ⟨h.1.symm, h.2.symm⟩
    rw [if_neg hs, if_neg hs']
/-- Up, and then Down, is as it was. -/
theorem up_then_down {W H : Int} {ps : List Int} {r : Res} (hr : oneRes 12 W H ps 0 = r) (h : r.E = 0) : oneRes 11 r.W r.H r.ps 0 = ⟨0, W, H, ps⟩ := by
  have hfr := oneRes_fine (by rw [hr]; exact h)
  rw [hr] at hfr
  subst hr
  unfold oneRes at h hfr
  by_cases hf : fineB W H ps = true
  · rw [if_pos hf] at h hfr
    have hb := (fine_iff _ _ _).1 hf
    obtain ⟨W', rfl⟩ := Int.eq_ofNat_of_zero_le (show 0 ≤ W by omega)
    obtain ⟨H', rfl⟩ := Int.eq_ofNat_of_zero_le (show 0 ≤ H by omega)
    simp only [Int.toNat_natCast] at h hfr
    by_cases hE : oneErr 12 W' H' 0 = 0
    · have hl : ps.length = W' * H' := by have := hb.2.2.1; rw [← Int.natCast_mul] at this; omega
      have e1 : oneRes 12 (W' : Int) (H' : Int) ps 0 = ⟨0, (2 * W' : Nat), (2 * H' : Nat), pix (2 * W') (oneG 12 W' H' 0 ps) (2 * W' * (2 * H'))⟩ := by
        unfold oneRes; rw [if_pos hf]; simp only [Int.toNat_natCast]; rw [if_pos hE]; rfl
      rw [if_pos hE] at hfr
      have hfr' : fineB ((2 * W' : Nat) : Int) ((2 * H' : Nat) : Int) (pix (2 * W') (oneG 12 W' H' 0 ps) (2 * W' * (2 * H'))) = true := hfr
      rw [e1]
      unfold oneRes
      rw [if_pos hfr']
      simp only [Int.toNat_natCast]
      have e2 : oneErr 11 (2 * W') (2 * H') 0 = 0 := by
        show okIf (decide (2 * W' % 2 = 0) && decide (2 * H' % 2 = 0)) 6 = 0
        simp [okIf]
      rw [if_pos e2]
      have n1 : oneN 11 (2 * W') = W' := by show 2 * W' / 2 = W'; omega
      have n2 : oneN 11 (2 * H') = H' := by show 2 * H' / 2 = H'; omega
      rw [n1, n2, up_down hl]
    · rw [if_neg hE] at h; exact absurd h hE
  · rw [if_neg hf] at h; cases h
/-- Less itself an image is 0. -/
theorem less_itself {W H : Int} {ps : List Int} {r : Res} (hr : twoRes 5 W H ps W H ps = r) : ∀ n ∈ r.ps, n = 0 := by
  subst hr
  unfold twoRes
  by_cases hf : (fineB W H ps && fineB W H ps) = true
  · rw [if_pos hf, if_pos (by decide), if_pos ⟨rfl, rfl⟩]
    exact sub_self ps
  · rw [if_neg hf]; intro n hn; cases hn
def makeRes (op W H k : Int) : Res :=
  if makeErr op W H k = 0 then ⟨0, W, H, pix W.toNat (makeG op k) (W.toNat * H.toNat)⟩ else noRes (makeErr op W H k)
/-- An image of one number stays one under Blur and Shift. -/
theorem plain_stays {W H k : Int} {r : Res} (hr : makeRes 1 W H k = r) (h : r.E = 0) (j : Int) (hj : -16 ≤ j ∧ j ≤ 16) : oneRes 10 r.W r.H r.ps 0 = r ∧ oneRes 9 r.W r.H r.ps j = r := by
  subst hr
  unfold makeRes at h ⊢
  by_cases hE : makeErr 1 W H k = 0
  · rw [if_pos hE]
    obtain ⟨W1, H1, rfl, rfl, hop, h1, h2, h3⟩ := makeErr_zero hE
    have b1 := (side_iff _).1 h1
    have b2 := (side_iff _).1 h2
    have b3 := (num_iff _).1 h3
    simp only [Int.toNat_natCast]
    have hf : fineB (W1 : Int) (H1 : Int) (pix W1 (makeG 1 k) (W1 * H1)) = true := fine_pix (by omega) (by omega) (fun x y _ _ => b3)
    unfold oneRes
    rw [if_pos hf, if_pos hf]
    simp only [Int.toNat_natCast]
    have e9 : oneErr 9 W1 H1 j = 0 := by
      show okIf (withinB j (-16) 16) 3 = 0
      rw [show withinB j (-16) 16 = true by simp [withinB]; omega]; rfl
    rw [if_pos (show oneErr 10 W1 H1 0 = 0 from rfl), if_pos e9]
    exact ⟨by rw [show oneN 10 W1 = W1 from rfl, show oneN 10 H1 = H1 from rfl, fill_blur k (by omega) (by omega)], by rw [show oneN 9 W1 = W1 from rfl, show oneN 9 H1 = H1 from rfl, fill_shift k j (by omega)]⟩
  · rw [if_neg hE] at h; exact absurd h hE
end Go.Proofs.Ytbcicopgcmiaaaa
/-
  TILESMATH: Lit and Near, each told by one answer; lights picked out of a list; what choose answers.
-/
namespace Go.Proofs.Ytbcicopgcmiaaaa
set_option maxRecDepth 100000
open Go.RowKit Im

def litRes (W H : Int) (ps : List Int) (ls : List Lt) (tile : Int) : Res :=
  if fineB W H ps = true then
    if lightsErr ls = 0 then
      if 1 ≤ tile ∧ tile ≤ 16 then ⟨0, W, H, pix W.toNat (litG W.toNat ps ls) (W.toNat * H.toNat)⟩ else noRes 3
    else noRes (lightsErr ls)
  else noRes 1
theorem pix_getD (W : Nat) (g : Nat → Nat → Int) (n i : Nat) (h : i < n) : (pix W g n).getD i 0 = g (i % W) (i / W) := by
  unfold pix
  simp [List.getD_eq_getElem?_getD, h]
/-- Tiles of either size give the same; and what is lit is not darker. -/
theorem litRes_same {W H : Int} {ps : List Int} {ls : List Lt} {one two : Int} (h1 : (litRes W H ps ls one).E = 0) (h2 : (litRes W H ps ls two).E = 0) :
    litRes W H ps ls one = litRes W H ps ls two ∧ ¬ ps = [] ∧ (litRes W H ps ls one).ps.length = ps.length ∧ ∀ i, i < ps.length → ps.getD i 0 ≤ (litRes W H ps ls one).ps.getD i 0 := by
  unfold litRes at h1 h2 ⊢
  by_cases hf : fineB W H ps = true
  · rw [if_pos hf] at h1 h2 ⊢
    rw [if_pos hf]
    by_cases hE : lightsErr ls = 0
    · rw [if_pos hE] at h1 h2 ⊢
      rw [if_pos hE]
      by_cases t1 : 1 ≤ one ∧ one ≤ 16
      · by_cases t2 : 1 ≤ two ∧ two ≤ 16
        · rw [if_pos t1, if_pos t2]
          obtain ⟨f1, f2, f3, f4⟩ := (fine_iff W H ps).1 hf
          obtain ⟨W', rfl⟩ := Int.eq_ofNat_of_zero_le (show 0 ≤ W by omega)
          obtain ⟨H', rfl⟩ := Int.eq_ofNat_of_zero_le (show 0 ≤ H by omega)
          simp only [Int.toNat_natCast, pix_length]
          have hl : ps.length = W' * H' := by exact_mod_cast f3
          have hpos : 0 < W' * H' := Nat.mul_pos (by omega) (by omega)
          refine ⟨trivial, fun e => by rw [e] at hl; simp at hl; omega, hl.symm, fun i hi => ?_⟩
          rw [pix_getD _ _ _ _ (by omega)]
          have hr := (lightsErr_zero hE).2
          have hx : i % W' < W' := Nat.mod_lt _ (by omega)
          have hy : i / W' < H' := Nat.div_lt_of_lt_mul (by omega)
          have hs := sumG_bd (i % W' : Nat) (i / W' : Nat) (by generalize i % W' = X at hx; omega) (by generalize i / W' = Y at hy; omega) ls hr
          have hn := f4 (ps.getD i 0) (by rw [List.getD_eq_getElem?_getD, List.getElem?_eq_getElem hi]; exact List.getElem_mem hi)
          have hp : px W' ps (i % W') (i / W') = ps.getD i 0 := by
            unfold px
            rw [Nat.mul_comm, Nat.div_add_mod]
          unfold litG
          rw [hp]
          omega
        · rw [if_neg t2] at h2; cases h2
      · rw [if_neg t1] at h1; cases h1
    · rw [if_neg hE] at h1; exact absurd h1 hE
  · rw [if_neg hf] at h1; cases h1

/-- What choose answers. -/
def chooseV (c n : Int) : Int := (if c < 0 then -(c + 1) else c) % n
theorem chooseV_bd (c n : Int) (hn : 1 ≤ n) : 0 ≤ chooseV c n ∧ chooseV c n < n := ⟨Int.emod_nonneg _ (by omega), Int.emod_lt_of_pos _ (by omega)⟩
/-- The lights of the first k numbers. -/
def selL (ls : List Lt) (qs : List Int) (k : Nat) : List Lt := (qs.take k).map fun i => ls.getD i.toNat Lt.zero
theorem selL_len (ls : List Lt) (qs : List Int) (k : Nat) (h : k ≤ qs.length) : (selL ls qs k).length = k := by simp [selL, h]
theorem selL_succ (ls : List Lt) (qs : List Int) (k : Nat) (h : k < qs.length) : selL ls qs (k + 1) = selL ls qs k ++ [ls.getD (qs.getD k 0).toNat Lt.zero] := by
  unfold selL
  rw [List.take_succ_eq_append_getElem h, List.map_append, List.getD_eq_getElem?_getD (l := qs), List.getElem?_eq_getElem h]
  rfl
theorem sumG_sel (x y : Int) (ls : List Lt) : ∀ qs : List Int, sumG x y (qs.map fun i => ls.getD i.toNat Lt.zero) = sumN x y ls qs
  | [] => rfl
  | i :: r => by simp only [List.map_cons, sumG, sumN, sumG_sel x y ls r]
/-- The lights that are near a part: they are right, and give to its places what all give. -/
theorem sel_near {ls : List Lt} (x y : Int) (pw ph : Nat) (hE : lightsErr ls = 0) :
    lightsErr (selL ls (pickL (nearB x y pw ph) ls ls.length) (pickL (nearB x y pw ph) ls ls.length).length) = 0 ∧
      ∀ r s : Nat, r < pw → s < ph → sumG (x + r) (y + s) (selL ls (pickL (nearB x y pw ph) ls ls.length) (pickL (nearB x y pw ph) ls ls.length).length) = sumG (x + r) (y + s) ls := by
  obtain ⟨h8, hr⟩ := lightsErr_zero hE
  have hlen := pickL_len (nearB x y pw ph) ls ls.length
  constructor
  · have hl := selL_len ls (pickL (nearB x y pw ph) ls ls.length) (pickL (nearB x y pw ph) ls ls.length).length (Nat.le_refl _)
    have hall : (selL ls (pickL (nearB x y pw ph) ls ls.length) (pickL (nearB x y pw ph) ls ls.length).length).all rightB = true := by
      rw [List.all_eq_true]
      intro l hl
      unfold selL at hl
      rw [List.take_length, List.mem_map] at hl
      obtain ⟨i, hi, rfl⟩ := hl
      unfold pickL at hi
      simp only [List.mem_map, List.mem_filter, List.mem_range] at hi
      obtain ⟨m, ⟨h1, _⟩, rfl⟩ := hi
      exact all_getD ls m h1 hr
    unfold lightsErr
    rw [if_pos (by omega), hall]
    rfl
  · intro r s hr' hs
    unfold selL
    rw [List.take_length, sumG_sel, sumN_pick (x + r) (y + s) (nearB x y pw ph) ls ls.length (Nat.le_refl _) (fun k _ hk => not_near x y pw ph r s hr' hs hk), List.take_length]

/-- Lights' cells, one after another. -/
def lcells : List Lt → List Value
  | [] => []
  | l :: r => .int .i64 l.X :: .int .i64 l.Y :: .int .i64 l.R :: .int .i64 l.P :: lcells r
theorem lcells_len : ∀ ls, (lcells ls).length = ls.length * 4
  | [] => rfl
  | l :: r => by simp only [lcells, List.length_cons, lcells_len r]; omega
theorem lcells_snoc (l : Lt) : ∀ ls, lcells (ls ++ [l]) = lcells ls ++ [.int .i64 l.X, .int .i64 l.Y, .int .i64 l.R, .int .i64 l.P]
  | [] => rfl
  | m :: r => by simp only [List.cons_append, lcells, lcells_snoc l r]
theorem lcells_get : ∀ (ls : List Lt) (j : Nat), j < ls.length → (lcells ls)[j * 4]? = some (.int .i64 (ls.getD j Lt.zero).X) ∧ (lcells ls)[j * 4 + 1]? = some (.int .i64 (ls.getD j Lt.zero).Y) ∧ (lcells ls)[j * 4 + 2]? = some (.int .i64 (ls.getD j Lt.zero).R) ∧ (lcells ls)[j * 4 + 3]? = some (.int .i64 (ls.getD j Lt.zero).P)
  | [], j, h => by simp at h
  | l :: r, 0, _ => by simp [lcells]
  | l :: r, j + 1, h => by
    have ih := lcells_get r j (by simpa using h)
    have e0 : ∀ t, (lcells (l :: r))[t + 4]? = (lcells r)[t]? := fun t => by simp [lcells]
    rw [show (j + 1) * 4 = j * 4 + 4 by omega, show j * 4 + 4 + 1 = j * 4 + 1 + 4 by omega, show j * 4 + 4 + 2 = j * 4 + 2 + 4 by omega, show j * 4 + 4 + 3 = j * 4 + 3 + 4 by omega, e0, e0, e0, e0]
    exact ih
/-- A slice of the call's own that holds the lights ls. -/
def OwnsL (base : Nat) (w : World) (v : Value) (ls : List Lt) : Prop := w.ownsRow base 52 4 v ls.length (lcells ls)
theorem OwnsL.lights {base : Nat} {w : World} {v : Value} {ls : List Lt} (h : OwnsL base w v ls) (hb : ls.length ≤ 8) : ∃ a cap, v = .slice a ls.length cap ∧ Lights w a ls.length ls := by
  obtain ⟨h1, h2⟩ := h
  rcases h2 with ⟨rfl, h0⟩ | ⟨g, cap, cur, rfl, hg, hh, hc, hm, hs, ht⟩
  · have : ls = [] := by simpa using h0
    subst this
    exact ⟨none, 0, rfl, rfl, by simp, .inl rfl⟩
  · refine ⟨_, cap, rfl, rfl, by omega, .inr ⟨g, 0, rfl, ?_, fun j hj => ?_⟩⟩
    · rcases Nat.lt_or_ge g w.heap.size with h | h
      · exact h
      · rw [Array.getElem?_eq_none h] at hh; cases hh
    · have hl := lcells_len ls
      have hg4 := lcells_get ls j hj
      have this := fun i hi => World.ownsRow.cellAt (base := base) (e := 52) (size := 4) ⟨h1, .inr ⟨g, cap, cur, rfl, hg, hh, hc, hm, hs, ht⟩⟩ i hi
      rw [Nat.zero_add]
      exact ⟨(this (j * 4) (by omega)).trans hg4.1, (this (j * 4 + 1) (by omega)).trans hg4.2.1, (this (j * 4 + 2) (by omega)).trans hg4.2.2.1, (this (j * 4 + 3) (by omega)).trans hg4.2.2.2⟩
theorem OwnsL.push {base : Nat} {w wx w1 : World} {v v' : Value} {ls : List Lt} {l : Lt} {B0 : World} {o : Obj} (h : OwnsL base w v ls) (hb : Below base B0 w) (hB : base ≤ w.heap.size)
    (h' : w1.ownsRow base 52 4 v' (ls.length + 1) (lcells ls ++ [.int .i64 l.X, .int .i64 l.Y, .int .i64 l.R, .int .i64 l.P])) (hx : wx = w.alloc o) (hg : wx.grownBy w1 v.ownBlock) : OwnsL base w1 v' (ls ++ [l]) ∧ Below base B0 w1 := by
  subst hx
  refine ⟨by unfold OwnsL; rw [lcells_snoc]; simpa using h', ?_⟩
  exact (hb.alloc hB o).grown hg (by simp; omega) (fun j hj => (World.ownsRow.lt (w := w) h j hj).1)
theorem Try.infoLight : (Try.prog.info? 52).map (fun i => (i.zero, i.size, i.bytes)) = some (some (.agg #[.int .i64 0, .int .i64 0, .int .i64 0, .int .i64 0]), 4, 32) := by kernel_rfl
theorem cell_four_new (w : World) (v0 v1 v2 v3 : Value) (t : TypeId) : ∀ (j : Nat) (u : Value), [v0, v1, v2, v3][j]? = some u → (w.alloc (.cells #[v0, v1, v2, v3] t)).cell? ((⟨w.heap.size, 0, none⟩ : Addr).add j) = some u := by
  intro j u h
  have hj : j < 4 := by
    rcases Nat.lt_or_ge j 4 with h4 | h4
    · exact h4
    · rw [List.getElem?_eq_none (by simpa using h4)] at h; cases h
  match j, hj with
  | 0, _ => simp at h; subst h; simp [go_sem]
  | 1, _ => simp at h; subst h; simp [go_sem]
  | 2, _ => simp at h; subst h; simp [go_sem]
  | 3, _ => simp at h; subst h; simp [go_sem]
end Go.Proofs.Ytbcicopgcmiaaaa
/-
  INREF: numbers and lists alone: the sizes by slots, as the reference holds them, and its error of a pass.
-/
namespace Go.Proofs.Ytbcicopgcmiaaaa
set_option maxRecDepth 100000
open Go.RowKit Im

/-- The size of what lies in slot s ahead of pass n; (0, 0): nothing. -/
def inP (f : Fr) (n : Nat) (s : Int) : Sz := if 0 ≤ wrt f.ps n s then (szs f n).getD (wrt f.ps n s).toNat Sz.zero else Sz.zero
theorem inP_some {f : Fr} {n : Nat} {s : Int} (hb : boundsE f = 0) (h : firstE f n = 0) (hw : 0 ≤ wrt f.ps n s) : ZB (inP f n s) := by
  unfold inP
  rw [if_pos hw]
  have := wrt_bd f.ps n s
  exact szs_bd hb h _ (getD_mem (by rw [szs_length]; omega) _)
theorem inP_none {f : Fr} {n : Nat} {s : Int} (hw : ¬ 0 ≤ wrt f.ps n s) : inP f n s = (0, 0) := by unfold inP; rw [if_neg hw]
theorem inP_zero {f : Fr} {n : Nat} {s : Int} (hb : boundsE f = 0) (h : firstE f n = 0) : (inP f n s).1 = 0 ↔ ¬ 0 ≤ wrt f.ps n s := by
  constructor
  · intro e hw
    have := (inP_some hb h hw).1
    omega
  · intro hw
    rw [inP_none hw]
theorem inP_start (f : Fr) (s : Int) : inP f 0 s = (0, 0) := inP_none (by simp [wrt])
theorem inP_succ (f : Fr) (n : Nat) (s : Int) : inP f (n + 1) s = if (f.ps.getD n Ps.zero).To = s then sizeP f.W f.H (f.ps.getD n Ps.zero).Op (pickZ (szs f n) (srcOf f.ps n)) else inP f n s := by
  have e : szs f (n + 1) = szs f n ++ [sizeP f.W f.H (f.ps.getD n Ps.zero).Op (pickZ (szs f n) (srcOf f.ps n))] := rfl
  have hl := szs_length f n
  have ew : wrt f.ps (n + 1) s = if (f.ps.getD n Ps.zero).To = s then (n : Int) else wrt f.ps n s := rfl
  unfold inP
  rw [ew]
  by_cases ht : (f.ps.getD n Ps.zero).To = s
  · rw [if_pos ht, if_pos ht, if_pos (by omega), e, Int.toNat_natCast, List.getD_eq_getElem?_getD, List.getElem?_append_right (by omega)]
    simp [hl]
  · rw [if_neg ht, if_neg ht]
    by_cases hw : 0 ≤ wrt f.ps n s
    · have := wrt_bd f.ps n s
      rw [if_pos hw, if_pos hw, e, List.getD_eq_getElem?_getD, List.getElem?_append_left (by omega), ← List.getD_eq_getElem?_getD]
    · rw [if_neg hw, if_neg hw]
/-- The reference's error of a pass that takes images of the sizes zA and zB. -/
def refE (p : Ps) (S : Int) (zA zB : Sz) : Int :=
  if ownE p S = 0 then
    if (hasA p.Op = true ∧ zA.1 = 0) ∨ (hasB p.Op = true ∧ zB.1 = 0) then 5
    else if hasB p.Op = true ∧ zA ≠ zB then 6
    else if (p.Op = 11 ∧ (zA.1 % 2 = 1 ∨ zA.2 % 2 = 1)) ∨ (p.Op = 12 ∧ (16 < 2 * zA.1 ∨ 16 < 2 * zA.2)) then 6
    else 0
  else ownE p S
theorem hasB_hasA {op : Int} (h : hasB op = true) : hasA op = true := by simp [hasB, withinB] at h; simp [hasA, withinB]; omega
theorem refE_eq {f : Fr} {n : Nat} (hb : boundsE f = 0) (h : firstE f n = 0) : refE (f.ps.getD n Ps.zero) f.S (inP f n (f.ps.getD n Ps.zero).A) (inP f n (f.ps.getD n Ps.zero).B) = passE f n := by
  have zA := inP_zero (f := f) (n := n) (s := (f.ps.getD n Ps.zero).A) hb h
  have zB := inP_zero (f := f) (n := n) (s := (f.ps.getD n Ps.zero).B) hb h
  have eA : 0 ≤ wrt f.ps n (f.ps.getD n Ps.zero).A → (szs f n).getD (wrt f.ps n (f.ps.getD n Ps.zero).A).toNat Sz.zero = inP f n (f.ps.getD n Ps.zero).A := fun hw => by unfold inP; rw [if_pos hw]
  have eB : 0 ≤ wrt f.ps n (f.ps.getD n Ps.zero).B → (szs f n).getD (wrt f.ps n (f.ps.getD n Ps.zero).B).toNat Sz.zero = inP f n (f.ps.getD n Ps.zero).B := fun hw => by unfold inP; rw [if_pos hw]
  unfold refE passE srcOf thereB
  by_cases ho : ownE (f.ps.getD n Ps.zero) f.S = 0
  · rw [if_pos ho, if_pos ho]
    clear ho
    generalize f.ps.getD n Ps.zero = p at *
    generalize inP f n p.A = za at *
    generalize inP f n p.B = zb at *
    unfold takesP fitP
    rw [List.getD_eq_getElem?_getD] at eA eB
    by_cases hB : hasB p.Op = true
    · have hA := hasB_hasA hB
      have n11 : ¬ p.Op = 11 := by simp [hasB, withinB] at hB; omega
      have n12 : ¬ p.Op = 12 := by simp [hasB, withinB] at hB; omega
      by_cases a1 : 0 ≤ wrt f.ps n p.A
      · have za0 : ¬ za.1 = 0 := fun e => (zA.1 e) a1
        by_cases b1 : 0 ≤ wrt f.ps n p.B
        · have zb0 : ¬ zb.1 = 0 := fun e => (zB.1 e) b1
          by_cases e : za = zb
          · simp [hB, hA, n11, n12, a1, b1, zb0, eA a1, eB b1, pickZ, e]
          · simp [hB, hA, n11, n12, a1, b1, za0, zb0, eA a1, eB b1, pickZ, e]
        · have zb0 := zB.2 b1
          simp [hB, hA, b1, zb0]
      · have za0 := zA.2 a1
        simp [hB, hA, a1, za0]
    · by_cases hA : hasA p.Op = true
      · by_cases a1 : 0 ≤ wrt f.ps n p.A
        · have za0 : ¬ za.1 = 0 := fun e => (zA.1 e) a1
          by_cases h11 : p.Op = 11
          · have x1 : hasA 11 = true := rfl
            have x2 : hasB 11 = false := rfl
            by_cases c1 : za.1 % 2 = 0 <;> by_cases c2 : za.2 % 2 = 0
            all_goals simp [x1, x2, a1, za0, eA a1, pickZ, h11, c1, c2]
            all_goals omega
          · by_cases h12 : p.Op = 12
            · have x1 : hasA 12 = true := rfl
              have x2 : hasB 12 = false := rfl
              by_cases c1 : 2 * za.1 ≤ 16 <;> by_cases c2 : 2 * za.2 ≤ 16
              all_goals simp [x1, x2, a1, za0, eA a1, pickZ, h12, c1, c2]
              all_goals omega
            · simp [hB, hA, a1, za0, h11, h12]
        · have za0 := zA.2 a1
          simp [hB, hA, a1, za0]
      · have n11 : ¬ p.Op = 11 := fun e => hA (by rw [e]; rfl)
        have n12 : ¬ p.Op = 12 := fun e => hA (by rw [e]; rfl)
        simp [hA, hB, n11, n12]
  · rw [if_neg ho, if_neg ho]
end Go.Proofs.Ytbcicopgcmiaaaa
/-
  PICS: numbers and lists alone: the images that the passes of a frame make, and that they are right.
-/
namespace Go.Proofs.Ytbcicopgcmiaaaa
set_option maxRecDepth 100000
open Go.RowKit Im

/-- What a pass makes out of the images fr, where z is its size. -/
def paintRes (p : Ps) (z : Sz) (fr : List Res) : Res :=
  if p.Op = 1 ∨ p.Op = 2 then makeRes p.Op z.1 z.2 p.K
  else if hasB p.Op = true then twoRes p.Op (fr.getD 0 (noRes 0)).W (fr.getD 0 (noRes 0)).H (fr.getD 0 (noRes 0)).ps (fr.getD 1 (noRes 0)).W (fr.getD 1 (noRes 0)).H (fr.getD 1 (noRes 0)).ps
  else if p.Op = 13 then litRes (fr.getD 0 (noRes 0)).W (fr.getD 0 (noRes 0)).H (fr.getD 0 (noRes 0)).ps p.ls p.K
  else oneRes p.Op (fr.getD 0 (noRes 0)).W (fr.getD 0 (noRes 0)).H (fr.getD 0 (noRes 0)).ps p.K
def pickR (rs : List Res) (is : List Int) : List Res := is.map fun i => rs.getD i.toNat (noRes 0)
/-- The size of what pass n makes. -/
def sizeN (f : Fr) (n : Nat) : Sz := sizeP f.W f.H (f.ps.getD n Ps.zero).Op (pickZ (szs f n) (srcOf f.ps n))
/-- The images of the first n passes. -/
def pics (f : Fr) : Nat → List Res
  | 0 => []
  | n + 1 => pics f n ++ [paintRes (f.ps.getD n Ps.zero) (sizeN f n) (pickR (pics f n) (srcOf f.ps n))]
theorem pics_length (f : Fr) (n : Nat) : (pics f n).length = n := by
  induction n with
  | zero => rfl
  | succ n ih => simp [pics, ih]
/-- A right image of the size z. -/
def RB (r : Res) (z : Sz) : Prop := r.E = 0 ∧ fineB r.W r.H r.ps = true ∧ r.W = z.1 ∧ r.H = z.2
theorem make_right {op W H k : Int} (hop : op = 1 ∨ op = 2) (hW : 1 ≤ W ∧ W ≤ 16) (hH : 1 ≤ H ∧ H ≤ 16) (hk : 0 ≤ k ∧ k ≤ 65535) : RB (makeRes op W H k) (W, H) := by
  have hE : makeErr op W H k = 0 := by
    unfold makeErr
    rw [if_pos hop, (side_iff W).2 hW, (side_iff H).2 hH, (num_iff k).2 hk]; rfl
  unfold makeRes
  rw [if_pos hE]
  obtain ⟨W1, rfl⟩ := Int.eq_ofNat_of_zero_le (show 0 ≤ W by omega)
  obtain ⟨H1, rfl⟩ := Int.eq_ofNat_of_zero_le (show 0 ≤ H by omega)
  simp only [Int.toNat_natCast]
  refine ⟨rfl, fine_pix (by omega) (by omega) (fun x y _ _ => ?_), rfl, rfl⟩
  unfold makeG
  split
  · exact hk
  · have := Int.emod_nonneg ((x : Int) * k + y) (show (65536 : Int) ≠ 0 by decide)
    have := Int.emod_lt_of_pos ((x : Int) * k + y) (show (0 : Int) < 65536 by decide)
    omega
theorem two_right {op : Int} {a b : Res} {z : Sz} (hop : op = 4 ∨ op = 5 ∨ op = 6 ∨ op = 7) (ha : RB a z) (hb : RB b z) : RB (twoRes op a.W a.H a.ps b.W b.H b.ps) z := by
  obtain ⟨_, a1, a2, a3⟩ := ha
  obtain ⟨_, b1, b2, b3⟩ := hb
  have hw : withinB op 4 7 = true := by simp [withinB]; omega
  have hE : (twoRes op a.W a.H a.ps b.W b.H b.ps).E = 0 := by
    unfold twoRes
    rw [if_pos (by rw [a1, b1]; rfl), if_pos hw, if_pos (by rw [a2, b2, a3, b3]; exact ⟨rfl, rfl⟩)]
  refine ⟨hE, twoRes_fine hE, ?_, ?_⟩
  all_goals
    unfold twoRes
    rw [if_pos (by rw [a1, b1]; rfl), if_pos hw, if_pos (by rw [a2, b2, a3, b3]; exact ⟨rfl, rfl⟩)]
    assumption
theorem one_right {op k : Int} {a : Res} {z : Sz} (hA : hasA op = true) (hB : hasB op = false) (hL : ¬ op = 13) (hk : hasK op = true → kB op k = true) (hf : fitP op [z] = true) (ha : RB a z) : RB (oneRes op a.W a.H a.ps k) (sizeP 0 0 op [z]) := by
  obtain ⟨_, a1, a2, a3⟩ := ha
  obtain ⟨zw, zh⟩ := z
  dsimp only at a2 a3
  obtain ⟨E, aW, aH, aps⟩ := a
  dsimp only at a1 a2 a3 ⊢
  subst a2 a3
  obtain ⟨b1, b2, b3, b4⟩ := (fine_iff _ _ _).1 a1
  obtain ⟨W, rfl⟩ := Int.eq_ofNat_of_zero_le (show 0 ≤ aW by omega)
  obtain ⟨H, rfl⟩ := Int.eq_ofNat_of_zero_le (show 0 ≤ aH by omega)
  have hop : op = 3 ∨ op = 8 ∨ op = 9 ∨ op = 10 ∨ op = 11 ∨ op = 12 := by simp [hasA, withinB] at hA; simp [hasB, withinB] at hB; omega
  have hE : oneErr op W H k = 0 := by
    rcases hop with rfl | rfl | rfl | rfl | rfl | rfl
    · rfl
    · have := hk rfl
      have e : withinB k 0 65535 = true := this
      have e' : numB k = true := by simp [withinB] at e; exact (num_iff k).2 e
      simp [oneErr, e', okIf]
    · have := hk rfl
      have e : withinB k (-16) 16 = true := this
      simp [oneErr, e, okIf]
    · rfl
    · have e : (decide ((W : Int) % 2 = 0) && decide ((H : Int) % 2 = 0)) = true := hf
      simp only [Bool.and_eq_true, decide_eq_true_eq] at e
      have e1 : W % 2 = 0 := by omega
      have e2 : H % 2 = 0 := by omega
      simp [oneErr, okIf, e1, e2]
    · have e : (decide (2 * (W : Int) ≤ 16) && decide (2 * (H : Int) ≤ 16)) = true := hf
      simp only [Bool.and_eq_true, decide_eq_true_eq] at e
      have e1 : 2 * W ≤ 16 := by omega
      have e2 : 2 * H ≤ 16 := by omega
      simp [oneErr, okIf, e1, e2]
  have h0 : (oneRes op W H aps k).E = 0 := by
    unfold oneRes
    rw [if_pos a1]; simp only [Int.toNat_natCast]; rw [if_pos hE]
  refine ⟨h0, oneRes_fine h0, ?_, ?_⟩
  all_goals
    unfold oneRes
    rw [if_pos a1]; simp only [Int.toNat_natCast]; rw [if_pos hE]
    rcases hop with rfl | rfl | rfl | rfl | rfl | rfl <;> simp [oneN, sizeP]
theorem lit_right {k : Int} {a : Res} {z : Sz} {ls : List Lt} (hl : lightsErr ls = 0) (hk : 1 ≤ k ∧ k ≤ 16) (ha : RB a z) : RB (litRes a.W a.H a.ps ls k) z := by
  obtain ⟨_, a1, a2, a3⟩ := ha
  obtain ⟨b1, b2, b3, b4⟩ := (fine_iff _ _ _).1 a1
  have hr := lightsErr_zero hl
  unfold litRes
  rw [if_pos a1, if_pos hl, if_pos hk]
  refine ⟨rfl, ?_, a2, a3⟩
  dsimp only
  clear a2 a3
  generalize a.W = aW at *
  generalize a.H = aH at *
  generalize a.ps = ps at *
  obtain ⟨W, rfl⟩ := Int.eq_ofNat_of_zero_le (show 0 ≤ aW by omega)
  obtain ⟨H, rfl⟩ := Int.eq_ofNat_of_zero_le (show 0 ≤ aH by omega)
  simp only [Int.toNat_natCast]
  refine fine_pix (by omega) (by omega) (fun x y hx hy => ?_)
  have h1 := px_bd' (W := W) (H := H) (by rw [← Int.natCast_mul] at b3; omega) b4 x y hx hy
  have h2 := sumG_bd x y (by omega) (by omega) ls hr.2
  unfold litG
  omega
theorem takes_two' {p : Ps} (h : hasB p.Op = true) : takesP p = [p.A, p.B] := by unfold takesP; rw [if_pos h]
theorem pickR_right {f : Fr} {n : Nat} (hR : ∀ k, k < n → RB ((pics f n).getD k (noRes 0)) ((szs f n).getD k Sz.zero)) {is : List Int} (hi : ∀ i ∈ is, 0 ≤ i ∧ i < n) {j : Nat} (hj : j < is.length) : RB ((pickR (pics f n) is).getD j (noRes 0)) ((pickZ (szs f n) is).getD j Sz.zero) := by
  have h1 := hi _ (List.getElem_mem hj)
  have e1 : (pickR (pics f n) is).getD j (noRes 0) = (pics f n).getD (is[j]).toNat (noRes 0) := by
    unfold pickR
    simp [List.getD_eq_getElem?_getD, List.getElem?_map, List.getElem?_eq_getElem hj]
  have e2 : (pickZ (szs f n) is).getD j Sz.zero = (szs f n).getD (is[j]).toNat Sz.zero := by
    unfold pickZ
    simp [List.getD_eq_getElem?_getD, List.getElem?_map, List.getElem?_eq_getElem hj]
  rw [e1, e2]
  exact hR _ (by omega)
theorem sizeP_one {W H op : Int} {zs : List Sz} (h : ¬ (op = 1 ∨ op = 2)) : sizeP W H op zs = sizeP 0 0 op [zs.getD 0 Sz.zero] := by
  unfold sizeP
  rw [if_neg h, if_neg h]
  rfl
/-- What a right pass makes is a right image. -/
theorem paint_right {f : Fr} {n : Nat} (hb : boundsE f = 0) (hE : passE f n = 0) (hR : ∀ k, k < n → RB ((pics f n).getD k (noRes 0)) ((szs f n).getD k Sz.zero)) : RB (paintRes (f.ps.getD n Ps.zero) (sizeN f n) (pickR (pics f n) (srcOf f.ps n))) (sizeN f n) := by
  obtain ⟨hW, hH, _⟩ := boundsE_zero hb
  obtain ⟨o1, o2, o3⟩ := passE_zero hE
  obtain ⟨hkn, hsl, hk, hl, hbare, _⟩ := ownE_zero o1
  have hs := src_bd o2
  have hpick := fun j hj => pickR_right hR hs (j := j) hj
  have hlen : (srcOf f.ps n).length = (takesP (f.ps.getD n Ps.zero)).length := by simp [srcOf]
  unfold sizeN at *
  generalize f.ps.getD n Ps.zero = p at *
  generalize pickR (pics f n) (srcOf f.ps n) = rs at *
  generalize pickZ (szs f n) (srcOf f.ps n) = zs at *
  unfold paintRes
  by_cases h12 : p.Op = 1 ∨ p.Op = 2
  · rw [if_pos h12]
    have e : sizeP f.W f.H p.Op zs = (f.W, f.H) := by unfold sizeP; rw [if_pos h12]
    rw [e]
    have hK : hasK p.Op = true := by rcases h12 with h | h <;> rw [h] <;> rfl
    have := hk hK
    have e2 : kB p.Op p.K = withinB p.K 0 65535 := by unfold kB; rw [if_neg (by omega), if_neg (by omega)]
    rw [e2] at this
    exact make_right h12 hW hH (by simp [withinB] at this; omega)
  · rw [if_neg h12]
    have hA := hasA_of hkn (fun h => h12 (.inl h)) (fun h => h12 (.inr h))
    obtain ⟨r, hr⟩ := takes_pos hA
    have h0 := hpick 0 (by rw [hlen, hr]; simp)
    rw [sizeP_one h12]
    by_cases hB : hasB p.Op = true
    · rw [if_pos hB]
      have h1 := hpick 1 (by rw [hlen, takes_two' hB]; simp)
      have hop : p.Op = 4 ∨ p.Op = 5 ∨ p.Op = 6 ∨ p.Op = 7 := by simp [hasB, withinB] at hB; omega
      have ef : zs.getD 0 Sz.zero = zs.getD 1 Sz.zero := by
        unfold fitP at o3
        rw [if_neg (by omega), if_neg (by omega), if_pos hB] at o3
        simpa using o3
      rw [← ef] at h1
      have e : sizeP 0 0 p.Op [zs.getD 0 Sz.zero] = zs.getD 0 Sz.zero := by
        unfold sizeP
        rw [if_neg (by omega), if_neg (by omega), if_neg (by omega)]; rfl
      rw [e]
      exact two_right hop h0 h1
    · rw [if_neg hB]
      have hB' := eq_false_of_ne_true hB
      by_cases h13 : p.Op = 13
      · rw [if_pos h13]
        have e : sizeP 0 0 p.Op [zs.getD 0 Sz.zero] = zs.getD 0 Sz.zero := by
          unfold sizeP
          rw [if_neg (by omega), if_neg (by omega), if_neg (by omega)]; rfl
        rw [e]
        have hK : hasK p.Op = true := by rw [h13]; rfl
        have hL : hasL p.Op = true := by rw [h13]; rfl
        have := hk hK
        have e2 : kB p.Op p.K = withinB p.K 1 16 := by unfold kB; rw [if_neg (by omega), if_pos h13]
        rw [e2] at this
        exact lit_right (hl hL) (by simp [withinB] at this; omega) h0
      · rw [if_neg h13]
        refine one_right hA hB' h13 hk ?_ h0
        unfold fitP at o3 ⊢
        rw [hB'] at o3 ⊢
        exact o3
theorem getD_left {α : Type} (l m : List α) (d : α) {k : Nat} (h : k < l.length) : (l ++ m).getD k d = l.getD k d := by
  rw [List.getD_eq_getElem?_getD, List.getD_eq_getElem?_getD, List.getElem?_append_left h]
theorem getD_last {α : Type} (l : List α) (x d : α) {k : Nat} (h : k = l.length) : (l ++ [x]).getD k d = x := by
  subst h
  rw [List.getD_eq_getElem?_getD, List.getElem?_append_right (Nat.le_refl _), Nat.sub_self]; rfl
theorem pics_right {f : Fr} (hb : boundsE f = 0) : ∀ {n : Nat}, firstE f n = 0 → ∀ k, k < n → RB ((pics f n).getD k (noRes 0)) ((szs f n).getD k Sz.zero)
  | 0, _ => fun k hk => by omega
  | n + 1, h => by
    have h0 := firstE_down f h (Nat.le_succ n)
    have ih := pics_right hb h0
    rw [firstE_at f h0] at h
    have hp := paint_right hb h ih
    intro k hk
    have e1 : pics f (n + 1) = pics f n ++ [paintRes (f.ps.getD n Ps.zero) (sizeN f n) (pickR (pics f n) (srcOf f.ps n))] := rfl
    have e2 : szs f (n + 1) = szs f n ++ [sizeN f n] := rfl
    have l1 := pics_length f n
    have l2 := szs_length f n
    rw [e1, e2]
    by_cases hkn : k < n
    · rw [getD_left _ _ _ (by omega), getD_left _ _ _ (by omega)]
      exact ih k hkn
    · rw [getD_last _ _ _ (by omega), getD_last _ _ _ (by omega)]
      exact hp
end Go.Proofs.Ytbcicopgcmiaaaa
/-
  PAINT: lists of images in memory; paint.Pass.
-/
namespace Go.Proofs.Ytbcicopgcmiaaaa
set_option maxRecDepth 100000
open Go.RowKit Im

/-- A slice's elements are the images rs; their numbers lie in blocks from base on. -/
structure Imgs (base : Nat) (w : World) (a : Option Addr) (len : Nat) (rs : List Res) : Prop where
  leng : rs.length = len
  big : len ≤ 9223372036854775807
  cells : rs = [] ∨ ∃ b off, a = some ⟨b, off, none⟩ ∧ b < w.heap.size ∧ ∀ j, j < len → ∃ pa cap, w.cell? ⟨b, off + j * 3, none⟩ = some (.int .i64 (rs.getD j (noRes 0)).W) ∧ w.cell? ⟨b, off + j * 3 + 1, none⟩ = some (.int .i64 (rs.getD j (noRes 0)).H) ∧ w.cell? ⟨b, off + j * 3 + 2, none⟩ = some (.slice pa (rs.getD j (noRes 0)).ps.length cap) ∧ Ints base w pa (rs.getD j (noRes 0)).ps.length (rs.getD j (noRes 0)).ps
theorem Imgs.below {base : Nat} {w w' : World} {a : Option Addr} {len : Nat} {rs : List Res} (h : Imgs base w a len rs) (hb : Below w.heap.size w w') : Imgs base w' a len rs := by
  refine ⟨h.leng, h.big, ?_⟩
  rcases h.cells with e | ⟨b, off, ha, hl, hc⟩
  · exact .inl e
  · refine .inr ⟨b, off, ha, Nat.lt_of_lt_of_le hl hb.size, fun j hj => ?_⟩
    obtain ⟨pa, cap, c0, c1, c2, hi⟩ := hc j hj
    exact ⟨pa, cap, (hb.cell (p := ⟨b, off + j * 3, none⟩) hl).trans c0, (hb.cell (p := ⟨b, off + j * 3 + 1, none⟩) hl).trans c1, (hb.cell (p := ⟨b, off + j * 3 + 2, none⟩) hl).trans c2, hi.below (Nat.le_refl _) hb⟩
theorem Imgs.nth {base : Nat} {w : World} {a : Option Addr} {len : Nat} {rs : List Res} (h : Imgs base w a len rs) {k : Nat} (hk : k < len) : ∃ b off pa cap, a = some ⟨b, off, none⟩ ∧ b < w.heap.size ∧ w.cell? ⟨b, off + k * 3, none⟩ = some (.int .i64 (rs.getD k (noRes 0)).W) ∧ w.cell? ⟨b, off + k * 3 + 1, none⟩ = some (.int .i64 (rs.getD k (noRes 0)).H) ∧ w.cell? ⟨b, off + k * 3 + 2, none⟩ = some (.slice pa (rs.getD k (noRes 0)).ps.length cap) ∧ Ints base w pa (rs.getD k (noRes 0)).ps.length (rs.getD k (noRes 0)).ps := by
  rcases h.cells with e | ⟨b, off, ha, hl, hc⟩
  · have := h.leng; subst e; simp at this; omega
  · obtain ⟨pa, cap, r⟩ := hc k hk
    exact ⟨b, off, pa, cap, ha, hl, r⟩
/-- An image that is nothing, in a block of its own. -/
structure IBox (w : World) (b : Nat) : Prop where
  lt : b < w.heap.size
  c0 : w.cell? ⟨b, 0, none⟩ = some (.int .i64 0)
  c1 : w.cell? ⟨b, 1, none⟩ = some (.int .i64 0)
  c2 : w.cell? ⟨b, 2, none⟩ = some (.slice none 0 0)
  f0 : w.frozen? ⟨b, 0, none⟩ = false
  f1 : w.frozen? ⟨b, 1, none⟩ = false
  f2 : w.frozen? ⟨b, 2, none⟩ = false
theorem IBox.below {w w' : World} {b B : Nat} (h : IBox w b) (hb : Below B w w') (hB : b < B) (hs : w.heap.size ≤ w'.heap.size) : IBox w' b :=
  ⟨Nat.lt_of_lt_of_le h.lt hs, (hb.cell (p := ⟨b, 0, none⟩) hB).trans h.c0, (hb.cell (p := ⟨b, 1, none⟩) hB).trans h.c1, (hb.cell (p := ⟨b, 2, none⟩) hB).trans h.c2, (hb.frozen (p := ⟨b, 0, none⟩) hB).trans h.f0, (hb.frozen (p := ⟨b, 1, none⟩) hB).trans h.f1, (hb.frozen (p := ⟨b, 2, none⟩) hB).trans h.f2⟩
/-- What is told, behind the store of the image into its box. -/
theorem paint_told {w wx w' : World} {b : Nat} {r : Res} {ra : Option Addr} {rc : Nat} (hx : Below w.heap.size w wx) (hlt : b < wx.heap.size) (hb0 : w.heap.size ≤ b) (hi : Ints wx.heap.size w' ra r.ps.length r.ps) (hb : Below wx.heap.size wx w') :
    Told w r (.returned (.tuple #[.agg #[.int .i64 r.W, .int .i64 r.H, .slice ra r.ps.length rc], .int .i64 r.E])) (((w'.setCell ⟨b, 0, none⟩ (.int .i64 r.W)).setCell ⟨b, 1, none⟩ (.int .i64 r.H)).setCell ⟨b, 2, none⟩ (.slice ra r.ps.length rc)) :=
  ⟨ra, rc, rfl, (((hi.setCell (p := ⟨b, 0, none⟩) hlt _).setCell (p := ⟨b, 1, none⟩) hlt _).setCell (p := ⟨b, 2, none⟩) hlt _).mono hx.size, (((below_step hx hb).setCell (p := ⟨b, 0, none⟩) hb0 _).setCell (p := ⟨b, 1, none⟩) hb0 _).setCell (p := ⟨b, 2, none⟩) hb0 _⟩
end Go.Proofs.Ytbcicopgcmiaaaa
/-
  PAINT2: paint.Pass, of passes that take images.
-/
namespace Go.Proofs.Ytbcicopgcmiaaaa
set_option maxRecDepth 100000
open Go.RowKit Im

/-- What the walk holds: the boxes' own cells and the image's. -/
theorem keepI {W3 w' : World} {N b off pb i j : Nat} {x0 x1 x2 y0 y1 : Value} (h : Below N W3 w') (hb : b < N) (hp : pb < N) (e0 : W3.cell? ⟨b, off, none⟩ = some x0) (e1 : W3.cell? ⟨b, off + 1, none⟩ = some x1) (e2 : W3.cell? ⟨b, off + 2, none⟩ = some x2) (p0 : W3.cell? ⟨pb, i, none⟩ = some y0) (p1 : W3.cell? ⟨pb, j, none⟩ = some y1) :
    w'.cell? ⟨b, off, none⟩ = some x0 ∧ w'.cell? ⟨b, off + 1, none⟩ = some x1 ∧ w'.cell? ⟨b, off + 2, none⟩ = some x2 ∧ w'.cell? ⟨pb, i, none⟩ = some y0 ∧ w'.cell? ⟨pb, j, none⟩ = some y1 :=
  ⟨(h.cell (p := ⟨b, off, none⟩) hb).trans e0, (h.cell (p := ⟨b, off + 1, none⟩) hb).trans e1, (h.cell (p := ⟨b, off + 2, none⟩) hb).trans e2, (h.cell (p := ⟨pb, i, none⟩) hp).trans p0, (h.cell (p := ⟨pb, j, none⟩) hp).trans p1⟩
theorem keepI2 {W3 w' : World} {N b off pb i : Nat} {x0 x1 x2 x3 x4 x5 y0 : Value} (h : Below N W3 w') (hb : b < N) (hp : pb < N) (e0 : W3.cell? ⟨b, off, none⟩ = some x0) (e1 : W3.cell? ⟨b, off + 1, none⟩ = some x1) (e2 : W3.cell? ⟨b, off + 2, none⟩ = some x2) (e3 : W3.cell? ⟨b, off + 3, none⟩ = some x3) (e4 : W3.cell? ⟨b, off + 3 + 1, none⟩ = some x4) (e5 : W3.cell? ⟨b, off + 3 + 2, none⟩ = some x5) (p0 : W3.cell? ⟨pb, i, none⟩ = some y0) :
    w'.cell? ⟨b, off, none⟩ = some x0 ∧ w'.cell? ⟨b, off + 1, none⟩ = some x1 ∧ w'.cell? ⟨b, off + 2, none⟩ = some x2 ∧ w'.cell? ⟨b, off + 3, none⟩ = some x3 ∧ w'.cell? ⟨b, off + 3 + 1, none⟩ = some x4 ∧ w'.cell? ⟨b, off + 3 + 2, none⟩ = some x5 ∧ w'.cell? ⟨pb, i, none⟩ = some y0 :=
  ⟨(h.cell (p := ⟨b, off, none⟩) hb).trans e0, (h.cell (p := ⟨b, off + 1, none⟩) hb).trans e1, (h.cell (p := ⟨b, off + 2, none⟩) hb).trans e2, (h.cell (p := ⟨b, off + 3, none⟩) hb).trans e3, (h.cell (p := ⟨b, off + 3 + 1, none⟩) hb).trans e4, (h.cell (p := ⟨b, off + 3 + 2, none⟩) hb).trans e5, (h.cell (p := ⟨pb, i, none⟩) hp).trans p0⟩
end Go.Proofs.Ytbcicopgcmiaaaa
/-
  IMGROW: a growing row of images; frame.picked, of images.
-/
namespace Go.Proofs.Ytbcicopgcmiaaaa
set_option maxRecDepth 100000
open Go.RowKit Im

/-- An image, and where its numbers lie. -/
abbrev Lr := List (Res × Option Addr × Nat)
def rcells (L : Lr) : List Value := L.flatMap fun x => [.int .i64 x.1.W, .int .i64 x.1.H, .slice x.2.1 x.1.ps.length x.2.2]
abbrev lr0 : Res × Option Addr × Nat := (noRes 0, none, 0)
theorem rcells_len (L : Lr) : (rcells L).length = L.length * 3 := by
  induction L with
  | nil => rfl
  | cons x L ih => simp only [rcells, List.flatMap_cons, List.length_append, List.length_cons, List.length_nil] at ih ⊢; rw [ih]; omega
theorem rcells_snoc (L : Lr) (x : Res × Option Addr × Nat) : rcells (L ++ [x]) = rcells L ++ [.int .i64 x.1.W, .int .i64 x.1.H, .slice x.2.1 x.1.ps.length x.2.2] := by simp [rcells]
theorem rcells_get (L : Lr) (j : Nat) (h : j < L.length) : (rcells L)[j * 3]? = some (.int .i64 (L.getD j lr0).1.W) ∧ (rcells L)[j * 3 + 1]? = some (.int .i64 (L.getD j lr0).1.H) ∧ (rcells L)[j * 3 + 2]? = some (.slice (L.getD j lr0).2.1 (L.getD j lr0).1.ps.length (L.getD j lr0).2.2) := by
  induction L generalizing j with
  | nil => simp at h
  | cons x L ih =>
    have e : rcells (x :: L) = .int .i64 x.1.W :: .int .i64 x.1.H :: .slice x.2.1 x.1.ps.length x.2.2 :: rcells L := rfl
    cases j with
    | zero => rw [e]; exact ⟨rfl, rfl, rfl⟩
    | succ j =>
      have := ih j (by simpa using h)
      rw [e, show (j + 1) * 3 = j * 3 + 1 + 1 + 1 by omega]
      simpa using this
theorem map_getD {L : Lr} {rs : List Res} (h : L.map Prod.fst = rs) (j : Nat) : rs.getD j (noRes 0) = (L.getD j lr0).1 := by
  subst h
  simp only [List.getD_eq_getElem?_getD, List.getElem?_map]
  cases L[j]? <;> rfl
theorem cell_three_new (w : World) (v0 v1 v2 : Value) (t : TypeId) : ∀ (j : Nat) (u : Value), [v0, v1, v2][j]? = some u → (w.alloc (.cells #[v0, v1, v2] t)).cell? ((⟨w.heap.size, 0, none⟩ : Addr).add j) = some u := by
  intro j u h
  match j, h with
  | 0, h => simp at h; subst h; simp [go_sem, Addr.add]
  | 1, h => simp at h; subst h; simp [go_sem, Addr.add]
  | 2, h => simp at h; subst h; simp [go_sem, Addr.add]
/-- The call's end tells the images rs. -/
def ToldR (w : World) (rs : List Res) (e : Ending) (w' : World) : Prop :=
  ∃ a cap, e = .returned (.slice a rs.length cap) ∧ Imgs 0 w' a rs.length rs ∧ Below w.heap.size w w'
theorem pickR_succ (rs : List Res) (is : List Int) (k : Nat) (hk : k < is.length) : pickR rs (is.take (k + 1)) = pickR rs (is.take k) ++ [rs.getD (is.getD k 0).toNat (noRes 0)] := by
  unfold pickR
  rw [List.take_succ_eq_append_getElem hk, List.map_append, List.getD_eq_getElem?_getD (l := is), List.getElem?_eq_getElem hk]
  rfl
end Go.Proofs.Ytbcicopgcmiaaaa
/-
  RENDERA: paint.Pass in one; lists of lists of numbers in memory; the images of frame.Render, by number.
-/
namespace Go.Proofs.Ytbcicopgcmiaaaa
set_option maxRecDepth 100000
open Go.RowKit Im

/-- A slice's elements are the lists of numbers ss. -/
structure LLs (w : World) (a : Option Addr) (len : Nat) (ss : List (List Int)) : Prop where
  leng : ss.length = len
  cells : ss = [] ∨ ∃ b off, a = some ⟨b, off, none⟩ ∧ b < w.heap.size ∧ ∀ j, j < len → ∃ ua uc, w.cell? ⟨b, off + j, none⟩ = some (.slice ua (ss.getD j []).length uc) ∧ Ints 0 w ua (ss.getD j []).length (ss.getD j [])
theorem LLs.below {w w' : World} {a : Option Addr} {len : Nat} {ss : List (List Int)} (h : LLs w a len ss) (hb : Below w.heap.size w w') : LLs w' a len ss := by
  refine ⟨h.leng, ?_⟩
  rcases h.cells with e | ⟨b, off, ha, hl, hc⟩
  · exact .inl e
  · refine .inr ⟨b, off, ha, Nat.lt_of_lt_of_le hl hb.size, fun j hj => ?_⟩
    obtain ⟨ua, uc, c0, hi⟩ := hc j hj
    exact ⟨ua, uc, (hb.cell (p := ⟨b, off + j, none⟩) hl).trans c0, hi.below (Nat.le_refl _) hb⟩
theorem LLs.nth {w : World} {a : Option Addr} {len : Nat} {ss : List (List Int)} (h : LLs w a len ss) {k : Nat} (hk : k < len) : ∃ b off ua uc, a = some ⟨b, off, none⟩ ∧ b < w.heap.size ∧ w.cell? ⟨b, off + k, none⟩ = some (.slice ua (ss.getD k []).length uc) ∧ Ints 0 w ua (ss.getD k []).length (ss.getD k []) := by
  rcases h.cells with e | ⟨b, off, ha, hl, hc⟩
  · have := h.leng; subst e; simp at this; omega
  · obtain ⟨ua, uc, r⟩ := hc k hk
    exact ⟨b, off, ua, uc, ha, hl, r⟩
theorem OwnsLL.lls {base : Nat} {w : World} {v : Value} {ss : List (List Int)} (h : OwnsLL base w v ss) (hs : ∀ x ∈ ss, x.length ≤ 2) : ∃ a cap, v = .slice a ss.length cap ∧ LLs w a ss.length ss := by
  obtain ⟨us, h1, h2, h3⟩ := h
  obtain ⟨g1, g2⟩ := id h1
  rcases g2 with ⟨rfl, h0⟩ | ⟨g, cap, cur, rfl, hg, hh, hc, hm, hs', ht⟩
  · have : ss = [] := by simpa using h0
    subst this
    exact ⟨none, 0, rfl, rfl, .inl rfl⟩
  · refine ⟨_, cap, rfl, rfl, .inr ⟨g, 0, rfl, ?_, fun j hj => ?_⟩⟩
    · rcases Nat.lt_or_ge g w.heap.size with h | h
      · exact h
      · rw [Array.getElem?_eq_none h] at hh; cases hh
    · obtain ⟨u, hu, ho⟩ := h3 j (ss.getD j []) (by rw [List.getD_eq_getElem?_getD, List.getElem?_eq_getElem hj]; rfl)
      have hl := hs _ (getD_mem hj [])
      obtain ⟨ua, uc, rfl, hi⟩ := ho.ints (by omega)
      refine ⟨ua, uc, ?_, hi.mono (Nat.zero_le _)⟩
      rw [Nat.zero_add, World.ownsRow.cellAt h1 j (by omega)]
      exact hu
/-- The images by number, in the block bI; their numbers lie behind it. -/
structure ImB (w : World) (bI n : Nat) (g : Nat → Res) : Prop where
  lt : bI < w.heap.size
  cells : ∀ j, j < n → ∃ pa cap, w.cell? ⟨bI, 0 + j * 3, none⟩ = some (.int .i64 (g j).W) ∧ w.cell? ⟨bI, 0 + j * 3 + 1, none⟩ = some (.int .i64 (g j).H) ∧ w.cell? ⟨bI, 0 + j * 3 + 2, none⟩ = some (.slice pa (g j).ps.length cap) ∧ Ints (bI + 1) w pa (g j).ps.length (g j).ps
  froz : ∀ o, w.frozen? ⟨bI, o, none⟩ = false
theorem ImB.below {w w' : World} {bI n : Nat} {g : Nat → Res} (h : ImB w bI n g) (hb : Below w.heap.size w w') : ImB w' bI n g := by
  refine ⟨Nat.lt_of_lt_of_le h.lt hb.size, fun j hj => ?_, fun o => (hb.frozen (p := ⟨bI, o, none⟩) h.lt).trans (h.froz o)⟩
  obtain ⟨pa, cap, c0, c1, c2, hi⟩ := h.cells j hj
  exact ⟨pa, cap, (hb.cell (p := ⟨bI, 0 + j * 3, none⟩) h.lt).trans c0, (hb.cell (p := ⟨bI, 0 + j * 3 + 1, none⟩) h.lt).trans c1, (hb.cell (p := ⟨bI, 0 + j * 3 + 2, none⟩) h.lt).trans c2, hi.below (Nat.le_refl _) hb⟩
theorem ImB.imgs {w : World} {bI n : Nat} {g : Nat → Res} (h : ImB w bI n g) (hn : n ≤ 12) : Imgs (bI + 1) w (some ⟨bI, 0, none⟩) n ((List.range n).map g) := by
  refine ⟨by simp, by omega, .inr ⟨bI, 0, rfl, h.lt, fun j hj => ?_⟩⟩
  have e : ((List.range n).map g).getD j (noRes 0) = g j := by simp [List.getD_eq_getElem?_getD, hj]
  rw [e]
  exact h.cells j hj
theorem ImB.put {w : World} {bI n : Nat} {g g' : Nat → Res} (h : ImB w bI n g) (m : Nat) (r : Res) (ra : Option Addr) (rc : Nat) (hm : m < n) (hi : Ints (bI + 1) w ra r.ps.length r.ps) (hg : ∀ j, j < n → g' j = if m = j then r else g j) :
    ImB (((w.setCell ⟨bI, 0 + m * 3, none⟩ (.int .i64 r.W)).setCell ⟨bI, 0 + m * 3 + 1, none⟩ (.int .i64 r.H)).setCell ⟨bI, 0 + m * 3 + 2, none⟩ (.slice ra r.ps.length rc)) bI n g' := by
  refine ⟨by simpa using h.lt, fun j hj => ?_, fun o => by simpa using h.froz o⟩
  rw [hg j hj]
  by_cases e : m = j
  · subst e
    rw [if_pos rfl]
    obtain ⟨pa, cap, c0, c1, c2, _⟩ := h.cells m hm
    refine ⟨ra, rc, ?_, ?_, ?_, ((hi.setCell (by simp) _).setCell (by simp) _).setCell (by simp) _⟩
    · rw [set_other _ (fun e => by injection e with e1 e2; omega), set_other _ (fun e => by injection e with e1 e2; omega)]; exact set_same c0
    · rw [set_other _ (fun e => by injection e with e1 e2; omega)]; exact set_same ((set_other _ (fun e => by injection e with e1 e2; omega)).trans c1)
    · exact set_same ((set_other _ (fun e => by injection e with e1 e2; omega)).trans ((set_other _ (fun e => by injection e with e1 e2; omega)).trans c2))
  · rw [if_neg e]
    obtain ⟨pa, cap, c0, c1, c2, hi'⟩ := h.cells j hj
    refine ⟨pa, cap, ?_, ?_, ?_, ((hi'.setCell (by simp) _).setCell (by simp) _).setCell (by simp) _⟩
    all_goals rw [set_other _ (fun e => by injection e with e1 e2; omega), set_other _ (fun e => by injection e with e1 e2; omega), set_other _ (fun e => by injection e with e1 e2; omega)]
    · exact c0
    · exact c1
    · exact c2
theorem pick_range {rs : List Res} {n : Nat} {is : List Int} (hi : ∀ i ∈ is, 0 ≤ i ∧ i < n) : pickR ((List.range n).map fun j => rs.getD j (noRes 0)) is = pickR rs is := by
  unfold pickR
  refine List.map_congr_left fun i h => ?_
  have := hi i h
  have hlt : i.toNat < n := by omega
  simp [List.getD_eq_getElem?_getD, hlt]
end Go.Proofs.Ytbcicopgcmiaaaa
