/-
  TRUEMATH: plain facts on what One, Two and Make make: right images; Up and then Down; one number; either order; less itself.
-/
import Derived.Test.YtfpkiimlaepnhaaLawOnes
import Derived.Test.YtfpkiimlaepnhaaLawTwos
namespace Go.Proofs.Ytfpkiimlaepnhaa
set_option maxRecDepth 100000
open Go.RowKit Im

theorem sumBox_le {p : Nat → Nat → Int} {l t n : Nat} : ∀ {m : Nat}, (∀ x y, l ≤ x → x < l + n → t ≤ y → y < t + m → 0 ≤ p x y ∧ p x y ≤ 65535) → 0 ≤ sumBox p l t n m ∧ sumBox p l t n m ≤ 65535 * ((n : Int) * (m : Int))
  | 0, _ => by simp [sumBox]
  | m + 1, h => by
    have h1 := sumBox_le (p := p) (l := l) (t := t) (n := n) (m := m) (fun x y h1 h2 h3 h4 => h x y h1 h2 h3 (by omega))
    have h2 := sumRow_bd (p := p) (y := t + m) (l := l) (n := n) (fun x h1 h2 => h x (t + m) h1 h2 (by omega) (by omega))
    unfold sumBox
    have e : (n : Int) * ((m + 1 : Nat) : Int) = (n : Int) * (m : Int) + n := by rw [Int.natCast_add, Int.mul_add]; simp
    rw [e]
    generalize (n : Int) * (m : Int) = z at h1 ⊢
    omega
theorem meanP_bd {p : Nat → Nat → Int} {l t r b : Nat} (h1 : l ≤ r) (h2 : t ≤ b) (h : ∀ x y, x ≤ r → y ≤ b → 0 ≤ p x y ∧ p x y ≤ 65535) : 0 ≤ meanP p l t r b ∧ meanP p l t r b ≤ 65535 := by
  rw [mean_eq p l (r + 1 - l) t (b + 1 - t) r b (by omega) (by omega)]
  have hb := sumBox_le (p := p) (l := l) (t := t) (n := r + 1 - l) (m := b + 1 - t) (fun x y _ _ _ _ => h x y (by omega) (by omega))
  have hpos : 0 < ((b + 1 - t : Nat) : Int) * ((r + 1 - l : Nat) : Int) := Int.mul_pos (by omega) (by omega)
  rw [Int.mul_comm ((r + 1 - l : Nat) : Int)] at hb
  generalize ((b + 1 - t : Nat) : Int) * ((r + 1 - l : Nat) : Int) = c at hb hpos ⊢
  refine ⟨Int.ediv_nonneg hb.1 (by omega), ?_⟩
  have : sumBox p l t (r + 1 - l) (b + 1 - t) / c < 65536 := Int.ediv_lt_of_lt_mul hpos (by omega)
  omega
theorem sumRow_const {p : Nat → Nat → Int} {y l : Nat} (k : Int) : ∀ {n : Nat}, (∀ x, l ≤ x → x < l + n → p x y = k) → sumRow p y l n = k * n
  | 0, _ => by simp [sumRow]
  | n + 1, h => by
    have h1 := sumRow_const (p := p) (y := y) (l := l) k (n := n) (fun x h1 h2 => h x h1 (by omega))
    have h2 := h (l + n) (by omega) (by omega)
    unfold sumRow
    rw [h1, h2, Int.natCast_add, Int.mul_add]; simp
theorem sumBox_const {p : Nat → Nat → Int} {l t n : Nat} (k : Int) : ∀ {m : Nat}, (∀ x y, l ≤ x → x < l + n → t ≤ y → y < t + m → p x y = k) → sumBox p l t n m = k * ((m : Int) * n)
  | 0, _ => by simp [sumBox]
  | m + 1, h => by
    have h1 := sumBox_const (p := p) (l := l) (t := t) (n := n) k (m := m) (fun x y h1 h2 h3 h4 => h x y h1 h2 h3 (by omega))
    have h2 := sumRow_const (p := p) (y := t + m) (l := l) k (n := n) (fun x h1 h2 => h x (t + m) h1 h2 (by omega) (by omega))
    unfold sumBox
    rw [h1, h2, Int.natCast_add, Int.add_mul, Int.mul_add]; simp
theorem meanP_const {p : Nat → Nat → Int} {l t r b : Nat} (k : Int) (h1 : l ≤ r) (h2 : t ≤ b) (h : ∀ x y, l ≤ x → x ≤ r → t ≤ y → y ≤ b → p x y = k) : meanP p l t r b = k := by
  rw [mean_eq p l (r + 1 - l) t (b + 1 - t) r b (by omega) (by omega), sumBox_const k (fun x y _ _ _ _ => h x y (by omega) (by omega) (by omega) (by omega))]
  have hpos : 0 < ((b + 1 - t : Nat) : Int) * ((r + 1 - l : Nat) : Int) := Int.mul_pos (by omega) (by omega)
  exact Int.mul_ediv_cancel _ (by omega)

/-- The numbers of a right image, by places. -/
theorem px_bd' {W H : Nat} {ps : List Int} (hl : ps.length = W * H) (hn : ∀ n ∈ ps, 0 ≤ n ∧ n ≤ 65535) (x y : Nat) (hx : x < W) (hy : y < H) : 0 ≤ px W ps x y ∧ px W ps x y ≤ 65535 := by
  have h : y * W + x < ps.length := by rw [hl]; exact place_lt hx hy
  unfold px
  rw [List.getD_eq_getElem?_getD, List.getElem?_eq_getElem h]
  exact hn _ (List.getElem_mem h)
theorem fine_pix {W H : Nat} {g : Nat → Nat → Int} (hW : 1 ≤ W ∧ W ≤ 16) (hH : 1 ≤ H ∧ H ≤ 16) (h : ∀ x y, x < W → y < H → 0 ≤ g x y ∧ g x y ≤ 65535) : fineB W H (pix W g (W * H)) = true := by
  rw [fine_iff]
  refine ⟨by omega, by omega, by rw [pix_length, Int.natCast_mul], pix_all W (W * H) g (by omega) (fun x y hx hy => h x y hx ?_)⟩
  rcases Nat.lt_or_ge y H with hh | hh
  · exact hh
  · have : H * W ≤ y * W := Nat.mul_le_mul_right _ hh
    rw [Nat.mul_comm] at this; omega
/-- What One makes is right. -/
theorem oneG_bd {op : Int} {W H : Nat} {k : Int} {ps : List Int} (hW : 1 ≤ W ∧ W ≤ 16) (hH : 1 ≤ H ∧ H ≤ 16) (hp : ∀ x y, x < W → y < H → 0 ≤ px W ps x y ∧ px W ps x y ≤ 65535) (hE : oneErr op W H k = 0) (x y : Nat) (hx : x < oneN op W) (hy : y < oneN op H) :
    0 ≤ oneG op W H k ps x y ∧ oneG op W H k ps x y ≤ 65535 := by
  rcases ones_cases op with (rfl | rfl) | rfl | rfl | rfl | rfl | ⟨h3, h10, h8, h9, h11, h12⟩
  · exact hp x y hx hy
  · have hx' : x < W := hx
    have hy' : y < H := hy
    exact meanP_bd (p := px W ps) (by omega) (by omega) (fun a b _ _ => hp a b (by omega) (by omega))
  · have := hp x y hx hy
    show 0 ≤ (if k ≤ px W ps x y then px W ps x y else 0) ∧ (if k ≤ px W ps x y then px W ps x y else 0) ≤ 65535
    split
    · exact this
    · omega
  · exact hp _ y (colX_lt x k W hW.1) hy
  · have hx' : x < W / 2 := hx
    have hy' : y < H / 2 := hy
    exact meanP_bd (p := px W ps) (by omega) (by omega) (fun a b _ _ => hp a b (by omega) (by omega))
  · have hx' : x < 2 * W := hx
    have hy' : y < 2 * H := hy
    exact hp _ _ (by omega) (by omega)
  · rw [oneErr_none W H k h3 h10 h8 h9 h11 h12] at hE; omega
theorem one_fine {op : Int} {W H : Nat} {k : Int} {ps : List Int} (hf : fineB W H ps = true) (hE : oneErr op W H k = 0) : fineB (oneN op W) (oneN op H) (pix (oneN op W) (oneG op W H k ps) (oneN op W * oneN op H)) = true := by
  obtain ⟨h1, h2, h3, h4⟩ := (fine_iff _ _ _).1 hf
  have hs := oneN_side (W := W) (H := H) (by omega) (by omega) hE
  exact fine_pix hs.1 hs.2 (fun x y hx hy => oneG_bd (by omega) (by omega) (px_bd' (by rw [← Int.natCast_mul] at h3; omega) h4) hE x y hx hy)
theorem two_fine {op : Int} {W H : Nat} {ps qs : List Int} (hop : op = 4 ∨ op = 5 ∨ op = 6 ∨ op = 7) (hf : fineB W H ps = true) (hg : fineB W H qs = true) : fineB W H (pix W (fun x y => twoG op (px W ps x y) (px W qs x y)) (W * H)) = true := by
  obtain ⟨h1, h2, h3, h4⟩ := (fine_iff _ _ _).1 hf
  obtain ⟨_, _, g3, g4⟩ := (fine_iff _ _ _).1 hg
  refine fine_pix (by omega) (by omega) (fun x y hx hy => ?_)
  have a := px_bd' (W := W) (H := H) (by rw [← Int.natCast_mul] at h3; omega) h4 x y hx hy
  have b := px_bd' (W := W) (H := H) (by rw [← Int.natCast_mul] at g3; omega) g4 x y hx hy
  generalize px W ps x y = m at a
  generalize px W qs x y = n at b
  rcases hop with rfl | rfl | rfl | rfl
  · show 0 ≤ min (m + n) 65535 ∧ min (m + n) 65535 ≤ 65535
    omega
  · show 0 ≤ max (m - n) 0 ∧ max (m - n) 0 ≤ 65535
    omega
  · show 0 ≤ m * n / 65535 ∧ m * n / 65535 ≤ 65535
    have e1 : 0 ≤ m * n := Int.mul_nonneg a.1 b.1
    have e2 : m * n ≤ 65535 * 65535 := Int.mul_le_mul a.2 b.2 b.1 (by omega)
    omega
  · show 0 ≤ max m n ∧ max m n ≤ 65535
    omega
theorem twoG_comm {op : Int} (h : op = 4 ∨ op = 6 ∨ op = 7) (m n : Int) : twoG op m n = twoG op n m := by
  rcases h with rfl | rfl | rfl
  · show min (m + n) 65535 = min (n + m) 65535
    rw [Int.add_comm]
  · show m * n / 65535 = n * m / 65535
    rw [Int.mul_comm]
  · show max m n = max n m
    omega
theorem pix_px {W H : Nat} {ps : List Int} (hl : ps.length = W * H) : pix W (px W ps) (W * H) = ps := by
  apply List.ext_getElem
  · rw [pix_length, hl]
  · intro i h1 h2
    have e : i / W * W + i % W = i := by rw [Nat.mul_comm]; exact Nat.div_add_mod i W
    simp [pix, px, e, h2]
/-- Up, and then Down. -/
theorem up_down {W H : Nat} {ps : List Int} (hl : ps.length = W * H) : pix W (oneG 11 (2 * W) (2 * H) 0 (pix (2 * W) (oneG 12 W H 0 ps) (2 * W * (2 * H)))) (W * H) = ps := by
  rw [show pix W (oneG 11 (2 * W) (2 * H) 0 (pix (2 * W) (oneG 12 W H 0 ps) (2 * W * (2 * H)))) (W * H) = pix W (px W ps) (W * H) from pix_congr W H _ _ (fun x y hx hy => ?_)]
  · exact pix_px hl
  · show meanP (px (2 * W) (pix (2 * W) (oneG 12 W H 0 ps) (2 * W * (2 * H)))) (2 * x) (2 * y) (2 * x + 1) (2 * y + 1) = px W ps x y
    refine meanP_const _ (by omega) (by omega) (fun a b h1 h2 h3 h4 => ?_)
    show (pix (2 * W) (oneG 12 W H 0 ps) (2 * W * (2 * H))).getD (b * (2 * W) + a) 0 = _
    rw [pix_at (2 * W) (2 * H) _ a b (by omega) (by omega)]
    show px W ps (a / 2) (b / 2) = px W ps x y
    rw [show a / 2 = x by omega, show b / 2 = y by omega]
theorem fill_blur {W H : Nat} (k : Int) (hW : 1 ≤ W) (hH : 1 ≤ H) : pix W (oneG 10 W H 0 (pix W (makeG 1 k) (W * H))) (W * H) = pix W (makeG 1 k) (W * H) :=
  pix_congr W H _ _ (fun x y hx hy => by
    show meanP (px W (pix W (makeG 1 k) (W * H))) (x - 1) (y - 1) (min (x + 1) (W - 1)) (min (y + 1) (H - 1)) = k
    refine meanP_const _ (by omega) (by omega) (fun a b _ _ _ _ => ?_)
    show (pix W (makeG 1 k) (W * H)).getD (b * W + a) 0 = k
    rw [pix_at W H _ a b (by omega) (by omega)]; rfl)
theorem fill_shift {W H : Nat} (k j : Int) (hW : 1 ≤ W) : pix W (oneG 9 W H j (pix W (makeG 1 k) (W * H))) (W * H) = pix W (makeG 1 k) (W * H) :=
  pix_congr W H _ _ (fun x y hx hy => by
    show (pix W (makeG 1 k) (W * H)).getD (y * W + colX x j W) 0 = k
    rw [pix_at W H _ _ y (colX_lt x j W hW) hy]; rfl)
theorem sub_self {W H : Nat} (ps : List Int) : ∀ n ∈ pix W (fun x y => twoG 5 (px W ps x y) (px W ps x y)) (W * H), n = 0 := by
  intro n hn
  simp [pix] at hn
  obtain ⟨i, _, rfl⟩ := hn
  show max (px W ps (i % W) (i / W) - px W ps (i % W) (i / W)) 0 = 0
  omega
end Go.Proofs.Ytfpkiimlaepnhaa
