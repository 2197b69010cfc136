/- Pics, Paint: joined, in this order. -/
import Derived.Test.YtfpkiimlaepnhaaM26
import Derived.Test.YtfpkiimlaepnhaaM09
import Derived.Test.YtfpkiimlaepnhaaM13
import Derived.Deep.RegionHeld3
/-
  PICS: numbers and lists alone: the images that the passes of a frame make, and that they are right.
-/
namespace Go.Proofs.Ytfpkiimlaepnhaa
set_option maxRecDepth 100000
open Go.RowKit Im

/-- What a pass makes out of the images fr, where z is its size. -/
def paintRes (p : Ps) (z : Sz) (fr : List Res) : Res :=
  if p.Op = 1 ∨ p.Op = 2 then makeRes p.Op z.1 z.2 p.K
  else if hasB p.Op = true then twoRes p.Op (fr.getD 0 (noRes 0)).W (fr.getD 0 (noRes 0)).H (fr.getD 0 (noRes 0)).ps (fr.getD 1 (noRes 0)).W (fr.getD 1 (noRes 0)).H (fr.getD 1 (noRes 0)).ps
  else if p.Op = 13 then litRes (fr.getD 0 (noRes 0)).W (fr.getD 0 (noRes 0)).H (fr.getD 0 (noRes 0)).ps p.ls p.K
  else oneRes p.Op (fr.getD 0 (noRes 0)).W (fr.getD 0 (noRes 0)).H (fr.getD 0 (noRes 0)).ps p.K
def pickR (rs : List Res) (is : List Int) : List Res := is.map fun i => rs.getD i.toNat (noRes 0)
/-- The size of what pass n makes. -/
def sizeN (f : Fr) (n : Nat) : Sz := sizeP f.W f.H (f.ps.getD n Ps.zero).Op (pickZ (szs f n) (srcOf f.ps n))
/-- The images of the first n passes. -/
def pics (f : Fr) : Nat → List Res
  | 0 => []
  | n + 1 => pics f n ++ [paintRes (f.ps.getD n Ps.zero) (sizeN f n) (pickR (pics f n) (srcOf f.ps n))]
theorem pics_length (f : Fr) (n : Nat) : (pics f n).length = n := by
  induction n with
  | zero => rfl
  | succ n ih => simp [pics, ih]
/-- A right image of the size z. -/
def RB (r : Res) (z : Sz) : Prop := r.E = 0 ∧ fineB r.W r.H r.ps = true ∧ r.W = z.1 ∧ r.H = z.2
theorem make_right {op W H k : Int} (hop : op = 1 ∨ op = 2) (hW : 1 ≤ W ∧ W ≤ 16) (hH : 1 ≤ H ∧ H ≤ 16) (hk : 0 ≤ k ∧ k ≤ 65535) : RB (makeRes op W H k) (W, H) := by
  have hE : makeErr op W H k = 0 := by
    unfold makeErr
    rw [if_pos hop, (side_iff W).2 hW, (side_iff H).2 hH, (num_iff k).2 hk]; rfl
  unfold makeRes
  rw [if_pos hE]
  obtain ⟨W1, rfl⟩ := Int.eq_ofNat_of_zero_le (show 0 ≤ W by omega)
  obtain ⟨H1, rfl⟩ := Int.eq_ofNat_of_zero_le (show 0 ≤ H by omega)
  simp only [Int.toNat_natCast]
  refine ⟨rfl, fine_pix (by omega) (by omega) (fun x y _ _ => ?_), rfl, rfl⟩
  unfold makeG
  split
  · exact hk
  · have := Int.emod_nonneg ((x : Int) * k + y) (show (65536 : Int) ≠ 0 by decide)
    have := Int.emod_lt_of_pos ((x : Int) * k + y) (show (0 : Int) < 65536 by decide)
    omega
theorem two_right {op : Int} {a b : Res} {z : Sz} (hop : op = 4 ∨ op = 5 ∨ op = 6 ∨ op = 7) (ha : RB a z) (hb : RB b z) : RB (twoRes op a.W a.H a.ps b.W b.H b.ps) z := by
  obtain ⟨_, a1, a2, a3⟩ := ha
  obtain ⟨_, b1, b2, b3⟩ := hb
  have hw : withinB op 4 7 = true := by simp [withinB]; omega
  have hE : (twoRes op a.W a.H a.ps b.W b.H b.ps).E = 0 := by
    unfold twoRes
    rw [if_pos (by rw [a1, b1]; rfl), if_pos hw, if_pos (by rw [a2, b2, a3, b3]; exact ⟨rfl, rfl⟩)]
  refine ⟨hE, twoRes_fine hE, ?_, ?_⟩
  all_goals
    unfold twoRes
    rw [if_pos (by rw [a1, b1]; rfl), if_pos hw, if_pos (by rw [a2, b2, a3, b3]; exact ⟨rfl, rfl⟩)]
    assumption
theorem one_right {op k : Int} {a : Res} {z : Sz} (hA : hasA op = true) (hB : hasB op = false) (hL : ¬ op = 13) (hk : hasK op = true → kB op k = true) (hf : fitP op [z] = true) (ha : RB a z) : RB (oneRes op a.W a.H a.ps k) (sizeP 0 0 op [z]) := by
  obtain ⟨_, a1, a2, a3⟩ := ha
  obtain ⟨zw, zh⟩ := z
  dsimp only at a2 a3
  obtain ⟨E, aW, aH, aps⟩ := a
  dsimp only at a1 a2 a3 ⊢
  subst a2 a3
  obtain ⟨b1, b2, b3, b4⟩ := (fine_iff _ _ _).1 a1
  obtain ⟨W, rfl⟩ := Int.eq_ofNat_of_zero_le (show 0 ≤ aW by omega)
  obtain ⟨H, rfl⟩ := Int.eq_ofNat_of_zero_le (show 0 ≤ aH by omega)
  have hop : op = 3 ∨ op = 8 ∨ op = 9 ∨ op = 10 ∨ op = 11 ∨ op = 12 := by simp [hasA, withinB] at hA; simp [hasB, withinB] at hB; omega
  have hE : oneErr op W H k = 0 := by
    rcases hop with rfl | rfl | rfl | rfl | rfl | rfl
    · rfl
    · have := hk rfl
      have e : withinB k 0 65535 = true := this
      have e' : numB k = true := by simp [withinB] at e; exact (num_iff k).2 e
      simp [oneErr, e', okIf]
    · have := hk rfl
      have e : withinB k (-16) 16 = true := this
      simp [oneErr, e, okIf]
    · rfl
    · have e : (decide ((W : Int) % 2 = 0) && decide ((H : Int) % 2 = 0)) = true := hf
      simp only [Bool.and_eq_true, decide_eq_true_eq] at e
      have e1 : W % 2 = 0 := by omega
      have e2 : H % 2 = 0 := by omega
      simp [oneErr, okIf, e1, e2]
    · have e : (decide (2 * (W : Int) ≤ 16) && decide (2 * (H : Int) ≤ 16)) = true := hf
      simp only [Bool.and_eq_true, decide_eq_true_eq] at e
      have e1 : 2 * W ≤ 16 := by omega
      have e2 : 2 * H ≤ 16 := by omega
      simp [oneErr, okIf, e1, e2]
  have h0 : (oneRes op W H aps k).E = 0 := by
    unfold oneRes
    rw [if_pos a1]; simp only [Int.toNat_natCast]; rw [if_pos hE]
  refine ⟨h0, oneRes_fine h0, ?_, ?_⟩
  all_goals
    unfold oneRes
    rw [if_pos a1]; simp only [Int.toNat_natCast]; rw [if_pos hE]
    rcases hop with rfl | rfl | rfl | rfl | rfl | rfl <;> simp [oneN, sizeP]
theorem lit_right {k : Int} {a : Res} {z : Sz} {ls : List Lt} (hl : lightsErr ls = 0) (hk : 1 ≤ k ∧ k ≤ 16) (ha : RB a z) : RB (litRes a.W a.H a.ps ls k) z := by
  obtain ⟨_, a1, a2, a3⟩ := ha
  obtain ⟨b1, b2, b3, b4⟩ := (fine_iff _ _ _).1 a1
  have hr := lightsErr_zero hl
  unfold litRes
  rw [if_pos a1, if_pos hl, if_pos hk]
  refine ⟨rfl, ?_, a2, a3⟩
  dsimp only
  clear a2 a3
  generalize a.W = aW at *
  generalize a.H = aH at *
  generalize a.ps = ps at *
  obtain ⟨W, rfl⟩ := Int.eq_ofNat_of_zero_le (show 0 ≤ aW by omega)
  obtain ⟨H, rfl⟩ := Int.eq_ofNat_of_zero_le (show 0 ≤ aH by omega)
  simp only [Int.toNat_natCast]
  refine fine_pix (by omega) (by omega) (fun x y hx hy => ?_)
  have h1 := px_bd' (W := W) (H := H) (by rw [← Int.natCast_mul] at b3; omega) b4 x y hx hy
  have h2 := sumG_bd x y (by omega) (by omega) ls hr.2
  unfold litG
  omega
theorem takes_two' {p : Ps} (h : hasB p.Op = true) : takesP p = [p.A, p.B] := by unfold takesP; rw [if_pos h]
theorem pickR_right {f : Fr} {n : Nat} (hR : ∀ k, k < n → RB ((pics f n).getD k (noRes 0)) ((szs f n).getD k Sz.zero)) {is : List Int} (hi : ∀ i ∈ is, 0 ≤ i ∧ i < n) {j : Nat} (hj : j < is.length) : RB ((pickR (pics f n) is).getD j (noRes 0)) ((pickZ (szs f n) is).getD j Sz.zero) := by
  have h1 := hi _ (List.getElem_mem hj)
  have e1 : (pickR (pics f n) is).getD j (noRes 0) = (pics f n).getD (is[j]).toNat (noRes 0) := by
    unfold pickR
    simp [List.getD_eq_getElem?_getD, List.getElem?_map, List.getElem?_eq_getElem hj]
  have e2 : (pickZ (szs f n) is).getD j Sz.zero = (szs f n).getD (is[j]).toNat Sz.zero := by
    unfold pickZ
    simp [List.getD_eq_getElem?_getD, List.getElem?_map, List.getElem?_eq_getElem hj]
  rw [e1, e2]
  exact hR _ (by omega)
theorem sizeP_one {W H op : Int} {zs : List Sz} (h : ¬ (op = 1 ∨ op = 2)) : sizeP W H op zs = sizeP 0 0 op [zs.getD 0 Sz.zero] := by
  unfold sizeP
  rw [if_neg h, if_neg h]
  rfl
/-- What a right pass makes is a right image. -/
theorem paint_right {f : Fr} {n : Nat} (hb : boundsE f = 0) (hE : passE f n = 0) (hR : ∀ k, k < n → RB ((pics f n).getD k (noRes 0)) ((szs f n).getD k Sz.zero)) : RB (paintRes (f.ps.getD n Ps.zero) (sizeN f n) (pickR (pics f n) (srcOf f.ps n))) (sizeN f n) := by
  obtain ⟨hW, hH, _⟩ := boundsE_zero hb
  obtain ⟨o1, o2, o3⟩ := passE_zero hE
  obtain ⟨hkn, hsl, hk, hl, hbare, _⟩ := ownE_zero o1
  have hs := src_bd o2
  have hpick := fun j hj => pickR_right hR hs (j := j) hj
  have hlen : (srcOf f.ps n).length = (takesP (f.ps.getD n Ps.zero)).length := by simp [srcOf]
  unfold sizeN at *
  generalize f.ps.getD n Ps.zero = p at *
  generalize pickR (pics f n) (srcOf f.ps n) = rs at *
  generalize pickZ (szs f n) (srcOf f.ps n) = zs at *
  unfold paintRes
  by_cases h12 : p.Op = 1 ∨ p.Op = 2
  · rw [if_pos h12]
    have e : sizeP f.W f.H p.Op zs = (f.W, f.H) := by unfold sizeP; rw [if_pos h12]
    rw [e]
    have hK : hasK p.Op = true := by rcases h12 with h | h <;> rw [h] <;> rfl
    have := hk hK
    have e2 : kB p.Op p.K = withinB p.K 0 65535 := by unfold kB; rw [if_neg (by omega), if_neg (by omega)]
    rw [e2] at this
    exact make_right h12 hW hH (by simp [withinB] at this; omega)
  · rw [if_neg h12]
    have hA := hasA_of hkn (fun h => h12 (.inl h)) (fun h => h12 (.inr h))
    obtain ⟨r, hr⟩ := takes_pos hA
    have h0 := hpick 0 (by rw [hlen, hr]; simp)
    rw [sizeP_one h12]
    by_cases hB : hasB p.Op = true
    · rw [if_pos hB]
      have h1 := hpick 1 (by rw [hlen, takes_two' hB]; simp)
      have hop : p.Op = 4 ∨ p.Op = 5 ∨ p.Op = 6 ∨ p.Op = 7 := by simp [hasB, withinB] at hB; omega
      have ef : zs.getD 0 Sz.zero = zs.getD 1 Sz.zero := by
        unfold fitP at o3
        rw [if_neg (by omega), if_neg (by omega), if_pos hB] at o3
        simpa using o3
      rw [← ef] at h1
      have e : sizeP 0 0 p.Op [zs.getD 0 Sz.zero] = zs.getD 0 Sz.zero := by
        unfold sizeP
        rw [if_neg (by omega), if_neg (by omega), if_neg (by omega)]; rfl
      rw [e]
      exact two_right hop h0 h1
    · rw [if_neg hB]
      have hB' := eq_false_of_ne_true hB
      by_cases h13 : p.Op = 13
      · rw [if_pos h13]
        have e : sizeP 0 0 p.Op [zs.getD 0 Sz.zero] = zs.getD 0 Sz.zero := by
          unfold sizeP
          rw [if_neg (by omega), if_neg (by omega), if_neg (by omega)]; rfl
        rw [e]
        have hK : hasK p.Op = true := by rw [h13]; rfl
        have hL : hasL p.Op = true := by rw [h13]; rfl
        have := hk hK
        have e2 : kB p.Op p.K = withinB p.K 1 16 := by unfold kB; rw [if_neg (by omega), if_pos h13]
        rw [e2] at this
        exact lit_right (hl hL) (by simp [withinB] at this; omega) h0
      · rw [if_neg h13]
        refine one_right hA hB' h13 hk ?_ h0
        unfold fitP at o3 ⊢
        rw [hB'] at o3 ⊢
        exact o3
theorem getD_left {α : Type} (l m : List α) (d : α) {k : Nat} (h : k < l.length) : (l ++ m).getD k d = l.getD k d := by
  rw [List.getD_eq_getElem?_getD, List.getD_eq_getElem?_getD, List.getElem?_append_left h]
theorem getD_last {α : Type} (l : List α) (x d : α) {k : Nat} (h : k = l.length) : (l ++ [x]).getD k d = x := by
  subst h
  rw [List.getD_eq_getElem?_getD, List.getElem?_append_right (Nat.le_refl _), Nat.sub_self]; rfl
theorem pics_right {f : Fr} (hb : boundsE f = 0) : ∀ {n : Nat}, firstE f n = 0 → ∀ k, k < n → RB ((pics f n).getD k (noRes 0)) ((szs f n).getD k Sz.zero)
  | 0, _ => fun k hk => by omega
  | n + 1, h => by
    have h0 := firstE_down f h (Nat.le_succ n)
    have ih := pics_right hb h0
    rw [firstE_at f h0] at h
    have hp := paint_right hb h ih
    intro k hk
    have e1 : pics f (n + 1) = pics f n ++ [paintRes (f.ps.getD n Ps.zero) (sizeN f n) (pickR (pics f n) (srcOf f.ps n))] := rfl
    have e2 : szs f (n + 1) = szs f n ++ [sizeN f n] := rfl
    have l1 := pics_length f n
    have l2 := szs_length f n
    rw [e1, e2]
    by_cases hkn : k < n
    · rw [getD_left _ _ _ (by omega), getD_left _ _ _ (by omega)]
      exact ih k hkn
    · rw [getD_last _ _ _ (by omega), getD_last _ _ _ (by omega)]
      exact hp
end Go.Proofs.Ytfpkiimlaepnhaa
/-
  PAINT: lists of images in memory; paint.Pass.
-/
namespace Go.Proofs.Ytfpkiimlaepnhaa
set_option maxRecDepth 100000
open Go.RowKit Im

/-- A slice's elements are the images rs; their numbers lie in blocks from base on. -/
structure Imgs (base : Nat) (w : World) (a : Option Addr) (len : Nat) (rs : List Res) : Prop where
  leng : rs.length = len
  big : len ≤ 9223372036854775807
  cells : rs = [] ∨ ∃ b off, a = some ⟨b, off, none⟩ ∧ b < w.heap.size ∧ ∀ j, j < len → ∃ pa cap, w.cell? ⟨b, off + j * 3, none⟩ = some (.int .i64 (rs.getD j (noRes 0)).W) ∧ w.cell? ⟨b, off + j * 3 + 1, none⟩ = some (.int .i64 (rs.getD j (noRes 0)).H) ∧ w.cell? ⟨b, off + j * 3 + 2, none⟩ = some (.slice pa (rs.getD j (noRes 0)).ps.length cap) ∧ Ints base w pa (rs.getD j (noRes 0)).ps.length (rs.getD j (noRes 0)).ps
theorem Imgs.below {base : Nat} {w w' : World} {a : Option Addr} {len : Nat} {rs : List Res} (h : Imgs base w a len rs) (hb : Below w.heap.size w w') : Imgs base w' a len rs := by
  refine ⟨h.leng, h.big, ?_⟩
  rcases h.cells with e | ⟨b, off, ha, hl, hc⟩
  · exact .inl e
  · refine .inr ⟨b, off, ha, Nat.lt_of_lt_of_le hl hb.size, fun j hj => ?_⟩
    obtain ⟨pa, cap, c0, c1, c2, hi⟩ := hc j hj
    exact ⟨pa, cap, (hb.cell (p := ⟨b, off + j * 3, none⟩) hl).trans c0, (hb.cell (p := ⟨b, off + j * 3 + 1, none⟩) hl).trans c1, (hb.cell (p := ⟨b, off + j * 3 + 2, none⟩) hl).trans c2, hi.below (Nat.le_refl _) hb⟩
theorem Imgs.nth {base : Nat} {w : World} {a : Option Addr} {len : Nat} {rs : List Res} (h : Imgs base w a len rs) {k : Nat} (hk : k < len) : ∃ b off pa cap, a = some ⟨b, off, none⟩ ∧ b < w.heap.size ∧ w.cell? ⟨b, off + k * 3, none⟩ = some (.int .i64 (rs.getD k (noRes 0)).W) ∧ w.cell? ⟨b, off + k * 3 + 1, none⟩ = some (.int .i64 (rs.getD k (noRes 0)).H) ∧ w.cell? ⟨b, off + k * 3 + 2, none⟩ = some (.slice pa (rs.getD k (noRes 0)).ps.length cap) ∧ Ints base w pa (rs.getD k (noRes 0)).ps.length (rs.getD k (noRes 0)).ps := by
  rcases h.cells with e | ⟨b, off, ha, hl, hc⟩
  · have := h.leng; subst e; simp at this; omega
  · obtain ⟨pa, cap, r⟩ := hc k hk
    exact ⟨b, off, pa, cap, ha, hl, r⟩
/-- The world behind paint.Pass's boxes. -/
abbrev pw (w : World) (Op To A B K : Int) (la : Option Addr) (ll lc : Nat) (zw zh : Int) : World :=
  ((w.alloc (.cells #[.int .i64 Op, .int .i64 To, .int .i64 A, .int .i64 B, .int .i64 K, .slice la ll lc] 88)).alloc (.cells #[.int .i64 zw, .int .i64 zh] 72)).alloc (.cells #[.int .i64 0, .int .i64 0, .slice none 0 0] 24)
/-- An image that is nothing, in a block of its own. -/
structure IBox (w : World) (b : Nat) : Prop where
  lt : b < w.heap.size
  c0 : w.cell? ⟨b, 0, none⟩ = some (.int .i64 0)
  c1 : w.cell? ⟨b, 1, none⟩ = some (.int .i64 0)
  c2 : w.cell? ⟨b, 2, none⟩ = some (.slice none 0 0)
  f0 : w.frozen? ⟨b, 0, none⟩ = false
  f1 : w.frozen? ⟨b, 1, none⟩ = false
  f2 : w.frozen? ⟨b, 2, none⟩ = false
theorem IBox.new (w : World) : IBox (w.alloc (.cells #[.int .i64 0, .int .i64 0, .slice none 0 0] 24)) w.heap.size :=
  ⟨by simp, by simp [go_sem], by simp [go_sem], by simp [go_sem], by simp [go_sem], by simp [go_sem], by simp [go_sem]⟩
theorem IBox.below {w w' : World} {b B : Nat} (h : IBox w b) (hb : Below B w w') (hB : b < B) (hs : w.heap.size ≤ w'.heap.size) : IBox w' b :=
  ⟨Nat.lt_of_lt_of_le h.lt hs, (hb.cell (p := ⟨b, 0, none⟩) hB).trans h.c0, (hb.cell (p := ⟨b, 1, none⟩) hB).trans h.c1, (hb.cell (p := ⟨b, 2, none⟩) hB).trans h.c2, (hb.frozen (p := ⟨b, 0, none⟩) hB).trans h.f0, (hb.frozen (p := ⟨b, 1, none⟩) hB).trans h.f1, (hb.frozen (p := ⟨b, 2, none⟩) hB).trans h.f2⟩
theorem pw_below (w : World) (Op To A B K : Int) (la : Option Addr) (ll lc : Nat) (zw zh : Int) : Below w.heap.size w (pw w Op To A B K la ll lc zw zh) := below_box (below_box (below_box (Below.refl _ _) _) _) _
theorem pw_size (w : World) (Op To A B K : Int) (la : Option Addr) (ll lc : Nat) (zw zh : Int) : (pw w Op To A B K la ll lc zw zh).heap.size = w.heap.size + 3 := by simp [pw]
theorem pw_box (w : World) (Op To A B K : Int) (la : Option Addr) (ll lc : Nat) (zw zh : Int) : IBox (pw w Op To A B K la ll lc zw zh) (w.heap.size + 2) := by
  have := IBox.new ((w.alloc (.cells #[.int .i64 Op, .int .i64 To, .int .i64 A, .int .i64 B, .int .i64 K, .slice la ll lc] 88)).alloc (.cells #[.int .i64 zw, .int .i64 zh] 72))
  simpa using this
/-- What is told, behind the store of the image into its box. -/
theorem paint_told {w wx w' : World} {b : Nat} {r : Res} {ra : Option Addr} {rc : Nat} (hx : Below w.heap.size w wx) (hlt : b < wx.heap.size) (hb0 : w.heap.size ≤ b) (hi : Ints wx.heap.size w' ra r.ps.length r.ps) (hb : Below wx.heap.size wx w') :
    Told w r (.returned (.tuple #[.agg #[.int .i64 r.W, .int .i64 r.H, .slice ra r.ps.length rc], .int .i64 r.E])) (((w'.setCell ⟨b, 0, none⟩ (.int .i64 r.W)).setCell ⟨b, 1, none⟩ (.int .i64 r.H)).setCell ⟨b, 2, none⟩ (.slice ra r.ps.length rc)) :=
  ⟨ra, rc, rfl, (((hi.setCell (p := ⟨b, 0, none⟩) hlt _).setCell (p := ⟨b, 1, none⟩) hlt _).setCell (p := ⟨b, 2, none⟩) hlt _).mono hx.size, (((below_step hx hb).setCell (p := ⟨b, 0, none⟩) hb0 _).setCell (p := ⟨b, 1, none⟩) hb0 _).setCell (p := ⟨b, 2, none⟩) hb0 _⟩
set_option maxHeartbeats 1000000 in
theorem paint_make (Op To A B K : Int) (la : Option Addr) (ll lc : Nat) (zw zh : Int) (fa : Option Addr) (flen fcap : Nat) (w : World) (h12 : Op = 1 ∨ Op = 2) {r : Res} (hr : makeRes Op zw zh K = r) :
    Calls Try.prog 89 #[.agg #[.int .i64 Op, .int .i64 To, .int .i64 A, .int .i64 B, .int .i64 K, .slice la ll lc], .agg #[.int .i64 zw, .int .i64 zh], .slice fa flen fcap] w (Told w r) := by
  have hm := fun wx => make_told wx hr
  have hbx := pw_below w Op To A B K la ll lc zw zh
  have hbox := pw_box w Op To A B K la ll lc zw zh
  have hsz := pw_size w Op To A B K la ll lc zw zh
  clear hr
  rcases h12 with rfl | rfl
  all_goals
    go_enter Try.func89, Try.ntmps89
    go_wp2_with fail
    refine (hm _).mono ?_
    rintro e w' ⟨ra, rc, rfl, hri, hb⟩
    obtain ⟨_, c0, c1, c2, f0, f1, f2⟩ := hbox.below hb hbox.lt hb.size
    clear hm
    have hT := paint_told (rc := rc) hbx hbox.lt (by omega) hri hb
    have HT : Hid (_) := hT
    clear hT hri hb hbx hbox
    go_wp2
    refine bodyPost_ret (v := .tuple #[.agg #[.int .i64 r.W, .int .i64 r.H, .slice ra r.ps.length rc], .int .i64 r.E]) (by simp [results, Try.results89, go_sem, c0, c1, c2]) rfl HT.out
end Go.Proofs.Ytfpkiimlaepnhaa
