/- TilesMath, Pics, Slots, SizeOf: joined, in this order. -/
import Derived.Test.YtihliofhhjjeaaaGreatM07
import Derived.Test.YtihliofhhjjeaaaGreatM09
import Derived.Test.YtihliofhhjjeaaaGreatM06
import Derived.Test.YtihliofhhjjeaaaGreatM05
import Derived.Deep.RegionHeld3
import Derived.Deep.RegionLaw
set_option maxRecDepth 100000
namespace Go.Proofs.YtihliofhhjjeaaaGreat
open Go.RowKit Im
def litRes (W H : Int) (ps : List Int) (ls : List Lt) (tile : Int) : Res :=
  if fineB W H ps = true then
    if lightsErr ls = 0 then
      if 1 ≤ tile ∧ tile ≤ 16 then ⟨0, W, H, pix W.toNat (litG W.toNat ps ls) (W.toNat * H.toNat)⟩ else noRes 3
    else noRes (lightsErr ls)
  else noRes 1
theorem lit_told {W H : Int} {a : Option Addr} {len : Nat} (cap : Nat) {ps : List Int} {la : Option Addr} {llen : Nat} (lcap : Nat) {ls : List Lt} {tile : Int} {w : World} (h : Ints 0 w a len ps) (hl : Lights w la llen ls) {r : Res} (hr : litRes W H ps ls tile = r) :
    Calls Tryz.prog 71 #[.agg #[.int .i64 W, .int .i64 H, .slice a len cap], .slice la llen lcap, .int .i64 tile] w (Told w r) := by
  subst hr
  unfold litRes
  by_cases hf : fineB W H ps = true
  · rw [if_pos hf]
    obtain ⟨W', H', b, off, rfl, rfl, rfl, rfl, hF⟩ := fine_of h hf
    simp only [Int.toNat_natCast]
    by_cases hE : lightsErr ls = 0
    · rw [if_pos hE]
      by_cases ht : 1 ≤ tile ∧ tile ≤ 16
      · rw [if_pos ht]
        obtain ⟨tn, rfl⟩ := Int.eq_ofNat_of_zero_le (show 0 ≤ tile by omega)
        refine (lit_ok cap lcap tn hF hl hE (by omega)).mono fun e w' ⟨a, cap', he, hi, hb⟩ => ⟨a, cap', ?_, ?_, hb⟩
        · simp only [pix_length]; exact he
        · simp only [pix_length]; exact hi
      · rw [if_neg ht]
        exact (lit_range cap lcap tile hF hl hE (by omega)).mono fun e w' h => told_no h
    · rw [if_neg hE]
      exact (lit_lights cap lcap tile hF hl hE).mono fun e w' h => told_no h
  · rw [if_neg hf]
    exact (lit_form cap lcap tile h (eq_false_of_ne_true hf)).mono fun e w' h => told_no h
def lcells : List Lt → List Value
  | [] => []
  | l :: r => .int .i64 l.X :: .int .i64 l.Y :: .int .i64 l.R :: .int .i64 l.P :: lcells r
theorem lcells_len : ∀ ls, (lcells ls).length = ls.length * 4
  | [] => rfl
  | l :: r => by simp only [lcells, List.length_cons, lcells_len r]; omega
theorem lcells_snoc (l : Lt) : ∀ ls, lcells (ls ++ [l]) = lcells ls ++ [.int .i64 l.X, .int .i64 l.Y, .int .i64 l.R, .int .i64 l.P]
  | [] => rfl
  | m :: r => by simp only [List.cons_append, lcells, lcells_snoc l r]
theorem lcells_get : ∀ (ls : List Lt) (j : Nat), j < ls.length → (lcells ls)[j * 4]? = some (.int .i64 (ls.getD j Lt.zero).X) ∧ (lcells ls)[j * 4 + 1]? = some (.int .i64 (ls.getD j Lt.zero).Y) ∧ (lcells ls)[j * 4 + 2]? = some (.int .i64 (ls.getD j Lt.zero).R) ∧ (lcells ls)[j * 4 + 3]? = some (.int .i64 (ls.getD j Lt.zero).P)
  | [], j, h => by simp at h
  | l :: r, 0, _ => by simp [lcells]
  | l :: r, j + 1, h => by
    have ih := lcells_get r j (by simpa using h)
    have e0 : ∀ t, (lcells (l :: r))[t + 4]? = (lcells r)[t]? := fun t => by simp [lcells]
    rw [show (j + 1) * 4 = j * 4 + 4 by omega, show j * 4 + 4 + 1 = j * 4 + 1 + 4 by omega, show j * 4 + 4 + 2 = j * 4 + 2 + 4 by omega, show j * 4 + 4 + 3 = j * 4 + 3 + 4 by omega, e0, e0, e0, e0]
    exact ih
def OwnsL (base : Nat) (w : World) (v : Value) (ls : List Lt) : Prop := w.ownsRow base 89 4 v ls.length (lcells ls)
theorem OwnsL.lights {base : Nat} {w : World} {v : Value} {ls : List Lt} (h : OwnsL base w v ls) (hb : ls.length ≤ 9223372036854775807) : ∃ a cap, v = .slice a ls.length cap ∧ Lights w a ls.length ls := by
  obtain ⟨h1, h2⟩ := h
  rcases h2 with ⟨rfl, h0⟩ | ⟨g, cap, cur, rfl, hg, hh, hc, hm, hs, ht⟩
  · have : ls = [] := by simpa using h0
    subst this
    exact ⟨none, 0, rfl, rfl, by simp, .inl rfl⟩
  · refine ⟨_, cap, rfl, rfl, by omega, .inr ⟨g, 0, rfl, ?_, fun j hj => ?_⟩⟩
    · rcases Nat.lt_or_ge g w.heap.size with h | h
      · exact h
      · rw [Array.getElem?_eq_none h] at hh; cases hh
    · have hl := lcells_len ls
      have hg4 := lcells_get ls j hj
      have this := fun i hi => World.ownsRow.cellAt (base := base) (e := 89) (size := 4) ⟨h1, .inr ⟨g, cap, cur, rfl, hg, hh, hc, hm, hs, ht⟩⟩ i hi
      rw [Nat.zero_add]
      exact ⟨(this (j * 4) (by omega)).trans hg4.1, (this (j * 4 + 1) (by omega)).trans hg4.2.1, (this (j * 4 + 2) (by omega)).trans hg4.2.2.1, (this (j * 4 + 3) (by omega)).trans hg4.2.2.2⟩
theorem OwnsL.push {base : Nat} {w wx w1 : World} {v v' : Value} {ls : List Lt} {l : Lt} {B0 : World} {o : Obj} (h : OwnsL base w v ls) (hb : Below base B0 w) (hB : base ≤ w.heap.size)
    (h' : w1.ownsRow base 89 4 v' (ls.length + 1) (lcells ls ++ [.int .i64 l.X, .int .i64 l.Y, .int .i64 l.R, .int .i64 l.P])) (hx : wx = w.alloc o) (hg : wx.grownBy w1 v.ownBlock) : OwnsL base w1 v' (ls ++ [l]) ∧ Below base B0 w1 := by
  subst hx
  refine ⟨by unfold OwnsL; rw [lcells_snoc]; simpa using h', ?_⟩
  exact (hb.alloc hB o).grown hg (by simp; omega) (fun j hj => (World.ownsRow.lt (w := w) h j hj).1)
theorem Tryz.infoLight : (Tryz.prog.info? 89).map (fun i => (i.zero, i.size, i.bytes)) = some (some (.agg #[.int .i64 0, .int .i64 0, .int .i64 0, .int .i64 0]), 4, 32) := by kernel_rfl
end Go.Proofs.YtihliofhhjjeaaaGreat
namespace Go.Proofs.YtihliofhhjjeaaaGreat
open Go.RowKit Im
def paintRes (p : Ps) (z : Sz) (fr : List Res) : Res :=
  if p.Op = 1 ∨ p.Op = 2 then makeRes p.Op z.1 z.2 p.K
  else if hasB p.Op = true then twoRes p.Op (fr.getD 0 (noRes 0)).W (fr.getD 0 (noRes 0)).H (fr.getD 0 (noRes 0)).ps (fr.getD 1 (noRes 0)).W (fr.getD 1 (noRes 0)).H (fr.getD 1 (noRes 0)).ps
  else if p.Op = 13 then litRes (fr.getD 0 (noRes 0)).W (fr.getD 0 (noRes 0)).H (fr.getD 0 (noRes 0)).ps p.ls p.K
  else oneRes p.Op (fr.getD 0 (noRes 0)).W (fr.getD 0 (noRes 0)).H (fr.getD 0 (noRes 0)).ps p.K
def pickR (rs : List Res) (is : List Int) : List Res := is.map fun i => rs.getD i.toNat (noRes 0)
def sizeN (f : Fr) (n : Nat) : Sz := sizeP f.W f.H (f.ps.getD n Ps.zero).Op (pickZ (szs f n) (srcOf f.ps n))
def pics (f : Fr) : Nat → List Res
  | 0 => []
  | n + 1 => pics f n ++ [paintRes (f.ps.getD n Ps.zero) (sizeN f n) (pickR (pics f n) (srcOf f.ps n))]
theorem pics_length (f : Fr) (n : Nat) : (pics f n).length = n := by
  induction n with
  | zero => rfl
  | succ n ih => simp [pics, ih]
def RB (r : Res) (z : Sz) : Prop := r.E = 0 ∧ fineB r.W r.H r.ps = true ∧ r.W = z.1 ∧ r.H = z.2
theorem make_right {op W H k : Int} (hop : op = 1 ∨ op = 2) (hW : 1 ≤ W ∧ W ≤ 16) (hH : 1 ≤ H ∧ H ≤ 16) (hk : 0 ≤ k ∧ k ≤ 65535) : RB (makeRes op W H k) (W, H) := by
  have hE : makeErr op W H k = 0 := by
    unfold makeErr
    rw [if_pos hop, (side_iff W).2 hW, (side_iff H).2 hH, (num_iff k).2 hk]; rfl
  unfold makeRes
  rw [if_pos hE]
  obtain ⟨W1, rfl⟩ := Int.eq_ofNat_of_zero_le (show 0 ≤ W by omega)
  obtain ⟨H1, rfl⟩ := Int.eq_ofNat_of_zero_le (show 0 ≤ H by omega)
  simp only [Int.toNat_natCast]
  refine ⟨rfl, fine_pix (by omega) (by omega) (fun x y _ _ => ?_), rfl, rfl⟩
  unfold makeG
  split
  · exact hk
  · have := Int.emod_nonneg ((x : Int) * k + y) (show (65536 : Int) ≠ 0 by decide)
    have := Int.emod_lt_of_pos ((x : Int) * k + y) (show (0 : Int) < 65536 by decide)
    omega
theorem two_right {op : Int} {a b : Res} {z : Sz} (hop : op = 4 ∨ op = 5 ∨ op = 6 ∨ op = 7) (ha : RB a z) (hb : RB b z) : RB (twoRes op a.W a.H a.ps b.W b.H b.ps) z := by
  obtain ⟨_, a1, a2, a3⟩ := ha
  obtain ⟨_, b1, b2, b3⟩ := hb
  have hw : withinB op 4 7 = true := by simp [withinB]; omega
  have hE : (twoRes op a.W a.H a.ps b.W b.H b.ps).E = 0 := by
    unfold twoRes
    rw [if_pos (by rw [a1, b1]; rfl), if_pos hw, if_pos (by rw [a2, b2, a3, b3]; exact ⟨rfl, rfl⟩)]
  refine ⟨hE, twoRes_fine hE, ?_, ?_⟩
  all_goals
    unfold twoRes
    rw [if_pos (by rw [a1, b1]; rfl), if_pos hw, if_pos (by rw [a2, b2, a3, b3]; exact ⟨rfl, rfl⟩)]
    assumption
theorem one_right {op k : Int} {a : Res} {z : Sz} (hA : hasA op = true) (hB : hasB op = false) (hL : ¬ op = 13) (hk : hasK op = true → kB op k = true) (hf : fitP op [z] = true) (ha : RB a z) : RB (oneRes op a.W a.H a.ps k) (sizeP 0 0 op [z]) := by
  obtain ⟨_, a1, a2, a3⟩ := ha
  obtain ⟨zw, zh⟩ := z
  dsimp only at a2 a3
  obtain ⟨E, aW, aH, aps⟩ := a
  dsimp only at a1 a2 a3 ⊢
  subst a2 a3
  obtain ⟨b1, b2, b3, b4⟩ := (fine_iff _ _ _).1 a1
  obtain ⟨W, rfl⟩ := Int.eq_ofNat_of_zero_le (show 0 ≤ aW by omega)
  obtain ⟨H, rfl⟩ := Int.eq_ofNat_of_zero_le (show 0 ≤ aH by omega)
  have hop : op = 3 ∨ op = 8 ∨ op = 9 ∨ op = 10 ∨ op = 11 ∨ op = 12 := by simp [hasA, withinB] at hA; simp [hasB, withinB] at hB; omega
  have hE : oneErr op W H k = 0 := by
    rcases hop with rfl | rfl | rfl | rfl | rfl | rfl
    · rfl
    · have := hk rfl
      have e : withinB k 0 65535 = true := this
      have e' : numB k = true := by simp [withinB] at e; exact (num_iff k).2 e
      simp [oneErr, e', okIf]
    · have := hk rfl
      have e : withinB k (-16) 16 = true := this
      simp [oneErr, e, okIf]
    · rfl
    · have e : (decide ((W : Int) % 2 = 0) && decide ((H : Int) % 2 = 0)) = true := hf
      simp only [Bool.and_eq_true, decide_eq_true_eq] at e
      have e1 : W % 2 = 0 := by omega
      have e2 : H % 2 = 0 := by omega
      simp [oneErr, okIf, e1, e2]
    · have e : (decide (2 * (W : Int) ≤ 16) && decide (2 * (H : Int) ≤ 16)) = true := hf
      simp only [Bool.and_eq_true, decide_eq_true_eq] at e
      have e1 : 2 * W ≤ 16 := by omega
      have e2 : 2 * H ≤ 16 := by omega
      simp [oneErr, okIf, e1, e2]
  have h0 : (oneRes op W H aps k).E = 0 := by
    unfold oneRes
    rw [if_pos a1]; simp only [Int.toNat_natCast]; rw [if_pos hE]
  refine ⟨h0, oneRes_fine h0, ?_, ?_⟩
  all_goals
    unfold oneRes
    rw [if_pos a1]; simp only [Int.toNat_natCast]; rw [if_pos hE]
    rcases hop with rfl | rfl | rfl | rfl | rfl | rfl <;> simp [oneN, sizeP]
theorem lit_right {k : Int} {a : Res} {z : Sz} {ls : List Lt} (hl : lightsErr ls = 0) (hk : 1 ≤ k ∧ k ≤ 16) (ha : RB a z) : RB (litRes a.W a.H a.ps ls k) z := by
  obtain ⟨_, a1, a2, a3⟩ := ha
  obtain ⟨b1, b2, b3, b4⟩ := (fine_iff _ _ _).1 a1
  have hr := lightsErr_zero hl
  unfold litRes
  rw [if_pos a1, if_pos hl, if_pos hk]
  refine ⟨rfl, ?_, a2, a3⟩
  dsimp only
  clear a2 a3
  generalize a.W = aW at *
  generalize a.H = aH at *
  generalize a.ps = ps at *
  obtain ⟨W, rfl⟩ := Int.eq_ofNat_of_zero_le (show 0 ≤ aW by omega)
  obtain ⟨H, rfl⟩ := Int.eq_ofNat_of_zero_le (show 0 ≤ aH by omega)
  simp only [Int.toNat_natCast]
  refine fine_pix (by omega) (by omega) (fun x y hx hy => ?_)
  have h1 := px_bd' (W := W) (H := H) (by rw [← Int.natCast_mul] at b3; omega) b4 x y hx hy
  have h2 := sumG_bd x y (by omega) (by omega) ls hr.2
  unfold litG
  omega
theorem takes_two' {p : Ps} (h : hasB p.Op = true) : takesP p = [p.A, p.B] := by unfold takesP; rw [if_pos h]
theorem pickR_right {f : Fr} {n : Nat} (hR : ∀ k, k < n → RB ((pics f n).getD k (noRes 0)) ((szs f n).getD k Sz.zero)) {is : List Int} (hi : ∀ i ∈ is, 0 ≤ i ∧ i < n) {j : Nat} (hj : j < is.length) : RB ((pickR (pics f n) is).getD j (noRes 0)) ((pickZ (szs f n) is).getD j Sz.zero) := by
  have h1 := hi _ (List.getElem_mem hj)
  have e1 : (pickR (pics f n) is).getD j (noRes 0) = (pics f n).getD (is[j]).toNat (noRes 0) := by
    unfold pickR
    simp [List.getD_eq_getElem?_getD, List.getElem?_map, List.getElem?_eq_getElem hj]
  have e2 : (pickZ (szs f n) is).getD j Sz.zero = (szs f n).getD (is[j]).toNat Sz.zero := by
    unfold pickZ
    simp [List.getD_eq_getElem?_getD, List.getElem?_map, List.getElem?_eq_getElem hj]
  rw [e1, e2]
  exact hR _ (by omega)
theorem sizeP_one {W H op : Int} {zs : List Sz} (h : ¬ (op = 1 ∨ op = 2)) : sizeP W H op zs = sizeP 0 0 op [zs.getD 0 Sz.zero] := by
  unfold sizeP
  rw [if_neg h, if_neg h]
  rfl
theorem paint_right {f : Fr} {n : Nat} (hb : boundsE f = 0) (hE : passE f n = 0) (hR : ∀ k, k < n → RB ((pics f n).getD k (noRes 0)) ((szs f n).getD k Sz.zero)) : RB (paintRes (f.ps.getD n Ps.zero) (sizeN f n) (pickR (pics f n) (srcOf f.ps n))) (sizeN f n) := by
  obtain ⟨hW, hH, _⟩ := boundsE_zero hb
  obtain ⟨o1, o2, o3⟩ := passE_zero hE
  obtain ⟨hkn, hsl, hk, hl, hbare, _⟩ := ownE_zero o1
  have hs := src_bd o2
  have hpick := fun j hj => pickR_right hR hs (j := j) hj
  have hlen : (srcOf f.ps n).length = (takesP (f.ps.getD n Ps.zero)).length := by simp [srcOf]
  unfold sizeN at *
  generalize f.ps.getD n Ps.zero = p at *
  generalize pickR (pics f n) (srcOf f.ps n) = rs at *
  generalize pickZ (szs f n) (srcOf f.ps n) = zs at *
  unfold paintRes
  by_cases h12 : p.Op = 1 ∨ p.Op = 2
  · rw [if_pos h12]
    have e : sizeP f.W f.H p.Op zs = (f.W, f.H) := by unfold sizeP; rw [if_pos h12]
    rw [e]
    have hK : hasK p.Op = true := by rcases h12 with h | h <;> rw [h] <;> rfl
    have := hk hK
    have e2 : kB p.Op p.K = withinB p.K 0 65535 := by unfold kB; rw [if_neg (by omega), if_neg (by omega)]
    rw [e2] at this
    exact make_right h12 hW hH (by simp [withinB] at this; omega)
  · rw [if_neg h12]
    have hA := hasA_of hkn (fun h => h12 (.inl h)) (fun h => h12 (.inr h))
    obtain ⟨r, hr⟩ := takes_pos hA
    have h0 := hpick 0 (by rw [hlen, hr]; simp)
    rw [sizeP_one h12]
    by_cases hB : hasB p.Op = true
    · rw [if_pos hB]
      have h1 := hpick 1 (by rw [hlen, takes_two' hB]; simp)
      have hop : p.Op = 4 ∨ p.Op = 5 ∨ p.Op = 6 ∨ p.Op = 7 := by simp [hasB, withinB] at hB; omega
      have ef : zs.getD 0 Sz.zero = zs.getD 1 Sz.zero := by
        unfold fitP at o3
        rw [if_neg (by omega), if_neg (by omega), if_pos hB] at o3
        simpa using o3
      rw [← ef] at h1
      have e : sizeP 0 0 p.Op [zs.getD 0 Sz.zero] = zs.getD 0 Sz.zero := by
        unfold sizeP
        rw [if_neg (by omega), if_neg (by omega), if_neg (by omega)]; rfl
      rw [e]
      exact two_right hop h0 h1
    · rw [if_neg hB]
      have hB' := eq_false_of_ne_true hB
      by_cases h13 : p.Op = 13
      · rw [if_pos h13]
        have e : sizeP 0 0 p.Op [zs.getD 0 Sz.zero] = zs.getD 0 Sz.zero := by
          unfold sizeP
          rw [if_neg (by omega), if_neg (by omega), if_neg (by omega)]; rfl
        rw [e]
        have hK : hasK p.Op = true := by rw [h13]; rfl
        have hL : hasL p.Op = true := by rw [h13]; rfl
        have := hk hK
        have e2 : kB p.Op p.K = withinB p.K 1 16 := by unfold kB; rw [if_neg (by omega), if_pos h13]
        rw [e2] at this
        exact lit_right (hl hL) (by simp [withinB] at this; omega) h0
      · rw [if_neg h13]
        refine one_right hA hB' h13 hk ?_ h0
        unfold fitP at o3 ⊢
        rw [hB'] at o3 ⊢
        exact o3
theorem getD_left {α : Type} (l m : List α) (d : α) {k : Nat} (h : k < l.length) : (l ++ m).getD k d = l.getD k d := by
  rw [List.getD_eq_getElem?_getD, List.getD_eq_getElem?_getD, List.getElem?_append_left h]
theorem getD_last {α : Type} (l : List α) (x d : α) {k : Nat} (h : k = l.length) : (l ++ [x]).getD k d = x := by
  subst h
  rw [List.getD_eq_getElem?_getD, List.getElem?_append_right (Nat.le_refl _), Nat.sub_self]; rfl
theorem pics_right {f : Fr} (hb : boundsE f = 0) : ∀ {n : Nat}, firstE f n = 0 → ∀ k, k < n → RB ((pics f n).getD k (noRes 0)) ((szs f n).getD k Sz.zero)
  | 0, _ => fun k hk => by omega
  | n + 1, h => by
    have h0 := firstE_down f h (Nat.le_succ n)
    have ih := pics_right hb h0
    rw [firstE_at f h0] at h
    have hp := paint_right hb h ih
    intro k hk
    have e1 : pics f (n + 1) = pics f n ++ [paintRes (f.ps.getD n Ps.zero) (sizeN f n) (pickR (pics f n) (srcOf f.ps n))] := rfl
    have e2 : szs f (n + 1) = szs f n ++ [sizeN f n] := rfl
    have l1 := pics_length f n
    have l2 := szs_length f n
    rw [e1, e2]
    by_cases hkn : k < n
    · rw [getD_left _ _ _ (by omega), getD_left _ _ _ (by omega)]
      exact ih k hkn
    · rw [getD_last _ _ _ (by omega), getD_last _ _ _ (by omega)]
      exact hp
end Go.Proofs.YtihliofhhjjeaaaGreat
namespace Go.Proofs.YtihliofhhjjeaaaGreat
open Go.RowKit Im
theorem maker_none {w : World} {b m : Nat} (hm : (m : Int) < 8) (hc : w.cell? ⟨b, m, none⟩ = some (.int .i64 0)) : Calls Tryz.prog 68 #[.pointer (some ⟨b, 0, none⟩), .int .i64 m] w fun e w' => e = .returned (.tuple #[.int .i64 0, .bool false]) ∧ w = w' := by
  go_enter Tryz.func68, Tryz.ntmps68
  go_wp2
  go_ret2
  exact ⟨rfl, rfl⟩
theorem maker_some {w : World} {b m : Nat} {n : Int} (hm : (m : Int) < 8) (hn : ¬ n = 0) (hw : IntKind.i64.wrap (n - 1) = n - 1) (hc : w.cell? ⟨b, m, none⟩ = some (.int .i64 n)) : Calls Tryz.prog 68 #[.pointer (some ⟨b, 0, none⟩), .int .i64 m] w fun e w' => e = .returned (.tuple #[.int .i64 (n - 1), .bool true]) ∧ w = w' := by
  go_enter Tryz.func68, Tryz.ntmps68
  go_wp2
  go_ret2
  exact ⟨rfl, rfl⟩
theorem put_any {w : World} {b m : Nat} {n : Int} {u : Value} (hm : (m : Int) < 8) (hw : IntKind.i64.wrap (n + 1) = n + 1) (hc : w.cell? ⟨b, m, none⟩ = some u) (hf : w.frozen? ⟨b, m, none⟩ = false) : Calls Tryz.prog 67 #[.pointer (some ⟨b, 0, none⟩), .int .i64 m, .int .i64 n] w fun e w' => (∃ x, e = .returned x) ∧ w' = w.setCell ⟨b, m, none⟩ (.int .i64 (n + 1)) := by
  go_enter Tryz.func67, Tryz.ntmps67
  go_wp2
  go_end0
  exact ⟨⟨_, rfl⟩, rfl⟩
theorem Owns.mono {base base' : Nat} {w : World} {v : Value} {qs : List Int} (h : Owns base w v qs) (hb : base' ≤ base) : Owns base' w v qs := by
  obtain ⟨h1, h2⟩ := h
  refine ⟨h1, ?_⟩
  rcases h2 with h2 | ⟨g, cap, cur, hv, hg, r⟩
  · exact .inl h2
  · exact .inr ⟨g, cap, cur, hv, Nat.le_trans hb hg, r⟩
def ToldS (w : World) (is : List Int) (e : Ending) (w' : World) : Prop :=
  (thereB is = true ∧ (∃ v, e = .returned (.tuple #[v, .bool true]) ∧ Owns w.heap.size w' v is) ∧ Below w.heap.size w w') ∨ (thereB is = false ∧ e = .returned (.tuple #[.slice none 0 0, .bool false]) ∧ Below w.heap.size w w')
theorem map_succ (q : Int → Int) (ts : List Int) (k : Nat) (hk : k < ts.length) : (ts.take (k + 1)).map q = (ts.take k).map q ++ [q (ts.getD k 0)] := by
  rw [List.take_succ_eq_append_getElem hk, List.map_append, List.getD_eq_getElem?_getD, List.getElem?_eq_getElem hk]
  rfl
theorem there_not (q : Int → Int) (ts : List Int) (k : Nat) (hk : k < ts.length) (h : q (ts.getD k 0) < 0) : thereB (ts.map q) = false := by
  unfold thereB
  rw [List.all_map]
  exact all_notG _ 0 ts k hk (by simpa using h)
set_option maxHeartbeats 1000000 in
theorem sourcesOf_any (Op To A B K : Int) (la : Option Addr) (ll lc : Nat) (ls : List Lt) {w : World} {b : Nat} (q : Int → Int) (hb : b < w.heap.size) (hs : ∀ s ∈ takesP ⟨Op, To, A, B, K, ls⟩, 0 ≤ s ∧ s < 8) (hq : ∀ s, -1 ≤ q s ∧ q s < 12) (hc : ∀ m : Nat, m < 8 → w.cell? ⟨b, m, none⟩ = some (.int .i64 (q m + 1))) :
    Calls Tryz.prog 64 #[.pointer (some ⟨b, 0, none⟩), .agg #[.int .i64 Op, .int .i64 To, .int .i64 A, .int .i64 B, .int .i64 K, .slice la ll lc]] w (ToldS w ((takesP ⟨Op, To, A, B, K, ls⟩).map q)) := by
  obtain ⟨i0, hi, hz0, hz1, hz2⟩ := info_parts Tryz.info3
  have hb0 := below_box (Below.refl w.heap.size w) (.cells #[.int .i64 Op, .int .i64 To, .int .i64 A, .int .i64 B, .int .i64 K, .slice la ll lc] 62)
  have ht := fun wx => takes_any Op To A B K la ll lc ls wx
  have hl2 := takesP_len ⟨Op, To, A, B, K, ls⟩
  generalize takesP ⟨Op, To, A, B, K, ls⟩ = ts at *
  have HQ : Hid (∀ s, -1 ≤ q s ∧ q s < 12) := hq
  have HS : Hid (∀ s ∈ ts, 0 ≤ s ∧ s < 8) := hs
  have HC : Hid (∀ m : Nat, m < 8 → w.cell? ⟨b, m, none⟩ = some (.int .i64 (q m + 1))) := hc
  clear hq hs hc
  go_enter Tryz.func64, Tryz.ntmps64
  go_wp2_with fail
  refine (ht _).mono ?_
  rintro e w2 ⟨a, cap, rfl, hI, hb1⟩
  have hb2 := below_step hb0 hb1
  clear ht
  go_wp2
  go_loopw [4, 13] (fun v i wr => ∃ k : Nat, k ≤ ts.length ∧ i = .int .i64 k ∧ Owns w2.heap.size wr v ((ts.take k).map q) ∧ Below w2.heap.size w2 wr ∧ thereB ((ts.take k).map q) = true) (fun _ i _ => ts.length - (intOf i).toNat)
  case atStart => exact ⟨0, Nat.zero_le _, rfl, World.ownsRow_nil _ _ _ _, Below.refl _ _, rfl⟩
  case round =>
    obtain ⟨k, hk, rfl, hown, hbr, hall⟩ := hrel
    by_cases hlt : k < ts.length
    · obtain ⟨b', off, rfl, hcx⟩ := (hI.below (Nat.le_refl _) hbr).nth hlt
      have hr := HS.out _ (getD_mem hlt 0)
      have HM : Hid ((ts.take (k + 1)).map q = (ts.take k).map q ++ [q (ts.getD k 0)]) := map_succ q ts k hlt
      have HN : Hid (q (ts.getD k 0) < 0 → thereB (ts.map q) = false) := there_not q ts k hlt
      generalize ts.getD k 0 = s at hcx hr HM HN
      obtain ⟨m, rfl⟩ := Int.eq_ofNat_of_zero_le hr.1
      have hqs := HQ.out (m : Int)
      have hcm := (below_step hb2 hbr).cell (p := ⟨b, m, none⟩) hb
      rw [HC.out m (by omega)] at hcm
      generalize q (m : Int) = n at hqs hcm HM HN
      have hsz := hbr.size
      have hpl : ((ts.take k).map q).length = k := by simp; omega
      have HA : Hid (thereB ((ts.take k).map q) = true) := hall
      clear hall
      by_cases hn : n = -1
      · subst hn
        have hmk := maker_none (w := wr) (b := b) (m := m) (by omega) hcm
        have HF := HN.out (by decide)
        go_wp2_with (go_at_call 68; refine hmk.mono ?_; rintro e w' ⟨rfl, rfl⟩)
        go_ret2
        exact .inr ⟨HF, rfl, below_step hb2 hbr⟩
      · have hmk := maker_some (w := wr) (b := b) (m := m) (n := n + 1) (by omega) (by omega) (by rw [IntKind.wrap_i64]; omega) hcm
        rw [show n + 1 - 1 = n by omega] at hmk
        go_wp2_with (first
          | (go_at_call 68; refine hmk.mono ?_; rintro e w' ⟨rfl, rfl⟩)
          | (at_builtin; refine wpList_append_own _ rfl _ _ 25 rfl w2.heap.size 3 i0 (.int .i64 0) 1 8 Tryz.underlying25 hi hz0 hz1 hz2 rfl (by decide) _ _ _ rfl (World.ownsRow.alloc hown _) ⟨wr.heap.size, 0, none⟩ 1 1 [.int .i64 n] rfl rfl (cell_one_new _ _ _) (by intro u hu; simp at hu; subst hu; rfl) (by rw [hpl]; unfold maxLen; omega) (by rw [hpl]; omega) (by simp; omega) ?_; intro v' w9 hown9 hgrow9 _))
        have RR := Owns.push (x := n) hown hbr hsz hown9 rfl hgrow9
        go_roundw
        case rel => exact ⟨k + 1, by omega, by go_num, by rw [HM.out]; exact RR.1, RR.2, by rw [HM.out]; unfold thereB; rw [List.all_append]; have := HA.out; unfold thereB at this; rw [this]; simp; omega⟩
        case measure => simp [intOf]; omega
    · have hke : k = ts.length := by omega
      subst hke
      rw [List.take_length] at hown hall
      have HA : Hid (thereB (ts.map q) = true) := hall
      clear hall
      have hpl : (ts.map q).length = ts.length := by simp
      obtain ⟨sa, scap, rfl, _⟩ := id (hown.ints (by rw [hpl]; omega))
      go_wp2
      go_ret2
      exact .inl ⟨HA.out, ⟨_, rfl, hown.mono hb2.size⟩, below_step hb2 hbr⟩
end Go.Proofs.YtihliofhhjjeaaaGreat
namespace Go.Proofs.YtihliofhhjjeaaaGreat
open Go.RowKit Im
theorem sz_cells {w : World} (W H S O : Int) (fa : Option Addr) (flen fcap : Nat) (Op To A B K : Int) (la : Option Addr) (ll lc : Nat) (u v : Int) {b off : Nat} {z : Value} (hb : b < w.heap.size) (d : w.cell? ⟨b, off, none⟩ = some z) :
    (((w.alloc (.cells #[.int .i64 W, .int .i64 H, .int .i64 S, .int .i64 O, .slice fa flen fcap] 24)).alloc (.cells #[.int .i64 Op, .int .i64 To, .int .i64 A, .int .i64 B, .int .i64 K, .slice la ll lc] 62)).alloc (.cells #[.int .i64 u, .int .i64 v] 80)).cell? ⟨b, off, none⟩ = some z :=
  ((below_box (below_box (below_box (Below.refl _ _) _) _) _).cell (p := ⟨b, off, none⟩) hb).trans d
theorem sz_below (w : World) (x y z : Obj) : Below w.heap.size w (((w.alloc x).alloc y).alloc z) := below_box (below_box (below_box (Below.refl _ _) _) _) _
set_option maxHeartbeats 1000000 in
theorem sizeOf_down (W H S O : Int) (fa : Option Addr) (flen fcap : Nat) (To A B K : Int) (la : Option Addr) (ll lc : Nat) (b off len cap : Nat) (w : World) (zw zh : Int) (hb : b < w.heap.size) (hl : 0 < len)
    (d0 : w.cell? ⟨b, off, none⟩ = some (.int .i64 zw)) (d1 : w.cell? ⟨b, off + 1, none⟩ = some (.int .i64 zh)) (u v r1 r2 : Int) (hd1 : zw.tdiv 2 = u) (hd2 : zh.tdiv 2 = v) (hw1 : IntKind.i64.wrap u = u) (hw2 : IntKind.i64.wrap v = v) (hr1 : zw.tmod 2 = r1) (hr2 : zh.tmod 2 = r2) (h1 : r1 = 0 ∨ r1 = 1) (h2 : r2 = 0 ∨ r2 = 1) :
    Calls Tryz.prog 65 #[.agg #[.int .i64 W, .int .i64 H, .int .i64 S, .int .i64 O, .slice fa flen fcap], .agg #[.int .i64 11, .int .i64 To, .int .i64 A, .int .i64 B, .int .i64 K, .slice la ll lc], .slice (some ⟨b, off, none⟩) len cap] w fun e w' => e = .returned (.tuple #[.agg #[.int .i64 u, .int .i64 v], .bool (decide (r1 = 0) && decide (r2 = 0))]) ∧ Below w.heap.size w w' := by
  have e0 := sz_cells W H S O fa flen fcap 11 To A B K la ll lc 0 0 hb d0
  have e1 := sz_cells W H S O fa flen fcap 11 To A B K la ll lc 0 0 hb d1
  have f0 := sz_cells W H S O fa flen fcap 11 To A B K la ll lc u v hb d0
  have f1 := sz_cells W H S O fa flen fcap 11 To A B K la ll lc u v hb d1
  rcases h1 with rfl | rfl
  · rcases h2 with rfl | rfl
    all_goals
      go_enter Tryz.func65, Tryz.ntmps65
      go_wp2
      go_region_held3 (fun w' => w'.cell? ⟨b, off, none⟩ = some (.int .i64 zw) ∧ w'.cell? ⟨b, off + 1, none⟩ = some (.int .i64 zh))
        (first | exact ⟨e0, e1⟩ | exact ⟨f0, f1⟩)
        (fail)
      all_goals go_wp2
      all_goals exact bodyPost_ret (by simp [results, Tryz.results65, go_sem]) rfl ⟨rfl, (sz_below w _ _ _).drew⟩
  · clear h2 hr2
    go_enter Tryz.func65, Tryz.ntmps65
    go_wp2
    refine wp_region_held_drew (S := fun w' => w'.cell? ⟨b, off, none⟩ = some (.int .i64 zw) ∧ w'.cell? ⟨b, off + 1, none⟩ = some (.int .i64 zh)) (by kernel_rfl) ⟨e0, e1⟩ (fun hHeld => ?_)
    refine wpAnyH_take (i := 0) (oi := { dst := some 20, op := Op.move (Operand.tmp 2), type := 43, pos := "pass.go:102", after := #[], guard := none }) (v := .slice (some ⟨b, off, none⟩) len cap) rfl (by kernel_rfl) (by kernel_rfl) (by kernel_rfl) (fun _ _ _ h => h) (Or.inl ⟨by rfl, fun wz hSw => ?_⟩) hHeld ?_
    · obtain ⟨s0, s1⟩ := hSw
      go_simp
    simp only [Act.put, List.setIfInBounds_toArray, List.set_cons_zero, List.set_cons_succ]
    refine wpAnyH_take (i := 1) (oi := { dst := some 21, op := Op.indexAddr 43 (Operand.tmp 20) (Operand.const (Value.int IntKind.i64 0)), type := 0, pos := "pass.go:102", after := #[{ on := 0, ground := Ground.data }], guard := none }) (v := .pointer (some ⟨b, off, none⟩)) rfl (by kernel_rfl) (by kernel_rfl) (by kernel_rfl) (fun _ _ _ h => h) (Or.inl ⟨by rfl, fun wz hSw => ?_⟩) hHeld ?_
    · obtain ⟨s0, s1⟩ := hSw
      go_simp
    simp only [Act.put, List.setIfInBounds_toArray, List.set_cons_zero, List.set_cons_succ]
    refine wpAnyH_take (i := 2) (oi := { dst := some 22, op := Op.fieldAddr 80 (Operand.tmp 21) 0, type := 0, pos := "pass.go:102", after := #[{ on := 1, ground := Ground.data }], guard := none }) (v := .pointer (some ⟨b, off, none⟩)) rfl (by kernel_rfl) (by kernel_rfl) (by kernel_rfl) (fun _ _ _ h => h) (Or.inl ⟨by rfl, fun wz hSw => ?_⟩) hHeld ?_
    · obtain ⟨s0, s1⟩ := hSw
      go_simp
    simp only [Act.put, List.setIfInBounds_toArray, List.set_cons_zero, List.set_cons_succ]
    refine wpAnyH_take (i := 3) (oi := { dst := some 23, op := Op.load 3 (Operand.tmp 22), type := 3, pos := "pass.go:102", after := #[{ on := 2, ground := Ground.data }], guard := none }) (v := .int .i64 zw) rfl (by kernel_rfl) (by kernel_rfl) (by kernel_rfl) (fun _ _ _ h => h) (Or.inl ⟨by rfl, fun wz hSw => ?_⟩) hHeld ?_
    · obtain ⟨s0, s1⟩ := hSw
      go_simp
    simp only [Act.put, List.setIfInBounds_toArray, List.set_cons_zero, List.set_cons_succ]
    refine wpAnyH_take (i := 4) (oi := { dst := some 24, op := Op.binOp BinOp.quo 3 (Operand.tmp 23) (Operand.const (Value.int IntKind.i64 2)) 3, type := 3, pos := "pass.go:102", after := #[{ on := 3, ground := Ground.data }], guard := none }) (v := .int .i64 u) rfl (by kernel_rfl) (by kernel_rfl) (by kernel_rfl) (fun _ _ _ h => h) (Or.inl ⟨by rfl, fun wz hSw => ?_⟩) hHeld ?_
    · obtain ⟨s0, s1⟩ := hSw
      go_simp
    simp only [Act.put, List.setIfInBounds_toArray, List.set_cons_zero, List.set_cons_succ]
    refine wpAnyH_take (i := 5) (oi := { dst := some 25, op := Op.move (Operand.tmp 2), type := 43, pos := "pass.go:102", after := #[], guard := none }) (v := .slice (some ⟨b, off, none⟩) len cap) rfl (by kernel_rfl) (by kernel_rfl) (by kernel_rfl) (fun _ _ _ h => h) (Or.inl ⟨by rfl, fun wz hSw => ?_⟩) hHeld ?_
    · obtain ⟨s0, s1⟩ := hSw
      go_simp
    simp only [Act.put, List.setIfInBounds_toArray, List.set_cons_zero, List.set_cons_succ]
    refine wpAnyH_take (i := 6) (oi := { dst := some 26, op := Op.indexAddr 43 (Operand.tmp 25) (Operand.const (Value.int IntKind.i64 0)), type := 0, pos := "pass.go:102", after := #[{ on := 5, ground := Ground.data }], guard := none }) (v := .pointer (some ⟨b, off, none⟩)) rfl (by kernel_rfl) (by kernel_rfl) (by kernel_rfl) (fun _ _ _ h => h) (Or.inl ⟨by rfl, fun wz hSw => ?_⟩) hHeld ?_
    · obtain ⟨s0, s1⟩ := hSw
      go_simp
    simp only [Act.put, List.setIfInBounds_toArray, List.set_cons_zero, List.set_cons_succ]
    refine wpAnyH_take (i := 7) (oi := { dst := some 27, op := Op.fieldAddr 80 (Operand.tmp 26) 1, type := 0, pos := "pass.go:102", after := #[{ on := 6, ground := Ground.data }], guard := none }) (v := .pointer (some ⟨b, off + 1, none⟩)) rfl (by kernel_rfl) (by kernel_rfl) (by kernel_rfl) (fun _ _ _ h => h) (Or.inl ⟨by rfl, fun wz hSw => ?_⟩) hHeld ?_
    · obtain ⟨s0, s1⟩ := hSw
      go_simp
    simp only [Act.put, List.setIfInBounds_toArray, List.set_cons_zero, List.set_cons_succ]
    refine wpAnyH_take (i := 8) (oi := { dst := some 28, op := Op.load 3 (Operand.tmp 27), type := 3, pos := "pass.go:102", after := #[{ on := 7, ground := Ground.data }], guard := none }) (v := .int .i64 zh) rfl (by kernel_rfl) (by kernel_rfl) (by kernel_rfl) (fun _ _ _ h => h) (Or.inl ⟨by rfl, fun wz hSw => ?_⟩) hHeld ?_
    · obtain ⟨s0, s1⟩ := hSw
      go_simp
    simp only [Act.put, List.setIfInBounds_toArray, List.set_cons_zero, List.set_cons_succ]
    refine wpAnyH_take (i := 9) (oi := { dst := some 29, op := Op.binOp BinOp.quo 3 (Operand.tmp 28) (Operand.const (Value.int IntKind.i64 2)) 3, type := 3, pos := "pass.go:102", after := #[{ on := 8, ground := Ground.data }], guard := none }) (v := .int .i64 v) rfl (by kernel_rfl) (by kernel_rfl) (by kernel_rfl) (fun _ _ _ h => h) (Or.inl ⟨by rfl, fun wz hSw => ?_⟩) hHeld ?_
    · obtain ⟨s0, s1⟩ := hSw
      go_simp
    simp only [Act.put, List.setIfInBounds_toArray, List.set_cons_zero, List.set_cons_succ]
    refine wpAnyH_take (i := 10) (oi := { dst := some 30, op := Op.build 80 #[(0, Operand.tmp 24), (1, Operand.tmp 29)], type := 80, pos := "pass.go:102", after := #[{ on := 4, ground := Ground.data }, { on := 9, ground := Ground.data }], guard := none }) (v := .agg #[.int .i64 u, .int .i64 v]) rfl (by kernel_rfl) (by kernel_rfl) (by kernel_rfl) (fun _ _ _ h => h) (Or.inl ⟨by rfl, fun wz hSw => ?_⟩) hHeld ?_
    · obtain ⟨s0, s1⟩ := hSw
      go_simp
    simp only [Act.put, List.setIfInBounds_toArray, List.set_cons_zero, List.set_cons_succ]
    refine wpAnyH_take (i := 11) (oi := { dst := some 31, op := Op.move (Operand.tmp 2), type := 43, pos := "pass.go:102", after := #[], guard := none }) (v := .slice (some ⟨b, off, none⟩) len cap) rfl (by kernel_rfl) (by kernel_rfl) (by kernel_rfl) (fun _ _ _ h => h) (Or.inl ⟨by rfl, fun wz hSw => ?_⟩) hHeld ?_
    · obtain ⟨s0, s1⟩ := hSw
      go_simp
    simp only [Act.put, List.setIfInBounds_toArray, List.set_cons_zero, List.set_cons_succ]
    refine wpAnyH_take (i := 12) (oi := { dst := some 32, op := Op.indexAddr 43 (Operand.tmp 31) (Operand.const (Value.int IntKind.i64 0)), type := 0, pos := "pass.go:102", after := #[{ on := 11, ground := Ground.data }], guard := none }) (v := .pointer (some ⟨b, off, none⟩)) rfl (by kernel_rfl) (by kernel_rfl) (by kernel_rfl) (fun _ _ _ h => h) (Or.inl ⟨by rfl, fun wz hSw => ?_⟩) hHeld ?_
    · obtain ⟨s0, s1⟩ := hSw
      go_simp
    simp only [Act.put, List.setIfInBounds_toArray, List.set_cons_zero, List.set_cons_succ]
    refine wpAnyH_take (i := 13) (oi := { dst := some 33, op := Op.fieldAddr 80 (Operand.tmp 32) 0, type := 0, pos := "pass.go:102", after := #[{ on := 12, ground := Ground.data }], guard := none }) (v := .pointer (some ⟨b, off, none⟩)) rfl (by kernel_rfl) (by kernel_rfl) (by kernel_rfl) (fun _ _ _ h => h) (Or.inl ⟨by rfl, fun wz hSw => ?_⟩) hHeld ?_
    · obtain ⟨s0, s1⟩ := hSw
      go_simp
    simp only [Act.put, List.setIfInBounds_toArray, List.set_cons_zero, List.set_cons_succ]
    refine wpAnyH_take (i := 14) (oi := { dst := some 34, op := Op.load 3 (Operand.tmp 33), type := 3, pos := "pass.go:102", after := #[{ on := 13, ground := Ground.data }], guard := none }) (v := .int .i64 zw) rfl (by kernel_rfl) (by kernel_rfl) (by kernel_rfl) (fun _ _ _ h => h) (Or.inl ⟨by rfl, fun wz hSw => ?_⟩) hHeld ?_
    · obtain ⟨s0, s1⟩ := hSw
      go_simp
    simp only [Act.put, List.setIfInBounds_toArray, List.set_cons_zero, List.set_cons_succ]
    refine wpAnyH_take (i := 15) (oi := { dst := some 35, op := Op.binOp BinOp.rem 3 (Operand.tmp 34) (Operand.const (Value.int IntKind.i64 2)) 3, type := 3, pos := "pass.go:102", after := #[{ on := 14, ground := Ground.data }], guard := none }) (v := .int .i64 1) rfl (by kernel_rfl) (by kernel_rfl) (by kernel_rfl) (fun _ _ _ h => h) (Or.inl ⟨by rfl, fun wz hSw => ?_⟩) hHeld ?_
    · obtain ⟨s0, s1⟩ := hSw
      go_simp
    simp only [Act.put, List.setIfInBounds_toArray, List.set_cons_zero, List.set_cons_succ]
    refine wpAnyH_take (i := 16) (oi := { dst := some 36, op := Op.binOp BinOp.eql 3 (Operand.tmp 35) (Operand.const (Value.int IntKind.i64 0)) 3, type := 4, pos := "pass.go:102", after := #[{ on := 15, ground := Ground.data }], guard := none }) (v := .bool false) rfl (by kernel_rfl) (by kernel_rfl) (by kernel_rfl) (fun _ _ _ h => h) (Or.inl ⟨by rfl, fun wz hSw => ?_⟩) hHeld ?_
    · obtain ⟨s0, s1⟩ := hSw
      go_simp
    simp only [Act.put, List.setIfInBounds_toArray, List.set_cons_zero, List.set_cons_succ]
    refine wpAnyH_take (i := 17) (oi := { dst := some 37, op := Op.move (Operand.tmp 36), type := 4, pos := "pass.go:102", after := #[{ on := 16, ground := Ground.data }], guard := none }) (v := .bool false) rfl (by kernel_rfl) (by kernel_rfl) (by kernel_rfl) (fun _ _ _ h => h) (Or.inl ⟨by rfl, fun wz hSw => ?_⟩) hHeld ?_
    · obtain ⟨s0, s1⟩ := hSw
      go_simp
    simp only [Act.put, List.setIfInBounds_toArray, List.set_cons_zero, List.set_cons_succ]
    refine wpAnyH_take (i := 18) (oi := { dst := some 38, op := Op.move (Operand.tmp 2), type := 43, pos := "pass.go:102", after := #[{ on := 17, ground := Ground.guard }, { on := 25, ground := Ground.gcOnly Departure.lateStores }], guard := some (17, true) }) (v := undef) rfl (by kernel_rfl) (by kernel_rfl) (by kernel_rfl) (fun _ _ _ h => h) (Or.inr ⟨by rfl, rfl⟩) hHeld ?_
    simp only [Act.put, List.setIfInBounds_toArray, List.set_cons_zero, List.set_cons_succ]
    refine wpAnyH_take (i := 19) (oi := { dst := some 39, op := Op.indexAddr 43 (Operand.tmp 38) (Operand.const (Value.int IntKind.i64 0)), type := 0, pos := "pass.go:102", after := #[{ on := 18, ground := Ground.data }, { on := 17, ground := Ground.guard }, { on := 25, ground := Ground.gcOnly Departure.lateStores }], guard := some (17, true) }) (v := undef) rfl (by kernel_rfl) (by kernel_rfl) (by kernel_rfl) (fun _ _ _ h => h) (Or.inr ⟨by rfl, rfl⟩) hHeld ?_
    simp only [Act.put, List.setIfInBounds_toArray, List.set_cons_zero, List.set_cons_succ]
    refine wpAnyH_take (i := 20) (oi := { dst := some 40, op := Op.fieldAddr 80 (Operand.tmp 39) 1, type := 0, pos := "pass.go:102", after := #[{ on := 19, ground := Ground.data }, { on := 17, ground := Ground.guard }, { on := 25, ground := Ground.gcOnly Departure.lateStores }], guard := some (17, true) }) (v := undef) rfl (by kernel_rfl) (by kernel_rfl) (by kernel_rfl) (fun _ _ _ h => h) (Or.inr ⟨by rfl, rfl⟩) hHeld ?_
    simp only [Act.put, List.setIfInBounds_toArray, List.set_cons_zero, List.set_cons_succ]
    refine wpAnyH_take (i := 21) (oi := { dst := some 41, op := Op.load 3 (Operand.tmp 40), type := 3, pos := "pass.go:102", after := #[{ on := 20, ground := Ground.data }, { on := 17, ground := Ground.guard }, { on := 25, ground := Ground.gcOnly Departure.lateStores }], guard := some (17, true) }) (v := undef) rfl (by kernel_rfl) (by kernel_rfl) (by kernel_rfl) (fun _ _ _ h => h) (Or.inr ⟨by rfl, rfl⟩) hHeld ?_
    simp only [Act.put, List.setIfInBounds_toArray, List.set_cons_zero, List.set_cons_succ]
    refine wpAnyH_take (i := 22) (oi := { dst := some 42, op := Op.binOp BinOp.rem 3 (Operand.tmp 41) (Operand.const (Value.int IntKind.i64 2)) 3, type := 3, pos := "pass.go:102", after := #[{ on := 21, ground := Ground.data }, { on := 17, ground := Ground.guard }, { on := 25, ground := Ground.gcOnly Departure.lateStores }], guard := some (17, true) }) (v := undef) rfl (by kernel_rfl) (by kernel_rfl) (by kernel_rfl) (fun _ _ _ h => h) (Or.inr ⟨by rfl, rfl⟩) hHeld ?_
    simp only [Act.put, List.setIfInBounds_toArray, List.set_cons_zero, List.set_cons_succ]
    refine wpAnyH_take (i := 23) (oi := { dst := some 43, op := Op.binOp BinOp.eql 3 (Operand.tmp 42) (Operand.const (Value.int IntKind.i64 0)) 3, type := 4, pos := "pass.go:102", after := #[{ on := 22, ground := Ground.data }, { on := 17, ground := Ground.guard }, { on := 25, ground := Ground.gcOnly Departure.lateStores }], guard := some (17, true) }) (v := undef) rfl (by kernel_rfl) (by kernel_rfl) (by kernel_rfl) (fun _ _ _ h => h) (Or.inr ⟨by rfl, rfl⟩) hHeld ?_
    simp only [Act.put, List.setIfInBounds_toArray, List.set_cons_zero, List.set_cons_succ]
    refine wpAnyH_take (i := 24) (oi := { dst := some 44, op := Op.pick (Operand.tmp 37) (Operand.tmp 43) (Operand.const (Value.bool false)), type := 4, pos := "pass.go:102", after := #[{ on := 17, ground := Ground.data }, { on := 23, ground := Ground.data }, { on := 25, ground := Ground.gcOnly Departure.lateStores }], guard := none }) (v := .bool false) rfl (by kernel_rfl) (by kernel_rfl) (by kernel_rfl) (fun _ _ _ h => h) (Or.inl ⟨by rfl, fun wz hSw => ?_⟩) hHeld ?_
    · obtain ⟨s0, s1⟩ := hSw
      go_simp
    simp only [Act.put, List.setIfInBounds_toArray, List.set_cons_zero, List.set_cons_succ]
    refine wpAnyH_ready (rs := [25]) (by kernel_rfl) (by simp) ?_
    refine AllReadyH.cons (o := { dst := none, op := Op.store 80 (Operand.tmp 6) (Operand.tmp 30), type := 0, pos := "pass.go:102", after := #[{ on := 10, ground := Ground.data }, { on := 17, ground := Ground.chain }, { on := 0, ground := Ground.phase }, { on := 1, ground := Ground.phase }, { on := 2, ground := Ground.phase }, { on := 3, ground := Ground.phase }, { on := 4, ground := Ground.phase }, { on := 5, ground := Ground.phase }, { on := 6, ground := Ground.phase }, { on := 7, ground := Ground.phase }, { on := 8, ground := Ground.phase }, { on := 9, ground := Ground.phase }, { on := 10, ground := Ground.phase }, { on := 11, ground := Ground.textOnly Departure.lateStores }, { on := 12, ground := Ground.textOnly Departure.lateStores }, { on := 13, ground := Ground.textOnly Departure.lateStores }, { on := 14, ground := Ground.textOnly Departure.lateStores }, { on := 15, ground := Ground.textOnly Departure.lateStores }, { on := 16, ground := Ground.textOnly Departure.lateStores }, { on := 17, ground := Ground.textOnly Departure.lateStores }, { on := 18, ground := Ground.textOnly Departure.lateStores }, { on := 19, ground := Ground.textOnly Departure.lateStores }, { on := 20, ground := Ground.textOnly Departure.lateStores }, { on := 21, ground := Ground.textOnly Departure.lateStores }, { on := 22, ground := Ground.textOnly Departure.lateStores }, { on := 23, ground := Ground.textOnly Departure.lateStores }, { on := 24, ground := Ground.textOnly Departure.lateStores }], guard := none }) rfl (fun K hK => ?_) AllReadyH.nil
    rw [if_pos (by rfl)]
    go_simp
    refine hK.out _ _ ⟨f0, f1⟩ (fun hHeld2 => ?_)
    clear hK K
    refine wpAnyH_take (i := 26) (oi := { dst := some 7, op := Op.assign (Operand.tmp 44), type := 4, pos := "pass.go:102", after := #[{ on := 24, ground := Ground.data }, { on := 25, ground := Ground.chain }, { on := 0, ground := Ground.phase }, { on := 1, ground := Ground.phase }, { on := 2, ground := Ground.phase }, { on := 3, ground := Ground.phase }, { on := 4, ground := Ground.phase }, { on := 5, ground := Ground.phase }, { on := 6, ground := Ground.phase }, { on := 7, ground := Ground.phase }, { on := 8, ground := Ground.phase }, { on := 9, ground := Ground.phase }, { on := 10, ground := Ground.phase }, { on := 11, ground := Ground.phase }, { on := 12, ground := Ground.phase }, { on := 13, ground := Ground.phase }, { on := 14, ground := Ground.phase }, { on := 15, ground := Ground.phase }, { on := 16, ground := Ground.phase }, { on := 17, ground := Ground.phase }, { on := 18, ground := Ground.phase }, { on := 19, ground := Ground.phase }, { on := 20, ground := Ground.phase }, { on := 21, ground := Ground.phase }, { on := 22, ground := Ground.phase }, { on := 23, ground := Ground.phase }, { on := 24, ground := Ground.phase }, { on := 25, ground := Ground.phase }], guard := none }) (v := .bool false) rfl (by kernel_rfl) (by kernel_rfl) (by kernel_rfl) (fun _ _ _ h => h) (Or.inl ⟨by rfl, fun wz hSw => ?_⟩) hHeld2 ?_
    · obtain ⟨s0, s1⟩ := hSw
      go_simp
    simp only [Act.put, List.setIfInBounds_toArray, List.set_cons_zero, List.set_cons_succ]
    refine wpAnyH_done (by kernel_rfl) ?_ _
    all_goals go_wp2
    all_goals exact bodyPost_ret (by simp [results, Tryz.results65, go_sem]) rfl ⟨rfl, (sz_below w _ _ _).drew⟩
set_option maxHeartbeats 1000000 in
theorem sizeOf_up (W H S O : Int) (fa : Option Addr) (flen fcap : Nat) (To A B K : Int) (la : Option Addr) (ll lc : Nat) (b off len cap : Nat) (w : World) (zw zh : Int) (hb : b < w.heap.size) (hl : 0 < len)
    (d0 : w.cell? ⟨b, off, none⟩ = some (.int .i64 zw)) (d1 : w.cell? ⟨b, off + 1, none⟩ = some (.int .i64 zh)) (m : Int) (hm : (if zw < zh then zh else zw) = m) (hw1 : IntKind.i64.wrap (2 * zw) = 2 * zw) (hw2 : IntKind.i64.wrap (2 * zh) = 2 * zh) (hw3 : IntKind.i64.wrap (2 * m) = 2 * m) :
    Calls Tryz.prog 65 #[.agg #[.int .i64 W, .int .i64 H, .int .i64 S, .int .i64 O, .slice fa flen fcap], .agg #[.int .i64 12, .int .i64 To, .int .i64 A, .int .i64 B, .int .i64 K, .slice la ll lc], .slice (some ⟨b, off, none⟩) len cap] w fun e w' => e = .returned (.tuple #[.agg #[.int .i64 (2 * zw), .int .i64 (2 * zh)], .bool (decide (2 * m ≤ 16))]) ∧ Below w.heap.size w w' := by
  have e0 := sz_cells W H S O fa flen fcap 12 To A B K la ll lc 0 0 hb d0
  have e1 := sz_cells W H S O fa flen fcap 12 To A B K la ll lc 0 0 hb d1
  have f0 := sz_cells W H S O fa flen fcap 12 To A B K la ll lc (2 * zw) (2 * zh) hb d0
  have f1 := sz_cells W H S O fa flen fcap 12 To A B K la ll lc (2 * zw) (2 * zh) hb d1
  go_enter Tryz.func65, Tryz.ntmps65
  go_wp2
  go_region_held3 (fun w' => w'.cell? ⟨b, off, none⟩ = some (.int .i64 zw) ∧ w'.cell? ⟨b, off + 1, none⟩ = some (.int .i64 zh))
    (first | exact ⟨e0, e1⟩ | exact ⟨f0, f1⟩)
    (fail)
  all_goals go_wp2
  all_goals exact bodyPost_ret (by simp [results, Tryz.results65, go_sem]) rfl ⟨rfl, (sz_below w _ _ _).drew⟩
set_option maxHeartbeats 1000000 in
theorem sizeOf_same (Op : Int) (hop : Op = 3 ∨ Op = 8 ∨ Op = 9 ∨ Op = 10 ∨ Op = 13) (W H S O : Int) (fa : Option Addr) (flen fcap : Nat) (To A B K : Int) (la : Option Addr) (ll lc : Nat) (b off len cap : Nat) (w : World) (zw zh : Int) (hb : b < w.heap.size) (hl0 : 0 < len)
    (d0 : w.cell? ⟨b, off, none⟩ = some (.int .i64 zw)) (d1 : w.cell? ⟨b, off + 1, none⟩ = some (.int .i64 zh)) :
    Calls Tryz.prog 65 #[.agg #[.int .i64 W, .int .i64 H, .int .i64 S, .int .i64 O, .slice fa flen fcap], .agg #[.int .i64 Op, .int .i64 To, .int .i64 A, .int .i64 B, .int .i64 K, .slice la ll lc], .slice (some ⟨b, off, none⟩) len cap] w fun e w' => e = .returned (.tuple #[.agg #[.int .i64 zw, .int .i64 zh], .bool true]) ∧ Below w.heap.size w w' := by
  have e0 := fun u v => sz_cells W H S O fa flen fcap Op To A B K la ll lc u v hb d0
  have e1 := fun u v => sz_cells W H S O fa flen fcap Op To A B K la ll lc u v hb d1
  rcases hop with rfl | rfl | rfl | rfl | rfl
  all_goals
    go_enter Tryz.func65, Tryz.ntmps65
    go_wp2
    exact bodyPost_ret (by simp [results, Tryz.results65, go_sem]) rfl ⟨rfl, sz_below w _ _ _⟩
set_option maxHeartbeats 1000000 in
theorem sizeOf_new (Op : Int) (hop : Op = 1 ∨ Op = 2) (W H S O : Int) (fa : Option Addr) (flen fcap : Nat) (To A B K : Int) (la : Option Addr) (ll lc : Nat) (a : Option Addr) (len cap : Nat) (w : World) :
    Calls Tryz.prog 65 #[.agg #[.int .i64 W, .int .i64 H, .int .i64 S, .int .i64 O, .slice fa flen fcap], .agg #[.int .i64 Op, .int .i64 To, .int .i64 A, .int .i64 B, .int .i64 K, .slice la ll lc], .slice a len cap] w fun e w' => e = .returned (.tuple #[.agg #[.int .i64 W, .int .i64 H], .bool true]) ∧ Below w.heap.size w w' := by
  rcases hop with rfl | rfl
  all_goals
    go_enter Tryz.func65, Tryz.ntmps65
    go_wp2
    exact bodyPost_ret (by simp [results, Tryz.results65, go_sem]) rfl ⟨rfl, sz_below w _ _ _⟩
end Go.Proofs.YtihliofhhjjeaaaGreat
