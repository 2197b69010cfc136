/- NeedMath2, ExecN, ExecA, ExecB: joined, in this order. -/
import Derived.Test.YtaenpgdmiaekcaaGreatDoorS16
import Derived.Test.YtaenpgdmiaekcaaGreatDoorS20
import Derived.Test.YtaenpgdmiaekcaaGreatDoorS17
import Derived.Test.YtaenpgdmiaekcaaGreatDoorS12
import Derived.Test.YtaenpgdmiaekcaaGreatDoorS19
import Derived.Laws.CopyOwn
import Derived.Deep.Upon
import Derived.Lib.SmallJoins
import Derived.Deep.RegionHeld3
/-
  NEEDMATH2: numbers and lists alone: a culled frame shows what the frame shows.
-/
namespace Go.Proofs.YtaenpgdmiaekcaaGreatDoor
set_option maxRecDepth 100000
open Go.RowKit Im

/-- The place of pass k among the marked ones. -/
def pos (ps : List Ps) (g : Nat → Bool) (k : Nat) : Nat := (cullP ps g k).length
/-- What pass k makes. -/
def picN (f : Fr) (k : Nat) : Res := paintRes (f.ps.getD k Ps.zero) (sizeN f k) (pickR (pics f k) (srcOf f.ps k))
theorem pics_at (f : Fr) {n k : Nat} (h : k < n) : (pics f n).getD k (noRes 0) = picN f k := by
  induction n with
  | zero => omega
  | succ n ih =>
    have e : pics f (n + 1) = pics f n ++ [picN f n] := rfl
    have l := pics_length f n
    rw [e]
    by_cases hk : k < n
    · rw [getD_left _ _ _ (by omega), ih hk]
    · have : k = n := by omega
      subst this
      rw [getD_last _ _ _ (by omega)]
theorem passE_of {f : Fr} (hE : frameE f = 0) {m : Nat} (hm : m < f.ps.length) : passE f m = 0 := by
  obtain ⟨_, hfirst, _⟩ := frameE_zero hE
  have hfk := firstE_down f hfirst (k := m) (by omega)
  exact (firstE_at f hfk).symm.trans (firstE_down f hfirst (k := m + 1) (by omega))
end Go.Proofs.YtaenpgdmiaekcaaGreatDoor
/-
  EXECN: numbers alone: steps and runs in an arena.
-/
namespace Go.Proofs.YtaenpgdmiaekcaaGreatDoor
set_option maxRecDepth 100000
open Go.RowKit Im

/-- What a right pass makes of right images is a right image. -/
theorem paint_right_any {f : Fr} {n : Nat} (hb : boundsE f = 0) (hE : passE f n = 0) {rs : List Res} (hpick : ∀ j, j < (srcOf f.ps n).length → RB (rs.getD j (noRes 0)) ((pickZ (szs f n) (srcOf f.ps n)).getD j Sz.zero)) : RB (paintRes (f.ps.getD n Ps.zero) (sizeN f n) rs) (sizeN f n) := by
  obtain ⟨hW, hH, _⟩ := boundsE_zero hb
  obtain ⟨o1, o2, o3⟩ := passE_zero hE
  obtain ⟨hkn, hsl, hk, hl, hbare, _⟩ := ownE_zero o1
  have hlen : (srcOf f.ps n).length = (takesP (f.ps.getD n Ps.zero)).length := by simp [srcOf]
  unfold sizeN at *
  generalize f.ps.getD n Ps.zero = p at *
  generalize pickZ (szs f n) (srcOf f.ps n) = zs at *
  unfold paintRes
  by_cases h12 : p.Op = 1 ∨ p.Op = 2
  · rw [if_pos h12]
    have e : sizeP f.W f.H p.Op zs = (f.W, f.H) := by unfold sizeP; rw [if_pos h12]
    rw [e]
    have hK : hasK p.Op = true := by rcases h12 with h | h <;> rw [h] <;> rfl
    have := hk hK
    have e2 : kB p.Op p.K = withinB p.K 0 65535 := by unfold kB; rw [if_neg (by omega), if_neg (by omega)]
    rw [e2] at this
    exact make_right h12 hW hH (by simp [withinB] at this; omega)
  · rw [if_neg h12]
    have hA := hasA_of hkn (fun h => h12 (.inl h)) (fun h => h12 (.inr h))
    obtain ⟨r, hr⟩ := takes_pos hA
    have h0 := hpick 0 (by rw [hlen, hr]; simp)
    rw [sizeP_one h12]
    by_cases hB : hasB p.Op = true
    · rw [if_pos hB]
      have h1 := hpick 1 (by rw [hlen, takes_two' hB]; simp)
      have hop : p.Op = 4 ∨ p.Op = 5 ∨ p.Op = 6 ∨ p.Op = 7 := by simp [hasB, withinB] at hB; omega
      have ef : zs.getD 0 Sz.zero = zs.getD 1 Sz.zero := by
        unfold fitP at o3
        rw [if_neg (by omega), if_neg (by omega), if_pos hB] at o3
        simpa using o3
      rw [← ef] at h1
      have e : sizeP 0 0 p.Op [zs.getD 0 Sz.zero] = zs.getD 0 Sz.zero := by
        unfold sizeP
        rw [if_neg (by omega), if_neg (by omega), if_neg (by omega)]; rfl
      rw [e]
      exact two_right hop h0 h1
    · rw [if_neg hB]
      have hB' := eq_false_of_ne_true hB
      by_cases h13 : p.Op = 13
      · rw [if_pos h13]
        have e : sizeP 0 0 p.Op [zs.getD 0 Sz.zero] = zs.getD 0 Sz.zero := by
          unfold sizeP
          rw [if_neg (by omega), if_neg (by omega), if_neg (by omega)]; rfl
        rw [e]
        have hK : hasK p.Op = true := by rw [h13]; rfl
        have hL : hasL p.Op = true := by rw [h13]; rfl
        have := hk hK
        have e2 : kB p.Op p.K = withinB p.K 1 16 := by unfold kB; rw [if_neg (by omega), if_pos h13]
        rw [e2] at this
        exact lit_right (hl hL) (by simp [withinB] at this; omega) h0
      · rw [if_neg h13]
        refine one_right hA hB' h13 hk ?_ h0
        unfold fitP at o3 ⊢
        rw [hB'] at o3 ⊢
        exact o3
theorem check_zeroX {f : Fr} {os pl : List Int} {room : Int} (h : checkP f os pl room = 0) : planE f os pl = 0 ∧ (0 ≤ room ∧ room ≤ 4096) ∧ peakT os (lieP (gpOf f) os pl) os.length ≤ room ∧ clearP f os pl = true := by
  by_cases hE : frameE f = 0
  · by_cases hr : 0 ≤ room ∧ room ≤ 4096
    · by_cases hp : planE f os pl = 0
      · rw [check_fits hr hp] at h
        by_cases hc : peakT os (lieP (gpOf f) os pl) os.length ≤ room ∧ clearP f os pl = true
        · exact ⟨hp, hr, hc⟩
        · rw [if_neg hc] at h; cases h
      · rw [check_form hE hr hp] at h; exact absurd h hp
    · rw [check_room hE hr] at h; cases h
  · rw [check_none hE] at h; exact absurd h hE
/-- The size of what pass s makes. -/
def zOf (f : Fr) (s : Nat) : Sz := (szs f f.ps.length).getD s Sz.zero
/-- What lies where pass s's image has its place. -/
def liesR (f : Fr) (pl A : List Int) (s : Int) : Res := ⟨0, (zOf f s.toNat).1, (zOf f s.toNat).2, getA A (pl.getD s.toNat 0).toNat (areaZ (zOf f s.toNat)).toNat⟩
/-- What pass k makes out of what lies in the arena. -/
def stepR (f : Fr) (pl A : List Int) (k : Nat) : Res := paintRes (f.ps.getD k Ps.zero) (zOf f k) ((srcOf f.ps k).map (liesR f pl A))
def stepA (f : Fr) (pl A : List Int) (k : Nat) : List Int := putA A (pl.getD k 0).toNat (stepR f pl A k).ps
def runA (f : Fr) (os pl A : List Int) : Nat → List Int
  | 0 => A
  | n + 1 => stepA f pl (runA f os pl A n) (os.getD n 0).toNat
def fineA (A : List Int) : Bool := A.all numB
def execE (f : Fr) (os pl A : List Int) : Int := if checkP f os pl A.length = 0 then (if fineA A = true then 0 else 3) else checkP f os pl A.length
/-- The image that a run shows. -/
def runR (f : Fr) (os pl A : List Int) : Res := liesR f pl (runA f os pl A os.length) (shownP f)
/-- A plan that fits in an arena. -/
structure FitA (f : Fr) (os pl A : List Int) : Prop where
  E : frameE f = 0
  ord : Ord (gpOf f) os pl
  clear : Clear os (spanP (gpOf f) os) (lieP (gpOf f) os pl)
  peak : peakT os (lieP (gpOf f) os pl) os.length ≤ (A.length : Int)
  fine : ∀ x ∈ A, 0 ≤ x ∧ x ≤ 65535
  len : A.length ≤ 4096
theorem fit_of {f : Fr} {os pl A : List Int} (h : checkP f os pl A.length = 0) (hA : fineA A = true) : FitA f os pl A := by
  obtain ⟨h1, h2, h3, h4⟩ := check_zeroX h
  obtain ⟨hE, ho⟩ := planE_zero h1
  exact ⟨hE, ho, (clearT_iff ho _ _).1 h4, h3, fun x hx => (num_iff x).1 (List.all_eq_true.1 hA x hx), by omega⟩
theorem exec_zero {f : Fr} {os pl A : List Int} (h : execE f os pl A = 0) : checkP f os pl A.length = 0 ∧ fineA A = true := by
  unfold execE at h
  by_cases h1 : checkP f os pl A.length = 0
  · rw [if_pos h1] at h
    by_cases h2 : fineA A = true
    · exact ⟨h1, h2⟩
    · rw [if_neg h2] at h; cases h
  · rw [if_neg h1] at h; exact absurd h h1
theorem FitA.same {f : Fr} {os pl A B : List Int} (h : FitA f os pl A) (hl : B.length = A.length) (hf : ∀ x ∈ B, 0 ≤ x ∧ x ≤ 65535) : FitA f os pl B := ⟨h.E, h.ord, h.clear, by rw [hl]; exact h.peak, hf, by rw [hl]; exact h.len⟩
/-- Where a pass of the order lies. -/
theorem FitA.place {f : Fr} {os pl A : List Int} (h : FitA f os pl A) {q : Nat} (hq : q < f.ps.length) (hm : (q : Int) ∈ os) : (0 ≤ pl.getD q 0 ∧ pl.getD q 0 ≤ 4096) ∧ ((1 ≤ (zOf f q).1 ∧ (zOf f q).1 ≤ 16) ∧ (1 ≤ (zOf f q).2 ∧ (zOf f q).2 ≤ 16)) ∧ (1 ≤ areaZ (zOf f q) ∧ areaZ (zOf f q) ≤ 256) ∧ pl.getD q 0 + areaZ (zOf f q) ≤ (A.length : Int) := by
  have hp2 := (all_os h.ord (fun k => (lieP (gpOf f) os pl k).2 + 1 ≤ A.length)).1 (((peakT_le (Nat.le_refl _)).1 h.peak).2)
  have h1 := hp2 q hq hm
  rw [Ord.lie hm] at h1
  have h2 := h.ord.at_ q hq hm
  obtain ⟨hb, hf, _⟩ := frameE_zero h.E
  have hz : ZB (zOf f q) := szs_bd hb hf _ (getD_mem (by rw [szs_length]; exact hq) _)
  have h3 := area_bd hz
  simp only at h1
  have e : (gpOf f).ar q = areaZ (zOf f q) := rfl
  rw [e] at h1
  exact ⟨h2, hz, h3, by omega⟩
theorem FitA.lies {f : Fr} {os pl A : List Int} (h : FitA f os pl A) {q : Nat} (hq : q < f.ps.length) (hm : (q : Int) ∈ os) : RB (liesR f pl A q) (zOf f q) := by
  obtain ⟨h1, h2, h3, h4⟩ := h.place hq hm
  refine ⟨rfl, ?_, by unfold liesR; simp only [Int.toNat_natCast], by unfold liesR; simp only [Int.toNat_natCast]⟩
  unfold liesR
  simp only [Int.toNat_natCast]
  refine (fine_iff _ _ _).2 ⟨h2.1, h2.2, ?_, get_mem h.fine⟩
  rw [getA_len (by omega)]
  have : areaZ (zOf f q) = (zOf f q).1 * (zOf f q).2 := rfl
  omega
/-- The passes that a pass of the order takes are of the order too. -/
theorem FitA.src {f : Fr} {os pl A : List Int} (h : FitA f os pl A) {q : Nat} (hq : q < f.ps.length) (hm : (q : Int) ∈ os) : ∀ s ∈ srcOf f.ps q, ∃ n : Nat, s = n ∧ n < q ∧ (n : Int) ∈ os := by
  intro s hs
  have h1 := h.ord.beh q hq hm s hs
  have h2 := srcOk_of h.E q hq s hs
  obtain ⟨n, rfl⟩ := Int.eq_ofNat_of_zero_le h2.1
  exact ⟨n, rfl, by omega, h1.1⟩
theorem FitA.step {f : Fr} {os pl A : List Int} (h : FitA f os pl A) {q : Nat} (hq : q < f.ps.length) (hm : (q : Int) ∈ os) : RB (stepR f pl A q) (zOf f q) := by
  obtain ⟨hb, hfirst, _⟩ := frameE_zero h.E
  have hfk := firstE_down f hfirst (k := q) (by omega)
  have hpE : passE f q = 0 := (firstE_at f hfk).symm.trans (firstE_down f hfirst (k := q + 1) (by omega))
  have e : zOf f q = sizeN f q := szs_at f hq
  unfold stepR
  rw [e]
  refine paint_right_any hb hpE fun j hj => ?_
  obtain ⟨n, e1, e2, e3⟩ := h.src hq hm _ (List.getElem_mem hj)
  have e4 : ((srcOf f.ps q).map (liesR f pl A)).getD j (noRes 0) = liesR f pl A n := by
    rw [List.getD_eq_getElem?_getD, List.getElem?_map, List.getElem?_eq_getElem hj, e1]; rfl
  have e5 : (pickZ (szs f q) (srcOf f.ps q)).getD j Sz.zero = zOf f n := by
    unfold pickZ
    rw [List.getD_eq_getElem?_getD, List.getElem?_map, List.getElem?_eq_getElem hj, e1]
    show (szs f q).getD n Sz.zero = _
    rw [szs_at f e2]
    exact (szs_at f (by omega)).symm
  rw [e4, e5]
  exact h.lies (by omega) e3
theorem FitA.next {f : Fr} {os pl A : List Int} (h : FitA f os pl A) {q : Nat} (hq : q < f.ps.length) (hm : (q : Int) ∈ os) : (pl.getD q 0).toNat + (stepR f pl A q).ps.length ≤ A.length ∧ (stepA f pl A q).length = A.length ∧ FitA f os pl (stepA f pl A q) := by
  obtain ⟨h1, h2, h3, h4⟩ := h.place hq hm
  have hr := h.step hq hm
  have hfi := (fine_iff _ _ _).1 hr.2.1
  have hl : ((stepR f pl A q).ps.length : Int) = areaZ (zOf f q) := hfi.2.2.1.trans (by rw [hr.2.2.1, hr.2.2.2]; rfl)
  have hfit : (pl.getD q 0).toNat + (stepR f pl A q).ps.length ≤ A.length := by omega
  have hlen : (stepA f pl A q).length = A.length := putA_len hfit
  exact ⟨hfit, hlen, h.same hlen (put_mem h.fine hfi.2.2.2)⟩
theorem os_at {f : Fr} {os pl A : List Int} (h : FitA f os pl A) {i : Nat} (hi : i < os.length) : ∃ q : Nat, os.getD i 0 = q ∧ q < f.ps.length ∧ (q : Int) ∈ os := by
  have hm := getD_mem hi 0
  have hb := h.ord.inN _ hm
  obtain ⟨q, e⟩ := Int.eq_ofNat_of_zero_le hb.1
  rw [e] at hm hb
  have : (q : Int) < (f.ps.length : Int) := hb.2
  exact ⟨q, e, by omega, hm⟩
theorem FitA.run {f : Fr} {os pl A : List Int} (h : FitA f os pl A) : ∀ {n : Nat}, n ≤ os.length → (runA f os pl A n).length = A.length ∧ FitA f os pl (runA f os pl A n)
  | 0, _ => ⟨rfl, h⟩
  | n + 1, hn => by
    obtain ⟨h1, h2⟩ := h.run (n := n) (by omega)
    obtain ⟨q, e, hq, hm⟩ := os_at h (i := n) (by omega)
    obtain ⟨_, h3, h4⟩ := h2.next hq hm
    show (stepA f pl (runA f os pl A n) (os.getD n 0).toNat).length = _ ∧ FitA f os pl (stepA f pl (runA f os pl A n) (os.getD n 0).toNat)
    rw [e, Int.toNat_natCast]
    exact ⟨h3.trans h1, h4⟩
theorem FitA.last {f : Fr} {os pl A : List Int} (h : FitA f os pl A) : ∃ q : Nat, shownP f = q ∧ q < f.ps.length ∧ (q : Int) ∈ os := by
  have hG := gp_right h.E
  have hl := hG.last
  have hm := h.ord.pos hG
  obtain ⟨q, e⟩ := Int.eq_ofNat_of_zero_le hl.1
  have e' : shownP f = q := e
  rw [e] at hm hl
  have : (q : Int) < (f.ps.length : Int) := hl.2
  exact ⟨q, e', by omega, hm⟩
/-- Run tells what Render tells. -/
def mkE (f : Fr) (k : Nat) (c : Nat → List Int) : List Int := (paintRes (f.ps.getD k Ps.zero) (zOf f k) ((srcOf f.ps k).map fun s => ⟨0, (zOf f s.toNat).1, (zOf f s.toNat).2, c s.toNat⟩)).ps
theorem runA_runN (f : Fr) (os pl A : List Int) : ∀ n, runA f os pl A n = runN (gpOf f) (mkE f) os pl A n
  | 0 => rfl
  | n + 1 => by
    show stepA f pl (runA f os pl A n) (os.getD n 0).toNat = putA (runN (gpOf f) (mkE f) os pl A n) _ _
    rw [runA_runN f os pl A n]
    rfl
theorem szs_at' (f : Fr) {k : Nat} (h : k < f.ps.length) : zOf f k = sizeN f k := szs_at f h
theorem run_same {f : Fr} {os pl A : List Int} (h : FitA f os pl A) : runR f os pl A = renderP f := by
  have hG := gp_right h.E
  obtain ⟨hb, hfirst, _⟩ := frameE_zero h.E
  have hR := pics_right hb hfirst
  have hpic : ∀ k, k < f.ps.length → (pics f f.ps.length).getD k (noRes 0) = ⟨0, (zOf f k).1, (zOf f k).2, ((pics f f.ps.length).getD k (noRes 0)).ps⟩ := by
    intro k hk
    obtain ⟨r1, _, r3, r4⟩ := hR k hk
    generalize (pics f f.ps.length).getD k (noRes 0) = p at *
    obtain ⟨E, W, H, ps⟩ := p
    dsimp only at r1 r3 r4
    subst r1
    unfold zOf
    rw [← r3, ← r4]
  have hs := run_shows hG (mk := mkE f) (pic := fun k => ((pics f f.ps.length).getD k (noRes 0)).ps) (A := A) h.ord h.clear h.peak (fun k hk => by
      obtain ⟨_, r2, r3, r4⟩ := hR k hk
      have := ((fine_iff _ _ _).1 r2).2.2.1
      rw [this, r3, r4]; rfl) (fun k c hk hc => by
      have hk' : k < f.ps.length := hk
      unfold mkE
      have e1 : ((srcOf f.ps k).map fun s => (⟨0, (zOf f s.toNat).1, (zOf f s.toNat).2, c s.toNat⟩ : Res)) = pickR (pics f k) (srcOf f.ps k) := by
        unfold pickR
        refine List.map_congr_left fun s hs => ?_
        have h2 := srcOk_of h.E k hk' s hs
        have hsn : s.toNat < k := by omega
        rw [hc s hs]
        rw [← hpic s.toNat (by omega), pics_at f (show s.toNat < f.ps.length by omega), pics_at f hsn]
      rw [e1, szs_at' f hk', pics_at f hk']
      rfl)
  unfold runR renderP
  rw [if_pos h.E, runA_runN]
  obtain ⟨q, e, hq, _⟩ := h.last
  have e2 : (gpOf f).last = q := e
  rw [e2, Int.toNat_natCast] at hs
  rw [e, Int.toNat_natCast, hpic q hq]
  unfold liesR
  simp only [Int.toNat_natCast]
  rw [← hs]
  rfl
end Go.Proofs.YtaenpgdmiaekcaaGreatDoor
/-
  EXECA: slices.Clone of numbers; a copy into numbers of one's own; parts of numbers.
-/
namespace Go.Proofs.YtaenpgdmiaekcaaGreatDoor
set_option maxRecDepth 100000
open Go.RowKit Im

/-- Numbers of the call's own are handed back. -/
def ToldOw (w : World) (A : List Int) (e : Ending) (w' : World) : Prop := (∃ v, e = .returned v ∧ Owns w.heap.size w' v A) ∧ Below w.heap.size w w'
theorem ints_one (A : List Int) : ∀ u ∈ A.map (Value.int .i64), u.oneCell' = true := by
  intro u hu
  obtain ⟨n, _, rfl⟩ := List.mem_map.1 hu
  rfl
theorem ints_news {base : Nat} {w : World} {b off len : Nat} {A : List Int} (h : Ints base w (some ⟨b, off, none⟩) len A) : ∀ (j : Nat) (u : Value), (A.map (Value.int .i64))[j]? = some u → w.cell? ((⟨b, off, none⟩ : Addr).add j) = some u := by
  intro j u hu
  have hj : j < A.length := by
    rcases Nat.lt_or_ge j A.length with h | h
    · exact h
    · rw [List.getElem?_eq_none (by simpa using h)] at hu; cases hu
  obtain ⟨b', off', e, hc⟩ := h.nth (by rw [← h.leng]; exact hj)
  injection e with e
  injection e with e1 e2
  subst e1 e2
  rw [addr_add, hc, ← hu]
  simp [hj]
set_option maxHeartbeats 2000000 in
theorem cloneI_any {a : Option Addr} {len : Nat} (cap : Nat) {A : List Int} {base : Nat} {w : World} (h : Ints base w a len A) (hl : A.length ≤ 4096) :
    Calls Tryz.prog 86 #[.slice a len cap] w (ToldOw w A) := by
  obtain rfl := h.leng
  obtain ⟨i0, hi, hz0, hz1, hz2⟩ := info_parts Tryz.info3
  have q22 : ∀ (w : World) (a : Option Addr) (n c n' c' : Nat), (binOp .eql 22 (.slice a n c) (.slice none n' c')).run Tryz.prog w = .ok (.bool a.isNone) w := fun w a n c n' c' => Lib.run_eql_slice_nil w _ _ a n c n' c' Tryz.underlying22
  have hlit : (w.alloc (.cells #[] 3)).ownsRow w.heap.size 3 1 (.slice (some ⟨w.heap.size, 0, none⟩) 0 0) 0 [] := World.ownsRow_lit w #[] 0 (Nat.le_refl _) (by unfold maxLen; omega) rfl
  by_cases hL : A = []
  · subst hL
    cases a with
    | none =>
      go_enter Tryz.func86, Tryz.ntmps86
      go_wp2
      go_ret
      exact ⟨⟨_, rfl, World.ownsRow_nil _ _ _ _⟩, Below.refl _ _⟩
    | some x =>
      have HLIT : Hid (Owns w.heap.size (w.alloc (.cells #[] 3)) (.slice (some ⟨w.heap.size, 0, none⟩) 0 0) []) := hlit
      clear hlit
      go_enter Tryz.func86, Tryz.ntmps86
      go_wp2_with (at_builtin; refine list_append_nothing rfl _ _ 22 rfl 3 i0 Tryz.underlying22 hi (some ⟨w.heap.size, 0, none⟩) 0 0 (Nat.le_refl _) rfl (some x) cap rfl ?_)
      go_ret
      exact ⟨⟨_, rfl, HLIT.out⟩, below_box (Below.refl _ _) _⟩
  · rcases h.cells with e | ⟨b, off, rfl, _, hb, hc⟩
    · exact absurd e hL
    have hpos : 0 < A.length := List.length_pos_iff.2 hL
    have hzA := ints_news (h.below (Nat.le_refl _) (below_box (Below.refl w.heap.size w) (.cells #[] 3)))
    have HLC : Hid ((A.map (Value.int .i64)).length = A.length * 1) := by show _ = _; simp
    clear hL hc
    go_enter Tryz.func86, Tryz.ntmps86
    go_wp2_with (at_builtin; refine wpList_append_own _ rfl _ _ 22 rfl w.heap.size 3 i0 _ 1 8 Tryz.underlying22 hi hz0 hz1 hz2 rfl (by decide) (.slice (some ⟨w.heap.size, 0, none⟩) 0 0) 0 [] rfl hlit ⟨b, off, none⟩ A.length cap (A.map (Value.int .i64)) rfl (by rw [HLC.out]) hzA (ints_one A) (by unfold maxLen; omega) (by omega) (by simp) ?_; intro v' w9 hown9 hgrow9 _)
    have hb9 : Below w.heap.size w w9 := (below_box (Below.refl w.heap.size w) (.cells #[] 3)).grown hgrow9 (by simp) (fun k hk => by cases hk; exact Nat.le_refl _)
    rw [Nat.zero_add, List.nil_append] at hown9
    have HO : Hid (Owns w.heap.size w9 v' A) := hown9
    clear hown9 hgrow9 h hzA
    go_wp2
    go_ret
    exact ⟨⟨_, rfl, HO.out⟩, hb9⟩
/-- Part of numbers. -/
theorem Ints.cut {base : Nat} {w : World} {b off len : Nat} {A : List Int} (h : Ints base w (some ⟨b, off, none⟩) len A) {p n : Nat} (hp : p + n ≤ len) : Ints base w (some ⟨b, off + p, none⟩) n (getA A p n) := by
  have hl : (getA A p n).length = n := getA_len (by rw [h.leng]; exact hp)
  refine ⟨hl, by have := h.big; omega, ?_⟩
  rcases h.cells with e | ⟨b', off', e, h1, h2, h3⟩
  · left
    have : len = 0 := by rw [← h.leng, e]; rfl
    exact List.length_eq_zero_iff.1 (by omega)
  · injection e with e
    injection e with e1 e2
    subst e1 e2
    refine .inr ⟨_, _, rfl, h1, h2, fun j hj => ?_⟩
    have := h3 (p + j) (by omega)
    rw [Nat.add_assoc, this]
    congr 2
    rw [List.getD_eq_getElem?_getD, List.getD_eq_getElem?_getD, getA_get hj]
/-- Numbers of one's own, that begin where their block begins. -/
theorem Owns.block {base : Nat} {w : World} {v : Value} {A : List Int} (h : Owns base w v A) (hne : A ≠ []) : ∃ g c, v = .slice (some ⟨g, 0, none⟩) A.length c ∧ base ≤ g ∧ g < w.heap.size ∧ A.length ≤ c := by
  have hlt := World.ownsRow.lt (w := w) h
  obtain ⟨h1, h2⟩ := h
  rcases h2 with ⟨_, h0⟩ | ⟨g, cap, cur, rfl, hg, hh, hc, hm, hs, ht⟩
  · exact absurd (List.length_eq_zero_iff.1 h0) hne
  · exact ⟨g, cap, rfl, hg, (hlt g rfl).2, hc⟩
theorem take_put {α : Type} (C L : List α) {off n : Nat} (h : off + L.length ≤ n) (hn : n ≤ C.length) : (C.take off ++ (L ++ C.drop (off + L.length))).take n = (C.take n).take off ++ (L ++ (C.take n).drop (off + L.length)) := by
  have h1 : (C.take off).length = off := by simp; omega
  have e1 : min n off = off := by omega
  have e2 : min off n = off := by omega
  rw [List.take_append, h1, List.take_append, List.take_take, List.take_take, List.drop_take, e1, e2, List.take_of_length_le (show L.length ≤ n - off by omega)]
  congr 3
  omega
theorem owns_put {base : Nat} {w : World} {g n c : Nat} {A l : List Int} {off : Nat} (h : Owns base w (.slice (some ⟨g, 0, none⟩) n c) A) (hfit : off + l.length ≤ A.length) :
    ∃ cur : Array Value, w.heap[g]? = some (.cells cur 3 (0, 0)) ∧ off + l.length ≤ cur.size ∧ Owns base (w.setRow g (cur.toList.take off ++ (l.map (Value.int .i64) ++ cur.toList.drop (off + (l.map (Value.int .i64)).length))).toArray) (.slice (some ⟨g, 0, none⟩) n c) (putA A off l) := by
  obtain ⟨h1, h2⟩ := h
  rcases h2 with ⟨e, _⟩ | ⟨g', cap, cur, e, hg, hh, hc, hm, hs, ht⟩
  · cases e
  · injection e with e1 e2 e3
    injection e1 with e1
    injection e1 with e1
    subst e1 e3 e2
    have hl : (putA A off l).length = A.length := putA_len hfit
    have hsz : A.length ≤ cur.size := by omega
    refine ⟨cur, hh, by omega, ?_⟩
    unfold Owns
    rw [hl]
    refine ⟨by simpa using hl, .inr ⟨g, c, _, rfl, hg, setRow_heap w g _ _ _ _ hh, hc, hm, ?_, ?_⟩⟩
    · simp; omega
    · rw [List.toList_toArray, Nat.mul_one, take_put _ _ (by simpa using hfit) (by rw [Array.length_toList]; omega)]
      rw [Nat.mul_one] at ht
      rw [ht]
      unfold putA
      simp [List.map_append, List.map_take, List.map_drop]
end Go.Proofs.YtaenpgdmiaekcaaGreatDoor
/-
  EXECB: a copy as one step of a region that draws; exec's image, and the reference's lies.
-/
namespace Go.Proofs.YtaenpgdmiaekcaaGreatDoor
set_option maxRecDepth 100000
open Go.RowKit Im

theorem step_copy_ints {P : Program} {ops : Array Oper} {o : Oper} {a : Act} {w : World} {K : Act → World → Prop} {Q : Exit → Act → World → Prop} {E : Prop} (hgd : o.guard = none) (d s : Operand) (dT sT : TypeId)
    (ho : o.op = .call { callee := .builtin .copy, args := #[d, s], argTypes := #[dT, sT] }) (hu : P.underlying dT = some (.slice 3)) (hsz : (P.info? 3).map (·.size) = some 1)
    (g off dLen dCap : Nat) (ad : Addr) (sCap : Nat) (l : List Int) (hd : a.eval d = .slice (some ⟨g, off, none⟩) dLen dCap) (hs : a.eval s = .slice (some ad) l.length sCap)
    (base : Nat) (n c : Nat) (A : List Int) (hown : Owns base w (.slice (some ⟨g, 0, none⟩) n c) A) (hsrc : ∀ (j : Nat) (u : Value), (l.map (Value.int .i64))[j]? = some u → w.cell? (ad.add j) = some u) (hfit : off + l.length ≤ A.length) (hdl : l.length ≤ dLen)
    (h : ∀ w', Owns base w' (.slice (some ⟨g, 0, none⟩) n c) (putA A off l) → w.grownBy w' (some g) → K (a.put o.dst (goInt l.length)) w') :
    if Region.wanted o (yielded ops a.tmps) = true then Oper.wp P o a w K Q else E := by
  have hw : Region.wanted o (yielded ops a.tmps) = true := by simp [Region.wanted, hgd]
  rw [if_pos hw]
  obtain ⟨cur, hg, hf, hO⟩ := owns_put hown hfit
  have hrun := run_copy_row (P := P) w dT sT o.type 3 g off dLen dCap ad l.length sCap cur 3 (l.map (Value.int .i64)) hu hsz hg (by rw [List.length_map]; show l.length = min l.length dLen; omega) hsrc (by simpa using hf) (ints_one l)
  unfold Oper.wp
  simp only [execOp, ho, resolve, invoke, builtin, Sem.run_bind, Sem.run_pure, Result.andThen_ok, List.map_toArray, List.map_cons, List.map_nil, hd, hs, hrun]
  rw [List.length_map] at hO ⊢
  rw [← List.append_assoc] at hO
  exact h _ hO ⟨rfl, rfl, rfl, by simp [World.setRow], fun k hk hr => setRow_other w g k _ (fun e => hr (by rw [e]))⟩
theorem grown_put {w w' : World} {b : Nat} (h : w.grownBy w' (some b)) (o : Nat) (v : Value) : w.grownBy (w'.setCell ⟨b, o, none⟩ v) (some b) :=
  ⟨h.os, h.tape, h.output, by simpa using h.size, fun k hk hr => (show (w'.setCell ⟨b, o, none⟩ v).heap[k]? = w'.heap[k]? by
    have hne : ¬ b = k := fun e => hr (by rw [e])
    simp only [World.setCell, Array.getElem?_modify, hne, if_false]).trans (h.block k hk hr)⟩
theorem below_grown {w w' : World} (h : Below w.heap.size w w') (row : Option Nat) : w.grownBy w' row := ⟨h.os, h.tape, h.output, h.size, fun k hk _ => h.block k hk⟩
/-- The five lists that a work has. -/
structure WkBox (w : World) (b : Nat) (v0 v1 v2 v3 v4 : Value) : Prop where
  lt : b < w.heap.size
  c0 : w.cell? ⟨b, 0, none⟩ = some v0
  c1 : w.cell? ⟨b, 1, none⟩ = some v1
  c2 : w.cell? ⟨b, 2, none⟩ = some v2
  c3 : w.cell? ⟨b, 3, none⟩ = some v3
  c4 : w.cell? ⟨b, 4, none⟩ = some v4
theorem WkBox.new (w : World) (v0 v1 v2 v3 v4 : Value) (t : TypeId) : WkBox (w.alloc (.cells #[v0, v1, v2, v3, v4] t)) w.heap.size v0 v1 v2 v3 v4 :=
  ⟨by simp, by simp [go_sem], by simp [go_sem], by simp [go_sem], by simp [go_sem], by simp [go_sem]⟩
theorem WkBox.below {w w' : World} {b B : Nat} {v0 v1 v2 v3 v4 : Value} (h : WkBox w b v0 v1 v2 v3 v4) (hb : Below B w w') (hB : b < B) (hs : w.heap.size ≤ w'.heap.size) : WkBox w' b v0 v1 v2 v3 v4 :=
  ⟨Nat.lt_of_lt_of_le h.lt hs, (hb.cell (p := ⟨b, 0, none⟩) hB).trans h.c0, (hb.cell (p := ⟨b, 1, none⟩) hB).trans h.c1, (hb.cell (p := ⟨b, 2, none⟩) hB).trans h.c2, (hb.cell (p := ⟨b, 3, none⟩) hB).trans h.c3, (hb.cell (p := ⟨b, 4, none⟩) hB).trans h.c4⟩
set_option maxHeartbeats 4000000 in
theorem image_any (v0 v3 : Value) (ra : Option Addr) (rlen rc : Nat) (za : Option Addr) (zlen zc : Nat) (aa : Option Addr) (alen ac : Nat) {pl A : List Int} {zs : List Sz} {w : World} {b1 b2 : Nat} (hP : Ints b1 w ra rlen pl) (hZ : Zs w za zlen zs) (hA : Ints b2 w aa alen A) (hac : alen ≤ ac) (hal : alen ≤ 4096)
    {k : Nat} (hkr : k < rlen) (hkz : k < zlen) {p zw zh n : Nat} (hp : pl.getD k 0 = p) (hz : zs.getD k Sz.zero = ((zw : Int), (zh : Int))) (hn : zw * zh = n) (h1 : 1 ≤ n) (hfit : p + n ≤ alen) :
    Calls Tryz.prog 48 #[.agg #[v0, .slice ra rlen rc, .slice za zlen zc, v3, .slice aa alen ac], .int .i64 k] w (ToldM w ⟨0, zw, zh, getA A p n⟩) := by
  have hbx := below_box (below_box (Below.refl w.heap.size w) (.cells #[v0, .slice ra rlen rc, .slice za zlen zc, v3, .slice aa alen ac] 96)) (.cells #[.int .i64 0, .int .i64 0, .slice none 0 0] 24)
  have hK := (WkBox.new w v0 (.slice ra rlen rc) (.slice za zlen zc) v3 (.slice aa alen ac) 96).below ((Below.refl _ _).alloc (Nat.le_refl _) (.cells #[.int .i64 0, .int .i64 0, .slice none 0 0] 24)) (by simp) (by simp)
  have hsz2 : w.heap.size + 2 ≤ ((w.alloc (.cells #[v0, .slice ra rlen rc, .slice za zlen zc, v3, .slice aa alen ac] 96)).alloc (.cells #[.int .i64 0, .int .i64 0, .slice none 0 0] 24)).heap.size := by simp
  have hI0x := IBox.new (w.alloc (.cells #[v0, .slice ra rlen rc, .slice za zlen zc, v3, .slice aa alen ac] 96))
  rw [World.size_alloc] at hI0x
  obtain ⟨ab, ao, rfl, hA2⟩ : ∃ ab ao, aa = some ⟨ab, ao, none⟩ ∧ ab < w.heap.size := by
    obtain ⟨ab, ao, e, hc⟩ := hA.nth (k := 0) (by omega)
    exact ⟨ab, ao, e, World.block_lt_of_cell? w _ hc⟩
  obtain ⟨rb, ro, rfl, hr0⟩ := (hP.below (Nat.le_refl _) hbx).nth hkr
  obtain ⟨zb, zo, rfl, hzb, z0, z1⟩ := (hZ.below hbx).nth hkz
  rw [hp] at hr0
  rw [hz] at z0 z1
  dsimp only at z0 z1
  have hcut := (hA.below (Nat.le_refl _) hbx).cut (p := p) (n := n) hfit
  have hI0 : (0 : Int) ≤ (k : Int) := by omega
  have hkrI : (k : Int) < (rlen : Int) := by omega
  have hkzI : (k : Int) < (zlen : Int) := by omega
  have hmul : IntKind.i64.wrap ((zw : Int) * (zh : Int)) = (n : Int) := by rw [← Int.natCast_mul, hn, IntKind.wrap_i64]; omega
  have hadd : IntKind.i64.wrap ((p : Int) + (n : Int)) = (p : Int) + (n : Int) := by rw [IntKind.wrap_i64]; omega
  have hq0 : (0 : Int) ≤ (p : Int) := by omega
  have hq1 : (p : Int) ≤ (p : Int) + (n : Int) := by omega
  have hq2 : (p : Int) + (n : Int) ≤ (ac : Int) := by omega
  have hq3 : ¬ ac = p := by omega
  have hq4 : ((p : Int) + (n : Int)).toNat = p + n := by omega
  have hrbl : rb < w.heap.size + 2 := by have := World.block_lt_of_cell? _ _ hr0; simpa using this
  obtain ⟨_, k0, k1, k2, k3, k4⟩ := id hK
  go_enter Tryz.func48, Tryz.ntmps48
  go_upto_region 1 with fail
  generalize (w.alloc (.cells #[v0, .slice (some ⟨rb, ro, none⟩) rlen rc, .slice (some ⟨zb, zo, none⟩) zlen zc, v3, .slice (some ⟨ab, ao, none⟩) alen ac] 96)).alloc (.cells #[.int .i64 0, .int .i64 0, .slice none 0 0] 24) = w0 at *
  have held : ∀ wx, Below w0.heap.size w0 wx → wx.cell? ⟨w.heap.size, 1, none⟩ = some (.slice (some ⟨rb, ro, none⟩) rlen rc) ∧ wx.cell? ⟨w.heap.size, 2, none⟩ = some (.slice (some ⟨zb, zo, none⟩) zlen zc) ∧ wx.cell? ⟨rb, ro + k, none⟩ = some (.int .i64 p) ∧ wx.cell? ⟨zb, zo + k * 2, none⟩ = some (.int .i64 zw) ∧ wx.cell? ⟨zb, zo + k * 2 + 1, none⟩ = some (.int .i64 zh) := fun wx h =>
    ⟨(h.cell (p := ⟨w.heap.size, 1, none⟩) hK.lt).trans k1, (h.cell (p := ⟨w.heap.size, 2, none⟩) hK.lt).trans k2, (h.cell (p := ⟨rb, ro + k, none⟩) (World.block_lt_of_cell? _ _ hr0)).trans hr0, (h.cell (p := ⟨zb, zo + k * 2, none⟩) hzb).trans z0, (h.cell (p := ⟨zb, zo + k * 2 + 1, none⟩) hzb).trans z1⟩
  have hd := (Below.refl w0.heap.size w0).drew
  go_region_held3 (fun wx => wx.cell? ⟨w.heap.size, 1, none⟩ = some (.slice (some ⟨rb, ro, none⟩) rlen rc) ∧ wx.cell? ⟨w.heap.size, 2, none⟩ = some (.slice (some ⟨zb, zo, none⟩) zlen zc) ∧ wx.cell? ⟨rb, ro + k, none⟩ = some (.int .i64 p) ∧ wx.cell? ⟨zb, zo + k * 2, none⟩ = some (.int .i64 zw) ∧ wx.cell? ⟨zb, zo + k * 2 + 1, none⟩ = some (.int .i64 zh))
    (first | exact held _ hd | exact held _ (hd.alloc (Nat.le_refl _) _) | exact held _ ((hd.alloc (Nat.le_refl _) _).setCell (Nat.le_refl _) _) | exact held _ (((hd.alloc (Nat.le_refl _) _).setCell (Nat.le_refl _) _).setCell (Nat.le_refl _) _))
    ((fail))
  have b1x := ((Below.refl w0.heap.size w0).alloc (Nat.le_refl _) (.cells #[.int .i64 zw, .int .i64 zh] 75)).drew
  have s0 : (w0.alloc (.cells #[.int .i64 zw, .int .i64 zh] 75)).drew.cell? ⟨w0.heap.size, 0, none⟩ = some (.int .i64 zw) := by
    show (w0.alloc (.cells #[.int .i64 zw, .int .i64 zh] 75)).cell? ⟨w0.heap.size, 0, none⟩ = _
    simp [go_sem]
  have s1 : (w0.alloc (.cells #[.int .i64 zw, .int .i64 zh] 75)).drew.cell? ⟨w0.heap.size, 1, none⟩ = some (.int .i64 zh) := by
    show (w0.alloc (.cells #[.int .i64 zw, .int .i64 zh] 75)).cell? ⟨w0.heap.size, 1, none⟩ = _
    simp [go_sem]
  have hs1 : w0.heap.size < (w0.alloc (.cells #[.int .i64 zw, .int .i64 zh] 75)).drew.heap.size := by
    show _ < (w0.alloc (.cells #[.int .i64 zw, .int .i64 zh] 75)).heap.size
    simp
  clear held
  generalize (w0.alloc (.cells #[.int .i64 zw, .int .i64 zh] 75)).drew = w1 at *
  have hcut1 := hcut.below (Nat.le_refl _) b1x
  have hI1 := hI0x.below b1x hI0x.lt b1x.size
  have j4 := (b1x.cell (p := ⟨w.heap.size, 4, none⟩) hK.lt).trans k4
  have hbw1 := below_step hbx b1x
  have hwl : w.heap.size < w1.heap.size := Nat.lt_of_lt_of_le hK.lt b1x.size
  clear hP hZ hA hr0 z0 z1 k0 k1 k2 k3 k4 hcut
  go_upto_region 2 with fail
  have hd1 := (Below.refl w1.heap.size w1).drew
  have hcl := cloneI_any (ac - p) (hcut1.below (Nat.le_refl _) hd1) (by rw [hcut1.leng]; omega)
  have hne0 : some w0.heap.size ≠ some (w.heap.size + 1) := fun e => by injection e with e; omega
  have hne1 : some w.heap.size ≠ some (w.heap.size + 1) := fun e => by injection e with e; omega
  have held : ∀ wx, w1.grownBy wx (some (w.heap.size + 1)) → wx.cell? ⟨w0.heap.size, 0, none⟩ = some (.int .i64 zw) ∧ wx.cell? ⟨w0.heap.size, 1, none⟩ = some (.int .i64 zh) ∧ wx.cell? ⟨w.heap.size, 4, none⟩ = some (.slice (some ⟨ab, ao, none⟩) alen ac) := fun wx h =>
    ⟨(grown_cell h hs1 hne0 0).1.trans s0, (grown_cell h hs1 hne0 1).1.trans s1, (grown_cell h hwl hne1 4).1.trans j4⟩
  have hg1 := below_grown hd1 (some (w.heap.size + 1))
  go_region_held3 (fun wx => wx.cell? ⟨w0.heap.size, 0, none⟩ = some (.int .i64 zw) ∧ wx.cell? ⟨w0.heap.size, 1, none⟩ = some (.int .i64 zh) ∧ wx.cell? ⟨w.heap.size, 4, none⟩ = some (.slice (some ⟨ab, ao, none⟩) alen ac))
    (first | exact held _ hg1 | exact held _ g2 | exact held _ (grown_put (grown_put (grown_put g2 0 _) 1 _) 2 _))
    ((go_at_call 86; refine hcl.mono ?_; rintro e w2 ⟨⟨v, rfl, hO⟩, b2'⟩; have b2 := below_step hd1 b2'; have g2 := below_grown b2 (some (w.heap.size + 1)); obtain ⟨va, vc, rfl, hIv⟩ := hO.ints (by rw [hcut1.leng]; omega); obtain ⟨_, c0, c1, c2, f0, f1, f2⟩ := hI1.below b2 hI1.lt b2.size))
  all_goals
    have HT : Hid (ToldM w ⟨0, zw, zh, getA A p n⟩ (.returned (.agg #[.int .i64 zw, .int .i64 zh, .slice va (getA A p n).length vc])) (((w2.setCell ⟨w.heap.size + 1, 0, none⟩ (.int .i64 zw)).setCell ⟨w.heap.size + 1, 1, none⟩ (.int .i64 zh)).setCell ⟨w.heap.size + 1, 2, none⟩ (.slice va (getA A p n).length vc))) :=
      ⟨va, vc, rfl, (((hIv.setCell (p := ⟨w.heap.size + 1, 0, none⟩) hI1.lt _).setCell (p := ⟨w.heap.size + 1, 1, none⟩) hI1.lt _).setCell (p := ⟨w.heap.size + 1, 2, none⟩) hI1.lt _).mono (Nat.le_of_lt hwl), (((below_step hbw1 b2).setCell (p := ⟨w.heap.size + 1, 0, none⟩) (Nat.le_succ _) _).setCell (p := ⟨w.heap.size + 1, 1, none⟩) (Nat.le_succ _) _).setCell (p := ⟨w.heap.size + 1, 2, none⟩) (Nat.le_succ _) _⟩
    clear hIv hO b2' hcl hcut1 held
    go_wp2
    exact bodyPost_ret (v := .agg #[.int .i64 zw, .int .i64 zh, .slice va (getA A p n).length vc]) (by simp [results, Tryz.results48, go_sem, c0, c1, c2]) rfl HT.out
end Go.Proofs.YtaenpgdmiaekcaaGreatDoor
