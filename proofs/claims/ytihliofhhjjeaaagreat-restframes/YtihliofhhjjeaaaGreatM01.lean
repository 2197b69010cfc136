/- Plain, Base, Apart, PlaceN, PlanN, PlanM, PlanM2, PlanM3: joined, in this order. -/
import Derived.Test.YtihliofhhjjeaaaGreatRows
import Derived.WalkKit
import Derived.WalkSpells
import Derived.WalkLawsBesides
set_option maxRecDepth 100000
namespace Go.Proofs.YtihliofhhjjeaaaGreat
namespace Im
def sideB (n : Int) : Bool := decide (1 ≤ n) && decide (n ≤ 16)
def numB (n : Int) : Bool := decide (0 ≤ n) && decide (n ≤ 65535)
def withinB (n a b : Int) : Bool := decide (a ≤ n) && decide (n ≤ b)
def fineB (W H : Int) (ps : List Int) : Bool := sideB W && sideB H && decide ((ps.length : Int) = W * H) && ps.all numB
def okIf (b : Bool) (e : Int) : Int := if b then 0 else e
theorem side_iff (n : Int) : sideB n = true ↔ 1 ≤ n ∧ n ≤ 16 := by simp [sideB]
theorem num_iff (n : Int) : numB n = true ↔ 0 ≤ n ∧ n ≤ 65535 := by simp [numB]
theorem within_num (n : Int) : withinB n 0 65535 = numB n := rfl
theorem fine_iff (W H : Int) (ps : List Int) : fineB W H ps = true ↔ (1 ≤ W ∧ W ≤ 16) ∧ (1 ≤ H ∧ H ≤ 16) ∧ (ps.length : Int) = W * H ∧ ∀ n ∈ ps, 0 ≤ n ∧ n ≤ 65535 := by
  simp [fineB, side_iff, num_iff, and_assoc]
theorem side_mul {W H : Int} (h1 : sideB W = true) (h2 : sideB H = true) : 1 ≤ W * H ∧ W * H ≤ 256 := by
  have b1 := (side_iff W).1 h1
  have b2 := (side_iff H).1 h2
  have e1 : W * H ≤ 16 * 16 := Int.mul_le_mul b1.2 b2.2 (by omega) (by omega)
  have e2 : 1 * 1 ≤ W * H := Int.mul_le_mul b1.1 b2.1 (by omega) (by omega)
  omega
theorem all_succ (ps : List Int) (k : Nat) (hk : k < ps.length) (h : (ps.take k).all numB = true) (h' : numB (ps[k]?.getD 0) = true) : (ps.take (k + 1)).all numB = true := by
  rw [List.getElem?_eq_getElem hk] at h'
  rw [List.take_succ_eq_append_getElem hk, List.all_append, h]
  simpa using h'
theorem all_not (ps : List Int) (k : Nat) (hk : k < ps.length) (h' : numB (ps[k]?.getD 0) = false) : ps.all numB = false := by
  rw [List.getElem?_eq_getElem hk] at h'
  rw [List.all_eq_false]
  exact ⟨ps[k], List.getElem_mem hk, by simpa using h'⟩
def pix (w : Nat) (g : Nat → Nat → Int) (n : Nat) : List Int := (List.range n).map fun i => g (i % w) (i / w)
theorem pix_length (w : Nat) (g : Nat → Nat → Int) (n : Nat) : (pix w g n).length = n := by simp [pix]
theorem pix_succ (w : Nat) (g : Nat → Nat → Int) (x y : Nat) (h : x < w) : pix w g (y * w + x + 1) = pix w g (y * w + x) ++ [g x y] := by
  have e1 : (y * w + x) % w = x := by rw [Nat.mul_comm, Nat.mul_add_mod]; exact Nat.mod_eq_of_lt h
  have e2 : (y * w + x) / w = y := by rw [Nat.mul_comm, Nat.mul_add_div (by omega), Nat.div_eq_of_lt h]; rfl
  simp [pix, List.range_succ, e1, e2]
theorem place_lt {w h x y : Nat} (hx : x < w) (hy : y < h) : y * w + x < w * h := by
  calc y * w + x < y * w + w := by omega
    _ = (y + 1) * w := by rw [Nat.add_mul]; omega
    _ ≤ h * w := Nat.mul_le_mul_right _ hy
    _ = w * h := Nat.mul_comm _ _
theorem pix_all (w n : Nat) (g : Nat → Nat → Int) (hw : 0 < w) (h : ∀ x y, x < w → y * w + x < n → 0 ≤ g x y ∧ g x y ≤ 65535) : ∀ m ∈ pix w g n, 0 ≤ m ∧ m ≤ 65535 := by
  intro m hm
  simp [pix] at hm
  obtain ⟨i, hi, rfl⟩ := hm
  refine h _ _ (Nat.mod_lt _ hw) ?_
  have := Nat.div_add_mod i w
  rw [Nat.mul_comm] at this
  omega
def px (W : Nat) (ps : List Int) (x y : Nat) : Int := ps.getD (y * W + x) 0
def sumRow (p : Nat → Nat → Int) (y l : Nat) : Nat → Int
  | 0 => 0
  | n + 1 => sumRow p y l n + p (l + n) y
def sumBox (p : Nat → Nat → Int) (l t n : Nat) : Nat → Int
  | 0 => 0
  | m + 1 => sumBox p l t n m + sumRow p (t + m) l n
theorem sumRow_bd {p : Nat → Nat → Int} {y l : Nat} : ∀ {n : Nat}, (∀ x, l ≤ x → x < l + n → 0 ≤ p x y ∧ p x y ≤ 65535) → 0 ≤ sumRow p y l n ∧ sumRow p y l n ≤ 65535 * n
  | 0, _ => by simp [sumRow]
  | n + 1, h => by
    have h1 := sumRow_bd (p := p) (y := y) (l := l) (n := n) (fun x h1 h2 => h x h1 (by omega))
    have h2 := h (l + n) (by omega) (by omega)
    unfold sumRow
    omega
theorem sumBox_bd {p : Nat → Nat → Int} {l t n : Nat} (hn : n ≤ 16) : ∀ {m : Nat}, (∀ x y, l ≤ x → x < l + n → t ≤ y → y < t + m → 0 ≤ p x y ∧ p x y ≤ 65535) → 0 ≤ sumBox p l t n m ∧ sumBox p l t n m ≤ 65535 * 16 * m
  | 0, _ => by simp [sumBox]
  | m + 1, h => by
    have h1 := sumBox_bd (p := p) (l := l) (t := t) (n := n) hn (m := m) (fun x y h1 h2 h3 h4 => h x y h1 h2 h3 (by omega))
    have h2 := sumRow_bd (p := p) (y := t + m) (l := l) (n := n) (fun x h1 h2 => h x (t + m) h1 h2 (by omega) (by omega))
    unfold sumBox
    omega
def meanP (p : Nat → Nat → Int) (l t r b : Nat) : Int := sumBox p l t (r + 1 - l) (b + 1 - t) / (((r : Int) - l + 1) * ((b : Int) - t + 1))
end Im
end Go.Proofs.YtihliofhhjjeaaaGreat
namespace Go.Proofs.YtihliofhhjjeaaaGreat
open Go.RowKit Im
structure Ints (base : Nat) (w : World) (a : Option Addr) (len : Nat) (ps : List Int) : Prop where
  leng : ps.length = len
  big : len ≤ 9223372036854775807
  cells : ps = [] ∨ ∃ b off, a = some ⟨b, off, none⟩ ∧ base ≤ b ∧ b < w.heap.size ∧ ∀ j, j < len → w.cell? ⟨b, off + j, none⟩ = some (.int .i64 (ps.getD j 0))
  free : 0 < base → ps = [] ∨ ∀ b off, a = some ⟨b, off, none⟩ → ∀ j, j < len → w.frozen? ⟨b, off + j, none⟩ = false
theorem Ints.below {base : Nat} {w w' : World} {a : Option Addr} {len : Nat} {ps : List Int} (h : Ints base w a len ps) {B : Nat} (hB : w.heap.size ≤ B) (hb : Below B w w') : Ints base w' a len ps := by
  refine ⟨h.leng, h.big, ?_, fun h0 => ?_⟩
  · rcases h.cells with e | ⟨b, off, ha, h0, hl, hc⟩
    · exact .inl e
    · exact .inr ⟨b, off, ha, h0, Nat.lt_of_lt_of_le hl hb.size, fun j hj => (hb.cell (p := ⟨b, off + j, none⟩) (by show b < B; omega)).trans (hc j hj)⟩
  · rcases h.cells with e | ⟨b, off, ha, _, hl, hc⟩
    · exact .inl e
    · rcases h.free h0 with e | hf
      · exact .inl e
      · refine .inr fun b' off' ha' j hj => ?_
        rw [ha] at ha'
        injection ha' with ha'
        injection ha' with e1 e2
        subst e1 e2
        exact (hb.frozen (p := ⟨b, off + j, none⟩) (by show b < B; omega)).trans (hf b off ha j hj)
theorem Ints.mono {base base' : Nat} {w : World} {a : Option Addr} {len : Nat} {ps : List Int} (h : Ints base w a len ps) (hb : base' ≤ base) : Ints base' w a len ps := by
  refine ⟨h.leng, h.big, ?_, fun h0 => h.free (by omega)⟩
  rcases h.cells with e | ⟨b, off, ha, h0, hl, hc⟩
  · exact .inl e
  · exact .inr ⟨b, off, ha, by omega, hl, hc⟩
theorem Ints.setCell {base : Nat} {w : World} {a : Option Addr} {len : Nat} {ps : List Int} (h : Ints base w a len ps) {p : Addr} (hp : p.block < base) (u : Value) : Ints base (w.setCell p u) a len ps := by
  refine ⟨h.leng, h.big, ?_, fun h0 => (h.free h0).imp id fun hf b off ha j hj => by rw [World.frozen?_setCell]; exact hf b off ha j hj⟩
  rcases h.cells with e | ⟨b, off, ha, h0, hl, hc⟩
  · exact .inl e
  · refine .inr ⟨b, off, ha, h0, by simpa [World.setCell] using hl, fun j hj => ?_⟩
    rw [World.cell?_of_block (w := w) (Below.heap_setCell w p u b (by omega))]
    exact hc j hj
theorem Ints.nil (base : Nat) (w : World) : Ints base w none 0 [] := ⟨rfl, by omega, .inl rfl, fun _ => .inl rfl⟩
theorem bcell {W w1 : World} (hb : Below W.heap.size W w1) : (∀ b o, b < W.heap.size → w1.cell? ⟨b, o, none⟩ = W.cell? ⟨b, o, none⟩) ∧ (∀ b o, b < W.heap.size → w1.frozen? ⟨b, o, none⟩ = W.frozen? ⟨b, o, none⟩) :=
  ⟨fun b o h => hb.cell (p := ⟨b, o, none⟩) h, fun b o h => hb.frozen (p := ⟨b, o, none⟩) h⟩
theorem Tryz.info3 : (Tryz.prog.info? 3).map (fun i => (i.zero, i.size, i.bytes)) = some (some (.int .i64 0), 1, 8) := by kernel_rfl
theorem isSide_any (n : Int) (w : World) : Calls Tryz.prog 50 #[.int .i64 n] w fun e w' => e = .returned (.bool (sideB n)) ∧ w = w' := by
  by_cases h1 : 1 ≤ n
  · by_cases h2 : n ≤ 16
    · go_enter Tryz.func50, Tryz.ntmps50
      go_wp2
      go_ret
      exact ⟨by simp [sideB, h1, h2], rfl⟩
    · go_enter Tryz.func50, Tryz.ntmps50
      go_wp2
      go_ret
      exact ⟨by simp [sideB, h1, h2], rfl⟩
  · go_enter Tryz.func50, Tryz.ntmps50
    go_wp2
    go_ret
    exact ⟨by simp [sideB]; omega, rfl⟩
theorem isNumber_any (n : Int) (w : World) : Calls Tryz.prog 51 #[.int .i64 n] w fun e w' => e = .returned (.bool (numB n)) ∧ w = w' := by
  by_cases h1 : 0 ≤ n
  · by_cases h2 : n ≤ 65535
    · go_enter Tryz.func51, Tryz.ntmps51
      go_wp2
      go_ret
      exact ⟨by simp [numB, h1, h2], rfl⟩
    · go_enter Tryz.func51, Tryz.ntmps51
      go_wp2
      go_ret
      exact ⟨by simp [numB, h1, h2], rfl⟩
  · go_enter Tryz.func51, Tryz.ntmps51
    go_wp2
    go_ret
    exact ⟨by simp [numB]; omega, rfl⟩
theorem within_any (n a b : Int) (w : World) : Calls Tryz.prog 42 #[.int .i64 n, .int .i64 a, .int .i64 b] w fun e w' => e = .returned (.bool (withinB n a b)) ∧ w = w' := by
  by_cases h1 : a ≤ n
  · by_cases h2 : n ≤ b
    · go_enter Tryz.func42, Tryz.ntmps42
      go_wp2
      go_ret
      exact ⟨by simp [withinB, h1, h2], rfl⟩
    · go_enter Tryz.func42, Tryz.ntmps42
      go_wp2
      go_ret
      exact ⟨by simp [withinB, h1, h2], rfl⟩
  · go_enter Tryz.func42, Tryz.ntmps42
    go_wp2
    go_ret
    exact ⟨by simp [withinB]; omega, rfl⟩
end Go.Proofs.YtihliofhhjjeaaaGreat
namespace Go.Proofs.YtihliofhhjjeaaaGreat
end Go.Proofs.YtihliofhhjjeaaaGreat
namespace Go.Proofs.YtihliofhhjjeaaaGreat
def freeAt (l : List (Int × Int)) (size p : Int) : Prop := ∀ b ∈ l, p + size ≤ b.1 ∨ b.2 + 1 ≤ p
def placeN (size : Int) : List (Int × Int) → Int → Int
  | [], p => p
  | b :: l, p => if p + size ≤ b.1 then p else placeN size l (max p (b.2 + 1))
theorem placeN_least (size : Int) : ∀ (l : List (Int × Int)) (p : Int), l.Pairwise (fun a b => a.1 ≤ b.1) → p ≤ placeN size l p ∧ freeAt l size (placeN size l p) ∧ ∀ q, p ≤ q → freeAt l size q → placeN size l p ≤ q
  | [], p, _ => ⟨Int.le_refl _, (fun b hb => by cases hb), fun q hq _ => hq⟩
  | b :: l, p, hs => by
    rw [List.pairwise_cons] at hs
    unfold placeN
    by_cases h : p + size ≤ b.1
    · rw [if_pos h]
      refine ⟨Int.le_refl _, fun c hc => ?_, fun q hq _ => hq⟩
      rcases List.mem_cons.1 hc with rfl | hc
      · exact .inl h
      · have := hs.1 c hc; exact .inl (by omega)
    · rw [if_neg h]
      obtain ⟨h1, h2, h3⟩ := placeN_least size l (max p (b.2 + 1)) hs.2
      refine ⟨by omega, fun c hc => ?_, fun q hq hf => ?_⟩
      · rcases List.mem_cons.1 hc with rfl | hc
        · exact .inr (by omega)
        · exact h2 c hc
      · have hb := hf b (List.mem_cons_self ..)
        exact h3 q (by omega) (fun c hc => hf c (List.mem_cons_of_mem _ hc))
theorem placeN_only {size : Int} {l l' : List (Int × Int)} (hm : ∀ b, b ∈ l ↔ b ∈ l') (hs : l.Pairwise (fun a b => a.1 ≤ b.1)) {r : Int} (h0 : 0 ≤ r) (hf : freeAt l' size r) (hr : ∀ q, 0 ≤ q → freeAt l' size q → r ≤ q) : placeN size l 0 = r := by
  obtain ⟨h1, h2, h3⟩ := placeN_least size l 0 hs
  have a := h3 r h0 (fun b hb => hf b ((hm b).1 hb))
  have b := hr _ h1 (fun b hb => h2 b ((hm b).2 hb))
  omega
theorem placeN_top {size T : Int} : ∀ {l : List (Int × Int)} {p : Int}, (∀ b ∈ l, b.2 + 1 ≤ T) → p ≤ T → placeN size l p ≤ T
  | [], p, _, hp => hp
  | b :: l, p, hb, hp => by
    unfold placeN
    split
    · exact hp
    · have := hb b (List.mem_cons_self ..)
      exact placeN_top (fun c hc => hb c (List.mem_cons_of_mem _ hc)) (by omega)
end Go.Proofs.YtihliofhhjjeaaaGreat
namespace Go.Proofs.YtihliofhhjjeaaaGreat
def stepAt : List Int → Int → Int
  | [], _ => -1
  | o :: l, p => if o = p then 0 else if stepAt l p < 0 then -1 else stepAt l p + 1
theorem stepAt_bd : ∀ (l : List Int) (p : Int), -1 ≤ stepAt l p ∧ stepAt l p < l.length
  | [], p => by simp [stepAt]
  | o :: l, p => by
    have ih := stepAt_bd l p
    unfold stepAt
    rw [List.length_cons]
    split
    · omega
    · split <;> omega
theorem stepAt_mem : ∀ {l : List Int} {p : Int}, 0 ≤ stepAt l p ↔ p ∈ l
  | [], p => by simp [stepAt]
  | o :: l, p => by
    have ih := stepAt_mem (l := l) (p := p)
    unfold stepAt
    by_cases h : o = p
    · subst h; simp
    · rw [if_neg h]
      have h' : ¬ p = o := fun e => h e.symm
      rw [List.mem_cons, or_iff_right h', ← ih]
      split <;> omega
theorem stepAt_get : ∀ {l : List Int} {p : Int}, 0 ≤ stepAt l p → l.getD (stepAt l p).toNat 0 = p
  | [], p, h => by simp [stepAt] at h
  | o :: l, p, h => by
    unfold stepAt at h ⊢
    by_cases ho : o = p
    · rw [if_pos ho]; simpa using ho
    · rw [if_neg ho] at h ⊢
      by_cases hn : stepAt l p < 0
      · rw [if_pos hn] at h; omega
      · rw [if_neg hn]
        have ih := stepAt_get (l := l) (p := p) (by omega)
        have e : (stepAt l p + 1).toNat = (stepAt l p).toNat + 1 := by omega
        rw [e, List.getD_cons_succ]
        exact ih
theorem stepAt_snoc : ∀ {l : List Int} {o : Int} (p : Int), o ∉ l → stepAt (l ++ [o]) p = if o = p then (l.length : Int) else stepAt l p
  | [], o, p, _ => by simp [stepAt]
  | x :: l, o, p, h => by
    rw [List.mem_cons, not_or] at h
    have ih := stepAt_snoc (l := l) (o := o) p h.2
    show (if x = p then (0 : Int) else if stepAt (l ++ [o]) p < 0 then -1 else stepAt (l ++ [o]) p + 1) = if o = p then (((x :: l).length : Nat) : Int) else (if x = p then (0 : Int) else if stepAt l p < 0 then -1 else stepAt l p + 1)
    rw [ih]
    by_cases hx : x = p
    · have ho : o ≠ p := fun e => h.1 (by rw [e, hx])
      rw [if_pos hx, if_neg ho, if_pos hx]
    · rw [if_neg hx]
      by_cases ho : o = p
      · rw [if_pos ho, if_pos ho, if_neg (by omega), List.length_cons]; push_cast; rfl
      · rw [if_neg ho, if_neg ho, if_neg hx]
theorem stepAt_self : ∀ {l : List Int}, l.Nodup → ∀ {i : Nat}, i < l.length → stepAt l (l.getD i 0) = i
  | [], _, i, h => by simp at h
  | x :: l, hn, 0, _ => by simp [stepAt]
  | x :: l, hn, i + 1, h => by
    rw [List.nodup_cons] at hn
    rw [List.length_cons] at h
    have hi : i < l.length := by omega
    have ih := stepAt_self hn.2 hi
    rw [List.getD_cons_succ]
    have hm : l.getD i 0 ∈ l := by rw [List.getD_eq_getElem?_getD, List.getElem?_eq_getElem hi]; exact List.getElem_mem hi
    have hx : x ≠ l.getD i 0 := fun e => hn.1 (by rw [e]; exact hm)
    unfold stepAt
    rw [if_neg hx, ih, if_neg (by omega)]
    omega
end Go.Proofs.YtihliofhhjjeaaaGreat
namespace Go.Proofs.YtihliofhhjjeaaaGreat
structure Gp where
  N : Nat
  src : Nat → List Int
  kept : Nat → Bool
  ar : Nat → Int
  last : Int
structure Gp.Right (G : Gp) : Prop where
  hN : 1 ≤ G.N ∧ G.N ≤ 12
  src : ∀ k, k < G.N → ∀ s ∈ G.src k, 0 ≤ s ∧ s < k
  ar : ∀ k, k < G.N → 1 ≤ G.ar k ∧ G.ar k ≤ 256
  last : 0 ≤ G.last ∧ G.last < G.N
  kept : G.kept G.last.toNat = true
def allTo (p : Nat → Bool) : Nat → Bool
  | 0 => true
  | k + 1 => allTo p k && p k
theorem allTo_iff (p : Nat → Bool) : ∀ n, allTo p n = true ↔ ∀ k, k < n → p k = true
  | 0 => by simp [allTo]
  | n + 1 => by
    rw [allTo, Bool.and_eq_true, allTo_iff p n]
    constructor
    · intro ⟨h, h'⟩ k hk
      by_cases e : k = n
      · rw [e]; exact h'
      · exact h k (by omega)
    · intro h
      exact ⟨fun k hk => h k (by omega), h n (by omega)⟩
theorem allTo_succ {p : Nat → Bool} {k : Nat} (h : allTo p k = true) (h' : p k = true) : allTo p (k + 1) = true := by simp [allTo, h, h']
theorem allTo_not {p : Nat → Bool} {k n : Nat} (hk : k < n) (h : p k = false) : allTo p n = false := by
  rw [Bool.eq_false_iff]
  intro e
  have := (allTo_iff p n).1 e k hk
  rw [h] at this
  cases this
def onceP (os : List Int) (N k : Nat) : Bool := decide (0 ≤ os.getD k 0) && decide (os.getD k 0 < N) && decide (stepAt (os.take k) (os.getD k 0) < 0)
def onceB (os : List Int) (N : Nat) : Bool := allTo (onceP os N) os.length
def hasP (kept : Nat → Bool) (os : List Int) (k : Nat) : Bool := !kept k || decide (0 ≤ stepAt os k)
def hasAllB (kept : Nat → Bool) (os : List Int) (N : Nat) : Bool := allTo (hasP kept os) N
def behS (os : List Int) (step : Int) (l : List Int) (t : Nat) : Bool := decide (0 ≤ stepAt os (l.getD t 0)) && decide (stepAt os (l.getD t 0) ≤ step)
def behP (src : Nat → List Int) (os : List Int) (k : Nat) : Bool := decide (stepAt os k < 0) || allTo (behS os (stepAt os k) (src k)) (src k).length
def behB (src : Nat → List Int) (os : List Int) (N : Nat) : Bool := allTo (behP src os) N
def plcP (os pl : List Int) (k : Nat) : Bool := if 0 ≤ stepAt os k then decide (0 ≤ pl.getD k 0) && decide (pl.getD k 0 ≤ 4096) else decide (pl.getD k 0 = -1)
def plcB (os pl : List Int) (N : Nat) : Bool := decide (pl.length = N) && allTo (plcP os pl) N
def ordB (G : Gp) (os pl : List Int) : Bool := onceB os G.N && hasAllB G.kept os G.N && behB G.src os G.N && plcB os pl G.N
def refS (os : List Int) (i : Int) (l : List Int) (t : Nat) : Bool := decide (0 ≤ stepAt os (l.getD t 0)) && decide (stepAt os (l.getD t 0) < i)
def refP (src : Nat → List Int) (N : Nat) (os : List Int) (i : Nat) : Bool := decide (0 ≤ os.getD i 0) && decide (os.getD i 0 ≤ (N : Int) - 1) && decide (stepAt os (os.getD i 0) = i) && allTo (refS os i (src (os.getD i 0).toNat)) (src (os.getD i 0).toNat).length
def refQ (kept : Nat → Bool) (os pl : List Int) (k : Nat) : Bool := !((kept k && !decide (0 ≤ stepAt os k)) || (decide (0 ≤ stepAt os k) && !(decide (0 ≤ pl.getD k 0) && decide (pl.getD k 0 ≤ 4096))) || (!decide (0 ≤ stepAt os k) && !decide (pl.getD k 0 = -1)))
def refB (G : Gp) (os pl : List Int) : Bool := decide (pl.length = G.N) && decide (os.length ≤ G.N) && allTo (refP G.src G.N os) os.length && allTo (refQ G.kept os pl) G.N
theorem getD_in {l : List Int} {k : Nat} (h : k < l.length) : l.getD k 0 ∈ l := by
  rw [List.getD_eq_getElem?_getD, List.getElem?_eq_getElem h]; exact List.getElem_mem h
theorem mem_getD {l : List Int} {x : Int} (h : x ∈ l) : ∃ k, k < l.length ∧ l.getD k 0 = x := by
  obtain ⟨k, hk, e⟩ := List.mem_iff_getElem.1 h
  exact ⟨k, hk, by rw [List.getD_eq_getElem?_getD, List.getElem?_eq_getElem hk]; exact e⟩
theorem once_to {os : List Int} {N : Nat} : ∀ {n : Nat}, n ≤ os.length → (allTo (onceP os N) n = true ↔ (∀ o ∈ os.take n, 0 ≤ o ∧ o < N) ∧ (os.take n).Nodup)
  | 0, _ => by simp [allTo]
  | n + 1, hn => by
    have ih := once_to (os := os) (N := N) (n := n) (by omega)
    have hl : n < os.length := by omega
    rw [allTo, Bool.and_eq_true, ih, List.take_succ_eq_append_getElem hl]
    have e : os.getD n 0 = os[n] := by rw [List.getD_eq_getElem?_getD, List.getElem?_eq_getElem hl]; rfl
    unfold onceP
    rw [e]
    simp only [Bool.and_eq_true, decide_eq_true_eq, List.mem_append, List.mem_singleton, List.nodup_append, List.nodup_cons, List.not_mem_nil, not_false_eq_true, List.nodup_nil, and_true, true_and]
    have hm : stepAt (os.take n) os[n] < 0 ↔ os[n] ∉ os.take n := by rw [← stepAt_mem]; omega
    rw [hm]
    constructor
    · rintro ⟨⟨h1, h2⟩, ⟨h3, h4⟩, h5⟩
      refine ⟨fun o ho => ?_, h2, fun a ha b hb => ?_⟩
      · rcases ho with ho | rfl
        · exact h1 o ho
        · exact ⟨h3, h4⟩
      · subst hb; intro e; subst e; exact h5 ha
    · rintro ⟨h1, h2, h3⟩
      exact ⟨⟨fun o ho => h1 o (.inl ho), h2⟩, h1 _ (.inr rfl), fun hm => h3 _ hm _ rfl rfl⟩
theorem onceB_iff {os : List Int} {N : Nat} : onceB os N = true ↔ (∀ o ∈ os, 0 ≤ o ∧ o < N) ∧ os.Nodup := by
  have := once_to (os := os) (N := N) (n := os.length) (Nat.le_refl _)
  rwa [List.take_length] at this
theorem nodup_len : ∀ (N : Nat) (l : List Int), l.Nodup → (∀ x ∈ l, 0 ≤ x ∧ x < N) → l.length ≤ N
  | 0, l, _, h => by
    cases l with
    | nil => simp
    | cons x l => have := h x (List.mem_cons_self ..); omega
  | N + 1, l, hn, h => by
    have ih := nodup_len N (l.filter fun x => !decide (x = (N : Int))) (hn.filter _) (fun x hx => by
      obtain ⟨h1, h2⟩ := List.mem_filter.1 hx
      have := h x h1
      simp at h2
      omega)
    have h2 : ∀ (l : List Int), l.Nodup → l.length ≤ (l.filter fun x => !decide (x = (N : Int))).length + 1 := by
      intro l hl
      induction l with
      | nil => simp
      | cons y l ih =>
        rw [List.nodup_cons] at hl
        by_cases hy : y = (N : Int)
        · have : (l.filter fun x => !decide (x = (N : Int))) = l := by
            rw [List.filter_eq_self]
            intro x hx
            have : x ≠ (N : Int) := fun e => hl.1 (by rw [hy, ← e]; exact hx)
            simpa using this
          simp [hy, this]
        · have := ih hl.2
          simp [hy]
          exact this
    have := h2 l hn
    omega
theorem nodup_of_steps : ∀ {l : List Int}, (∀ i, i < l.length → stepAt l (l.getD i 0) = i) → l.Nodup
  | [], _ => List.nodup_nil
  | x :: l, h => by
    rw [List.nodup_cons]
    constructor
    · intro hm
      obtain ⟨k, hk, e⟩ := mem_getD hm
      have := h (k + 1) (by simpa using hk)
      rw [List.getD_cons_succ, e] at this
      simp [stepAt] at this
      omega
    · refine nodup_of_steps fun i hi => ?_
      have := h (i + 1) (by simpa using hi)
      rw [List.getD_cons_succ] at this
      unfold stepAt at this
      split at this
      · omega
      · split at this <;> omega
theorem ord_ref {G : Gp} (hG : G.Right) (os pl : List Int) : ordB G os pl = refB G os pl := by
  rw [Bool.eq_iff_iff]
  unfold ordB refB hasAllB behB plcB
  simp only [Bool.and_eq_true, decide_eq_true_eq]
  rw [onceB_iff, allTo_iff, allTo_iff, allTo_iff, allTo_iff, allTo_iff]
  constructor
  · rintro ⟨⟨⟨⟨h1, h2⟩, h3⟩, h4⟩, h5, h6⟩
    refine ⟨⟨⟨h5, nodup_len _ _ h2 h1⟩, fun i hi => ?_⟩, fun k hk => ?_⟩
    · have ho := h1 _ (getD_in hi)
      have hs := stepAt_self h2 hi
      have hb := h4 (os.getD i 0).toNat (by omega)
      have et : (((os.getD i 0).toNat : Nat) : Int) = os.getD i 0 := by omega
      unfold behP at hb
      rw [et, hs, Bool.or_eq_true, allTo_iff] at hb
      unfold refP
      simp only [Bool.and_eq_true, decide_eq_true_eq]
      refine ⟨⟨⟨ho.1, by omega⟩, hs⟩, ?_⟩
      rw [allTo_iff]
      intro t ht
      rcases hb with hb | hb
      · simp at hb; omega
      · have := hb t ht
        unfold behS at this
        unfold refS
        simp only [Bool.and_eq_true, decide_eq_true_eq] at this ⊢
        refine ⟨this.1, ?_⟩
        have hsrc := hG.src (os.getD i 0).toNat (by omega) _ (getD_in ht)
        have hne : stepAt os ((G.src (os.getD i 0).toNat).getD t 0) ≠ i := by
          intro e
          have := stepAt_get this.1
          rw [e, Int.toNat_natCast] at this
          omega
        omega
    · have a := h3 k hk
      have b := h6 k hk
      unfold hasP at a
      unfold plcP at b
      unfold refQ
      by_cases hd : 0 ≤ stepAt os k
      · rw [if_pos hd] at b
        simp only [Bool.and_eq_true, decide_eq_true_eq] at b
        simp [hd]
        simpa using b
      · rw [if_neg hd] at b
        simp [hd] at a b
        simp [hd, a, b]
  · rintro ⟨⟨⟨h5, hl⟩, h7⟩, h8⟩
    have h7' : ∀ i, i < os.length → (0 ≤ os.getD i 0 ∧ os.getD i 0 < G.N) ∧ stepAt os (os.getD i 0) = i ∧ ∀ t, t < (G.src (os.getD i 0).toNat).length → 0 ≤ stepAt os ((G.src (os.getD i 0).toNat).getD t 0) ∧ stepAt os ((G.src (os.getD i 0).toNat).getD t 0) < i := by
      intro i hi
      have := h7 i hi
      unfold refP at this
      simp only [Bool.and_eq_true, decide_eq_true_eq, allTo_iff] at this
      obtain ⟨⟨⟨a, b⟩, c⟩, d⟩ := this
      refine ⟨⟨a, by omega⟩, c, fun t ht => ?_⟩
      have := d t ht
      unfold refS at this
      simpa using this
    have h1 : ∀ o ∈ os, 0 ≤ o ∧ o < G.N := fun o ho => by
      obtain ⟨i, hi, rfl⟩ := mem_getD ho
      exact (h7' i hi).1
    have h2 : os.Nodup := nodup_of_steps fun i hi => (h7' i hi).2.1
    refine ⟨⟨⟨⟨h1, h2⟩, fun k hk => ?_⟩, fun k hk => ?_⟩, h5, fun k hk => ?_⟩
    · have := h8 k hk
      unfold refQ at this
      unfold hasP
      by_cases hd : 0 ≤ stepAt os k
      · simp [hd]
      · simp [hd] at this
        simp [hd, this]
    · unfold behP
      rw [Bool.or_eq_true, allTo_iff]
      by_cases hd : stepAt os k < 0
      · left; simpa using hd
      · right
        have hb := stepAt_bd os k
        obtain ⟨i, hi⟩ := Int.eq_ofNat_of_zero_le (show 0 ≤ stepAt os k by omega)
        have hg := stepAt_get (l := os) (p := k) (by omega)
        rw [hi, Int.toNat_natCast] at hg
        have := (h7' i (by omega)).2.2
        rw [hg, Int.toNat_natCast] at this
        intro t ht
        have := this t ht
        unfold behS
        simp only [Bool.and_eq_true, decide_eq_true_eq]
        omega
    · have := h8 k hk
      unfold refQ at this
      unfold plcP
      by_cases hd : 0 ≤ stepAt os k
      · simp [hd] at this
        simp [hd, this]
      · simp [hd] at this
        simp [hd, this]
end Go.Proofs.YtihliofhhjjeaaaGreat
namespace Go.Proofs.YtihliofhhjjeaaaGreat
def ltk (src : Nat → List Int) (os : List Int) (k d : Int) : Nat → Int
  | 0 => d
  | n + 1 => if k ∈ src (os.getD n 0).toNat then n else ltk src os k d n
def spanP (G : Gp) (os : List Int) (k : Nat) : Int × Int := (stepAt os k, if (k : Int) = G.last then (os.length : Int) - 1 else ltk G.src os k (stepAt os k) os.length)
def lieP (G : Gp) (os pl : List Int) (k : Nat) : Int × Int := if 0 ≤ stepAt os k then (pl.getD k 0, pl.getD k 0 + G.ar k - 1) else (0, 0)
def meetB (a b : Int × Int) : Bool := decide (a.1 ≤ b.2) && decide (b.1 ≤ a.2)
def peakT (os : List Int) (lie : Nat → Int × Int) : Nat → Int
  | 0 => 0
  | n + 1 => max (peakT os lie n) ((lie (os.getD n 0).toNat).2 + 1)
def apartT (os : List Int) (span lie : Nat → Int × Int) (i j : Nat) : Bool := !(meetB (span (os.getD i 0).toNat) (span (os.getD j 0).toNat) && meetB (lie (os.getD i 0).toNat) (lie (os.getD j 0).toNat))
def clearT (os : List Int) (span lie : Nat → Int × Int) (n : Nat) : Bool := allTo (fun i => allTo (apartT os span lie i) i) n
def apartR (ar : Nat → Int) (pl : List Int) (span : Nat → Int × Int) (k j : Nat) : Bool := !(!decide (pl.getD j 0 = -1) && meetB (span k) (span j) && decide (pl.getD k 0 < pl.getD j 0 + ar j) && decide (pl.getD j 0 < pl.getD k 0 + ar k))
def fitR (ar : Nat → Int) (pl : List Int) (span : Nat → Int × Int) (room : Int) (k : Nat) : Bool := decide (pl.getD k 0 = -1) || (decide (0 ≤ pl.getD k 0) && decide (pl.getD k 0 ≤ room - ar k) && allTo (apartR ar pl span k) k)
def fitsR (ar : Nat → Int) (pl : List Int) (span : Nat → Int × Int) (room : Int) (N : Nat) : Bool := allTo (fitR ar pl span room) N
structure Ord (G : Gp) (os pl : List Int) : Prop where
  inN : ∀ o ∈ os, 0 ≤ o ∧ o < G.N
  nodup : os.Nodup
  has : ∀ k, k < G.N → G.kept k = true → (k : Int) ∈ os
  beh : ∀ k, k < G.N → (k : Int) ∈ os → ∀ s ∈ G.src k, s ∈ os ∧ stepAt os s ≤ stepAt os k
  len : pl.length = G.N
  at_ : ∀ k, k < G.N → (k : Int) ∈ os → 0 ≤ pl.getD k 0 ∧ pl.getD k 0 ≤ 4096
  no : ∀ k, k < G.N → (k : Int) ∉ os → pl.getD k 0 = -1
theorem ord_iff {G : Gp} {os pl : List Int} : ordB G os pl = true ↔ Ord G os pl := by
  unfold ordB hasAllB behB plcB
  simp only [Bool.and_eq_true, decide_eq_true_eq]
  rw [onceB_iff, allTo_iff, allTo_iff, allTo_iff]
  constructor
  · rintro ⟨⟨⟨⟨h1, h2⟩, h3⟩, h4⟩, h5, h6⟩
    refine ⟨h1, h2, fun k hk hK => ?_, fun k hk hm s hs => ?_, h5, fun k hk hm => ?_, fun k hk hm => ?_⟩
    · have := h3 k hk
      unfold hasP at this
      rw [hK] at this
      rw [← stepAt_mem]; simpa using this
    · have := h4 k hk
      have hp := stepAt_mem.2 hm
      unfold behP at this
      rw [Bool.or_eq_true, allTo_iff] at this
      rcases this with this | this
      · simp at this; omega
      · obtain ⟨t, ht, e⟩ := mem_getD hs
        have := this t ht
        unfold behS at this
        rw [e] at this
        simp only [Bool.and_eq_true, decide_eq_true_eq] at this
        exact ⟨stepAt_mem.1 this.1, this.2⟩
    · have := h6 k hk
      unfold plcP at this
      rw [if_pos (stepAt_mem.2 hm)] at this
      simpa only [Bool.and_eq_true, decide_eq_true_eq] using this
    · have := h6 k hk
      unfold plcP at this
      rw [if_neg (fun h => hm (stepAt_mem.1 h))] at this
      simpa only [decide_eq_true_eq] using this
  · rintro ⟨h1, h2, h3, h4, h5, h6, h7⟩
    refine ⟨⟨⟨⟨h1, h2⟩, fun k hk => ?_⟩, fun k hk => ?_⟩, h5, fun k hk => ?_⟩
    · unfold hasP
      cases hK : G.kept k with
      | false => rfl
      | true => simpa using stepAt_mem.2 (h3 k hk hK)
    · unfold behP
      rw [Bool.or_eq_true, allTo_iff]
      by_cases hd : stepAt os k < 0
      · left; simpa using hd
      · right
        intro t ht
        have := h4 k hk (stepAt_mem.1 (by omega)) _ (getD_in ht)
        unfold behS
        simp only [Bool.and_eq_true, decide_eq_true_eq]
        exact ⟨stepAt_mem.2 this.1, this.2⟩
    · unfold plcP
      by_cases hd : 0 ≤ stepAt os k
      · rw [if_pos hd]
        simpa only [Bool.and_eq_true, decide_eq_true_eq] using h6 k hk (stepAt_mem.1 hd)
      · rw [if_neg hd]
        simpa only [decide_eq_true_eq] using h7 k hk (fun h => hd (stepAt_mem.2 h))
theorem Ord.no_iff {G : Gp} {os pl : List Int} (h : Ord G os pl) {k : Nat} (hk : k < G.N) : pl.getD k 0 = -1 ↔ ¬ (k : Int) ∈ os := by
  constructor
  · intro e hm
    have := h.at_ k hk hm
    omega
  · exact h.no k hk
theorem Ord.lie {G : Gp} {os pl : List Int} {k : Nat} (hm : (k : Int) ∈ os) : lieP G os pl k = (pl.getD k 0, pl.getD k 0 + G.ar k - 1) := by
  unfold lieP; rw [if_pos (stepAt_mem.2 hm)]
theorem os_nat {G : Gp} {os pl : List Int} (h : Ord G os pl) {i : Nat} (hi : i < os.length) : ∃ k : Nat, k < G.N ∧ os.getD i 0 = k ∧ (k : Int) ∈ os := by
  have ho := h.inN _ (getD_in hi)
  refine ⟨(os.getD i 0).toNat, by omega, by omega, ?_⟩
  have := getD_in hi
  rwa [show os.getD i 0 = (((os.getD i 0).toNat : Nat) : Int) by omega] at this
theorem peakT_le {os : List Int} {lie : Nat → Int × Int} {r : Int} : ∀ {n : Nat}, n ≤ os.length → (peakT os lie n ≤ r ↔ 0 ≤ r ∧ ∀ i, i < n → (lie (os.getD i 0).toNat).2 + 1 ≤ r)
  | 0, _ => by simp [peakT]
  | n + 1, hn => by
    have ih := peakT_le (os := os) (lie := lie) (r := r) (n := n) (by omega)
    unfold peakT
    rw [Int.max_le, ih]
    constructor
    · rintro ⟨⟨h0, h1⟩, h2⟩
      refine ⟨h0, fun i hi => ?_⟩
      by_cases e : i = n
      · rw [e]; exact h2
      · exact h1 i (by omega)
    · rintro ⟨h0, h1⟩
      exact ⟨⟨h0, fun i hi => h1 i (by omega)⟩, h1 n (by omega)⟩
theorem all_os {G : Gp} {os pl : List Int} (h : Ord G os pl) (P : Nat → Prop) : (∀ i, i < os.length → P (os.getD i 0).toNat) ↔ ∀ k, k < G.N → (k : Int) ∈ os → P k := by
  constructor
  · intro hp k hk hm
    obtain ⟨i, hi, e⟩ := mem_getD hm
    have := hp i hi
    rw [e] at this
    simpa using this
  · intro hp i hi
    obtain ⟨k, hk, e, hm⟩ := os_nat h hi
    rw [e]
    exact hp k hk hm
theorem meetB_comm (a b : Int × Int) : meetB a b = meetB b a := by unfold meetB; rw [Bool.and_comm]
def Clear (os : List Int) (span lie : Nat → Int × Int) : Prop := ∀ a b : Nat, (a : Int) ∈ os → (b : Int) ∈ os → a ≠ b → meetB (span a) (span b) = true → meetB (lie a) (lie b) = true → False
theorem clearT_iff {G : Gp} {os pl : List Int} (h : Ord G os pl) (span lie : Nat → Int × Int) : clearT os span lie os.length = true ↔ Clear os span lie := by
  unfold clearT Clear
  rw [allTo_iff]
  constructor
  · intro hc a b ha hb hab h1 h2
    obtain ⟨i, hi, ei⟩ := mem_getD ha
    obtain ⟨j, hj, ej⟩ := mem_getD hb
    have key : ∀ i j, i < os.length → j < i → ∀ a b : Nat, os.getD i 0 = a → os.getD j 0 = b → meetB (span a) (span b) = true → meetB (lie a) (lie b) = true → False := by
      intro i j hi hj a b ea eb h1 h2
      have := hc i hi
      simp only [allTo_iff] at this
      have := this j hj
      unfold apartT at this
      rw [ea, eb, Int.toNat_natCast, Int.toNat_natCast, h1, h2] at this
      cases this
    rcases Nat.lt_trichotomy i j with hij | hij | hij
    · exact key j i hj hij b a ej ei (by rw [meetB_comm]; exact h1) (by rw [meetB_comm]; exact h2)
    · subst hij; rw [ei] at ej; omega
    · exact key i j hi hij a b ei ej h1 h2
  · intro hc i hi
    simp only [allTo_iff]
    intro j hj
    obtain ⟨a, _, ea, ha⟩ := os_nat h hi
    obtain ⟨b, _, eb, hb⟩ := os_nat h (show j < os.length by omega)
    have hab : a ≠ b := by
      intro e
      have h1 := stepAt_self h.nodup hi
      have h2 := stepAt_self h.nodup (show j < os.length by omega)
      rw [ea, e, ← eb, h2] at h1
      omega
    unfold apartT
    rw [ea, eb, Int.toNat_natCast, Int.toNat_natCast]
    cases h1 : meetB (span a) (span b)
    · rfl
    · cases h2 : meetB (lie a) (lie b)
      · rfl
      · exact (hc a b ha hb hab h1 h2).elim
theorem fits_ref {G : Gp} {os pl : List Int} (h : Ord G os pl) (span : Nat → Int × Int) {room : Int} (hr : 0 ≤ room) : fitsR G.ar pl span room G.N = true ↔ peakT os (lieP G os pl) os.length ≤ room ∧ clearT os span (lieP G os pl) os.length = true := by
  rw [clearT_iff h, peakT_le (Nat.le_refl _), all_os h (fun k => (lieP G os pl k).2 + 1 ≤ room)]
  unfold fitsR
  rw [allTo_iff]
  constructor
  · intro hf
    have hf' : ∀ k, k < G.N → (k : Int) ∈ os → pl.getD k 0 ≤ room - G.ar k ∧ ∀ j, j < k → (j : Int) ∈ os → meetB (span k) (span j) = true → pl.getD k 0 < pl.getD j 0 + G.ar j → pl.getD j 0 < pl.getD k 0 + G.ar k → False := by
      intro k hk hm
      have := hf k hk
      unfold fitR at this
      have hne : ¬ pl.getD k 0 = -1 := fun e => ((h.no_iff hk).1 e) hm
      rw [decide_eq_false hne, Bool.false_or] at this
      simp only [Bool.and_eq_true, decide_eq_true_eq, allTo_iff] at this
      refine ⟨this.1.2, fun j hj hmj h1 h2 h3 => ?_⟩
      have := this.2 j hj
      unfold apartR at this
      have hne : ¬ pl.getD j 0 = -1 := fun e => ((h.no_iff (by omega)).1 e) hmj
      rw [decide_eq_false hne, h1, decide_eq_true h2, decide_eq_true h3] at this
      cases this
    refine ⟨⟨hr, fun k hk hm => ?_⟩, fun a b ha hb hab h1 h2 => ?_⟩
    · rw [Ord.lie hm]; have := (hf' k hk hm).1; simp only; omega
    · rw [Ord.lie ha, Ord.lie hb] at h2
      have hA := h.inN _ ha
      have hB := h.inN _ hb
      unfold meetB at h2
      simp only [Bool.and_eq_true, decide_eq_true_eq] at h2
      rcases Nat.lt_or_gt_of_ne hab with hl | hl
      · exact (hf' b (by omega) hb).2 a hl ha (by rw [meetB_comm]; exact h1) (by omega) (by omega)
      · exact (hf' a (by omega) ha).2 b hl hb h1 (by omega) (by omega)
  · rintro ⟨⟨_, hp⟩, hc⟩ k hk
    unfold fitR
    by_cases hm : (k : Int) ∈ os
    · have h1 := hp k hk hm
      rw [Ord.lie hm] at h1
      simp only at h1
      have h2 := h.at_ k hk hm
      rw [Bool.or_eq_true]; right
      simp only [Bool.and_eq_true, decide_eq_true_eq, allTo_iff]
      refine ⟨⟨h2.1, by omega⟩, fun j hj => ?_⟩
      unfold apartR
      by_cases hmj : (j : Int) ∈ os
      · cases e1 : meetB (span k) (span j)
        · simp
        · by_cases e2 : pl.getD k 0 < pl.getD j 0 + G.ar j
          · by_cases e3 : pl.getD j 0 < pl.getD k 0 + G.ar k
            · refine (hc k j hm hmj (by omega) e1 ?_).elim
              rw [Ord.lie hm, Ord.lie hmj]
              unfold meetB
              simp only [Bool.and_eq_true, decide_eq_true_eq]
              omega
            · rw [decide_eq_false e3]; simp
          · rw [decide_eq_false e2]; simp
      · rw [decide_eq_true (h.no j (by omega) hmj)]; simp
    · rw [decide_eq_true (h.no k hk hm)]; rfl
end Go.Proofs.YtihliofhhjjeaaaGreat
namespace Go.Proofs.YtihliofhhjjeaaaGreat
theorem Ord.pos {G : Gp} (hG : G.Right) {os pl : List Int} (h : Ord G os pl) : G.last ∈ os := by
  have := h.has G.last.toNat (by have := hG.last; omega) hG.kept
  rwa [show ((G.last.toNat : Nat) : Int) = G.last by have := hG.last; omega] at this
theorem Ord.olen {G : Gp} {os pl : List Int} (h : Ord G os pl) : os.length ≤ G.N := nodup_len _ _ h.nodup h.inN
theorem lie_bd {G : Gp} (hG : G.Right) {os pl : List Int} (h : Ord G os pl) {k : Nat} (hk : k < G.N) : (0 ≤ (lieP G os pl k).1 ∧ (lieP G os pl k).1 ≤ 4096) ∧ (0 ≤ (lieP G os pl k).2 ∧ (lieP G os pl k).2 ≤ 4352) ∧ (lieP G os pl k).1 ≤ (lieP G os pl k).2 ∧ (lieP G os pl k).2 ≤ (lieP G os pl k).1 + 255 := by
  by_cases hm : (k : Int) ∈ os
  · rw [Ord.lie hm]
    have h1 := h.at_ k hk hm
    have h2 := hG.ar k hk
    simp only
    omega
  · unfold lieP
    rw [if_neg (fun h => hm (stepAt_mem.1 h))]
    simp
end Go.Proofs.YtihliofhhjjeaaaGreat
