/- SpansRef, PlaceN, FitM, FitM2, PlaceRef, Open: joined, in this order. -/
import Derived.Test.YtaenpgdmiaekcaaGreatDoorS17
import Derived.Test.YtaenpgdmiaekcaaGreatDoorS18
import Derived.Test.YtaenpgdmiaekcaaGreatDoorS04
import Derived.Test.YtaenpgdmiaekcaaGreatDoorS05
import Derived.Test.YtaenpgdmiaekcaaGreatDoorS01
import Derived.ProofKit
import Derived.OpenShut
import Derived.ShutString
import Derived.ChangeOld
import Derived.Below
import Derived.Lib.SmallJoins
/-
  SPANSREF: the reference's SpansOf.
-/
namespace Go.Proofs.YtaenpgdmiaekcaaGreatDoor
set_option maxRecDepth 100000
open Go.RowKit Im Go.Maps

def OwnsS (base : Nat) (w : World) (v : Value) (zs : List Sz) : Prop := w.ownsRow base 111 2 v zs.length (zcells zs)
theorem OwnsS.zs {base : Nat} {w : World} {v : Value} {zs : List Sz} (h : OwnsS base w v zs) (hb : zs.length ≤ 4096) : ∃ a cap, v = .slice a zs.length cap ∧ Zs w a zs.length zs := by
  obtain ⟨h1, h2⟩ := h
  rcases h2 with ⟨rfl, h0⟩ | ⟨g, cap, cur, rfl, hg, hh, hc, hm, hs, ht⟩
  · have : zs = [] := by simpa using h0
    subst this
    exact ⟨none, 0, rfl, Zs.nil w⟩
  · refine ⟨_, cap, rfl, rfl, by omega, .inr ⟨g, 0, rfl, ?_, fun j hj => ?_⟩⟩
    · rcases Nat.lt_or_ge g w.heap.size with h | h
      · exact h
      · rw [Array.getElem?_eq_none h] at hh; cases hh
    · have hl := zcells_len zs
      have hg2 := zcells_get zs j hj
      have this := fun i hi => World.ownsRow.cellAt (base := base) (e := 111) (size := 2) ⟨h1, .inr ⟨g, cap, cur, rfl, hg, hh, hc, hm, hs, ht⟩⟩ i hi
      rw [Nat.zero_add, this (j * 2) (by omega), this (j * 2 + 1) (by omega)]
      exact hg2
theorem OwnsS.push {base : Nat} {w wx w1 : World} {v v' : Value} {zs : List Sz} {z : Sz} {B0 : World} {o : Obj} (h : OwnsS base w v zs) (hb : Below base B0 w) (hB : base ≤ w.heap.size)
    (h' : w1.ownsRow base 111 2 v' (zs.length + 1) (zcells zs ++ [.int .i64 z.1, .int .i64 z.2])) (hx : wx = w.alloc o) (hg : wx.grownBy w1 v.ownBlock) : OwnsS base w1 v' (zs ++ [z]) ∧ Below base B0 w1 := by
  subst hx
  refine ⟨by unfold OwnsS; rw [zcells_snoc]; simpa using h', ?_⟩
  exact (hb.alloc hB o).grown hg (by simp; omega) (fun j hj => (World.ownsRow.lt (w := w) h j hj).1)
/-- A span in a box that may be written. -/
structure SBox (w : World) (b : Nat) (x y : Int) : Prop where
  lt : b < w.heap.size
  c0 : w.cell? ⟨b, 0, none⟩ = some (.int .i64 x)
  c1 : w.cell? ⟨b, 1, none⟩ = some (.int .i64 y)
  fz : ∀ o, w.frozen? ⟨b, o, none⟩ = false
theorem SBox.new (w : World) (x y : Int) (t : TypeId) : SBox (w.alloc (.cells #[.int .i64 x, .int .i64 y] t)) w.heap.size x y := ⟨by simp, by simp [go_sem], by simp [go_sem], fun o => frozen_new w _ _ o⟩
theorem SBox.drew {w : World} {b : Nat} {x y : Int} (h : SBox w b x y) : SBox w.drew b x y := ⟨h.lt, h.c0, h.c1, h.fz⟩
theorem SBox.below {w w' : World} {b : Nat} {x y : Int} (h : SBox w b x y) (hb : Below w.heap.size w w') : SBox w' b x y :=
  ⟨Nat.lt_of_lt_of_le h.lt hb.size, (hb.cell (p := ⟨b, 0, none⟩) h.lt).trans h.c0, (hb.cell (p := ⟨b, 1, none⟩) h.lt).trans h.c1, fun o => (hb.frozen (p := ⟨b, o, none⟩) h.lt).trans (h.fz o)⟩
theorem SBox.put {w : World} {b : Nat} {x y : Int} (h : SBox w b x y) (z : Int) : SBox (w.setCell ⟨b, 1, none⟩ (.int .i64 z)) b x z :=
  ⟨by simpa using h.lt, (set_other _ (fun e => by injection e with e1 e2; omega)).trans h.c0, set_same h.c1, fun o => by simpa using h.fz o⟩
theorem spans_succ (g : Nat → Int × Int) (k : Nat) : (List.range (k + 1)).map g = (List.range k).map g ++ [g k] := by simp [List.range_succ]
end Go.Proofs.YtaenpgdmiaekcaaGreatDoor
/-
  PLACEN: numbers alone: a walk over what is busy, rising by where it begins, ends at the least free place.
-/
namespace Go.Proofs.YtaenpgdmiaekcaaGreatDoor
set_option maxRecDepth 100000

/-- Size numbers from p on meet nothing that is busy. -/
def freeAt (l : List (Int × Int)) (size p : Int) : Prop := ∀ b ∈ l, p + size ≤ b.1 ∨ b.2 + 1 ≤ p
/-- The walk of Place. -/
def placeN (size : Int) : List (Int × Int) → Int → Int
  | [], p => p
  | b :: l, p => if p + size ≤ b.1 then p else placeN size l (max p (b.2 + 1))
theorem placeN_least (size : Int) : ∀ (l : List (Int × Int)) (p : Int), l.Pairwise (fun a b => a.1 ≤ b.1) → p ≤ placeN size l p ∧ freeAt l size (placeN size l p) ∧ ∀ q, p ≤ q → freeAt l size q → placeN size l p ≤ q
  | [], p, _ => ⟨Int.le_refl _, (fun b hb => by cases hb), fun q hq _ => hq⟩
  | b :: l, p, hs => by
    rw [List.pairwise_cons] at hs
    unfold placeN
    by_cases h : p + size ≤ b.1
    · rw [if_pos h]
      refine ⟨Int.le_refl _, fun c hc => ?_, fun q hq _ => hq⟩
      rcases List.mem_cons.1 hc with rfl | hc
      · exact .inl h
      · have := hs.1 c hc; exact .inl (by omega)
    · rw [if_neg h]
      obtain ⟨h1, h2, h3⟩ := placeN_least size l (max p (b.2 + 1)) hs.2
      refine ⟨by omega, fun c hc => ?_, fun q hq hf => ?_⟩
      · rcases List.mem_cons.1 hc with rfl | hc
        · exact .inr (by omega)
        · exact h2 c hc
      · have hb := hf b (List.mem_cons_self ..)
        exact h3 q (by omega) (fun c hc => hf c (List.mem_cons_of_mem _ hc))
/-- The least free place is one alone. -/
theorem placeN_only {size : Int} {l l' : List (Int × Int)} (hm : ∀ b, b ∈ l ↔ b ∈ l') (hs : l.Pairwise (fun a b => a.1 ≤ b.1)) {r : Int} (h0 : 0 ≤ r) (hf : freeAt l' size r) (hr : ∀ q, 0 ≤ q → freeAt l' size q → r ≤ q) : placeN size l 0 = r := by
  obtain ⟨h1, h2, h3⟩ := placeN_least size l 0 hs
  have a := h3 r h0 (fun b hb => hf b ((hm b).1 hb))
  have b := hr _ h1 (fun b hb => h2 b ((hm b).2 hb))
  omega
/-- The place is no greater than where all that is busy has ended. -/
theorem placeN_top {size T : Int} : ∀ {l : List (Int × Int)} {p : Int}, (∀ b ∈ l, b.2 + 1 ≤ T) → p ≤ T → placeN size l p ≤ T
  | [], p, _, hp => hp
  | b :: l, p, hb, hp => by
    unfold placeN
    split
    · exact hp
    · have := hb b (List.mem_cons_self ..)
      exact placeN_top (fun c hc => hb c (List.mem_cons_of_mem _ hc)) (by omega)
end Go.Proofs.YtaenpgdmiaekcaaGreatDoor
/-
  FITM: numbers alone: the least free place; what is compiled, step by step.
-/
namespace Go.Proofs.YtaenpgdmiaekcaaGreatDoor
set_option maxRecDepth 100000

def insP (x : Int × Int) : List (Int × Int) → List (Int × Int)
  | [] => [x]
  | y :: l => if x.1 ≤ y.1 then x :: y :: l else y :: insP x l
def isort (l : List (Int × Int)) : List (Int × Int) := l.foldr insP []
theorem ins_mem (x b : Int × Int) : ∀ l, b ∈ insP x l ↔ b = x ∨ b ∈ l
  | [] => by simp [insP]
  | y :: l => by
    unfold insP
    split
    · simp
    · rw [List.mem_cons, ins_mem x b l, List.mem_cons]
      constructor
      · rintro (h | h | h)
        · exact .inr (.inl h)
        · exact .inl h
        · exact .inr (.inr h)
      · rintro (h | h | h)
        · exact .inr (.inl h)
        · exact .inl h
        · exact .inr (.inr h)
theorem ins_sorted (x : Int × Int) : ∀ l : List (Int × Int), l.Pairwise (fun a b => a.1 ≤ b.1) → (insP x l).Pairwise (fun a b => a.1 ≤ b.1)
  | [], _ => by simp [insP]
  | y :: l, h => by
    rw [List.pairwise_cons] at h
    unfold insP
    split
    · rename_i hx
      rw [List.pairwise_cons, List.pairwise_cons]
      refine ⟨fun b hb => ?_, h⟩
      rcases List.mem_cons.1 hb with rfl | hb
      · exact hx
      · have := h.1 b hb; omega
    · rename_i hx
      rw [List.pairwise_cons]
      refine ⟨fun b hb => ?_, ins_sorted x l h.2⟩
      rcases (ins_mem x b l).1 hb with rfl | hb
      · omega
      · exact h.1 b hb
theorem isort_mem (b : Int × Int) : ∀ l, b ∈ isort l ↔ b ∈ l
  | [] => Iff.rfl
  | x :: l => by show b ∈ insP x (isort l) ↔ _; rw [ins_mem, isort_mem b l, List.mem_cons]
theorem isort_sorted : ∀ l : List (Int × Int), (isort l).Pairwise (fun a b => a.1 ≤ b.1)
  | [] => List.Pairwise.nil
  | x :: l => ins_sorted x _ (isort_sorted l)
/-- The least place from which on size numbers meet nothing that is busy. -/
def placeR (l : List (Int × Int)) (size : Int) : Int := placeN size (isort l) 0
theorem placeR_least (l : List (Int × Int)) (size : Int) : 0 ≤ placeR l size ∧ freeAt l size (placeR l size) ∧ ∀ q, 0 ≤ q → freeAt l size q → placeR l size ≤ q := by
  obtain ⟨h1, h2, h3⟩ := placeN_least size (isort l) 0 (isort_sorted l)
  exact ⟨h1, fun b hb => h2 b ((isort_mem b l).2 hb), fun q hq hf => h3 q hq (fun b hb => hf b ((isort_mem b l).1 hb))⟩
theorem placeR_of {l l' : List (Int × Int)} {size : Int} (hm : ∀ b, b ∈ l' ↔ b ∈ l) (hs : l'.Pairwise (fun a b => a.1 ≤ b.1)) : placeN size l' 0 = placeR l size := by
  obtain ⟨h1, h2, h3⟩ := placeR_least l size
  exact placeN_only hm hs h1 h2 h3
theorem placeR_top {l : List (Int × Int)} {size T : Int} (h : ∀ b ∈ l, b.2 + 1 ≤ T) (hT : 0 ≤ T) : placeR l size ≤ T :=
  placeN_top (fun b hb => h b ((isort_mem b l).1 hb)) hT
/-- The passes that are kept, rising. -/
def cOrd (G : Gp) : Nat → List Int
  | 0 => []
  | n + 1 => if G.kept n = true then cOrd G n ++ [(n : Int)] else cOrd G n
theorem cOrd_mem (G : Gp) (x : Int) : ∀ n, x ∈ cOrd G n ↔ 0 ≤ x ∧ x < n ∧ G.kept x.toNat = true
  | 0 => by simp [cOrd]; omega
  | n + 1 => by
    unfold cOrd
    split
    · rename_i h
      rw [List.mem_append, cOrd_mem G x n, List.mem_singleton]
      constructor
      · rintro (⟨a, b, c⟩ | rfl)
        · exact ⟨a, by omega, c⟩
        · exact ⟨by omega, by omega, by rw [Int.toNat_natCast]; exact h⟩
      · rintro ⟨a, b, c⟩
        by_cases e : x = n
        · exact .inr e
        · exact .inl ⟨a, by omega, c⟩
    · rename_i h
      rw [cOrd_mem G x n]
      constructor
      · rintro ⟨a, b, c⟩; exact ⟨a, by omega, c⟩
      · rintro ⟨a, b, c⟩
        refine ⟨a, ?_, c⟩
        by_cases e : x = n
        · subst e; rw [Int.toNat_natCast] at c; exact (h c).elim
        · omega
theorem cOrd_sorted (G : Gp) : ∀ n, (cOrd G n).Pairwise (· < ·)
  | 0 => List.Pairwise.nil
  | n + 1 => by
    unfold cOrd
    split
    · rw [List.pairwise_append]
      refine ⟨cOrd_sorted G n, by simp, fun a ha b hb => ?_⟩
      rw [List.mem_singleton] at hb
      have := (cOrd_mem G a n).1 ha
      omega
    · exact cOrd_sorted G n
theorem cOrd_len (G : Gp) : ∀ n, (cOrd G n).length ≤ n
  | 0 => Nat.le_refl _
  | n + 1 => by
    have := cOrd_len G n
    unfold cOrd
    split
    · rw [List.length_append]; simp; omega
    · omega
theorem sorted_step : ∀ {l : List Int}, l.Pairwise (· < ·) → ∀ {a b : Int}, a ∈ l → b ∈ l → a < b → stepAt l a ≤ stepAt l b
  | [], _, a, b, ha, _, _ => by cases ha
  | x :: l, h, a, b, ha, hb, hab => by
    rw [List.pairwise_cons] at h
    have hb' : b ∈ l := by
      rcases List.mem_cons.1 hb with rfl | hb
      · rcases List.mem_cons.1 ha with rfl | ha
        · omega
        · have := h.1 a ha; omega
      · exact hb
    have hpb := stepAt_mem.2 hb'
    have hxb : ¬ x = b := fun e => by have := h.1 b hb'; omega
    show (if x = a then (0 : Int) else if stepAt l a < 0 then -1 else stepAt l a + 1) ≤ (if x = b then (0 : Int) else if stepAt l b < 0 then -1 else stepAt l b + 1)
    have eb : (if x = b then (0 : Int) else if stepAt l b < 0 then -1 else stepAt l b + 1) = stepAt l b + 1 := by rw [if_neg hxb, if_neg (by omega)]
    rw [eb]
    rcases List.mem_cons.1 ha with rfl | ha
    · rw [if_pos rfl]; omega
    · have hxa : ¬ x = a := fun e => by have := h.1 a ha; omega
      have hpa := stepAt_mem.2 ha
      rw [if_neg hxa, if_neg (by omega)]
      have := sorted_step h.2 ha hb' hab
      omega
/-- What is kept takes what is kept. -/
def Closed (G : Gp) : Prop := ∀ k, k < G.N → G.kept k = true → ∀ s ∈ G.src k, G.kept s.toNat = true
theorem cOrd_ord {G : Gp} (hG : G.Right) (hC : Closed G) {pl : List Int} (hl : pl.length = G.N) (h1 : ∀ k, k < G.N → G.kept k = true → 0 ≤ pl.getD k 0 ∧ pl.getD k 0 ≤ 4096) (h0 : ∀ k, k < G.N → ¬ G.kept k = true → pl.getD k 0 = -1) : Ord G (cOrd G G.N) pl := by
  refine ⟨fun o ho => ?_, ?_, fun k hk hK => ?_, fun k hk hm s hs => ?_, hl, fun k hk hm => ?_, fun k hk hm => ?_⟩
  · have := (cOrd_mem G o G.N).1 ho; exact ⟨this.1, this.2.1⟩
  · exact (cOrd_sorted G G.N).imp (fun h => by omega)
  · exact (cOrd_mem G k G.N).2 ⟨by omega, by omega, by rw [Int.toNat_natCast]; exact hK⟩
  · have hK := ((cOrd_mem G k G.N).1 hm).2.2
    rw [Int.toNat_natCast] at hK
    have hb := hG.src k hk s hs
    have hm' := (cOrd_mem G s G.N).2 ⟨hb.1, by omega, hC k hk hK s hs⟩
    exact ⟨hm', sorted_step (cOrd_sorted G G.N) hm' hm hb.2⟩
  · have hK := ((cOrd_mem G k G.N).1 hm).2.2
    rw [Int.toNat_natCast] at hK
    exact h1 k hk hK
  · exact h0 k hk (fun hK => hm ((cOrd_mem G k G.N).2 ⟨by omega, by omega, by rw [Int.toNat_natCast]; exact hK⟩))

/-- What is busy at step n, as far as the first m steps tell, their places being qs. -/
def busyQ (G : Gp) (os qs : List Int) (n : Nat) : Nat → List (Int × Int)
  | 0 => []
  | m + 1 => if (n : Int) ≤ (spanP G os (os.getD m 0).toNat).2 then busyQ G os qs n m ++ [(qs.getD m 0, qs.getD m 0 + G.ar (os.getD m 0).toNat - 1)] else busyQ G os qs n m
/-- The places of the first n steps. -/
def qsP (G : Gp) (os : List Int) : Nat → List Int
  | 0 => []
  | n + 1 => qsP G os n ++ [placeR (busyQ G os (qsP G os n) n n) (G.ar (os.getD n 0).toNat)]
theorem qsP_len (G : Gp) (os : List Int) : ∀ n, (qsP G os n).length = n
  | 0 => rfl
  | n + 1 => by unfold qsP; rw [List.length_append, qsP_len G os n]; rfl
theorem qsP_get (G : Gp) (os : List Int) {j : Nat} : ∀ {n : Nat}, j < n → (qsP G os n).getD j 0 = placeR (busyQ G os (qsP G os j) j j) (G.ar (os.getD j 0).toNat)
  | 0, h => by omega
  | n + 1, h => by
    have hl := qsP_len G os n
    have eq : qsP G os (n + 1) = qsP G os n ++ [placeR (busyQ G os (qsP G os n) n n) (G.ar (os.getD n 0).toNat)] := rfl
    rw [eq, List.getD_eq_getElem?_getD]
    by_cases e : j = n
    · subst e
      rw [List.getElem?_append_right (by omega), hl]; simp
    · rw [List.getElem?_append_left (by omega), ← List.getD_eq_getElem?_getD]
      exact qsP_get G os (by omega)
theorem busyQ_mem {G : Gp} {os qs : List Int} {n : Nat} {b : Int × Int} : ∀ {m : Nat}, b ∈ busyQ G os qs n m ↔ ∃ j, j < m ∧ (n : Int) ≤ (spanP G os (os.getD j 0).toNat).2 ∧ b = (qs.getD j 0, qs.getD j 0 + G.ar (os.getD j 0).toNat - 1)
  | 0 => by simp [busyQ]
  | m + 1 => by
    have ih := busyQ_mem (G := G) (os := os) (qs := qs) (n := n) (b := b) (m := m)
    unfold busyQ
    split
    · rename_i h
      rw [List.mem_append, ih, List.mem_singleton]
      constructor
      · rintro (⟨j, h1, h2, h3⟩ | h1)
        · exact ⟨j, by omega, h2, h3⟩
        · exact ⟨m, by omega, h, h1⟩
      · rintro ⟨j, h1, h2, h3⟩
        by_cases e : j = m
        · subst e; exact .inr h3
        · exact .inl ⟨j, by omega, h2, h3⟩
    · rename_i h
      rw [ih]
      constructor
      · rintro ⟨j, h1, h2, h3⟩; exact ⟨j, by omega, h2, h3⟩
      · rintro ⟨j, h1, h2, h3⟩
        by_cases e : j = m
        · subst e; exact (h h2).elim
        · exact ⟨j, by omega, h2, h3⟩
theorem busyQ_len (G : Gp) (os qs : List Int) (n : Nat) : ∀ m, (busyQ G os qs n m).length ≤ m
  | 0 => Nat.le_refl _
  | m + 1 => by
    have := busyQ_len G os qs n m
    unfold busyQ
    split
    · rw [List.length_append]; simp; omega
    · omega
/-- The place of a pass when n steps have been placed; z: of one that has none yet. -/
def plcN (G : Gp) (os : List Int) (z : Nat → Int) (n k : Nat) : Int := if 0 ≤ stepAt (os.take n) k then (qsP G os n).getD (stepAt (os.take n) k).toNat 0 else z k
/-- All images of the first n steps together. -/
def arTo (G : Gp) (os : List Int) : Nat → Int
  | 0 => 0
  | n + 1 => arTo G os n + G.ar (os.getD n 0).toNat
theorem arTo_mono {G : Gp} (hG : G.Right) {os : List Int} (hin : ∀ o ∈ os, 0 ≤ o ∧ o < G.N) : ∀ {n : Nat}, n ≤ os.length → ∀ {m : Nat}, m ≤ n → arTo G os m ≤ arTo G os n
  | 0, _, m, hm => by rw [show m = 0 by omega]; exact Int.le_refl _
  | n + 1, hn, m, hm => by
    by_cases e : m = n + 1
    · rw [e]; exact Int.le_refl _
    · have ih := arTo_mono hG hin (n := n) (by omega) (m := m) (by omega)
      have ho := hin _ (getD_in (show n < os.length by omega))
      have := hG.ar (os.getD n 0).toNat (by omega)
      have eq : arTo G os (n + 1) = arTo G os n + G.ar (os.getD n 0).toNat := rfl
      omega
theorem arTo_bd {G : Gp} (hG : G.Right) {os : List Int} (hin : ∀ o ∈ os, 0 ≤ o ∧ o < G.N) : ∀ {n : Nat}, n ≤ os.length → 0 ≤ arTo G os n ∧ arTo G os n ≤ 256 * n
  | 0, _ => by simp [arTo]
  | n + 1, hn => by
    have ih := arTo_bd hG hin (n := n) (by omega)
    have ho := hin _ (getD_in (show n < os.length by omega))
    have := hG.ar (os.getD n 0).toNat (by omega)
    unfold arTo
    omega
theorem qs_top {G : Gp} (hG : G.Right) {os : List Int} (hin : ∀ o ∈ os, 0 ≤ o ∧ o < G.N) : ∀ (n : Nat), n < os.length → 0 ≤ (qsP G os (n + 1)).getD n 0 ∧ (qsP G os (n + 1)).getD n 0 ≤ arTo G os n := by
  intro n
  induction n using Nat.strongRecOn with
  | ind n ih =>
    intro hn
    rw [qsP_get G os (Nat.lt_succ_self n)]
    refine ⟨(placeR_least _ _).1, placeR_top (fun b hb => ?_) (arTo_bd hG hin (by omega)).1⟩
    obtain ⟨j, hj, _, rfl⟩ := busyQ_mem.1 hb
    have := ih j hj (by omega)
    rw [qsP_get G os (Nat.lt_succ_self j), ← qsP_get G os hj] at this
    have hm := arTo_mono hG hin (n := n) (by omega) (m := j + 1) (by omega)
    have eq : arTo G os (j + 1) = arTo G os j + G.ar (os.getD j 0).toNat := rfl
    simp only
    omega
theorem qs_bd {G : Gp} (hG : G.Right) {os : List Int} (hin : ∀ o ∈ os, 0 ≤ o ∧ o < G.N) {n j : Nat} (hn : n ≤ os.length) (hj : j < n) : 0 ≤ (qsP G os n).getD j 0 ∧ (qsP G os n).getD j 0 + G.ar (os.getD j 0).toNat ≤ arTo G os os.length := by
  have h1 := qs_top hG hin j (by omega)
  rw [qsP_get G os (Nat.lt_succ_self j), ← qsP_get G os hj] at h1
  have hm := arTo_mono hG hin (n := os.length) (Nat.le_refl _) (m := j + 1) (by omega)
  have eq : arTo G os (j + 1) = arTo G os j + G.ar (os.getD j 0).toNat := rfl
  exact ⟨h1.1, by omega⟩
end Go.Proofs.YtaenpgdmiaekcaaGreatDoor
/-
  FITM2: numbers alone: what is compiled fits; its peak is at most all images together, and, if all have one size, its floor.
-/
namespace Go.Proofs.YtaenpgdmiaekcaaGreatDoor
set_option maxRecDepth 100000

theorem getD_map_range (g : Nat → Int) {N k : Nat} (hk : k < N) : ((List.range N).map g).getD k 0 = g k := by simp [List.getD, hk]
/-- The places of what is compiled. -/
def cPl (G : Gp) : List Int := (List.range G.N).map (plcN G (cOrd G G.N) (fun _ => -1) (cOrd G G.N).length)
theorem plcN_end {G : Gp} {os : List Int} {z : Nat → Int} {k : Nat} : plcN G os z os.length k = if 0 ≤ stepAt os k then (qsP G os os.length).getD (stepAt os k).toNat 0 else z k := by
  unfold plcN; rw [List.take_length]
theorem cPl_no {G : Gp} {k : Nat} (hk : k < G.N) (h : ¬ (k : Int) ∈ cOrd G G.N) : (cPl G).getD k 0 = -1 := by
  unfold cPl
  rw [getD_map_range _ hk, plcN_end, if_neg (fun h' => h (stepAt_mem.1 h'))]
theorem cPl_at {G : Gp} {j k : Nat} (hk : k < G.N) (hj : j < (cOrd G G.N).length) (h : (cOrd G G.N).getD j 0 = k) : (cPl G).getD k 0 = (qsP G (cOrd G G.N) (cOrd G G.N).length).getD j 0 := by
  have hs := stepAt_self ((cOrd_sorted G G.N).imp (fun h => by omega)) hj
  rw [h] at hs
  unfold cPl
  rw [getD_map_range _ hk, plcN_end, hs, if_pos (by omega), Int.toNat_natCast]
theorem cOrd_in (G : Gp) : ∀ o ∈ cOrd G G.N, 0 ≤ o ∧ o < G.N := fun o ho => by have := (cOrd_mem G o G.N).1 ho; exact ⟨this.1, this.2.1⟩
theorem cPl_ord {G : Gp} (hG : G.Right) (hC : Closed G) : Ord G (cOrd G G.N) (cPl G) := by
  refine cOrd_ord hG hC (by unfold cPl; simp) (fun k hk hK => ?_) (fun k hk hK => ?_)
  · have hm := (cOrd_mem G k G.N).2 ⟨by omega, by omega, by rw [Int.toNat_natCast]; exact hK⟩
    obtain ⟨j, hj, e⟩ := mem_getD hm
    rw [cPl_at hk hj e]
    have h1 := qs_bd hG (cOrd_in G) (Nat.le_refl _) hj
    have h2 := arTo_bd hG (cOrd_in G) (n := (cOrd G G.N).length) (Nat.le_refl _)
    have h3 := cOrd_len G G.N
    have h4 := hG.hN
    have h5 := hG.ar k hk
    rw [e, Int.toNat_natCast] at h1
    omega
  · exact cPl_no hk (fun h => hK (by have := ((cOrd_mem G k G.N).1 h).2.2; rwa [Int.toNat_natCast] at this))
theorem lie_at {G : Gp} {j k : Nat} (hk : k < G.N) (hj : j < (cOrd G G.N).length) (h : (cOrd G G.N).getD j 0 = k) : lieP G (cOrd G G.N) (cPl G) k = ((qsP G (cOrd G G.N) (cOrd G G.N).length).getD j 0, (qsP G (cOrd G G.N) (cOrd G G.N).length).getD j 0 + G.ar k - 1) := by
  rw [Ord.lie (by rw [← h]; exact getD_in hj), cPl_at hk hj h]
theorem span_first {G : Gp} {os : List Int} (hn : os.Nodup) {j k : Nat} (hj : j < os.length) (h : os.getD j 0 = k) : (spanP G os k).1 = j := by
  have := stepAt_self hn hj
  rw [h] at this
  exact this
theorem ltk_ge {G : Gp} {os pl : List Int} (h : Ord G os pl) {k : Nat} (hk : (k : Int) ∈ os) : ∀ {n : Nat}, n ≤ os.length → stepAt os k ≤ ltk G.src os k (stepAt os k) n
  | 0, _ => Int.le_refl _
  | n + 1, hn => by
    unfold ltk
    split
    · rename_i hs
      obtain ⟨m, hm, e, hmm⟩ := os_nat h (show n < os.length by omega)
      rw [e, Int.toNat_natCast] at hs
      have h1 := (h.beh m hm hmm k hs).2
      have h2 := stepAt_self h.nodup (show n < os.length by omega)
      rw [e] at h2
      omega
    · exact ltk_ge h hk (by omega)
theorem span_ge {G : Gp} {os pl : List Int} (h : Ord G os pl) {k : Nat} (hk : (k : Int) ∈ os) : (spanP G os k).1 ≤ (spanP G os k).2 := by
  unfold spanP
  simp only
  split
  · have := stepAt_bd os k; omega
  · exact ltk_ge h hk (Nat.le_refl _)
/-- Of two spans that meet one begins in the other: so what is compiled does not clash. -/
theorem comp_clear {G : Gp} (hG : G.Right) (hC : Closed G) : Clear (cOrd G G.N) (spanP G (cOrd G G.N)) (lieP G (cOrd G G.N) (cPl G)) := by
  have hO := cPl_ord hG hC
  have key : ∀ i j : Nat, i < (cOrd G G.N).length → j < i → ∀ a b : Nat, (cOrd G G.N).getD i 0 = a → (cOrd G G.N).getD j 0 = b → meetB (spanP G (cOrd G G.N) a) (spanP G (cOrd G G.N) b) = true → meetB (lieP G (cOrd G G.N) (cPl G) a) (lieP G (cOrd G G.N) (cPl G) b) = true → False := by
    intro i j hi hj a b ea eb h1 h2
    have ha := hO.inN _ (getD_in hi)
    have hb := hO.inN _ (getD_in (show j < (cOrd G G.N).length by omega))
    rw [ea] at ha
    rw [eb] at hb
    rw [lie_at (by omega) hi ea, lie_at (by omega) (show j < (cOrd G G.N).length by omega) eb] at h2
    unfold meetB at h1 h2
    simp only [Bool.and_eq_true, decide_eq_true_eq] at h1 h2
    rw [span_first hO.nodup hi ea] at h1
    have hf := (placeR_least (busyQ G (cOrd G G.N) (qsP G (cOrd G G.N) i) i i) (G.ar a)).2.1
    have hq := qsP_get G (cOrd G G.N) hi
    rw [ea, Int.toNat_natCast] at hq
    rw [← hq] at hf
    have hjq : (qsP G (cOrd G G.N) i).getD j 0 = (qsP G (cOrd G G.N) (cOrd G G.N).length).getD j 0 := by rw [qsP_get G _ hj, qsP_get G _ (show j < (cOrd G G.N).length by omega)]
    have hx := hf _ (busyQ_mem.2 ⟨j, hj, by rw [eb, Int.toNat_natCast]; exact h1.1, rfl⟩)
    rw [eb, Int.toNat_natCast, hjq] at hx
    simp only at hx
    omega
  intro a b ha hb hab h1 h2
  obtain ⟨i, hi, ei⟩ := mem_getD ha
  obtain ⟨j, hj, ej⟩ := mem_getD hb
  rcases Nat.lt_trichotomy i j with hij | hij | hij
  · exact key j i hj hij b a ej ei (by rw [meetB_comm]; exact h1) (by rw [meetB_comm]; exact h2)
  · subst hij; rw [ei] at ej; omega
  · exact key i j hi hij a b ei ej h1 h2
end Go.Proofs.YtaenpgdmiaekcaaGreatDoor
/-
  PLACEREF: when Place has an answer, and which; the reference's PlaceError and PlaceOf.
-/
namespace Go.Proofs.YtaenpgdmiaekcaaGreatDoor
set_option maxRecDepth 100000
open Go.RowKit Im Go.Maps

def okSpan (b : Sz) : Bool := decide (0 ≤ b.1) && decide (b.1 ≤ b.2) && decide (b.2 ≤ 4096)
def okAll (L : List Sz) : Bool := allTo (fun i => okSpan (L.getD i Sz.zero)) L.length
/-- The error of Place. -/
def placeE (L : List Sz) (size : Int) : Int := if 12 < L.length then 2 else if 1 ≤ size ∧ size ≤ 4096 then (if okAll L = true then 0 else 3) else 3
def placeP (L : List Sz) (size : Int) : Int := if placeE L size = 0 then placeR L size else 0
theorem placeE_zero {L : List Sz} {size : Int} (h : placeE L size = 0) : L.length ≤ 12 ∧ (1 ≤ size ∧ size ≤ 4096) ∧ ∀ b ∈ L, 0 ≤ b.1 ∧ b.1 ≤ b.2 ∧ b.2 ≤ 4096 := by
  unfold placeE at h
  by_cases h1 : 12 < L.length
  · rw [if_pos h1] at h; cases h
  · rw [if_neg h1] at h
    by_cases h2 : 1 ≤ size ∧ size ≤ 4096
    · rw [if_pos h2] at h
      by_cases h3 : okAll L = true
      · refine ⟨by omega, h2, fun b hb => ?_⟩
        obtain ⟨i, hi, rfl⟩ := List.mem_iff_getElem.1 hb
        have := (allTo_iff _ _).1 h3 i hi
        unfold okSpan at this
        rw [List.getD_eq_getElem?_getD, List.getElem?_eq_getElem hi] at this
        simp only [Bool.and_eq_true, decide_eq_true_eq, Option.getD_some] at this
        exact ⟨this.1.1, this.1.2, this.2⟩
      · rw [if_neg h3] at h; cases h
    · rw [if_neg h2] at h; cases h
theorem placeE_many {L : List Sz} {size : Int} (h : 12 < L.length) : placeE L size = 2 := by unfold placeE; rw [if_pos h]
theorem placeE_range {L : List Sz} {size : Int} (h : ¬ 12 < L.length) (h2 : ¬ (1 ≤ size ∧ size ≤ 4096)) : placeE L size = 3 := by unfold placeE; rw [if_neg h, if_neg h2]
theorem placeE_bad {L : List Sz} {size : Int} (h : ¬ 12 < L.length) {k : Nat} (hk : k < L.length) (hb : okSpan (L.getD k Sz.zero) = false) : placeE L size = 3 := by
  unfold placeE
  rw [if_neg h]
  split
  · rw [if_neg]; unfold okAll; rw [allTo_not hk hb]; decide
  · rfl
theorem placeE_ok {L : List Sz} {size : Int} (h : ¬ 12 < L.length) (h2 : 1 ≤ size ∧ size ≤ 4096) (h3 : okAll L = true) : placeE L size = 0 := by unfold placeE; rw [if_neg h, if_pos h2, if_pos h3]
theorem placeR_bd {L : List Sz} {size : Int} (h : placeE L size = 0) : 0 ≤ placeR L size ∧ placeR L size ≤ 4097 := by
  obtain ⟨_, _, h3⟩ := placeE_zero h
  exact ⟨(placeR_least L size).1, placeR_top (fun b hb => by have := h3 b hb; omega) (by omega)⟩
def freeT (L : List Sz) (size n : Int) (i : Nat) : Bool := !meetB (L.getD i Sz.zero) (n, n + size - 1)
theorem free_iff {L : List Sz} {size n : Int} : allTo (freeT L size n) L.length = true ↔ freeAt L size n := by
  rw [allTo_iff]
  unfold freeAt freeT meetB
  constructor
  · intro h b hb
    obtain ⟨i, hi, rfl⟩ := List.mem_iff_getElem.1 hb
    have := h i hi
    rw [List.getD_eq_getElem?_getD, List.getElem?_eq_getElem hi] at this
    simp only [Option.getD_some, Bool.not_eq_true', Bool.and_eq_false_iff, decide_eq_false_iff_not] at this
    omega
  · intro h i hi
    have := h _ (List.getElem_mem hi)
    rw [List.getD_eq_getElem?_getD, List.getElem?_eq_getElem hi]
    simp only [Option.getD_some, Bool.not_eq_true', Bool.and_eq_false_iff, decide_eq_false_iff_not]
    omega
set_option maxHeartbeats 2000000 in
theorem placeOf_any {a : Option Addr} {len : Nat} (cap : Nat) {L : List Sz} {w : World} (hZ : Zs w a len L) {size : Int} (hE : placeE L size = 0) :
    Calls Tryz.prog 55 #[.slice a len cap, .int .i64 size] w fun e w' => e = .returned (.int .i64 (placeR L size)) ∧ Below w.heap.size w w' := by
  obtain rfl := hZ.leng
  obtain ⟨hl12, hsz, _⟩ := placeE_zero hE
  have hbd := placeR_bd hE
  obtain ⟨p, hp⟩ := Int.eq_ofNat_of_zero_le hbd.1
  have hlst := placeR_least L size
  rw [hp] at hbd hlst ⊢
  have HLS : Hid (_) := hlst
  clear hE hlst hp
  go_enter Tryz.func55, Tryz.ntmps55
  go_wp2
  go_loopw [5] (fun i wr => ∃ n : Nat, n ≤ p ∧ i = .int .i64 n ∧ Below w.heap.size w wr) (fun i _ => p - (intOf i).toNat)
  case atStart => exact ⟨0, Nat.zero_le _, rfl, Below.refl _ _⟩
  case round =>
    obtain ⟨n, hn, rfl, hbr⟩ := hrel
    have hw1 : IntKind.i64.wrap ((n : Int) + size) = (n : Int) + size := by rw [IntKind.wrap_i64]; omega
    have hw2 : IntKind.i64.wrap ((n : Int) + size - 1) = (n : Int) + size - 1 := by rw [IntKind.wrap_i64]; omega
    go_wp2
    go_loopw [6, 7] (fun f i ws => ∃ k : Nat, k ≤ L.length ∧ i = .int .i64 k ∧ f = .bool (allTo (freeT L size n) k) ∧ Below w.heap.size w ws) (fun _ i _ => L.length - (intOf i).toNat)
    case atStart => exact ⟨0, Nat.zero_le _, rfl, rfl, hbr⟩
    case round =>
      obtain ⟨k, hk, rfl, rfl, hbs⟩ := hrel
      clear hbr
      by_cases hlt : k < L.length
      · obtain ⟨zb, zo, rfl, _, z0, z1⟩ := (hZ.below hbs).nth hlt
        have HA : Hid (allTo (freeT L size n) (k + 1) = (allTo (freeT L size n) k && !meetB (L.getD k Sz.zero) ((n : Int), (n : Int) + size - 1))) := rfl
        have hme := fun wx => meetRef_any (L.getD k Sz.zero).1 (L.getD k Sz.zero).2 n ((n : Int) + size - 1) wx
        rw [show meetB ((L.getD k Sz.zero).1, (L.getD k Sz.zero).2) ((n : Int), (n : Int) + size - 1) = meetB (L.getD k Sz.zero) ((n : Int), (n : Int) + size - 1) from rfl] at hme
        have hkI : (k : Int) < (L.length : Int) := by omega
        have hk0 : (0 : Int) ≤ (k : Int) := by omega
        generalize meetB (L.getD k Sz.zero) ((n : Int), (n : Int) + size - 1) = r at hme HA
        generalize (L.getD k Sz.zero).1 = x at z0 hme
        generalize (L.getD k Sz.zero).2 = y at z1 hme
        generalize allTo (freeT L size n) k = fr at HA
        cases fr with
        | false =>
          go_wp2
          go_roundw
          case rel => exact ⟨k + 1, by omega, by go_num, by rw [HA.out]; rfl, hbs⟩
          case measure => simp [intOf]; omega
        | true =>
          go_wp2_with (go_at_call 91; refine (hme _).mono ?_; rintro e w3 ⟨rfl, b3⟩)
          go_roundw
          case rel => exact ⟨k + 1, by omega, by go_num, by rw [HA.out]; simp, below_step hbs b3⟩
          case measure => simp [intOf]; omega
      · have hke : k = L.length := by omega
        subst hke
        have HFI : Hid (allTo (freeT L size n) L.length = true ↔ freeAt L size n) := free_iff
        generalize allTo (freeT L size n) L.length = fr at HFI
        cases fr with
        | true =>
          have hpn : p = n := by
            have := HLS.out.2.2 n (by omega) (HFI.out.1 rfl)
            omega
          subst hpn
          go_wp2
          go_ret
          exact ⟨rfl, hbs⟩
        | false =>
          have hne : n ≠ p := by
            intro e
            subst e
            have := HFI.out.2 HLS.out.2.1
            cases this
          go_wp2
          go_roundw
          case rel => exact ⟨n + 1, by omega, by go_num, hbs⟩
          case measure => simp [intOf]; omega
end Go.Proofs.YtaenpgdmiaekcaaGreatDoor
/-
  OPEN: how an image that comes in as an argument is read.
-/
namespace Go.Proofs.YtaenpgdmiaekcaaGreatDoor
set_option maxRecDepth 100000
open Go.ChangeShapes Go.WideShapes Go.ChangeAt Go.RowKit Go.Joins

theorem own : ownKnob Tryz.prog.godebug = none := by kernel_rfl
theorem laidOut : laidOutB Tryz.prog = true := by kernel_rfl
theorem cellsImage : Tryz.prog.cellsOf 24 = 3 := by kernel_rfl
theorem cellsInt : Tryz.prog.cellsOf 3 = 1 := by kernel_rfl

theorem addr_add (b off j : Nat) : (⟨b, off, none⟩ : Addr).add j = ⟨b, off + j, none⟩ := by
  simp only [Addr.add]; split <;> simp_all
/-- A slice of numbers that came in. -/
theorem ints_in {H : Type} {enc : TypeId × Value → H} {W : World} {n : Nat} {v : Value} {y : DataW H × List MemPlace} (h : DataW.trod enc Tryz.prog W 0 (fun _ => true) true n 22 [v] = some y) :
    ∃ a len cap ps, v = .slice a len cap ∧ Ints 0 W a len ps := by
  rcases open_ints Tryz.underlying22 Tryz.underlying3 cellsInt h with ⟨hcs, _⟩ | ⟨x, l, c, zs, hcs, _, hl, hm, hz, _, hcell, _⟩
  · simp at hcs
    exact ⟨none, 0, 0, [], hcs, Ints.nil 0 W⟩
  · simp at hcs
    simp at hz
    unfold maxLen at hm
    refine ⟨some x, l, c, zs.take l, hcs, by simp; omega, by omega, ?_⟩
    by_cases h0 : l = 0
    · subst h0; exact .inl (by simp)
    · right
      obtain ⟨b, off, spot⟩ := x
      have hc := hcell 0 (by omega)
      have hspot : spot = none := by simpa [Addr.add] using World.cell?_spot hc
      subst hspot
      refine ⟨b, off, rfl, Nat.zero_le _, ?_, fun j hj => ?_⟩
      · have := World.block_lt_of_cell? W _ hc
        simpa [Addr.add] using this
      · have := hcell j (by omega)
        rw [List.getD_eq_getElem?_getD, List.getElem?_take_of_lt hj]
        rw [addr_add] at this
        simpa using this

/-- An image that came in. -/
theorem image_in {H : Type} {enc : TypeId × Value → H} {W : World} {b0 : Nat} {v : Value} {d : DataW H} {p : List MemPlace} (hv : Value.okWide Tryz.prog W .any b0 24 v) (h : DataW.Trod enc Tryz.prog W 0 (fun _ => true) true 24 v d p) :
    ∃ w h a len cap ps, v = .agg #[.int .i64 w, .int .i64 h, .slice a len cap] ∧ Ints 0 W a len ps := by
  obtain ⟨v0, v1, v2, y0, y1, y2, n, rfl, _, _, h0, h1, h2⟩ := open_agg3 Tryz.underlying24 (by kernel_rfl) cellsImage hv h
  obtain ⟨x, e0, _, _⟩ := DataW.trod_int Tryz.underlying3 h0
  obtain ⟨y, e1, _, _⟩ := DataW.trod_int Tryz.underlying3 h1
  obtain ⟨a, len, cap, ps, e2, hi⟩ := ints_in h2
  simp at e0 e1
  subst e0 e1 e2
  exact ⟨x, y, a, len, cap, ps, rfl, hi⟩
end Go.Proofs.YtaenpgdmiaekcaaGreatDoor
