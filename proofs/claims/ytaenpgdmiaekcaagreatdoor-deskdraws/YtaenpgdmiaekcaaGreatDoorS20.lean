/- PlaceN, PlanN, PlanM, PlanM2, PlanM3, FitM: joined, in this order. -/
import Derived.Test.YtaenpgdmiaekcaaGreatDoorS19
/-
  PLACEN: numbers alone: a walk over what is busy, rising by where it begins, ends at the least free place.
-/
namespace Go.Proofs.YtaenpgdmiaekcaaGreatDoor
set_option maxRecDepth 100000

/-- Size numbers from p on meet nothing that is busy. -/
def freeAt (l : List (Int × Int)) (size p : Int) : Prop := ∀ b ∈ l, p + size ≤ b.1 ∨ b.2 + 1 ≤ p
/-- The walk of Place. -/
def placeN (size : Int) : List (Int × Int) → Int → Int
  | [], p => p
  | b :: l, p => if p + size ≤ b.1 then p else placeN size l (max p (b.2 + 1))
theorem placeN_least (size : Int) : ∀ (l : List (Int × Int)) (p : Int), l.Pairwise (fun a b => a.1 ≤ b.1) → p ≤ placeN size l p ∧ freeAt l size (placeN size l p) ∧ ∀ q, p ≤ q → freeAt l size q → placeN size l p ≤ q
  | [], p, _ => ⟨Int.le_refl _, (fun b hb => by cases hb), fun q hq _ => hq⟩
  | b :: l, p, hs => by
    rw [List.pairwise_cons] at hs
    unfold placeN
    by_cases h : p + size ≤ b.1
    · rw [if_pos h]
      refine ⟨Int.le_refl _, fun c hc => ?_, fun q hq _ => hq⟩
      rcases List.mem_cons.1 hc with rfl | hc
      · exact .inl h
      · have := hs.1 c hc; exact .inl (by omega)
    · rw [if_neg h]
      obtain ⟨h1, h2, h3⟩ := placeN_least size l (max p (b.2 + 1)) hs.2
      refine ⟨by omega, fun c hc => ?_, fun q hq hf => ?_⟩
      · rcases List.mem_cons.1 hc with rfl | hc
        · exact .inr (by omega)
        · exact h2 c hc
      · have hb := hf b (List.mem_cons_self ..)
        exact h3 q (by omega) (fun c hc => hf c (List.mem_cons_of_mem _ hc))
/-- The least free place is one alone. -/
theorem placeN_only {size : Int} {l l' : List (Int × Int)} (hm : ∀ b, b ∈ l ↔ b ∈ l') (hs : l.Pairwise (fun a b => a.1 ≤ b.1)) {r : Int} (h0 : 0 ≤ r) (hf : freeAt l' size r) (hr : ∀ q, 0 ≤ q → freeAt l' size q → r ≤ q) : placeN size l 0 = r := by
  obtain ⟨h1, h2, h3⟩ := placeN_least size l 0 hs
  have a := h3 r h0 (fun b hb => hf b ((hm b).1 hb))
  have b := hr _ h1 (fun b hb => h2 b ((hm b).2 hb))
  omega
/-- The place is no greater than where all that is busy has ended. -/
theorem placeN_top {size T : Int} : ∀ {l : List (Int × Int)} {p : Int}, (∀ b ∈ l, b.2 + 1 ≤ T) → p ≤ T → placeN size l p ≤ T
  | [], p, _, hp => hp
  | b :: l, p, hb, hp => by
    unfold placeN
    split
    · exact hp
    · have := hb b (List.mem_cons_self ..)
      exact placeN_top (fun c hc => hb c (List.mem_cons_of_mem _ hc)) (by omega)
end Go.Proofs.YtaenpgdmiaekcaaGreatDoor
/-
  PLANN: numbers alone: at which step of an order a pass is done.
-/
namespace Go.Proofs.YtaenpgdmiaekcaaGreatDoor
set_option maxRecDepth 100000

/-- The step of a pass in an order; -1: none. -/
def stepAt : List Int → Int → Int
  | [], _ => -1
  | o :: l, p => if o = p then 0 else if stepAt l p < 0 then -1 else stepAt l p + 1
theorem stepAt_bd : ∀ (l : List Int) (p : Int), -1 ≤ stepAt l p ∧ stepAt l p < l.length
  | [], p => by simp [stepAt]
  | o :: l, p => by
    have ih := stepAt_bd l p
    unfold stepAt
    rw [List.length_cons]
    split
    · omega
    · split <;> omega
theorem stepAt_mem : ∀ {l : List Int} {p : Int}, 0 ≤ stepAt l p ↔ p ∈ l
  | [], p => by simp [stepAt]
  | o :: l, p => by
    have ih := stepAt_mem (l := l) (p := p)
    unfold stepAt
    by_cases h : o = p
    · subst h; simp
    · rw [if_neg h]
      have h' : ¬ p = o := fun e => h e.symm
      rw [List.mem_cons, or_iff_right h', ← ih]
      split <;> omega
theorem stepAt_get : ∀ {l : List Int} {p : Int}, 0 ≤ stepAt l p → l.getD (stepAt l p).toNat 0 = p
  | [], p, h => by simp [stepAt] at h
  | o :: l, p, h => by
    unfold stepAt at h ⊢
    by_cases ho : o = p
    · rw [if_pos ho]; simpa using ho
    · rw [if_neg ho] at h ⊢
      by_cases hn : stepAt l p < 0
      · rw [if_pos hn] at h; omega
      · rw [if_neg hn]
        have ih := stepAt_get (l := l) (p := p) (by omega)
        have e : (stepAt l p + 1).toNat = (stepAt l p).toNat + 1 := by omega
        rw [e, List.getD_cons_succ]
        exact ih
theorem stepAt_snoc : ∀ {l : List Int} {o : Int} (p : Int), o ∉ l → stepAt (l ++ [o]) p = if o = p then (l.length : Int) else stepAt l p
  | [], o, p, _ => by simp [stepAt]
  | x :: l, o, p, h => by
    rw [List.mem_cons, not_or] at h
    have ih := stepAt_snoc (l := l) (o := o) p h.2
    show (if x = p then (0 : Int) else if stepAt (l ++ [o]) p < 0 then -1 else stepAt (l ++ [o]) p + 1) = if o = p then (((x :: l).length : Nat) : Int) else (if x = p then (0 : Int) else if stepAt l p < 0 then -1 else stepAt l p + 1)
    rw [ih]
    by_cases hx : x = p
    · have ho : o ≠ p := fun e => h.1 (by rw [e, hx])
      rw [if_pos hx, if_neg ho, if_pos hx]
    · rw [if_neg hx]
      by_cases ho : o = p
      · rw [if_pos ho, if_pos ho, if_neg (by omega), List.length_cons]; push_cast; rfl
      · rw [if_neg ho, if_neg ho, if_neg hx]
/-- No pass is there twice: just then each is found where it stands. -/
theorem stepAt_self : ∀ {l : List Int}, l.Nodup → ∀ {i : Nat}, i < l.length → stepAt l (l.getD i 0) = i
  | [], _, i, h => by simp at h
  | x :: l, hn, 0, _ => by simp [stepAt]
  | x :: l, hn, i + 1, h => by
    rw [List.nodup_cons] at hn
    rw [List.length_cons] at h
    have hi : i < l.length := by omega
    have ih := stepAt_self hn.2 hi
    rw [List.getD_cons_succ]
    have hm : l.getD i 0 ∈ l := by rw [List.getD_eq_getElem?_getD, List.getElem?_eq_getElem hi]; exact List.getElem_mem hi
    have hx : x ≠ l.getD i 0 := fun e => hn.1 (by rw [e]; exact hm)
    unfold stepAt
    rw [if_neg hx, ih, if_neg (by omega)]
    omega
end Go.Proofs.YtaenpgdmiaekcaaGreatDoor
/-
  PLANM: numbers alone: when a plan is in order, its spans, its peak, its floor and whether images clash: as the program goes through them, and as the document says them.
-/
namespace Go.Proofs.YtaenpgdmiaekcaaGreatDoor
set_option maxRecDepth 100000

/-- What a plan is held against: how many passes there are, which each takes, which are needed, how many numbers each one's image has, and which one is shown. -/
structure Gp where
  N : Nat
  src : Nat → List Int
  kept : Nat → Bool
  ar : Nat → Int
  last : Int
/-- A right one. -/
structure Gp.Right (G : Gp) : Prop where
  hN : 1 ≤ G.N ∧ G.N ≤ 12
  src : ∀ k, k < G.N → ∀ s ∈ G.src k, 0 ≤ s ∧ s < k
  ar : ∀ k, k < G.N → 1 ≤ G.ar k ∧ G.ar k ≤ 256
  last : 0 ≤ G.last ∧ G.last < G.N
  kept : G.kept G.last.toNat = true

/-- p holds of all below n. -/
def allTo (p : Nat → Bool) : Nat → Bool
  | 0 => true
  | k + 1 => allTo p k && p k
theorem allTo_iff (p : Nat → Bool) : ∀ n, allTo p n = true ↔ ∀ k, k < n → p k = true
  | 0 => by simp [allTo]
  | n + 1 => by
    rw [allTo, Bool.and_eq_true, allTo_iff p n]
    constructor
    · intro ⟨h, h'⟩ k hk
      by_cases e : k = n
      · rw [e]; exact h'
      · exact h k (by omega)
    · intro h
      exact ⟨fun k hk => h k (by omega), h n (by omega)⟩
theorem allTo_succ {p : Nat → Bool} {k : Nat} (h : allTo p k = true) (h' : p k = true) : allTo p (k + 1) = true := by simp [allTo, h, h']
theorem allTo_not {p : Nat → Bool} {k n : Nat} (hk : k < n) (h : p k = false) : allTo p n = false := by
  rw [Bool.eq_false_iff]
  intro e
  have := (allTo_iff p n).1 e k hk
  rw [h] at this
  cases this
/-- As the program asks. -/
def onceP (os : List Int) (N k : Nat) : Bool := decide (0 ≤ os.getD k 0) && decide (os.getD k 0 < N) && decide (stepAt (os.take k) (os.getD k 0) < 0)
def onceB (os : List Int) (N : Nat) : Bool := allTo (onceP os N) os.length
def hasP (kept : Nat → Bool) (os : List Int) (k : Nat) : Bool := !kept k || decide (0 ≤ stepAt os k)
def hasAllB (kept : Nat → Bool) (os : List Int) (N : Nat) : Bool := allTo (hasP kept os) N
def behS (os : List Int) (step : Int) (l : List Int) (t : Nat) : Bool := decide (0 ≤ stepAt os (l.getD t 0)) && decide (stepAt os (l.getD t 0) ≤ step)
def behP (src : Nat → List Int) (os : List Int) (k : Nat) : Bool := decide (stepAt os k < 0) || allTo (behS os (stepAt os k) (src k)) (src k).length
def behB (src : Nat → List Int) (os : List Int) (N : Nat) : Bool := allTo (behP src os) N
def plcP (os pl : List Int) (k : Nat) : Bool := if 0 ≤ stepAt os k then decide (0 ≤ pl.getD k 0) && decide (pl.getD k 0 ≤ 4096) else decide (pl.getD k 0 = -1)
def plcB (os pl : List Int) (N : Nat) : Bool := decide (pl.length = N) && allTo (plcP os pl) N
def ordB (G : Gp) (os pl : List Int) : Bool := onceB os G.N && hasAllB G.kept os G.N && behB G.src os G.N && plcB os pl G.N
theorem getD_in {l : List Int} {k : Nat} (h : k < l.length) : l.getD k 0 ∈ l := by
  rw [List.getD_eq_getElem?_getD, List.getElem?_eq_getElem h]; exact List.getElem_mem h
theorem mem_getD {l : List Int} {x : Int} (h : x ∈ l) : ∃ k, k < l.length ∧ l.getD k 0 = x := by
  obtain ⟨k, hk, e⟩ := List.mem_iff_getElem.1 h
  exact ⟨k, hk, by rw [List.getD_eq_getElem?_getD, List.getElem?_eq_getElem hk]; exact e⟩
theorem once_to {os : List Int} {N : Nat} : ∀ {n : Nat}, n ≤ os.length → (allTo (onceP os N) n = true ↔ (∀ o ∈ os.take n, 0 ≤ o ∧ o < N) ∧ (os.take n).Nodup)
  | 0, _ => by simp [allTo]
  | n + 1, hn => by
    have ih := once_to (os := os) (N := N) (n := n) (by omega)
    have hl : n < os.length := by omega
    rw [allTo, Bool.and_eq_true, ih, List.take_succ_eq_append_getElem hl]
    have e : os.getD n 0 = os[n] := by rw [List.getD_eq_getElem?_getD, List.getElem?_eq_getElem hl]; rfl
    unfold onceP
    rw [e]
    simp only [Bool.and_eq_true, decide_eq_true_eq, List.mem_append, List.mem_singleton, List.nodup_append, List.nodup_cons, List.not_mem_nil, not_false_eq_true, List.nodup_nil, and_true, true_and]
    have hm : stepAt (os.take n) os[n] < 0 ↔ os[n] ∉ os.take n := by rw [← stepAt_mem]; omega
    rw [hm]
    constructor
    · rintro ⟨⟨h1, h2⟩, ⟨h3, h4⟩, h5⟩
      refine ⟨fun o ho => ?_, h2, fun a ha b hb => ?_⟩
      · rcases ho with ho | rfl
        · exact h1 o ho
        · exact ⟨h3, h4⟩
      · subst hb; intro e; subst e; exact h5 ha
    · rintro ⟨h1, h2, h3⟩
      exact ⟨⟨fun o ho => h1 o (.inl ho), h2⟩, h1 _ (.inr rfl), fun hm => h3 _ hm _ rfl rfl⟩
theorem onceB_iff {os : List Int} {N : Nat} : onceB os N = true ↔ (∀ o ∈ os, 0 ≤ o ∧ o < N) ∧ os.Nodup := by
  have := once_to (os := os) (N := N) (n := os.length) (Nat.le_refl _)
  rwa [List.take_length] at this
/-- Different passes among N: N at most. -/
theorem nodup_len : ∀ (N : Nat) (l : List Int), l.Nodup → (∀ x ∈ l, 0 ≤ x ∧ x < N) → l.length ≤ N
  | 0, l, _, h => by
    cases l with
    | nil => simp
    | cons x l => have := h x (List.mem_cons_self ..); omega
  | N + 1, l, hn, h => by
    have ih := nodup_len N (l.filter fun x => !decide (x = (N : Int))) (hn.filter _) (fun x hx => by
      obtain ⟨h1, h2⟩ := List.mem_filter.1 hx
      have := h x h1
      simp at h2
      omega)
    have h2 : ∀ (l : List Int), l.Nodup → l.length ≤ (l.filter fun x => !decide (x = (N : Int))).length + 1 := by
      intro l hl
      induction l with
      | nil => simp
      | cons y l ih =>
        rw [List.nodup_cons] at hl
        by_cases hy : y = (N : Int)
        · have : (l.filter fun x => !decide (x = (N : Int))) = l := by
            rw [List.filter_eq_self]
            intro x hx
            have : x ≠ (N : Int) := fun e => hl.1 (by rw [hy, ← e]; exact hx)
            simpa using this
          simp [hy, this]
        · have := ih hl.2
          simp [hy]
          exact this
    have := h2 l hn
    omega
end Go.Proofs.YtaenpgdmiaekcaaGreatDoor
/-
  PLANM2: numbers alone: spans, places, peak, floor and clashes of a plan in order, as the program goes through them and as the document says them.
-/
namespace Go.Proofs.YtaenpgdmiaekcaaGreatDoor
set_option maxRecDepth 100000

/-- The last of the first n steps of an order that takes pass k's image; d: none does. -/
def ltk (src : Nat → List Int) (os : List Int) (k d : Int) : Nat → Int
  | 0 => d
  | n + 1 => if k ∈ src (os.getD n 0).toNat then n else ltk src os k d n
def spanP (G : Gp) (os : List Int) (k : Nat) : Int × Int := (stepAt os k, if (k : Int) = G.last then (os.length : Int) - 1 else ltk G.src os k (stepAt os k) os.length)
def lieP (G : Gp) (os pl : List Int) (k : Nat) : Int × Int := if 0 ≤ stepAt os k then (pl.getD k 0, pl.getD k 0 + G.ar k - 1) else (0, 0)
def meetB (a b : Int × Int) : Bool := decide (a.1 ≤ b.2) && decide (b.1 ≤ a.2)
/-- As the program goes. -/
def peakT (os : List Int) (lie : Nat → Int × Int) : Nat → Int
  | 0 => 0
  | n + 1 => max (peakT os lie n) ((lie (os.getD n 0).toNat).2 + 1)
def apartT (os : List Int) (span lie : Nat → Int × Int) (i j : Nat) : Bool := !(meetB (span (os.getD i 0).toNat) (span (os.getD j 0).toNat) && meetB (lie (os.getD i 0).toNat) (lie (os.getD j 0).toNat))
def clearT (os : List Int) (span lie : Nat → Int × Int) (n : Nat) : Bool := allTo (fun i => allTo (apartT os span lie i) i) n
/-- As the document says. -/
def peakR (ar : Nat → Int) (pl : List Int) : Nat → Int
  | 0 => 0
  | k + 1 => if pl.getD k 0 = -1 then peakR ar pl k else max (peakR ar pl k) (pl.getD k 0 + ar k)
/-- What a plan in order has. -/
structure Ord (G : Gp) (os pl : List Int) : Prop where
  inN : ∀ o ∈ os, 0 ≤ o ∧ o < G.N
  nodup : os.Nodup
  has : ∀ k, k < G.N → G.kept k = true → (k : Int) ∈ os
  beh : ∀ k, k < G.N → (k : Int) ∈ os → ∀ s ∈ G.src k, s ∈ os ∧ stepAt os s ≤ stepAt os k
  len : pl.length = G.N
  at_ : ∀ k, k < G.N → (k : Int) ∈ os → 0 ≤ pl.getD k 0 ∧ pl.getD k 0 ≤ 4096
  no : ∀ k, k < G.N → (k : Int) ∉ os → pl.getD k 0 = -1
theorem ord_iff {G : Gp} {os pl : List Int} : ordB G os pl = true ↔ Ord G os pl := by
  unfold ordB hasAllB behB plcB
  simp only [Bool.and_eq_true, decide_eq_true_eq]
  rw [onceB_iff, allTo_iff, allTo_iff, allTo_iff]
  constructor
  · rintro ⟨⟨⟨⟨h1, h2⟩, h3⟩, h4⟩, h5, h6⟩
    refine ⟨h1, h2, fun k hk hK => ?_, fun k hk hm s hs => ?_, h5, fun k hk hm => ?_, fun k hk hm => ?_⟩
    · have := h3 k hk
      unfold hasP at this
      rw [hK] at this
      rw [← stepAt_mem]; simpa using this
    · have := h4 k hk
      have hp := stepAt_mem.2 hm
      unfold behP at this
      rw [Bool.or_eq_true, allTo_iff] at this
      rcases this with this | this
      · simp at this; omega
      · obtain ⟨t, ht, e⟩ := mem_getD hs
        have := this t ht
        unfold behS at this
        rw [e] at this
        simp only [Bool.and_eq_true, decide_eq_true_eq] at this
        exact ⟨stepAt_mem.1 this.1, this.2⟩
    · have := h6 k hk
      unfold plcP at this
      rw [if_pos (stepAt_mem.2 hm)] at this
      simpa only [Bool.and_eq_true, decide_eq_true_eq] using this
    · have := h6 k hk
      unfold plcP at this
      rw [if_neg (fun h => hm (stepAt_mem.1 h))] at this
      simpa only [decide_eq_true_eq] using this
  · rintro ⟨h1, h2, h3, h4, h5, h6, h7⟩
    refine ⟨⟨⟨⟨h1, h2⟩, fun k hk => ?_⟩, fun k hk => ?_⟩, h5, fun k hk => ?_⟩
    · unfold hasP
      cases hK : G.kept k with
      | false => rfl
      | true => simpa using stepAt_mem.2 (h3 k hk hK)
    · unfold behP
      rw [Bool.or_eq_true, allTo_iff]
      by_cases hd : stepAt os k < 0
      · left; simpa using hd
      · right
        intro t ht
        have := h4 k hk (stepAt_mem.1 (by omega)) _ (getD_in ht)
        unfold behS
        simp only [Bool.and_eq_true, decide_eq_true_eq]
        exact ⟨stepAt_mem.2 this.1, this.2⟩
    · unfold plcP
      by_cases hd : 0 ≤ stepAt os k
      · rw [if_pos hd]
        simpa only [Bool.and_eq_true, decide_eq_true_eq] using h6 k hk (stepAt_mem.1 hd)
      · rw [if_neg hd]
        simpa only [decide_eq_true_eq] using h7 k hk (fun h => hd (stepAt_mem.2 h))
theorem Ord.lie {G : Gp} {os pl : List Int} {k : Nat} (hm : (k : Int) ∈ os) : lieP G os pl k = (pl.getD k 0, pl.getD k 0 + G.ar k - 1) := by
  unfold lieP; rw [if_pos (stepAt_mem.2 hm)]
theorem os_nat {G : Gp} {os pl : List Int} (h : Ord G os pl) {i : Nat} (hi : i < os.length) : ∃ k : Nat, k < G.N ∧ os.getD i 0 = k ∧ (k : Int) ∈ os := by
  have ho := h.inN _ (getD_in hi)
  refine ⟨(os.getD i 0).toNat, by omega, by omega, ?_⟩
  have := getD_in hi
  rwa [show os.getD i 0 = (((os.getD i 0).toNat : Nat) : Int) by omega] at this

theorem peakT_le {os : List Int} {lie : Nat → Int × Int} {r : Int} : ∀ {n : Nat}, n ≤ os.length → (peakT os lie n ≤ r ↔ 0 ≤ r ∧ ∀ i, i < n → (lie (os.getD i 0).toNat).2 + 1 ≤ r)
  | 0, _ => by simp [peakT]
  | n + 1, hn => by
    have ih := peakT_le (os := os) (lie := lie) (r := r) (n := n) (by omega)
    unfold peakT
    rw [Int.max_le, ih]
    constructor
    · rintro ⟨⟨h0, h1⟩, h2⟩
      refine ⟨h0, fun i hi => ?_⟩
      by_cases e : i = n
      · rw [e]; exact h2
      · exact h1 i (by omega)
    · rintro ⟨h0, h1⟩
      exact ⟨⟨h0, fun i hi => h1 i (by omega)⟩, h1 n (by omega)⟩
theorem peakR_le {ar : Nat → Int} {pl : List Int} {r : Int} : ∀ {n : Nat}, (peakR ar pl n ≤ r ↔ 0 ≤ r ∧ ∀ k, k < n → pl.getD k 0 = -1 ∨ pl.getD k 0 + ar k ≤ r)
  | 0 => by simp [peakR]
  | n + 1 => by
    have ih := peakR_le (ar := ar) (pl := pl) (r := r) (n := n)
    unfold peakR
    split
    · rename_i h
      rw [ih]
      constructor
      · rintro ⟨h0, h1⟩
        refine ⟨h0, fun i hi => ?_⟩
        by_cases e : i = n
        · rw [e]; exact .inl h
        · exact h1 i (by omega)
      · rintro ⟨h0, h1⟩
        exact ⟨h0, fun i hi => h1 i (by omega)⟩
    · rename_i h
      rw [Int.max_le, ih]
      constructor
      · rintro ⟨⟨h0, h1⟩, h2⟩
        refine ⟨h0, fun i hi => ?_⟩
        by_cases e : i = n
        · rw [e]; exact .inr h2
        · exact h1 i (by omega)
      · rintro ⟨h0, h1⟩
        exact ⟨⟨h0, fun i hi => h1 i (by omega)⟩, (h1 n (by omega)).resolve_left h⟩
theorem all_os {G : Gp} {os pl : List Int} (h : Ord G os pl) (P : Nat → Prop) : (∀ i, i < os.length → P (os.getD i 0).toNat) ↔ ∀ k, k < G.N → (k : Int) ∈ os → P k := by
  constructor
  · intro hp k hk hm
    obtain ⟨i, hi, e⟩ := mem_getD hm
    have := hp i hi
    rw [e] at this
    simpa using this
  · intro hp i hi
    obtain ⟨k, hk, e, hm⟩ := os_nat h hi
    rw [e]
    exact hp k hk hm
theorem le_all {a b : Int} (h : ∀ r, a ≤ r ↔ b ≤ r) : a = b := by
  have h1 := (h b).2 (Int.le_refl _)
  have h2 := (h a).1 (Int.le_refl _)
  omega
theorem peak_ref {G : Gp} {os pl : List Int} (h : Ord G os pl) : peakT os (lieP G os pl) os.length = peakR G.ar pl G.N := by
  refine le_all fun r => ?_
  rw [peakT_le (Nat.le_refl _), peakR_le, all_os h (fun k => (lieP G os pl k).2 + 1 ≤ r)]
  refine and_congr_right fun _ => ⟨fun hp k hk => ?_, fun hp k hk hm => ?_⟩
  · by_cases hm : (k : Int) ∈ os
    · have := hp k hk hm
      rw [Ord.lie hm] at this
      right; simp only at this; omega
    · exact .inl (h.no k hk hm)
  · rw [Ord.lie hm]
    have := hp k hk
    have := h.at_ k hk hm
    simp only; omega

theorem meetB_comm (a b : Int × Int) : meetB a b = meetB b a := by unfold meetB; rw [Bool.and_comm]
/-- No two images clash. -/
def Clear (os : List Int) (span lie : Nat → Int × Int) : Prop := ∀ a b : Nat, (a : Int) ∈ os → (b : Int) ∈ os → a ≠ b → meetB (span a) (span b) = true → meetB (lie a) (lie b) = true → False
theorem clearT_iff {G : Gp} {os pl : List Int} (h : Ord G os pl) (span lie : Nat → Int × Int) : clearT os span lie os.length = true ↔ Clear os span lie := by
  unfold clearT Clear
  rw [allTo_iff]
  constructor
  · intro hc a b ha hb hab h1 h2
    obtain ⟨i, hi, ei⟩ := mem_getD ha
    obtain ⟨j, hj, ej⟩ := mem_getD hb
    have key : ∀ i j, i < os.length → j < i → ∀ a b : Nat, os.getD i 0 = a → os.getD j 0 = b → meetB (span a) (span b) = true → meetB (lie a) (lie b) = true → False := by
      intro i j hi hj a b ea eb h1 h2
      have := hc i hi
      simp only [allTo_iff] at this
      have := this j hj
      unfold apartT at this
      rw [ea, eb, Int.toNat_natCast, Int.toNat_natCast, h1, h2] at this
      cases this
    rcases Nat.lt_trichotomy i j with hij | hij | hij
    · exact key j i hj hij b a ej ei (by rw [meetB_comm]; exact h1) (by rw [meetB_comm]; exact h2)
    · subst hij; rw [ei] at ej; omega
    · exact key i j hi hij a b ei ej h1 h2
  · intro hc i hi
    simp only [allTo_iff]
    intro j hj
    obtain ⟨a, _, ea, ha⟩ := os_nat h hi
    obtain ⟨b, _, eb, hb⟩ := os_nat h (show j < os.length by omega)
    have hab : a ≠ b := by
      intro e
      have h1 := stepAt_self h.nodup hi
      have h2 := stepAt_self h.nodup (show j < os.length by omega)
      rw [ea, e, ← eb, h2] at h1
      omega
    unfold apartT
    rw [ea, eb, Int.toNat_natCast, Int.toNat_natCast]
    cases h1 : meetB (span a) (span b)
    · rfl
    · cases h2 : meetB (lie a) (lie b)
      · rfl
      · exact (hc a b ha hb hab h1 h2).elim
end Go.Proofs.YtaenpgdmiaekcaaGreatDoor
/-
  PLANM3: numbers alone: a plan that fits has no peak below its floor.
-/
namespace Go.Proofs.YtaenpgdmiaekcaaGreatDoor
set_option maxRecDepth 100000

theorem Ord.pos {G : Gp} (hG : G.Right) {os pl : List Int} (h : Ord G os pl) : G.last ∈ os := by
  have := h.has G.last.toNat (by have := hG.last; omega) hG.kept
  rwa [show ((G.last.toNat : Nat) : Int) = G.last by have := hG.last; omega] at this
theorem Ord.olen {G : Gp} {os pl : List Int} (h : Ord G os pl) : os.length ≤ G.N := nodup_len _ _ h.nodup h.inN
theorem lie_bd {G : Gp} (hG : G.Right) {os pl : List Int} (h : Ord G os pl) {k : Nat} (hk : k < G.N) : (0 ≤ (lieP G os pl k).1 ∧ (lieP G os pl k).1 ≤ 4096) ∧ (0 ≤ (lieP G os pl k).2 ∧ (lieP G os pl k).2 ≤ 4352) ∧ (lieP G os pl k).1 ≤ (lieP G os pl k).2 ∧ (lieP G os pl k).2 ≤ (lieP G os pl k).1 + 255 := by
  by_cases hm : (k : Int) ∈ os
  · rw [Ord.lie hm]
    have h1 := h.at_ k hk hm
    have h2 := hG.ar k hk
    simp only
    omega
  · unfold lieP
    rw [if_neg (fun h => hm (stepAt_mem.1 h))]
    simp
end Go.Proofs.YtaenpgdmiaekcaaGreatDoor
/-
  FITM: numbers alone: the least free place; what is compiled, step by step.
-/
namespace Go.Proofs.YtaenpgdmiaekcaaGreatDoor
set_option maxRecDepth 100000

def insP (x : Int × Int) : List (Int × Int) → List (Int × Int)
  | [] => [x]
  | y :: l => if x.1 ≤ y.1 then x :: y :: l else y :: insP x l
def isort (l : List (Int × Int)) : List (Int × Int) := l.foldr insP []
theorem ins_mem (x b : Int × Int) : ∀ l, b ∈ insP x l ↔ b = x ∨ b ∈ l
  | [] => by simp [insP]
  | y :: l => by
    unfold insP
    split
    · simp
    · rw [List.mem_cons, ins_mem x b l, List.mem_cons]
      constructor
      · rintro (h | h | h)
        · exact .inr (.inl h)
        · exact .inl h
        · exact .inr (.inr h)
      · rintro (h | h | h)
        · exact .inr (.inl h)
        · exact .inl h
        · exact .inr (.inr h)
theorem ins_sorted (x : Int × Int) : ∀ l : List (Int × Int), l.Pairwise (fun a b => a.1 ≤ b.1) → (insP x l).Pairwise (fun a b => a.1 ≤ b.1)
  | [], _ => by simp [insP]
  | y :: l, h => by
    rw [List.pairwise_cons] at h
    unfold insP
    split
    · rename_i hx
      rw [List.pairwise_cons, List.pairwise_cons]
      refine ⟨fun b hb => ?_, h⟩
      rcases List.mem_cons.1 hb with rfl | hb
      · exact hx
      · have := h.1 b hb; omega
    · rename_i hx
      rw [List.pairwise_cons]
      refine ⟨fun b hb => ?_, ins_sorted x l h.2⟩
      rcases (ins_mem x b l).1 hb with rfl | hb
      · omega
      · exact h.1 b hb
theorem isort_mem (b : Int × Int) : ∀ l, b ∈ isort l ↔ b ∈ l
  | [] => Iff.rfl
  | x :: l => by show b ∈ insP x (isort l) ↔ _; rw [ins_mem, isort_mem b l, List.mem_cons]
theorem isort_sorted : ∀ l : List (Int × Int), (isort l).Pairwise (fun a b => a.1 ≤ b.1)
  | [] => List.Pairwise.nil
  | x :: l => ins_sorted x _ (isort_sorted l)
/-- The least place from which on size numbers meet nothing that is busy. -/
def placeR (l : List (Int × Int)) (size : Int) : Int := placeN size (isort l) 0
theorem placeR_least (l : List (Int × Int)) (size : Int) : 0 ≤ placeR l size ∧ freeAt l size (placeR l size) ∧ ∀ q, 0 ≤ q → freeAt l size q → placeR l size ≤ q := by
  obtain ⟨h1, h2, h3⟩ := placeN_least size (isort l) 0 (isort_sorted l)
  exact ⟨h1, fun b hb => h2 b ((isort_mem b l).2 hb), fun q hq hf => h3 q hq (fun b hb => hf b ((isort_mem b l).1 hb))⟩
theorem placeR_of {l l' : List (Int × Int)} {size : Int} (hm : ∀ b, b ∈ l' ↔ b ∈ l) (hs : l'.Pairwise (fun a b => a.1 ≤ b.1)) : placeN size l' 0 = placeR l size := by
  obtain ⟨h1, h2, h3⟩ := placeR_least l size
  exact placeN_only hm hs h1 h2 h3
theorem placeR_top {l : List (Int × Int)} {size T : Int} (h : ∀ b ∈ l, b.2 + 1 ≤ T) (hT : 0 ≤ T) : placeR l size ≤ T :=
  placeN_top (fun b hb => h b ((isort_mem b l).1 hb)) hT
/-- The passes that are kept, rising. -/
def cOrd (G : Gp) : Nat → List Int
  | 0 => []
  | n + 1 => if G.kept n = true then cOrd G n ++ [(n : Int)] else cOrd G n
theorem cOrd_mem (G : Gp) (x : Int) : ∀ n, x ∈ cOrd G n ↔ 0 ≤ x ∧ x < n ∧ G.kept x.toNat = true
  | 0 => by simp [cOrd]; omega
  | n + 1 => by
    unfold cOrd
    split
    · rename_i h
      rw [List.mem_append, cOrd_mem G x n, List.mem_singleton]
      constructor
      · rintro (⟨a, b, c⟩ | rfl)
        · exact ⟨a, by omega, c⟩
        · exact ⟨by omega, by omega, by rw [Int.toNat_natCast]; exact h⟩
      · rintro ⟨a, b, c⟩
        by_cases e : x = n
        · exact .inr e
        · exact .inl ⟨a, by omega, c⟩
    · rename_i h
      rw [cOrd_mem G x n]
      constructor
      · rintro ⟨a, b, c⟩; exact ⟨a, by omega, c⟩
      · rintro ⟨a, b, c⟩
        refine ⟨a, ?_, c⟩
        by_cases e : x = n
        · subst e; rw [Int.toNat_natCast] at c; exact (h c).elim
        · omega
theorem cOrd_sorted (G : Gp) : ∀ n, (cOrd G n).Pairwise (· < ·)
  | 0 => List.Pairwise.nil
  | n + 1 => by
    unfold cOrd
    split
    · rw [List.pairwise_append]
      refine ⟨cOrd_sorted G n, by simp, fun a ha b hb => ?_⟩
      rw [List.mem_singleton] at hb
      have := (cOrd_mem G a n).1 ha
      omega
    · exact cOrd_sorted G n
theorem cOrd_len (G : Gp) : ∀ n, (cOrd G n).length ≤ n
  | 0 => Nat.le_refl _
  | n + 1 => by
    have := cOrd_len G n
    unfold cOrd
    split
    · rw [List.length_append]; simp; omega
    · omega
theorem sorted_step : ∀ {l : List Int}, l.Pairwise (· < ·) → ∀ {a b : Int}, a ∈ l → b ∈ l → a < b → stepAt l a ≤ stepAt l b
  | [], _, a, b, ha, _, _ => by cases ha
  | x :: l, h, a, b, ha, hb, hab => by
    rw [List.pairwise_cons] at h
    have hb' : b ∈ l := by
      rcases List.mem_cons.1 hb with rfl | hb
      · rcases List.mem_cons.1 ha with rfl | ha
        · omega
        · have := h.1 a ha; omega
      · exact hb
    have hpb := stepAt_mem.2 hb'
    have hxb : ¬ x = b := fun e => by have := h.1 b hb'; omega
    show (if x = a then (0 : Int) else if stepAt l a < 0 then -1 else stepAt l a + 1) ≤ (if x = b then (0 : Int) else if stepAt l b < 0 then -1 else stepAt l b + 1)
    have eb : (if x = b then (0 : Int) else if stepAt l b < 0 then -1 else stepAt l b + 1) = stepAt l b + 1 := by rw [if_neg hxb, if_neg (by omega)]
    rw [eb]
    rcases List.mem_cons.1 ha with rfl | ha
    · rw [if_pos rfl]; omega
    · have hxa : ¬ x = a := fun e => by have := h.1 a ha; omega
      have hpa := stepAt_mem.2 ha
      rw [if_neg hxa, if_neg (by omega)]
      have := sorted_step h.2 ha hb' hab
      omega
/-- What is kept takes what is kept. -/
def Closed (G : Gp) : Prop := ∀ k, k < G.N → G.kept k = true → ∀ s ∈ G.src k, G.kept s.toNat = true
theorem cOrd_ord {G : Gp} (hG : G.Right) (hC : Closed G) {pl : List Int} (hl : pl.length = G.N) (h1 : ∀ k, k < G.N → G.kept k = true → 0 ≤ pl.getD k 0 ∧ pl.getD k 0 ≤ 4096) (h0 : ∀ k, k < G.N → ¬ G.kept k = true → pl.getD k 0 = -1) : Ord G (cOrd G G.N) pl := by
  refine ⟨fun o ho => ?_, ?_, fun k hk hK => ?_, fun k hk hm s hs => ?_, hl, fun k hk hm => ?_, fun k hk hm => ?_⟩
  · have := (cOrd_mem G o G.N).1 ho; exact ⟨this.1, this.2.1⟩
  · exact (cOrd_sorted G G.N).imp (fun h => by omega)
  · exact (cOrd_mem G k G.N).2 ⟨by omega, by omega, by rw [Int.toNat_natCast]; exact hK⟩
  · have hK := ((cOrd_mem G k G.N).1 hm).2.2
    rw [Int.toNat_natCast] at hK
    have hb := hG.src k hk s hs
    have hm' := (cOrd_mem G s G.N).2 ⟨hb.1, by omega, hC k hk hK s hs⟩
    exact ⟨hm', sorted_step (cOrd_sorted G G.N) hm' hm hb.2⟩
  · have hK := ((cOrd_mem G k G.N).1 hm).2.2
    rw [Int.toNat_natCast] at hK
    exact h1 k hk hK
  · exact h0 k hk (fun hK => hm ((cOrd_mem G k G.N).2 ⟨by omega, by omega, by rw [Int.toNat_natCast]; exact hK⟩))

/-- What is busy at step n, as far as the first m steps tell, their places being qs. -/
def busyQ (G : Gp) (os qs : List Int) (n : Nat) : Nat → List (Int × Int)
  | 0 => []
  | m + 1 => if (n : Int) ≤ (spanP G os (os.getD m 0).toNat).2 then busyQ G os qs n m ++ [(qs.getD m 0, qs.getD m 0 + G.ar (os.getD m 0).toNat - 1)] else busyQ G os qs n m
/-- The places of the first n steps. -/
def qsP (G : Gp) (os : List Int) : Nat → List Int
  | 0 => []
  | n + 1 => qsP G os n ++ [placeR (busyQ G os (qsP G os n) n n) (G.ar (os.getD n 0).toNat)]
theorem qsP_len (G : Gp) (os : List Int) : ∀ n, (qsP G os n).length = n
  | 0 => rfl
  | n + 1 => by unfold qsP; rw [List.length_append, qsP_len G os n]; rfl
theorem qsP_get (G : Gp) (os : List Int) {j : Nat} : ∀ {n : Nat}, j < n → (qsP G os n).getD j 0 = placeR (busyQ G os (qsP G os j) j j) (G.ar (os.getD j 0).toNat)
  | 0, h => by omega
  | n + 1, h => by
    have hl := qsP_len G os n
    have eq : qsP G os (n + 1) = qsP G os n ++ [placeR (busyQ G os (qsP G os n) n n) (G.ar (os.getD n 0).toNat)] := rfl
    rw [eq, List.getD_eq_getElem?_getD]
    by_cases e : j = n
    · subst e
      rw [List.getElem?_append_right (by omega), hl]; simp
    · rw [List.getElem?_append_left (by omega), ← List.getD_eq_getElem?_getD]
      exact qsP_get G os (by omega)
theorem busyQ_mem {G : Gp} {os qs : List Int} {n : Nat} {b : Int × Int} : ∀ {m : Nat}, b ∈ busyQ G os qs n m ↔ ∃ j, j < m ∧ (n : Int) ≤ (spanP G os (os.getD j 0).toNat).2 ∧ b = (qs.getD j 0, qs.getD j 0 + G.ar (os.getD j 0).toNat - 1)
  | 0 => by simp [busyQ]
  | m + 1 => by
    have ih := busyQ_mem (G := G) (os := os) (qs := qs) (n := n) (b := b) (m := m)
    unfold busyQ
    split
    · rename_i h
      rw [List.mem_append, ih, List.mem_singleton]
      constructor
      · rintro (⟨j, h1, h2, h3⟩ | h1)
        · exact ⟨j, by omega, h2, h3⟩
        · exact ⟨m, by omega, h, h1⟩
      · rintro ⟨j, h1, h2, h3⟩
        by_cases e : j = m
        · subst e; exact .inr h3
        · exact .inl ⟨j, by omega, h2, h3⟩
    · rename_i h
      rw [ih]
      constructor
      · rintro ⟨j, h1, h2, h3⟩; exact ⟨j, by omega, h2, h3⟩
      · rintro ⟨j, h1, h2, h3⟩
        by_cases e : j = m
        · subst e; exact (h h2).elim
        · exact ⟨j, by omega, h2, h3⟩
theorem busyQ_len (G : Gp) (os qs : List Int) (n : Nat) : ∀ m, (busyQ G os qs n m).length ≤ m
  | 0 => Nat.le_refl _
  | m + 1 => by
    have := busyQ_len G os qs n m
    unfold busyQ
    split
    · rw [List.length_append]; simp; omega
    · omega
/-- The place of a pass when n steps have been placed; z: of one that has none yet. -/
def plcN (G : Gp) (os : List Int) (z : Nat → Int) (n k : Nat) : Int := if 0 ≤ stepAt (os.take n) k then (qsP G os n).getD (stepAt (os.take n) k).toNat 0 else z k
/-- All images of the first n steps together. -/
def arTo (G : Gp) (os : List Int) : Nat → Int
  | 0 => 0
  | n + 1 => arTo G os n + G.ar (os.getD n 0).toNat
theorem arTo_mono {G : Gp} (hG : G.Right) {os : List Int} (hin : ∀ o ∈ os, 0 ≤ o ∧ o < G.N) : ∀ {n : Nat}, n ≤ os.length → ∀ {m : Nat}, m ≤ n → arTo G os m ≤ arTo G os n
  | 0, _, m, hm => by rw [show m = 0 by omega]; exact Int.le_refl _
  | n + 1, hn, m, hm => by
    by_cases e : m = n + 1
    · rw [e]; exact Int.le_refl _
    · have ih := arTo_mono hG hin (n := n) (by omega) (m := m) (by omega)
      have ho := hin _ (getD_in (show n < os.length by omega))
      have := hG.ar (os.getD n 0).toNat (by omega)
      have eq : arTo G os (n + 1) = arTo G os n + G.ar (os.getD n 0).toNat := rfl
      omega
theorem arTo_bd {G : Gp} (hG : G.Right) {os : List Int} (hin : ∀ o ∈ os, 0 ≤ o ∧ o < G.N) : ∀ {n : Nat}, n ≤ os.length → 0 ≤ arTo G os n ∧ arTo G os n ≤ 256 * n
  | 0, _ => by simp [arTo]
  | n + 1, hn => by
    have ih := arTo_bd hG hin (n := n) (by omega)
    have ho := hin _ (getD_in (show n < os.length by omega))
    have := hG.ar (os.getD n 0).toNat (by omega)
    unfold arTo
    omega
theorem qs_top {G : Gp} (hG : G.Right) {os : List Int} (hin : ∀ o ∈ os, 0 ≤ o ∧ o < G.N) : ∀ (n : Nat), n < os.length → 0 ≤ (qsP G os (n + 1)).getD n 0 ∧ (qsP G os (n + 1)).getD n 0 ≤ arTo G os n := by
  intro n
  induction n using Nat.strongRecOn with
  | ind n ih =>
    intro hn
    rw [qsP_get G os (Nat.lt_succ_self n)]
    refine ⟨(placeR_least _ _).1, placeR_top (fun b hb => ?_) (arTo_bd hG hin (by omega)).1⟩
    obtain ⟨j, hj, _, rfl⟩ := busyQ_mem.1 hb
    have := ih j hj (by omega)
    rw [qsP_get G os (Nat.lt_succ_self j), ← qsP_get G os hj] at this
    have hm := arTo_mono hG hin (n := n) (by omega) (m := j + 1) (by omega)
    have eq : arTo G os (j + 1) = arTo G os j + G.ar (os.getD j 0).toNat := rfl
    simp only
    omega
theorem qs_bd {G : Gp} (hG : G.Right) {os : List Int} (hin : ∀ o ∈ os, 0 ≤ o ∧ o < G.N) {n j : Nat} (hn : n ≤ os.length) (hj : j < n) : 0 ≤ (qsP G os n).getD j 0 ∧ (qsP G os n).getD j 0 + G.ar (os.getD j 0).toNat ≤ arTo G os os.length := by
  have h1 := qs_top hG hin j (by omega)
  rw [qsP_get G os (Nat.lt_succ_self j), ← qsP_get G os hj] at h1
  have hm := arTo_mono hG hin (n := os.length) (Nat.le_refl _) (m := j + 1) (by omega)
  have eq : arTo G os (j + 1) = arTo G os j + G.ar (os.getD j 0).toNat := rfl
  exact ⟨h1.1, by omega⟩
end Go.Proofs.YtaenpgdmiaekcaaGreatDoor
