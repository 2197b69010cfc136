/- PlanM2, PlanM3, Steps, InRef, Given, At, Near: joined, in this order. -/
import Derived.Test.YtaenpgdmiaekcaaGreatDoorM04
import Derived.Maps.OwnSet
import Derived.Test.YtaenpgdmiaekcaaGreatDoorM01
/-
  PLANM2: numbers alone: spans, places, peak, floor and clashes of a plan in order, as the program goes through them and as the document says them.
-/
namespace Go.Proofs.YtaenpgdmiaekcaaGreatDoor
set_option maxRecDepth 100000

/-- The last of the first n steps of an order that takes pass k's image; d: none does. -/
def ltk (src : Nat → List Int) (os : List Int) (k d : Int) : Nat → Int
  | 0 => d
  | n + 1 => if k ∈ src (os.getD n 0).toNat then n else ltk src os k d n
def spanP (G : Gp) (os : List Int) (k : Nat) : Int × Int := (stepAt os k, if (k : Int) = G.last then (os.length : Int) - 1 else ltk G.src os k (stepAt os k) os.length)
def lieP (G : Gp) (os pl : List Int) (k : Nat) : Int × Int := if 0 ≤ stepAt os k then (pl.getD k 0, pl.getD k 0 + G.ar k - 1) else (0, 0)
def meetB (a b : Int × Int) : Bool := decide (a.1 ≤ b.2) && decide (b.1 ≤ a.2)
/-- As the program goes. -/
def peakT (os : List Int) (lie : Nat → Int × Int) : Nat → Int
  | 0 => 0
  | n + 1 => max (peakT os lie n) ((lie (os.getD n 0).toNat).2 + 1)
def sumT (os : List Int) (span lie : Nat → Int × Int) (i : Int) : Nat → Int
  | 0 => 0
  | n + 1 => if meetB (span (os.getD n 0).toNat) (i, i) = true then sumT os span lie i n + ((lie (os.getD n 0).toNat).2 - (lie (os.getD n 0).toNat).1 + 1) else sumT os span lie i n
def floorT (os : List Int) (span lie : Nat → Int × Int) : Nat → Int
  | 0 => 0
  | n + 1 => max (floorT os span lie n) (sumT os span lie n os.length)
def apartT (os : List Int) (span lie : Nat → Int × Int) (i j : Nat) : Bool := !(meetB (span (os.getD i 0).toNat) (span (os.getD j 0).toNat) && meetB (lie (os.getD i 0).toNat) (lie (os.getD j 0).toNat))
def clearT (os : List Int) (span lie : Nat → Int × Int) (n : Nat) : Bool := allTo (fun i => allTo (apartT os span lie i) i) n
/-- As the document says. -/
def peakR (ar : Nat → Int) (pl : List Int) : Nat → Int
  | 0 => 0
  | k + 1 => if pl.getD k 0 = -1 then peakR ar pl k else max (peakR ar pl k) (pl.getD k 0 + ar k)
def sumR (ar : Nat → Int) (pl : List Int) (span : Nat → Int × Int) (i : Int) : Nat → Int
  | 0 => 0
  | k + 1 => if ¬ pl.getD k 0 = -1 ∧ meetB (span k) (i, i) = true then sumR ar pl span i k + ar k else sumR ar pl span i k
def floorR (ar : Nat → Int) (pl : List Int) (span : Nat → Int × Int) (N : Nat) : Nat → Int
  | 0 => 0
  | i + 1 => max (floorR ar pl span N i) (sumR ar pl span i N)
def apartR (ar : Nat → Int) (pl : List Int) (span : Nat → Int × Int) (k j : Nat) : Bool := !(!decide (pl.getD j 0 = -1) && meetB (span k) (span j) && decide (pl.getD k 0 < pl.getD j 0 + ar j) && decide (pl.getD j 0 < pl.getD k 0 + ar k))
def fitR (ar : Nat → Int) (pl : List Int) (span : Nat → Int × Int) (room : Int) (k : Nat) : Bool := decide (pl.getD k 0 = -1) || (decide (0 ≤ pl.getD k 0) && decide (pl.getD k 0 ≤ room - ar k) && allTo (apartR ar pl span k) k)
def fitsR (ar : Nat → Int) (pl : List Int) (span : Nat → Int × Int) (room : Int) (N : Nat) : Bool := allTo (fitR ar pl span room) N

/-- What a plan in order has. -/
structure Ord (G : Gp) (os pl : List Int) : Prop where
  inN : ∀ o ∈ os, 0 ≤ o ∧ o < G.N
  nodup : os.Nodup
  has : ∀ k, k < G.N → G.kept k = true → (k : Int) ∈ os
  beh : ∀ k, k < G.N → (k : Int) ∈ os → ∀ s ∈ G.src k, s ∈ os ∧ stepAt os s ≤ stepAt os k
  len : pl.length = G.N
  at_ : ∀ k, k < G.N → (k : Int) ∈ os → 0 ≤ pl.getD k 0 ∧ pl.getD k 0 ≤ 4096
  no : ∀ k, k < G.N → (k : Int) ∉ os → pl.getD k 0 = -1
theorem ord_iff {G : Gp} {os pl : List Int} : ordB G os pl = true ↔ Ord G os pl := by
  unfold ordB hasAllB behB plcB
  simp only [Bool.and_eq_true, decide_eq_true_eq]
  rw [onceB_iff, allTo_iff, allTo_iff, allTo_iff]
  constructor
  · rintro ⟨⟨⟨⟨h1, h2⟩, h3⟩, h4⟩, h5, h6⟩
    refine ⟨h1, h2, fun k hk hK => ?_, fun k hk hm s hs => ?_, h5, fun k hk hm => ?_, fun k hk hm => ?_⟩
    · have := h3 k hk
      unfold hasP at this
      rw [hK] at this
      rw [← stepAt_mem]; simpa using this
    · have := h4 k hk
      have hp := stepAt_mem.2 hm
      unfold behP at this
      rw [Bool.or_eq_true, allTo_iff] at this
      rcases this with this | this
      · simp at this; omega
      · obtain ⟨t, ht, e⟩ := mem_getD hs
        have := this t ht
        unfold behS at this
        rw [e] at this
        simp only [Bool.and_eq_true, decide_eq_true_eq] at this
        exact ⟨stepAt_mem.1 this.1, this.2⟩
    · have := h6 k hk
      unfold plcP at this
      rw [if_pos (stepAt_mem.2 hm)] at this
      simpa only [Bool.and_eq_true, decide_eq_true_eq] using this
    · have := h6 k hk
      unfold plcP at this
      rw [if_neg (fun h => hm (stepAt_mem.1 h))] at this
      simpa only [decide_eq_true_eq] using this
  · rintro ⟨h1, h2, h3, h4, h5, h6, h7⟩
    refine ⟨⟨⟨⟨h1, h2⟩, fun k hk => ?_⟩, fun k hk => ?_⟩, h5, fun k hk => ?_⟩
    · unfold hasP
      cases hK : G.kept k with
      | false => rfl
      | true => simpa using stepAt_mem.2 (h3 k hk hK)
    · unfold behP
      rw [Bool.or_eq_true, allTo_iff]
      by_cases hd : stepAt os k < 0
      · left; simpa using hd
      · right
        intro t ht
        have := h4 k hk (stepAt_mem.1 (by omega)) _ (getD_in ht)
        unfold behS
        simp only [Bool.and_eq_true, decide_eq_true_eq]
        exact ⟨stepAt_mem.2 this.1, this.2⟩
    · unfold plcP
      by_cases hd : 0 ≤ stepAt os k
      · rw [if_pos hd]
        simpa only [Bool.and_eq_true, decide_eq_true_eq] using h6 k hk (stepAt_mem.1 hd)
      · rw [if_neg hd]
        simpa only [decide_eq_true_eq] using h7 k hk (fun h => hd (stepAt_mem.2 h))
theorem Ord.no_iff {G : Gp} {os pl : List Int} (h : Ord G os pl) {k : Nat} (hk : k < G.N) : pl.getD k 0 = -1 ↔ ¬ (k : Int) ∈ os := by
  constructor
  · intro e hm
    have := h.at_ k hk hm
    omega
  · exact h.no k hk
theorem Ord.lie {G : Gp} {os pl : List Int} {k : Nat} (hm : (k : Int) ∈ os) : lieP G os pl k = (pl.getD k 0, pl.getD k 0 + G.ar k - 1) := by
  unfold lieP; rw [if_pos (stepAt_mem.2 hm)]
theorem os_nat {G : Gp} {os pl : List Int} (h : Ord G os pl) {i : Nat} (hi : i < os.length) : ∃ k : Nat, k < G.N ∧ os.getD i 0 = k ∧ (k : Int) ∈ os := by
  have ho := h.inN _ (getD_in hi)
  refine ⟨(os.getD i 0).toNat, by omega, by omega, ?_⟩
  have := getD_in hi
  rwa [show os.getD i 0 = (((os.getD i 0).toNat : Nat) : Int) by omega] at this

theorem peakT_le {os : List Int} {lie : Nat → Int × Int} {r : Int} : ∀ {n : Nat}, n ≤ os.length → (peakT os lie n ≤ r ↔ 0 ≤ r ∧ ∀ i, i < n → (lie (os.getD i 0).toNat).2 + 1 ≤ r)
  | 0, _ => by simp [peakT]
  | n + 1, hn => by
    have ih := peakT_le (os := os) (lie := lie) (r := r) (n := n) (by omega)
    unfold peakT
    rw [Int.max_le, ih]
    constructor
    · rintro ⟨⟨h0, h1⟩, h2⟩
      refine ⟨h0, fun i hi => ?_⟩
      by_cases e : i = n
      · rw [e]; exact h2
      · exact h1 i (by omega)
    · rintro ⟨h0, h1⟩
      exact ⟨⟨h0, fun i hi => h1 i (by omega)⟩, h1 n (by omega)⟩
theorem peakR_le {ar : Nat → Int} {pl : List Int} {r : Int} : ∀ {n : Nat}, (peakR ar pl n ≤ r ↔ 0 ≤ r ∧ ∀ k, k < n → pl.getD k 0 = -1 ∨ pl.getD k 0 + ar k ≤ r)
  | 0 => by simp [peakR]
  | n + 1 => by
    have ih := peakR_le (ar := ar) (pl := pl) (r := r) (n := n)
    unfold peakR
    split
    · rename_i h
      rw [ih]
      constructor
      · rintro ⟨h0, h1⟩
        refine ⟨h0, fun i hi => ?_⟩
        by_cases e : i = n
        · rw [e]; exact .inl h
        · exact h1 i (by omega)
      · rintro ⟨h0, h1⟩
        exact ⟨h0, fun i hi => h1 i (by omega)⟩
    · rename_i h
      rw [Int.max_le, ih]
      constructor
      · rintro ⟨⟨h0, h1⟩, h2⟩
        refine ⟨h0, fun i hi => ?_⟩
        by_cases e : i = n
        · rw [e]; exact .inr h2
        · exact h1 i (by omega)
      · rintro ⟨h0, h1⟩
        exact ⟨⟨h0, fun i hi => h1 i (by omega)⟩, (h1 n (by omega)).resolve_left h⟩
theorem all_os {G : Gp} {os pl : List Int} (h : Ord G os pl) (P : Nat → Prop) : (∀ i, i < os.length → P (os.getD i 0).toNat) ↔ ∀ k, k < G.N → (k : Int) ∈ os → P k := by
  constructor
  · intro hp k hk hm
    obtain ⟨i, hi, e⟩ := mem_getD hm
    have := hp i hi
    rw [e] at this
    simpa using this
  · intro hp i hi
    obtain ⟨k, hk, e, hm⟩ := os_nat h hi
    rw [e]
    exact hp k hk hm
theorem le_all {a b : Int} (h : ∀ r, a ≤ r ↔ b ≤ r) : a = b := by
  have h1 := (h b).2 (Int.le_refl _)
  have h2 := (h a).1 (Int.le_refl _)
  omega
theorem peak_ref {G : Gp} {os pl : List Int} (h : Ord G os pl) : peakT os (lieP G os pl) os.length = peakR G.ar pl G.N := by
  refine le_all fun r => ?_
  rw [peakT_le (Nat.le_refl _), peakR_le, all_os h (fun k => (lieP G os pl k).2 + 1 ≤ r)]
  refine and_congr_right fun _ => ⟨fun hp k hk => ?_, fun hp k hk hm => ?_⟩
  · by_cases hm : (k : Int) ∈ os
    · have := hp k hk hm
      rw [Ord.lie hm] at this
      right; simp only at this; omega
    · exact .inl (h.no k hk hm)
  · rw [Ord.lie hm]
    have := hp k hk
    have := h.at_ k hk hm
    simp only; omega

/-- A sum over different passes is a sum over all of them that are there. -/
def sumK (g : Nat → Int) : Nat → Int
  | 0 => 0
  | k + 1 => sumK g k + g k
theorem sumK_add (g g' : Nat → Int) : ∀ n, sumK (fun k => g k + g' k) n = sumK g n + sumK g' n
  | 0 => rfl
  | n + 1 => by unfold sumK; rw [sumK_add g g' n]; omega
theorem sumK_congr {g g' : Nat → Int} : ∀ {n : Nat}, (∀ k, k < n → g k = g' k) → sumK g n = sumK g' n
  | 0, _ => rfl
  | n + 1, h => by unfold sumK; rw [sumK_congr (n := n) (fun k hk => h k (by omega)), h n (by omega)]
theorem sumK_one (m : Nat) (x : Int) : ∀ {n : Nat}, sumK (fun k => if k = m then x else 0) n = if m < n then x else 0
  | 0 => by simp [sumK]
  | n + 1 => by
    unfold sumK
    rw [sumK_one m x (n := n)]
    by_cases h : n = m
    · subst h; simp
    · by_cases h' : m < n
      · rw [if_pos h', if_neg h, if_pos (by omega)]; omega
      · rw [if_neg h', if_neg h, if_neg (by omega)]; omega
theorem sum_os (g : Nat → Int) {N : Nat} : ∀ {os : List Int}, (∀ o ∈ os, 0 ≤ o ∧ o < N) → os.Nodup → (os.map fun o => g o.toNat).sum = sumK (fun k => if (k : Int) ∈ os then g k else 0) N
  | [], _, _ => by
    have : ∀ n, sumK (fun _ => 0) n = 0 := fun n => by induction n with
      | zero => rfl
      | succ n ih => unfold sumK; rw [ih]; rfl
    simpa using (this N).symm
  | o :: l, hb, hn => by
    rw [List.nodup_cons] at hn
    have ho := hb o (List.mem_cons_self ..)
    have ih := sum_os g (os := l) (fun x hx => hb x (List.mem_cons_of_mem _ hx)) hn.2
    rw [List.map_cons, List.sum_cons, ih]
    have e : sumK (fun k => if (k : Int) ∈ o :: l then g k else 0) N = sumK (fun k => (if k = o.toNat then g o.toNat else 0) + (if (k : Int) ∈ l then g k else 0)) N := by
      refine sumK_congr fun k hk => ?_
      by_cases hk : k = o.toNat
      · have : (k : Int) = o := by omega
        rw [if_pos (by rw [this]; exact List.mem_cons_self ..), if_pos hk, if_neg (by rw [this]; exact hn.1), hk]; omega
      · have : ¬ (k : Int) = o := by omega
        rw [if_neg hk]
        by_cases hm : (k : Int) ∈ l
        · rw [if_pos (List.mem_cons_of_mem _ hm), if_pos hm]; omega
        · rw [if_neg (by rw [List.mem_cons]; exact fun h => h.elim this hm), if_neg hm]; rfl
    rw [e, sumK_add, sumK_one, if_pos (by omega)]
theorem sumT_eq {os : List Int} {span lie : Nat → Int × Int} {i : Int} : ∀ {n : Nat}, n ≤ os.length → sumT os span lie i n = ((os.take n).map fun o => if meetB (span o.toNat) (i, i) = true then (lie o.toNat).2 - (lie o.toNat).1 + 1 else 0).sum
  | 0, _ => by simp [sumT]
  | n + 1, hn => by
    have hl : n < os.length := by omega
    have e : os.getD n 0 = os[n] := by rw [List.getD_eq_getElem?_getD, List.getElem?_eq_getElem hl]; rfl
    unfold sumT
    rw [sumT_eq (n := n) (by omega), List.take_succ_eq_append_getElem hl, List.map_append, List.sum_append, e]
    simp only [List.map_cons, List.map_nil, List.sum_cons, List.sum_nil]
    split <;> omega
theorem sumR_eq {ar : Nat → Int} {pl : List Int} {span : Nat → Int × Int} {i : Int} : ∀ {n : Nat}, sumR ar pl span i n = sumK (fun k => if ¬ pl.getD k 0 = -1 ∧ meetB (span k) (i, i) = true then ar k else 0) n
  | 0 => rfl
  | n + 1 => by
    unfold sumR sumK
    rw [sumR_eq (n := n)]
    split <;> omega
theorem sum_ref {G : Gp} {os pl : List Int} (h : Ord G os pl) (span : Nat → Int × Int) (i : Int) : sumT os span (lieP G os pl) i os.length = sumR G.ar pl span i G.N := by
  rw [sumT_eq (Nat.le_refl _), List.take_length, sum_os (fun k => if meetB (span k) (i, i) = true then (lieP G os pl k).2 - (lieP G os pl k).1 + 1 else 0) h.inN h.nodup, sumR_eq]
  refine sumK_congr fun k hk => ?_
  by_cases hm : (k : Int) ∈ os
  · have hne : ¬ pl.getD k 0 = -1 := fun e => ((h.no_iff hk).1 e) hm
    rw [if_pos hm, Ord.lie hm]
    by_cases hc : meetB (span k) (i, i) = true
    · rw [if_pos hc, if_pos ⟨hne, hc⟩]; simp only; omega
    · rw [if_neg hc, if_neg (fun h => hc h.2)]
  · rw [if_neg hm, if_neg (fun h' => h'.1 (h.no k hk hm))]
theorem floor_ref {G : Gp} {os pl : List Int} (h : Ord G os pl) (span : Nat → Int × Int) : ∀ n, floorT os span (lieP G os pl) n = floorR G.ar pl span G.N n
  | 0 => rfl
  | n + 1 => by unfold floorT floorR; rw [floor_ref h span n, sum_ref h]
theorem meetB_comm (a b : Int × Int) : meetB a b = meetB b a := by unfold meetB; rw [Bool.and_comm]
/-- No two images clash. -/
def Clear (os : List Int) (span lie : Nat → Int × Int) : Prop := ∀ a b : Nat, (a : Int) ∈ os → (b : Int) ∈ os → a ≠ b → meetB (span a) (span b) = true → meetB (lie a) (lie b) = true → False
theorem clearT_iff {G : Gp} {os pl : List Int} (h : Ord G os pl) (span lie : Nat → Int × Int) : clearT os span lie os.length = true ↔ Clear os span lie := by
  unfold clearT Clear
  rw [allTo_iff]
  constructor
  · intro hc a b ha hb hab h1 h2
    obtain ⟨i, hi, ei⟩ := mem_getD ha
    obtain ⟨j, hj, ej⟩ := mem_getD hb
    have key : ∀ i j, i < os.length → j < i → ∀ a b : Nat, os.getD i 0 = a → os.getD j 0 = b → meetB (span a) (span b) = true → meetB (lie a) (lie b) = true → False := by
      intro i j hi hj a b ea eb h1 h2
      have := hc i hi
      simp only [allTo_iff] at this
      have := this j hj
      unfold apartT at this
      rw [ea, eb, Int.toNat_natCast, Int.toNat_natCast, h1, h2] at this
      cases this
    rcases Nat.lt_trichotomy i j with hij | hij | hij
    · exact key j i hj hij b a ej ei (by rw [meetB_comm]; exact h1) (by rw [meetB_comm]; exact h2)
    · subst hij; rw [ei] at ej; omega
    · exact key i j hi hij a b ei ej h1 h2
  · intro hc i hi
    simp only [allTo_iff]
    intro j hj
    obtain ⟨a, _, ea, ha⟩ := os_nat h hi
    obtain ⟨b, _, eb, hb⟩ := os_nat h (show j < os.length by omega)
    have hab : a ≠ b := by
      intro e
      have h1 := stepAt_self h.nodup hi
      have h2 := stepAt_self h.nodup (show j < os.length by omega)
      rw [ea, e, ← eb, h2] at h1
      omega
    unfold apartT
    rw [ea, eb, Int.toNat_natCast, Int.toNat_natCast]
    cases h1 : meetB (span a) (span b)
    · rfl
    · cases h2 : meetB (lie a) (lie b)
      · rfl
      · exact (hc a b ha hb hab h1 h2).elim
theorem fits_ref {G : Gp} {os pl : List Int} (h : Ord G os pl) (span : Nat → Int × Int) {room : Int} (hr : 0 ≤ room) : fitsR G.ar pl span room G.N = true ↔ peakT os (lieP G os pl) os.length ≤ room ∧ clearT os span (lieP G os pl) os.length = true := by
  rw [clearT_iff h, peakT_le (Nat.le_refl _), all_os h (fun k => (lieP G os pl k).2 + 1 ≤ room)]
  unfold fitsR
  rw [allTo_iff]
  constructor
  · intro hf
    have hf' : ∀ k, k < G.N → (k : Int) ∈ os → pl.getD k 0 ≤ room - G.ar k ∧ ∀ j, j < k → (j : Int) ∈ os → meetB (span k) (span j) = true → pl.getD k 0 < pl.getD j 0 + G.ar j → pl.getD j 0 < pl.getD k 0 + G.ar k → False := by
      intro k hk hm
      have := hf k hk
      unfold fitR at this
      have hne : ¬ pl.getD k 0 = -1 := fun e => ((h.no_iff hk).1 e) hm
      rw [decide_eq_false hne, Bool.false_or] at this
      simp only [Bool.and_eq_true, decide_eq_true_eq, allTo_iff] at this
      refine ⟨this.1.2, fun j hj hmj h1 h2 h3 => ?_⟩
      have := this.2 j hj
      unfold apartR at this
      have hne : ¬ pl.getD j 0 = -1 := fun e => ((h.no_iff (by omega)).1 e) hmj
      rw [decide_eq_false hne, h1, decide_eq_true h2, decide_eq_true h3] at this
      cases this
    refine ⟨⟨hr, fun k hk hm => ?_⟩, fun a b ha hb hab h1 h2 => ?_⟩
    · rw [Ord.lie hm]; have := (hf' k hk hm).1; simp only; omega
    · rw [Ord.lie ha, Ord.lie hb] at h2
      have hA := h.inN _ ha
      have hB := h.inN _ hb
      unfold meetB at h2
      simp only [Bool.and_eq_true, decide_eq_true_eq] at h2
      rcases Nat.lt_or_gt_of_ne hab with hl | hl
      · exact (hf' b (by omega) hb).2 a hl ha (by rw [meetB_comm]; exact h1) (by omega) (by omega)
      · exact (hf' a (by omega) ha).2 b hl hb h1 (by omega) (by omega)
  · rintro ⟨⟨_, hp⟩, hc⟩ k hk
    unfold fitR
    by_cases hm : (k : Int) ∈ os
    · have h1 := hp k hk hm
      rw [Ord.lie hm] at h1
      simp only at h1
      have h2 := h.at_ k hk hm
      rw [Bool.or_eq_true]; right
      simp only [Bool.and_eq_true, decide_eq_true_eq, allTo_iff]
      refine ⟨⟨h2.1, by omega⟩, fun j hj => ?_⟩
      unfold apartR
      by_cases hmj : (j : Int) ∈ os
      · cases e1 : meetB (span k) (span j)
        · simp
        · by_cases e2 : pl.getD k 0 < pl.getD j 0 + G.ar j
          · by_cases e3 : pl.getD j 0 < pl.getD k 0 + G.ar k
            · refine (hc k j hm hmj (by omega) e1 ?_).elim
              rw [Ord.lie hm, Ord.lie hmj]
              unfold meetB
              simp only [Bool.and_eq_true, decide_eq_true_eq]
              omega
            · rw [decide_eq_false e3]; simp
          · rw [decide_eq_false e2]; simp
      · rw [decide_eq_true (h.no j (by omega) hmj)]; simp
    · rw [decide_eq_true (h.no k hk hm)]; rfl
end Go.Proofs.YtaenpgdmiaekcaaGreatDoor
/-
  PLANM3: numbers alone: a plan that fits has no peak below its floor.
-/
namespace Go.Proofs.YtaenpgdmiaekcaaGreatDoor
set_option maxRecDepth 100000

theorem floorT_le {os : List Int} {span lie : Nat → Int × Int} {r : Int} : ∀ {n : Nat}, (floorT os span lie n ≤ r ↔ 0 ≤ r ∧ ∀ i : Nat, i < n → sumT os span lie i os.length ≤ r)
  | 0 => by simp [floorT]
  | n + 1 => by
    have ih := floorT_le (os := os) (span := span) (lie := lie) (r := r) (n := n)
    unfold floorT
    rw [Int.max_le, ih]
    constructor
    · rintro ⟨⟨h0, h1⟩, h2⟩
      refine ⟨h0, fun i hi => ?_⟩
      by_cases e : i = n
      · rw [e]; exact h2
      · exact h1 i (by omega)
    · rintro ⟨h0, h1⟩
      exact ⟨⟨h0, fun i hi => h1 i (by omega)⟩, h1 n (by omega)⟩
theorem peakT_nonneg {os : List Int} {lie : Nat → Int × Int} : ∀ n, 0 ≤ peakT os lie n
  | 0 => Int.le_refl _
  | n + 1 => by unfold peakT; have := peakT_nonneg (os := os) (lie := lie) n; omega
theorem floorT_nonneg {os : List Int} {span lie : Nat → Int × Int} : ∀ n, 0 ≤ floorT os span lie n
  | 0 => Int.le_refl _
  | n + 1 => by unfold floorT; have := floorT_nonneg (os := os) (span := span) (lie := lie) n; omega
theorem sum_filter (l : List Int) (c : Int → Bool) (g : Int → Int) : (l.map fun o => if c o = true then g o else 0).sum = ((l.filter c).map g).sum := by
  induction l with
  | nil => rfl
  | cons x l ih =>
    rw [List.map_cons, List.sum_cons, ih, List.filter_cons]
    split
    · rw [List.map_cons, List.sum_cons]
    · omega
theorem floor_peak {G : Gp} (hG : G.Right) {os pl : List Int} (h : Ord G os pl) {span : Nat → Int × Int} (hc : Clear os span (lieP G os pl)) : floorT os span (lieP G os pl) os.length ≤ peakT os (lieP G os pl) os.length := by
  rw [floorT_le]
  refine ⟨peakT_nonneg _, fun i _ => ?_⟩
  have hp := (peakT_le (os := os) (lie := lieP G os pl) (Nat.le_refl _)).1 (Int.le_refl _)
  have hp2 := (all_os h (fun k => (lieP G os pl k).2 + 1 ≤ peakT os (lieP G os pl) os.length)).1 hp.2
  rw [sumT_eq (Nat.le_refl _), List.take_length, sum_filter os (fun o => meetB (span o.toNat) (i, i)) (fun o => (lieP G os pl o.toNat).2 - (lieP G os pl o.toNat).1 + 1)]
  have key := apart_sum _ ((os.filter (fun o => meetB (span o.toNat) (i, i))).map fun o => (pl.getD o.toNat 0, G.ar o.toNat)) (peakT os (lieP G os pl) os.length) rfl (peakT_nonneg _)
    (fun x hx => by
      obtain ⟨o, ho, rfl⟩ := List.mem_map.1 hx
      obtain ⟨ho, _⟩ := List.mem_filter.1 ho
      have hN := h.inN o ho
      have e : ((o.toNat : Nat) : Int) = o := by omega
      have hm : ((o.toNat : Nat) : Int) ∈ os := by rw [e]; exact ho
      have h1 := h.at_ o.toNat (by omega) hm
      have h2 := hG.ar o.toNat (by omega)
      have h3 := hp2 o.toNat (by omega) hm
      rw [Ord.lie hm] at h3
      simp only at h3 ⊢
      omega)
    (by
      rw [List.pairwise_map]
      have hn : (os.filter (fun o => meetB (span o.toNat) (i, i))).Pairwise (fun a b => a ≠ b) := (h.nodup.filter _)
      refine List.Pairwise.imp_of_mem ?_ hn
      intro a b ha hb hab
      obtain ⟨ha, ha'⟩ := List.mem_filter.1 ha
      obtain ⟨hb, hb'⟩ := List.mem_filter.1 hb
      have hA := h.inN a ha
      have hB := h.inN b hb
      have ea : ((a.toNat : Nat) : Int) = a := by omega
      have eb : ((b.toNat : Nat) : Int) = b := by omega
      have ma : ((a.toNat : Nat) : Int) ∈ os := by rw [ea]; exact ha
      have mb : ((b.toNat : Nat) : Int) ∈ os := by rw [eb]; exact hb
      have hne : a.toNat ≠ b.toNat := by omega
      have hl := hc a.toNat b.toNat ma mb hne (by
        unfold meetB at ha' hb' ⊢
        simp only [Bool.and_eq_true, decide_eq_true_eq] at ha' hb' ⊢
        omega)
      rw [Ord.lie ma, Ord.lie mb] at hl
      unfold meetB at hl
      simp only [Bool.and_eq_true, decide_eq_true_eq] at hl
      by_cases h1 : pl.getD a.toNat 0 + G.ar a.toNat ≤ pl.getD b.toNat 0
      · exact .inl h1
      · by_cases h2 : pl.getD b.toNat 0 + G.ar b.toNat ≤ pl.getD a.toNat 0
        · exact .inr h2
        · exact (hl ⟨by omega, by omega⟩).elim)
  rw [List.map_map] at key
  have e : (os.filter (fun o => meetB (span o.toNat) (i, i))).map (Prod.snd ∘ fun o => (pl.getD o.toNat 0, G.ar o.toNat)) = (os.filter (fun o => meetB (span o.toNat) (i, i))).map (fun o => (lieP G os pl o.toNat).2 - (lieP G os pl o.toNat).1 + 1) := by
    refine List.map_congr_left fun o ho => ?_
    obtain ⟨ho, _⟩ := List.mem_filter.1 ho
    have hN := h.inN o ho
    have hm : ((o.toNat : Nat) : Int) ∈ os := by rw [show ((o.toNat : Nat) : Int) = o by omega]; exact ho
    rw [Ord.lie hm]
    simp only [Function.comp]
    omega
  rw [e] at key
  exact key
theorem Ord.pos {G : Gp} (hG : G.Right) {os pl : List Int} (h : Ord G os pl) : G.last ∈ os := by
  have := h.has G.last.toNat (by have := hG.last; omega) hG.kept
  rwa [show ((G.last.toNat : Nat) : Int) = G.last by have := hG.last; omega] at this
theorem Ord.olen {G : Gp} {os pl : List Int} (h : Ord G os pl) : os.length ≤ G.N := nodup_len _ _ h.nodup h.inN
theorem peak_bd {G : Gp} (hG : G.Right) {os pl : List Int} (h : Ord G os pl) : 1 ≤ peakT os (lieP G os pl) os.length ∧ peakT os (lieP G os pl) os.length ≤ 4352 := by
  constructor
  · have hp := (peakT_le (os := os) (lie := lieP G os pl) (Nat.le_refl _)).1 (Int.le_refl _)
    have hp2 := (all_os h (fun k => (lieP G os pl k).2 + 1 ≤ peakT os (lieP G os pl) os.length)).1 hp.2
    have hl := hG.last
    have hm := h.pos hG
    have e : ((G.last.toNat : Nat) : Int) = G.last := by omega
    rw [← e] at hm
    have h3 := hp2 G.last.toNat (by omega) hm
    rw [Ord.lie hm] at h3
    have h1 := h.at_ _ (show G.last.toNat < G.N by omega) hm
    have h2 := hG.ar _ (show G.last.toNat < G.N by omega)
    simp only at h3
    omega
  · rw [peakT_le (Nat.le_refl _)]
    refine ⟨by omega, (all_os h (fun k => (lieP G os pl k).2 + 1 ≤ 4352)).2 fun k hk hm => ?_⟩
    rw [Ord.lie hm]
    have h1 := h.at_ k hk hm
    have h2 := hG.ar k hk
    simp only
    omega
theorem lie_bd {G : Gp} (hG : G.Right) {os pl : List Int} (h : Ord G os pl) {k : Nat} (hk : k < G.N) : (0 ≤ (lieP G os pl k).1 ∧ (lieP G os pl k).1 ≤ 4096) ∧ (0 ≤ (lieP G os pl k).2 ∧ (lieP G os pl k).2 ≤ 4352) ∧ (lieP G os pl k).1 ≤ (lieP G os pl k).2 ∧ (lieP G os pl k).2 ≤ (lieP G os pl k).1 + 255 := by
  by_cases hm : (k : Int) ∈ os
  · rw [Ord.lie hm]
    have h1 := h.at_ k hk hm
    have h2 := hG.ar k hk
    simp only
    omega
  · unfold lieP
    rw [if_neg (fun h => hm (stepAt_mem.1 h))]
    simp
theorem ltk_bd (src : Nat → List Int) (os : List Int) (k d : Int) : ∀ n, ltk src os k d n = d ∨ (0 ≤ ltk src os k d n ∧ ltk src os k d n < n)
  | 0 => .inl rfl
  | n + 1 => by
    unfold ltk
    split
    · right; omega
    · rcases ltk_bd src os k d n with h | h
      · exact .inl h
      · right; omega
end Go.Proofs.YtaenpgdmiaekcaaGreatDoor
/-
  STEPS: the map of a plan's steps: plan.stepsOf, hasAll, isBehind, isPlaced.
-/
namespace Go.Proofs.YtaenpgdmiaekcaaGreatDoor
set_option maxRecDepth 100000
open Go.RowKit Im Go.Maps

theorem intKeyed : Keyed Tryz.prog 3 := int_keyed Tryz.underlying3
theorem zeroInt (w : World) : (zeroValue 3).run Tryz.prog w = .ok (.int .i64 0) w := by kernel_rfl
theorem keyInt {p : Int} (h : -9223372036854775808 ≤ p ∧ p ≤ 9223372036854775807) : keyOf Tryz.prog 3 (.int .i64 p) = some (.int .i64 p) := keyOf_int_mk Tryz.underlying3 (WalkArith.wf_i64 (by omega))
/-- The map in block B tells the steps of the order os. -/
def Steps (w : World) (B : Nat) (os : List Int) : Prop :=
  ∃ D : DataW Unit, w.ownsMap Tryz.prog 3 (plainElem Tryz.prog 3) B os.length D ∧ IsMap D ∧ ∀ p : Int, Maps.has D (.int .i64 p) = decide (0 ≤ stepAt os p) ∧ (0 ≤ stepAt os p → ∀ z, D.atKey (.int .i64 p) z = .lit (.int .i64 (stepAt os p)))
def stepV (os : List Int) (p : Int) : Int := if 0 ≤ stepAt os p then stepAt os p else 0
def stepB (os : List Int) (p : Int) : Bool := decide (0 ≤ stepAt os p)
theorem Steps.made (w : World) : Steps (w.alloc (.map #[] 0)) w.heap.size [] :=
  ⟨.map [], World.ownsMap_made _ _ _ _, isMap_empty, fun p => ⟨by simp [Maps.has, stepAt], fun h => by simp [stepAt] at h⟩⟩
theorem Steps.lt {w : World} {B : Nat} {os : List Int} (h : Steps w B os) : B < w.heap.size := by
  obtain ⟨D, ⟨es, c, hb, _⟩, _⟩ := h
  rcases Nat.lt_or_ge B w.heap.size with h | h
  · exact h
  · rw [Array.getElem?_eq_none h] at hb; cases hb
theorem Steps.below {w w' : World} {B : Nat} {os : List Int} (h : Steps w B os) (hb : Below w.heap.size w w') : Steps w' B os := by
  have hlt := h.lt
  obtain ⟨D, ⟨es, c, he, r⟩, hm, hp⟩ := h
  exact ⟨D, ⟨es, c, (hb.block B hlt).trans he, r⟩, hm, hp⟩
theorem wpList_lookup_steps {P : Program} (hP : P = Tryz.prog) (w : World) {ops : Array Oper} {rest : List Oper} {o : Oper} {a : Act} {Q : Exit → Act → World → Prop} (hg : o.guard = none) (m x : Operand) (hop : o.op = Op.lookup 146 m x true)
    {B : Nat} {os : List Int} (hs : Steps w B os) (hm : a.eval m = .map (some B)) {p : Int} (hx : a.eval x = .int .i64 p) (hp : -9223372036854775808 ≤ p ∧ p ≤ 9223372036854775807)
    (hK : wpList P ops Q rest (a.put o.dst (.tuple #[.int .i64 (stepV os p), .bool (stepB os p)])) w) : wpList P ops Q (o :: rest) a w := by
  subst hP
  obtain ⟨D, hown, hM, hD⟩ := hs
  obtain ⟨h1, h2⟩ := hD p
  refine wpList_lookup_own_ok_int w hg m x 146 hop 3 3 .i64 intKeyed Tryz.underlying146 Tryz.underlying3 (zeroInt _) B os.length D hm hown _ _ hx (keyInt hp) ?_
  intro c hat _
  have e1 : Maps.has D (.int .i64 p) = stepB os p := h1
  have e2 : c = stepV os p := by
    unfold stepV
    by_cases hn : 0 ≤ stepAt os p
    · rw [if_pos hn]
      rw [h2 hn] at hat
      injection hat with hat
      injection hat with _ hat
      exact hat.symm
    · rw [if_neg hn]
      have hf : Maps.has D (.int .i64 p) = false := by rw [h1]; simpa using hn
      rw [atKey_of_not_has hf] at hat
      injection hat with hat
      injection hat with _ hat
      exact hat.symm
  rw [e1, e2]
  exact hK
theorem wpList_update_steps {P : Program} (hP : P = Tryz.prog) (w : World) {ops : Array Oper} {rest : List Oper} {o : Oper} {a : Act} {Q : Exit → Act → World → Prop} (hg : o.guard = none) (m x v : Operand) (hop : o.op = Op.mapUpdate 146 m x v)
    {B : Nat} {os : List Int} (hs : Steps w B os) (hm : a.eval m = .map (some B)) {p : Int} (hx : a.eval x = .int .i64 p) (hv : a.eval v = .int .i64 os.length) (hp : -9223372036854775808 ≤ p ∧ p ≤ 9223372036854775807) (hl : os.length ≤ 100) (hn : p ∉ os)
    (hK : ∀ w', Steps w' B (os ++ [p]) → w.grownBy w' (some B) → wpList P ops Q rest (a.put o.dst undef) w') : wpList P ops Q (o :: rest) a w := by
  subst hP
  obtain ⟨D, hown, hM, hD⟩ := hs
  refine wpList_mapUpdate_own w hg m x v 146 hop 3 3 intKeyed Tryz.underlying146 _ B os.length D hm hown (by unfold maxLen; omega) _ _ _ hx hv (keyInt hp) _ [] (plainElem_int Tryz.underlying3 (WalkArith.wf_i64 (by omega))) ?_
  intro w' hown' hgrow
  refine hK w' ⟨_, by rw [List.length_append]; exact hown', hM.put _ _, fun q => ?_⟩ hgrow
  rw [stepAt_snoc q hn]
  by_cases e : p = q
  · subst e
    rw [if_pos rfl]
    refine ⟨?_, fun _ z => atKey_put_same hM (intKeyed.key (keyInt hp)) _ z⟩
    rw [has_put_same hM (intKeyed.key (keyInt hp))]
    simp
  · rw [if_neg e]
    have hne : (Lit.int .i64 q) ≠ (Lit.int .i64 p) := fun h => e (by injection h with _ h; exact h.symm)
    refine ⟨by rw [has_put_other hne]; exact (hD q).1, fun hq z => ?_⟩
    rw [atKey_put_other hne]
    exact (hD q).2 hq z
/-- What plan.stepsOf tells. -/
def ToldSt (w : World) (os : List Int) (N : Nat) (e : Ending) (w' : World) : Prop :=
  (onceB os N = true ∧ (∃ B, e = .returned (.tuple #[.map (some B), .bool true]) ∧ w.heap.size ≤ B ∧ Steps w' B os) ∧ Below w.heap.size w w') ∨ (onceB os N = false ∧ e = .returned (.tuple #[.map none, .bool false]) ∧ Below w.heap.size w w')
set_option maxHeartbeats 1000000 in
theorem stepsOf_any {a : Option Addr} {len : Nat} (cap : Nat) {os : List Int} {base : Nat} {w : World} (hI : Ints base w a len os) {N : Nat} (hN : N ≤ 12) :
    Calls Tryz.prog 79 #[.slice a len cap, .int .i64 N] w (ToldSt w os N) := by
  have hmm := @run_makeMap Tryz.prog
  obtain rfl := hI.leng
  have hbig := hI.big
  go_enter Tryz.func79, Tryz.ntmps79
  go_wp2
  go_loopw [4, 13] (fun m i wr => ∃ k : Nat, k ≤ os.length ∧ i = .int .i64 k ∧ m = .map (some w.heap.size) ∧ allTo (onceP os N) k = true ∧ Steps wr w.heap.size (os.take k) ∧ Below w.heap.size w wr) (fun _ i _ => os.length - (intOf i).toNat)
  case atStart => exact ⟨0, Nat.zero_le _, rfl, rfl, rfl, Steps.made w, (Below.refl _ _).alloc (Nat.le_refl _) _⟩
  case round =>
    obtain ⟨k, hk, rfl, rfl, hall, hst, hb⟩ := hrel
    by_cases hlt : k < os.length
    · obtain ⟨b, off, rfl, hcx⟩ := (hI.below (Nat.le_refl _) hb).nth hlt
      have hon := (once_to (os := os) (N := N) hk).1 hall
      have hk12 : (os.take k).length ≤ N := nodup_len N _ hon.2 hon.1
      rw [List.length_take] at hk12
      have HSn : Hid (os.take (k + 1) = os.take k ++ [os.getD k 0]) := by
        show _ = _
        rw [List.take_succ_eq_append_getElem hlt, List.getD_eq_getElem?_getD, List.getElem?_eq_getElem hlt]; rfl
      have HA : Hid (onceP os N k = true → allTo (onceP os N) (k + 1) = true) := fun h => allTo_succ hall h
      have HF : Hid (onceP os N k = false → onceB os N = false) := fun h => allTo_not hlt h
      have HP : Hid (onceP os N k = (decide (0 ≤ os.getD k 0) && decide (os.getD k 0 < N) && decide (stepAt (os.take k) (os.getD k 0) < 0))) := rfl
      have hlk : (os.take k).length = k := by rw [List.length_take]; omega
      have HL : Hid ((os.take k).length = k) := hlk
      clear hlk hon hall
      generalize os.getD k 0 = n at hcx HSn HP
      generalize os.take k = l at hst HSn HP HL
      by_cases h1 : n < 0
      · go_wp2
        go_ret2
        exact .inr ⟨HF.out (by rw [HP.out, decide_eq_false (by omega)]; rfl), rfl, hb⟩
      · by_cases h2 : (N : Int) ≤ n
        · go_wp2
          go_ret2
          exact .inr ⟨HF.out (by rw [HP.out, decide_eq_false (show ¬ n < (N : Int) by omega)]; simp), rfl, hb⟩
        · by_cases h3 : 0 ≤ stepAt l n
          · have hsb : stepB l n = true := decide_eq_true h3
            go_wp2_with (at_lookup; refine wpList_lookup_steps rfl _ rfl _ _ rfl hst rfl rfl (by omega) ?_)
            go_ret2
            exact .inr ⟨HF.out (by rw [HP.out, decide_eq_false (show ¬ stepAt l n < 0 by omega)]; simp), rfl, hb⟩
          · have hsb : stepB l n = false := decide_eq_false h3
            have hni : n ∉ l := fun hm => h3 (stepAt_mem.2 hm)
            go_wp2_with (first
              | (at_lookup; refine wpList_lookup_steps rfl _ rfl _ _ rfl hst rfl rfl (by omega) ?_)
              | (at_mapUpdate; refine wpList_update_steps rfl _ rfl _ _ _ rfl hst rfl rfl (by rw [HL.out]; rfl) (by omega) (by rw [HL.out]; omega) hni ?_; intro w1 hst1 hgrow1))
            go_roundw
            case rel => exact ⟨k + 1, by omega, by go_num, rfl, HA.out (by rw [HP.out, decide_eq_true (show 0 ≤ n by omega), decide_eq_true (show n < (N : Int) by omega), decide_eq_true (show stepAt l n < 0 by omega)]; rfl), by rw [HSn.out]; exact hst1, hb.grown hgrow1 hb.size (fun j hj => by cases hj; exact Nat.le_refl _)⟩
            case measure => simp [intOf]; omega
    · have hke : k = os.length := by omega
      subst hke
      rw [List.take_length] at hst
      go_wp2
      go_ret2
      exact .inl ⟨hall, ⟨_, rfl, Nat.le_refl _, hst⟩, hb⟩
end Go.Proofs.YtaenpgdmiaekcaaGreatDoor
/-
  INREF: numbers and lists alone: the sizes by slots, as the reference holds them, and its error of a pass.
-/
namespace Go.Proofs.YtaenpgdmiaekcaaGreatDoor
set_option maxRecDepth 100000
open Go.RowKit Im

/-- The size of what lies in slot s ahead of pass n; (0, 0): nothing. -/
def inP (f : Fr) (n : Nat) (s : Int) : Sz := if 0 ≤ wrt f.ps n s then (szs f n).getD (wrt f.ps n s).toNat Sz.zero else Sz.zero
theorem inP_some {f : Fr} {n : Nat} {s : Int} (hb : boundsE f = 0) (h : firstE f n = 0) (hw : 0 ≤ wrt f.ps n s) : ZB (inP f n s) := by
  unfold inP
  rw [if_pos hw]
  have := wrt_bd f.ps n s
  exact szs_bd hb h _ (getD_mem (by rw [szs_length]; omega) _)
theorem inP_none {f : Fr} {n : Nat} {s : Int} (hw : ¬ 0 ≤ wrt f.ps n s) : inP f n s = (0, 0) := by unfold inP; rw [if_neg hw]
theorem inP_zero {f : Fr} {n : Nat} {s : Int} (hb : boundsE f = 0) (h : firstE f n = 0) : (inP f n s).1 = 0 ↔ ¬ 0 ≤ wrt f.ps n s := by
  constructor
  · intro e hw
    have := (inP_some hb h hw).1
    omega
  · intro hw
    rw [inP_none hw]
theorem inP_start (f : Fr) (s : Int) : inP f 0 s = (0, 0) := inP_none (by simp [wrt])
theorem inP_succ (f : Fr) (n : Nat) (s : Int) : inP f (n + 1) s = if (f.ps.getD n Ps.zero).To = s then sizeP f.W f.H (f.ps.getD n Ps.zero).Op (pickZ (szs f n) (srcOf f.ps n)) else inP f n s := by
  have e : szs f (n + 1) = szs f n ++ [sizeP f.W f.H (f.ps.getD n Ps.zero).Op (pickZ (szs f n) (srcOf f.ps n))] := rfl
  have hl := szs_length f n
  have ew : wrt f.ps (n + 1) s = if (f.ps.getD n Ps.zero).To = s then (n : Int) else wrt f.ps n s := rfl
  unfold inP
  rw [ew]
  by_cases ht : (f.ps.getD n Ps.zero).To = s
  · rw [if_pos ht, if_pos ht, if_pos (by omega), e, Int.toNat_natCast, List.getD_eq_getElem?_getD, List.getElem?_append_right (by omega)]
    simp [hl]
  · rw [if_neg ht, if_neg ht]
    by_cases hw : 0 ≤ wrt f.ps n s
    · have := wrt_bd f.ps n s
      rw [if_pos hw, if_pos hw, e, List.getD_eq_getElem?_getD, List.getElem?_append_left (by omega), ← List.getD_eq_getElem?_getD]
    · rw [if_neg hw, if_neg hw]
/-- The reference's error of a pass that takes images of the sizes zA and zB. -/
def refE (p : Ps) (S : Int) (zA zB : Sz) : Int :=
  if ownE p S = 0 then
    if (hasA p.Op = true ∧ zA.1 = 0) ∨ (hasB p.Op = true ∧ zB.1 = 0) then 5
    else if hasB p.Op = true ∧ zA ≠ zB then 6
    else if (p.Op = 11 ∧ (zA.1 % 2 = 1 ∨ zA.2 % 2 = 1)) ∨ (p.Op = 12 ∧ (16 < 2 * zA.1 ∨ 16 < 2 * zA.2)) then 6
    else 0
  else ownE p S
theorem hasB_hasA {op : Int} (h : hasB op = true) : hasA op = true := by simp [hasB, withinB] at h; simp [hasA, withinB]; omega
theorem refE_eq {f : Fr} {n : Nat} (hb : boundsE f = 0) (h : firstE f n = 0) : refE (f.ps.getD n Ps.zero) f.S (inP f n (f.ps.getD n Ps.zero).A) (inP f n (f.ps.getD n Ps.zero).B) = passE f n := by
  have zA := inP_zero (f := f) (n := n) (s := (f.ps.getD n Ps.zero).A) hb h
  have zB := inP_zero (f := f) (n := n) (s := (f.ps.getD n Ps.zero).B) hb h
  have eA : 0 ≤ wrt f.ps n (f.ps.getD n Ps.zero).A → (szs f n).getD (wrt f.ps n (f.ps.getD n Ps.zero).A).toNat Sz.zero = inP f n (f.ps.getD n Ps.zero).A := fun hw => by unfold inP; rw [if_pos hw]
  have eB : 0 ≤ wrt f.ps n (f.ps.getD n Ps.zero).B → (szs f n).getD (wrt f.ps n (f.ps.getD n Ps.zero).B).toNat Sz.zero = inP f n (f.ps.getD n Ps.zero).B := fun hw => by unfold inP; rw [if_pos hw]
  unfold refE passE srcOf thereB
  by_cases ho : ownE (f.ps.getD n Ps.zero) f.S = 0
  · rw [if_pos ho, if_pos ho]
    clear ho
    generalize f.ps.getD n Ps.zero = p at *
    generalize inP f n p.A = za at *
    generalize inP f n p.B = zb at *
    unfold takesP fitP
    rw [List.getD_eq_getElem?_getD] at eA eB
    by_cases hB : hasB p.Op = true
    · have hA := hasB_hasA hB
      have n11 : ¬ p.Op = 11 := by simp [hasB, withinB] at hB; omega
      have n12 : ¬ p.Op = 12 := by simp [hasB, withinB] at hB; omega
      by_cases a1 : 0 ≤ wrt f.ps n p.A
      · have za0 : ¬ za.1 = 0 := fun e => (zA.1 e) a1
        by_cases b1 : 0 ≤ wrt f.ps n p.B
        · have zb0 : ¬ zb.1 = 0 := fun e => (zB.1 e) b1
          by_cases e : za = zb
          · simp [hB, hA, n11, n12, a1, b1, zb0, eA a1, eB b1, pickZ, e]
          · simp [hB, hA, n11, n12, a1, b1, za0, zb0, eA a1, eB b1, pickZ, e]
        · have zb0 := zB.2 b1
          simp [hB, hA, b1, zb0]
      · have za0 := zA.2 a1
        simp [hB, hA, a1, za0]
    · by_cases hA : hasA p.Op = true
      · by_cases a1 : 0 ≤ wrt f.ps n p.A
        · have za0 : ¬ za.1 = 0 := fun e => (zA.1 e) a1
          by_cases h11 : p.Op = 11
          · have x1 : hasA 11 = true := rfl
            have x2 : hasB 11 = false := rfl
            by_cases c1 : za.1 % 2 = 0 <;> by_cases c2 : za.2 % 2 = 0
            all_goals simp [x1, x2, a1, za0, eA a1, pickZ, h11, c1, c2]
            all_goals omega
          · by_cases h12 : p.Op = 12
            · have x1 : hasA 12 = true := rfl
              have x2 : hasB 12 = false := rfl
              by_cases c1 : 2 * za.1 ≤ 16 <;> by_cases c2 : 2 * za.2 ≤ 16
              all_goals simp [x1, x2, a1, za0, eA a1, pickZ, h12, c1, c2]
              all_goals omega
            · simp [hB, hA, a1, za0, h11, h12]
        · have za0 := zA.2 a1
          simp [hB, hA, a1, za0]
      · have n11 : ¬ p.Op = 11 := fun e => hA (by rw [e]; rfl)
        have n12 : ¬ p.Op = 12 := fun e => hA (by rw [e]; rfl)
        simp [hA, hB, n11, n12]
  · rw [if_neg ho, if_neg ho]
end Go.Proofs.YtaenpgdmiaekcaaGreatDoor
/-
  GIVEN: what a light gives to a place; how far it is from a part.
-/
namespace Go.Proofs.YtaenpgdmiaekcaaGreatDoor
set_option maxRecDepth 100000
open Go.RowKit Im

/-- How far c is from the nearest of n columns (or rows) from f on. -/
def awayP (c f n : Int) : Int := max (max (f - c) (c - (f + n - 1))) 0
theorem away_any (c f n : Int) (w : World) (hc : 0 ≤ c ∧ c < 16) (hf : 0 ≤ f ∧ f < 16) (hn : 1 ≤ n ∧ n ≤ 16) : Calls Tryz.prog 149 #[.int .i64 c, .int .i64 f, .int .i64 n] w fun e w' => e = .returned (.int .i64 (awayP c f n)) ∧ w' = w := by
  obtain ⟨m, hm⟩ : ∃ m, m = awayP c f n := ⟨_, rfl⟩
  rw [← hm]
  by_cases h1 : f - c < c - (f + n - 1)
  · by_cases h2 : c - (f + n - 1) < 0
    · have e : m = 0 := by rw [hm]; unfold awayP; omega
      subst e
      clear hm
      go_enter Tryz.func149, Tryz.ntmps149
      go_wp2
      go_ret
      exact ⟨rfl, rfl⟩
    · have e : m = c - (f + n - 1) := by rw [hm]; unfold awayP; omega
      subst e
      clear hm
      go_enter Tryz.func149, Tryz.ntmps149
      go_wp2
      go_ret
      exact ⟨rfl, rfl⟩
  · by_cases h2 : f - c < 0
    · have e : m = 0 := by rw [hm]; unfold awayP; omega
      subst e
      clear hm
      go_enter Tryz.func149, Tryz.ntmps149
      go_wp2
      go_ret
      exact ⟨rfl, rfl⟩
    · have e : m = f - c := by rw [hm]; unfold awayP; omega
      subst e
      clear hm
      go_enter Tryz.func149, Tryz.ntmps149
      go_wp2
      go_ret
      exact ⟨rfl, rfl⟩
theorem away_bd (c f n : Int) (hc : 0 ≤ c ∧ c < 16) (hf : 0 ≤ f ∧ f < 16) (hn : 1 ≤ n ∧ n ≤ 16) : 0 ≤ awayP c f n ∧ awayP c f n ≤ 15 := by unfold awayP; omega
/-- What a light gives to a place. -/
def givenP (l : Lt) (x y : Int) : Int := l.P * max (l.R - (awayP l.X x 1 + awayP l.Y y 1)) 0 / l.R
theorem given_bd {l : Lt} (hl : rightB l = true) (x y : Int) (hx : 0 ≤ x ∧ x < 16) (hy : 0 ≤ y ∧ y < 16) : 0 ≤ givenP l x y ∧ givenP l x y ≤ 65535 := by
  obtain ⟨hX, hY, hR, hP⟩ := (right_iff l).1 hl
  have a1 := away_bd l.X x 1 hX hx (by omega)
  have a2 := away_bd l.Y y 1 hY hy (by omega)
  unfold givenP
  have hd : 0 ≤ awayP l.X x 1 + awayP l.Y y 1 := by omega
  generalize awayP l.X x 1 + awayP l.Y y 1 = d at hd ⊢
  have h1 : 0 ≤ max (l.R - d) 0 ∧ max (l.R - d) 0 ≤ l.R := by omega
  · have m1 : 0 ≤ l.P * max (l.R - d) 0 := Int.mul_nonneg hP.1 h1.1
    have m2 : l.P * max (l.R - d) 0 ≤ 65535 * l.R := Int.mul_le_mul hP.2 h1.2 h1.1 (by omega)
    refine ⟨Int.ediv_nonneg m1 (by omega), ?_⟩
    have : l.P * max (l.R - d) 0 / l.R < 65536 := Int.ediv_lt_of_lt_mul (by omega) (by omega)
    omega
theorem given_any (l : Lt) (x y : Int) (w : World) (hl : rightB l = true) (hx : 0 ≤ x ∧ x < 16) (hy : 0 ≤ y ∧ y < 16) :
    Calls Tryz.prog 117 #[.agg #[.int .i64 l.X, .int .i64 l.Y, .int .i64 l.R, .int .i64 l.P], .int .i64 x, .int .i64 y] w fun e w' => e = .returned (.int .i64 (givenP l x y)) ∧ Below w.heap.size w w' := by
  obtain ⟨hX, hY, hR, hP⟩ := (right_iff l).1 hl
  have c1 := fun wx => away_any l.X x 1 wx hX hx (by omega)
  have c2 := fun wx => away_any l.Y y 1 wx hY hy (by omega)
  have a1 := away_bd l.X x 1 hX hx (by omega)
  have a2 := away_bd l.Y y 1 hY hy (by omega)
  have hg : givenP l x y = l.P * max (l.R - (awayP l.X x 1 + awayP l.Y y 1)) 0 / l.R := rfl
  generalize awayP l.X x 1 = d1 at *
  generalize awayP l.Y y 1 = d2 at *
  obtain ⟨X, Y, R, P⟩ := l
  dsimp only at *
  obtain ⟨m, hm⟩ : ∃ m, (if R - (d1 + d2) < 0 then 0 else R - (d1 + d2)) = m := ⟨_, rfl⟩
  have hm' : max (R - (d1 + d2)) 0 = m := by rw [← hm]; split <;> omega
  rw [hg, hm']
  have b1 : 0 ≤ m ∧ m ≤ 32 := by omega
  have m1 : 0 ≤ P * m := Int.mul_nonneg hP.1 b1.1
  have m2 : P * m ≤ 65535 * 32 := Int.mul_le_mul hP.2 b1.2 b1.1 (by omega)
  clear hg hm' hl
  go_enter Tryz.func117, Tryz.ntmps117
  go_wp2
  go_quiet ((first | (go_at_call 149; with_reducible exact Calls.quiet_of_same (c1 _)) | (go_at_call 149; with_reducible exact Calls.quiet_of_same (c2 _))))
  clear c1 c2
  go_wp2
  go_ret
  exact ⟨rfl, below_drewN ((Below.refl _ _).alloc (Nat.le_refl _) _) _⟩
theorem given_pos {l : Lt} {x y d : Int} (hd : awayP l.X x 1 + awayP l.Y y 1 = d) (h : d < l.R) : givenP l x y = l.P * (l.R - d) / l.R := by
  unfold givenP; rw [hd, show max (l.R - d) 0 = l.R - d by omega]
theorem given_zero {l : Lt} {x y d : Int} (hd : awayP l.X x 1 + awayP l.Y y 1 = d) (h : ¬ d < l.R) : givenP l x y = 0 := by
  unfold givenP; rw [hd, show max (l.R - d) 0 = 0 by omega]; simp
def stretchB (f n : Int) : Bool := placeB f && decide (1 ≤ n) && decide (n ≤ 16 - f)
theorem isStretch_any (f n : Int) (w : World) : Calls Tryz.prog 148 #[.int .i64 f, .int .i64 n] w fun e w' => e = .returned (.bool (stretchB f n)) ∧ w = w' := by
  by_cases h1 : placeB f = true
  · have hf := (place_iff f).1 h1
    by_cases h2 : 1 ≤ n
    · by_cases h3 : n ≤ 16 - f
      · rw [show stretchB f n = true by simp [stretchB, h1, h2, h3]]
        go_enter Tryz.func148, Tryz.ntmps148
        go_wp2_with (go_at_call 174; refine (isPlace_any _ _).mono ?_; rintro e w' ⟨rfl, rfl⟩)
        go_ret
        exact ⟨by first | rfl | simp [h3], rfl⟩
      · rw [show stretchB f n = false by simp [stretchB, h3]]
        have h3' : decide (n ≤ 16 - f) = false := by simpa using h3
        go_enter Tryz.func148, Tryz.ntmps148
        go_wp2_with (go_at_call 174; refine (isPlace_any _ _).mono ?_; rintro e w' ⟨rfl, rfl⟩)
        go_ret
        exact ⟨by first | rfl | simp [h3], rfl⟩
    · rw [show stretchB f n = false by simp [stretchB, h2]]
      go_enter Tryz.func148, Tryz.ntmps148
      go_wp2_with (go_at_call 174; refine (isPlace_any _ _).mono ?_; rintro e w' ⟨rfl, rfl⟩)
      go_ret
      exact ⟨rfl, rfl⟩
  · have h1' := eq_false_of_ne_true h1
    rw [show stretchB f n = false by simp [stretchB, h1']]
    go_enter Tryz.func148, Tryz.ntmps148
    go_wp2_with (go_at_call 174; refine (isPlace_any _ _).mono ?_; rintro e w' ⟨rfl, rfl⟩)
    go_ret
    exact ⟨rfl, rfl⟩
end Go.Proofs.YtaenpgdmiaekcaaGreatDoor
/-
  AT: light.At.
-/
namespace Go.Proofs.YtaenpgdmiaekcaaGreatDoor
set_option maxRecDepth 100000
open Go.RowKit Im

/-- What all lights give to a place, added. -/
def sumG (x y : Int) : List Lt → Int
  | [] => 0
  | l :: r => givenP l x y + sumG x y r
theorem sumG_snoc (x y : Int) (l : Lt) : ∀ ls, sumG x y (ls ++ [l]) = sumG x y ls + givenP l x y
  | [] => by simp [sumG]
  | m :: r => by simp [sumG, sumG_snoc x y l r, Int.add_assoc]
theorem sumG_bd (x y : Int) (hx : 0 ≤ x ∧ x < 16) (hy : 0 ≤ y ∧ y < 16) : ∀ ls : List Lt, ls.all rightB = true → 0 ≤ sumG x y ls ∧ sumG x y ls ≤ 65535 * ls.length
  | [], _ => by simp [sumG]
  | l :: r, h => by
    simp only [List.all_cons, Bool.and_eq_true] at h
    have h1 := sumG_bd x y hx hy r h.2
    have h2 := given_bd h.1 x y hx hy
    simp only [sumG, List.length_cons]
    omega
theorem take_snocL (ls : List Lt) (k : Nat) (hk : k < ls.length) : ls.take (k + 1) = ls.take k ++ [ls.getD k Lt.zero] := by
  rw [List.take_succ_eq_append_getElem hk, List.getD_eq_getElem?_getD, List.getElem?_eq_getElem hk]; rfl
theorem all_take (ls : List Lt) (k : Nat) (h : ls.all rightB = true) : (ls.take k).all rightB = true := by
  rw [List.all_eq_true] at h ⊢
  exact fun x hx => h x (List.mem_of_mem_take hx)
theorem all_getD (ls : List Lt) (k : Nat) (hk : k < ls.length) (h : ls.all rightB = true) : rightB (ls.getD k Lt.zero) = true := by
  rw [List.getD_eq_getElem?_getD, List.getElem?_eq_getElem hk]
  exact List.all_eq_true.1 h _ (List.getElem_mem hk)

def atE (ls : List Lt) (x y : Int) : Int := if lightsErr ls = 0 then okIf (placeB x && placeB y) 3 else lightsErr ls
def atV (ls : List Lt) (x y : Int) : Int := if atE ls x y = 0 then sumG x y ls else 0
theorem lightsErr_zero {ls : List Lt} (h : lightsErr ls = 0) : ls.length ≤ 8 ∧ ls.all rightB = true := by
  unfold lightsErr at h
  by_cases h8 : ls.length ≤ 8
  · rw [if_pos h8] at h
    refine ⟨h8, ?_⟩
    cases hr : ls.all rightB
    · rw [hr] at h; cases h
    · rfl
  · rw [if_neg h8] at h; cases h
end Go.Proofs.YtaenpgdmiaekcaaGreatDoor
/-
  NEAR: light.Near.
-/
namespace Go.Proofs.YtaenpgdmiaekcaaGreatDoor
set_option maxRecDepth 100000
open Go.RowKit Im

/-- Is the light near the part? -/
def nearB (x y pw ph : Int) (l : Lt) : Bool := decide (awayP l.X x pw + awayP l.Y y ph < l.R)
/-- The numbers, below k, of the lights for which f holds. -/
def pickL (f : Lt → Bool) (ls : List Lt) (k : Nat) : List Int := ((List.range k).filter fun i => f (ls.getD i Lt.zero)).map (fun i : Nat => (i : Int))
theorem pickL_yes (f : Lt → Bool) (ls : List Lt) (k : Nat) (h : f (ls.getD k Lt.zero) = true) : pickL f ls (k + 1) = pickL f ls k ++ [(k : Int)] := by
  unfold pickL; rw [List.range_succ, List.filter_append, List.filter_cons, if_pos h]; simp
theorem pickL_no (f : Lt → Bool) (ls : List Lt) (k : Nat) (h : f (ls.getD k Lt.zero) = false) : pickL f ls (k + 1) = pickL f ls k := by
  unfold pickL; rw [List.range_succ, List.filter_append, List.filter_cons, if_neg (by rw [h]; simp)]; simp
theorem pickL_len (f : Lt → Bool) (ls : List Lt) (k : Nat) : (pickL f ls k).length ≤ k := by
  unfold pickL; rw [List.length_map]; exact Nat.le_trans (List.length_filter_le _ _) (by simp)

/-- The call's end tells a list of numbers and an error's number. -/
def ToldL (w : World) (ps : List Int) (E : Int) (e : Ending) (w' : World) : Prop :=
  ∃ a cap, e = .returned (.tuple #[.slice a ps.length cap, .int .i64 E]) ∧ Ints w.heap.size w' a ps.length ps ∧ Below w.heap.size w w'
theorem near_error {a : Option Addr} {len : Nat} (cap : Nat) {ls : List Lt} (x y pw ph : Int) {w : World} (h : Lights w a len ls) (hE : ¬ lightsErr ls = 0) :
    Calls Tryz.prog 114 #[.slice a len cap, .int .i64 x, .int .i64 y, .int .i64 pw, .int .i64 ph] w fun e w' => e = .returned (.tuple #[.slice none 0 0, .int .i64 (lightsErr ls)]) ∧ Below w.heap.size w w' := by
  have hc := checkL_any cap h
  generalize lightsErr ls = E at hc hE
  have hne : (E != 0) = true := by simpa using hE
  clear hE
  go_enter Tryz.func114, Tryz.ntmps114
  go_wp2_with (go_at_call 102; refine hc.mono ?_; rintro e wA ⟨rfl, bA⟩)
  go_ret2
  exact ⟨rfl, bA⟩
theorem near_range {a : Option Addr} {len : Nat} (cap : Nat) {ls : List Lt} (x y pw ph : Int) {w : World} (h : Lights w a len ls) (hE : lightsErr ls = 0) (hp : (stretchB x pw && stretchB y ph) = false) :
    Calls Tryz.prog 114 #[.slice a len cap, .int .i64 x, .int .i64 y, .int .i64 pw, .int .i64 ph] w fun e w' => e = .returned (.tuple #[.slice none 0 0, .int .i64 3]) ∧ Below w.heap.size w w' := by
  have hc := checkL_any cap h
  rw [hE] at hc
  clear hE
  by_cases h1 : stretchB x pw = true
  · have h2 : stretchB y ph = false := by rw [h1] at hp; simpa using hp
    clear hp
    go_enter Tryz.func114, Tryz.ntmps114
    go_wp2_with (first | (go_at_call 102; refine hc.mono ?_; rintro e wA ⟨rfl, bA⟩) | (go_at_call 148; refine (isStretch_any _ _ _).mono ?_; rintro e w' ⟨rfl, rfl⟩))
    go_ret2
    exact ⟨rfl, bA⟩
  · have h1' := eq_false_of_ne_true h1
    clear hp
    go_enter Tryz.func114, Tryz.ntmps114
    go_wp2_with (first | (go_at_call 102; refine hc.mono ?_; rintro e wA ⟨rfl, bA⟩) | (go_at_call 148; refine (isStretch_any _ _ _).mono ?_; rintro e w' ⟨rfl, rfl⟩))
    go_ret2
    exact ⟨rfl, bA⟩
theorem stretch_iff (f n : Int) : stretchB f n = true ↔ (0 ≤ f ∧ f < 16) ∧ 1 ≤ n ∧ n ≤ 16 - f := by simp [stretchB, place_iff, and_assoc]
set_option maxHeartbeats 1000000 in
theorem near_ok {a : Option Addr} {len : Nat} (cap : Nat) {ls : List Lt} (x y pw ph : Int) {w : World} (h : Lights w a len ls) (h8 : ls.length ≤ 8) (hr : ls.all rightB = true) (hx : stretchB x pw = true) (hy : stretchB y ph = true) :
    Calls Tryz.prog 114 #[.slice a len cap, .int .i64 x, .int .i64 y, .int .i64 pw, .int .i64 ph] w (ToldL w (pickL (nearB x y pw ph) ls len) 0) := by
  obtain ⟨i0, hi, hz0, hz1, hz2⟩ := info_parts Tryz.info3
  have hc := checkL_any cap h
  rw [show lightsErr ls = 0 by simp [lightsErr, h8, hr, okIf]] at hc
  have bx := (stretch_iff x pw).1 hx
  have by' := (stretch_iff y ph).1 hy
  have hl := h.leng
  rcases h.cells with e | ⟨b, off, rfl, hb, hcl⟩
  · subst e
    have : len = 0 := by simpa using hl.symm
    subst this
    go_enter Tryz.func114, Tryz.ntmps114
    go_wp2_with (first | (go_at_call 102; refine hc.mono ?_; rintro e wA ⟨rfl, bA⟩) | (go_at_call 148; refine (isStretch_any _ _ _).mono ?_; rintro e w' ⟨rfl, rfl⟩))
    go_loop [13, 33] (fun s i => s = .slice none 0 0 ∧ i = .int .i64 0) (fun _ _ => 0)
    case atStart => exact ⟨rfl, rfl⟩
    case round =>
      obtain ⟨rfl, rfl⟩ := hrel
      go_wp2
      go_ret2
      exact ⟨none, 0, rfl, Ints.nil _ _, bA⟩
  · go_enter Tryz.func114, Tryz.ntmps114
    go_wp2_with (first | (go_at_call 102; refine hc.mono ?_; rintro e wA ⟨rfl, bA⟩) | (go_at_call 148; refine (isStretch_any _ _ _).mono ?_; rintro e w' ⟨rfl, rfl⟩))
    go_loopw [13, 33] (fun s i wr => ∃ k : Nat, k ≤ len ∧ i = .int .i64 k ∧ Owns w.heap.size wr s (pickL (nearB x y pw ph) ls k) ∧ Below w.heap.size w wr) (fun _ i _ => len - (intOf i).toNat)
    case atStart => exact ⟨0, Nat.zero_le _, rfl, World.ownsRow_nil _ _ _ _, bA⟩
    case round =>
      obtain ⟨k, hk, rfl, hown, hbr⟩ := hrel
      have hlen := pickL_len (nearB x y pw ph) ls k
      by_cases hlt : k < len
      · obtain ⟨c0, c1, c2, c3⟩ := hcl k hlt
        replace c0 := (hbr.cell (p := ⟨b, off + k * 4, none⟩) hb).trans c0
        replace c1 := (hbr.cell (p := ⟨b, off + k * 4 + 1, none⟩) hb).trans c1
        replace c2 := (hbr.cell (p := ⟨b, off + k * 4 + 2, none⟩) hb).trans c2
        replace c3 := (hbr.cell (p := ⟨b, off + k * 4 + 3, none⟩) hb).trans c3
        obtain ⟨hX, hY, hR, _⟩ := (right_iff _).1 (all_getD ls k (by omega) hr)
        have y1 := pickL_yes (nearB x y pw ph) ls k
        have y2 := pickL_no (nearB x y pw ph) ls k
        have d1 := fun wx => away_any (ls.getD k Lt.zero).X x pw wx hX bx.1 (by omega)
        have d2 := fun wx => away_any (ls.getD k Lt.zero).Y y ph wx hY by'.1 (by omega)
        have e1 := away_bd (ls.getD k Lt.zero).X x pw hX bx.1 (by omega)
        have e2 := away_bd (ls.getD k Lt.zero).Y y ph hY by'.1 (by omega)
        have hnb : nearB x y pw ph (ls.getD k Lt.zero) = decide (awayP (ls.getD k Lt.zero).X x pw + awayP (ls.getD k Lt.zero).Y y ph < (ls.getD k Lt.zero).R) := rfl
        rw [hnb] at y1 y2
        clear hnb
        generalize awayP (ls.getD k Lt.zero).X x pw = f1 at d1 e1 y1 y2
        generalize awayP (ls.getD k Lt.zero).Y y ph = f2 at d2 e2 y1 y2
        generalize ls.getD k Lt.zero = l at c0 c1 c2 c3 d1 d2 hX hY hR y1 y2
        obtain ⟨X, Y, R, P⟩ := l
        dsimp only at c0 c1 c2 c3 d1 d2 hX hY hR y1 y2
        clear hcl hc
        have hsz := hbr.size
        by_cases hd : f1 + f2 < R
        · have HS : Hid (pickL (nearB x y pw ph) ls (k + 1) = pickL (nearB x y pw ph) ls k ++ [(k : Int)]) := y1 (by simpa using hd)
          clear y1 y2
          go_wp2
          go_quiet ((first | (go_at_call 149; with_reducible exact Calls.quiet_of_same (d1 _)) | (go_at_call 149; with_reducible exact Calls.quiet_of_same (d2 _))))
          have hown2 := hown.below (below_drewN ((Below.refl _ _).alloc (Nat.le_refl _) (.cells #[.int .i64 X, .int .i64 Y, .int .i64 R, .int .i64 P] 106)) nq) (Nat.le_refl _)
          have hb2 := below_drewN (hbr.alloc hbr.size (.cells #[.int .i64 X, .int .i64 Y, .int .i64 R, .int .i64 P] 106)) nq
          have hs2 := hb2.size
          generalize (wr.alloc (.cells #[.int .i64 X, .int .i64 Y, .int .i64 R, .int .i64 P] 106)).drewN nq = wq at hown2 hb2 hs2 ⊢
          go_wp2_with (at_builtin; refine wpList_append_own _ rfl _ _ 22 rfl w.heap.size 3 i0 (.int .i64 0) 1 8 Tryz.underlying22 hi hz0 hz1 hz2 rfl (by decide) _ _ _ rfl (World.ownsRow.alloc hown2 _) ⟨_, 0, none⟩ 1 1 [.int .i64 k] rfl rfl (cell_one_new _ _ _) (by intro u hu; simp at hu; subst hu; rfl) (by unfold maxLen; omega) (by omega) (by simp; omega) ?_; intro v' w9 hown9 hgrow9 _)
          have R := Owns.push hown2 hb2 hs2 hown9 rfl hgrow9
          go_roundw
          case rel => exact ⟨k + 1, by omega, by go_num, by rw [HS.out]; exact R.1, R.2⟩
          case measure => simp [intOf]; omega
        · have HS : Hid (pickL (nearB x y pw ph) ls (k + 1) = pickL (nearB x y pw ph) ls k) := y2 (by simpa using hd)
          clear y1 y2
          go_wp2
          go_quiet ((first | (go_at_call 149; with_reducible exact Calls.quiet_of_same (d1 _)) | (go_at_call 149; with_reducible exact Calls.quiet_of_same (d2 _))))
          have hown2 := hown.below (below_drewN ((Below.refl _ _).alloc (Nat.le_refl _) (.cells #[.int .i64 X, .int .i64 Y, .int .i64 R, .int .i64 P] 106)) nq) (Nat.le_refl _)
          have hb2 := below_drewN (hbr.alloc hbr.size (.cells #[.int .i64 X, .int .i64 Y, .int .i64 R, .int .i64 P] 106)) nq
          go_wp2
          go_roundw
          case rel => exact ⟨k + 1, by omega, by go_num, by rw [HS.out]; exact hown2, hb2⟩
          case measure => simp [intOf]; omega
      · have e : k = len := by omega
        subst e
        obtain ⟨a', cap', rfl, hints⟩ := hown.ints (by omega)
        go_wp2
        go_ret2
        exact ⟨a', cap', rfl, hints, hbr⟩
end Go.Proofs.YtaenpgdmiaekcaaGreatDoor
