/- PlanM2, PlanM3, Steps, InRef, Given, At, Near, Tile, Pan, LitIn, LitTile, Lit, LightBegun, MeanRef: joined, in this order. -/
import Derived.Test.YtfpkiimlaepnhabM02
import Derived.Maps.OwnSet
import Derived.Test.YtfpkiimlaepnhabM01
import Derived.Laws.EntriesVeiled
/-
  PLANM2: numbers alone: spans, places, peak, floor and clashes of a plan in order, as the program goes through them and as the document says them.
-/
namespace Go.Proofs.Ytfpkiimlaepnhab
set_option maxRecDepth 100000

/-- The last of the first n steps of an order that takes pass k's image; d: none does. -/
def ltk (src : Nat → List Int) (os : List Int) (k d : Int) : Nat → Int
  | 0 => d
  | n + 1 => if k ∈ src (os.getD n 0).toNat then n else ltk src os k d n
def spanP (G : Gp) (os : List Int) (k : Nat) : Int × Int := (stepAt os k, if (k : Int) = G.last then (os.length : Int) - 1 else ltk G.src os k (stepAt os k) os.length)
def lieP (G : Gp) (os pl : List Int) (k : Nat) : Int × Int := if 0 ≤ stepAt os k then (pl.getD k 0, pl.getD k 0 + G.ar k - 1) else (0, 0)
def meetB (a b : Int × Int) : Bool := decide (a.1 ≤ b.2) && decide (b.1 ≤ a.2)
/-- As the program goes. -/
def peakT (os : List Int) (lie : Nat → Int × Int) : Nat → Int
  | 0 => 0
  | n + 1 => max (peakT os lie n) ((lie (os.getD n 0).toNat).2 + 1)
def sumT (os : List Int) (span lie : Nat → Int × Int) (i : Int) : Nat → Int
  | 0 => 0
  | n + 1 => if meetB (span (os.getD n 0).toNat) (i, i) = true then sumT os span lie i n + ((lie (os.getD n 0).toNat).2 - (lie (os.getD n 0).toNat).1 + 1) else sumT os span lie i n
def floorT (os : List Int) (span lie : Nat → Int × Int) : Nat → Int
  | 0 => 0
  | n + 1 => max (floorT os span lie n) (sumT os span lie n os.length)
def apartT (os : List Int) (span lie : Nat → Int × Int) (i j : Nat) : Bool := !(meetB (span (os.getD i 0).toNat) (span (os.getD j 0).toNat) && meetB (lie (os.getD i 0).toNat) (lie (os.getD j 0).toNat))
def clearT (os : List Int) (span lie : Nat → Int × Int) (n : Nat) : Bool := allTo (fun i => allTo (apartT os span lie i) i) n
/-- As the document says. -/
def peakR (ar : Nat → Int) (pl : List Int) : Nat → Int
  | 0 => 0
  | k + 1 => if pl.getD k 0 = -1 then peakR ar pl k else max (peakR ar pl k) (pl.getD k 0 + ar k)
def sumR (ar : Nat → Int) (pl : List Int) (span : Nat → Int × Int) (i : Int) : Nat → Int
  | 0 => 0
  | k + 1 => if ¬ pl.getD k 0 = -1 ∧ meetB (span k) (i, i) = true then sumR ar pl span i k + ar k else sumR ar pl span i k
def floorR (ar : Nat → Int) (pl : List Int) (span : Nat → Int × Int) (N : Nat) : Nat → Int
  | 0 => 0
  | i + 1 => max (floorR ar pl span N i) (sumR ar pl span i N)
def apartR (ar : Nat → Int) (pl : List Int) (span : Nat → Int × Int) (k j : Nat) : Bool := !(!decide (pl.getD j 0 = -1) && meetB (span k) (span j) && decide (pl.getD k 0 < pl.getD j 0 + ar j) && decide (pl.getD j 0 < pl.getD k 0 + ar k))
def fitR (ar : Nat → Int) (pl : List Int) (span : Nat → Int × Int) (room : Int) (k : Nat) : Bool := decide (pl.getD k 0 = -1) || (decide (0 ≤ pl.getD k 0) && decide (pl.getD k 0 ≤ room - ar k) && allTo (apartR ar pl span k) k)
def fitsR (ar : Nat → Int) (pl : List Int) (span : Nat → Int × Int) (room : Int) (N : Nat) : Bool := allTo (fitR ar pl span room) N

/-- What a plan in order has. -/
structure Ord (G : Gp) (os pl : List Int) : Prop where
  inN : ∀ o ∈ os, 0 ≤ o ∧ o < G.N
  nodup : os.Nodup
  has : ∀ k, k < G.N → G.kept k = true → (k : Int) ∈ os
  beh : ∀ k, k < G.N → (k : Int) ∈ os → ∀ s ∈ G.src k, s ∈ os ∧ stepAt os s ≤ stepAt os k
  len : pl.length = G.N
  at_ : ∀ k, k < G.N → (k : Int) ∈ os → 0 ≤ pl.getD k 0 ∧ pl.getD k 0 ≤ 4096
  no : ∀ k, k < G.N → (k : Int) ∉ os → pl.getD k 0 = -1
theorem ord_iff {G : Gp} {os pl : List Int} : ordB G os pl = true ↔ Ord G os pl := by
  unfold ordB hasAllB behB plcB
  simp only [Bool.and_eq_true, decide_eq_true_eq]
  rw [onceB_iff, allTo_iff, allTo_iff, allTo_iff]
  constructor
  · rintro ⟨⟨⟨⟨h1, h2⟩, h3⟩, h4⟩, h5, h6⟩
    refine ⟨h1, h2, fun k hk hK => ?_, fun k hk hm s hs => ?_, h5, fun k hk hm => ?_, fun k hk hm => ?_⟩
    · have := h3 k hk
      unfold hasP at this
      rw [hK] at this
      rw [← stepAt_mem]; simpa using this
    · have := h4 k hk
      have hp := stepAt_mem.2 hm
      unfold behP at this
      rw [Bool.or_eq_true, allTo_iff] at this
      rcases this with this | this
      · simp at this; omega
      · obtain ⟨t, ht, e⟩ := mem_getD hs
        have := this t ht
        unfold behS at this
        rw [e] at this
        simp only [Bool.and_eq_true, decide_eq_true_eq] at this
        exact ⟨stepAt_mem.1 this.1, this.2⟩
    · have := h6 k hk
      unfold plcP at this
      rw [if_pos (stepAt_mem.2 hm)] at this
      simpa only [Bool.and_eq_true, decide_eq_true_eq] using this
    · have := h6 k hk
      unfold plcP at this
      rw [if_neg (fun h => hm (stepAt_mem.1 h))] at this
      simpa only [decide_eq_true_eq] using this
  · rintro ⟨h1, h2, h3, h4, h5, h6, h7⟩
    refine ⟨⟨⟨⟨h1, h2⟩, fun k hk => ?_⟩, fun k hk => ?_⟩, h5, fun k hk => ?_⟩
    · unfold hasP
      cases hK : G.kept k with
      | false => rfl
      | true => simpa using stepAt_mem.2 (h3 k hk hK)
    · unfold behP
      rw [Bool.or_eq_true, allTo_iff]
      by_cases hd : stepAt os k < 0
      · left; simpa using hd
      · right
        intro t ht
        have := h4 k hk (stepAt_mem.1 (by omega)) _ (getD_in ht)
        unfold behS
        simp only [Bool.and_eq_true, decide_eq_true_eq]
        exact ⟨stepAt_mem.2 this.1, this.2⟩
    · unfold plcP
      by_cases hd : 0 ≤ stepAt os k
      · rw [if_pos hd]
        simpa only [Bool.and_eq_true, decide_eq_true_eq] using h6 k hk (stepAt_mem.1 hd)
      · rw [if_neg hd]
        simpa only [decide_eq_true_eq] using h7 k hk (fun h => hd (stepAt_mem.2 h))
theorem Ord.no_iff {G : Gp} {os pl : List Int} (h : Ord G os pl) {k : Nat} (hk : k < G.N) : pl.getD k 0 = -1 ↔ ¬ (k : Int) ∈ os := by
  constructor
  · intro e hm
    have := h.at_ k hk hm
    omega
  · exact h.no k hk
theorem Ord.lie {G : Gp} {os pl : List Int} {k : Nat} (hm : (k : Int) ∈ os) : lieP G os pl k = (pl.getD k 0, pl.getD k 0 + G.ar k - 1) := by
  unfold lieP; rw [if_pos (stepAt_mem.2 hm)]
theorem os_nat {G : Gp} {os pl : List Int} (h : Ord G os pl) {i : Nat} (hi : i < os.length) : ∃ k : Nat, k < G.N ∧ os.getD i 0 = k ∧ (k : Int) ∈ os := by
  have ho := h.inN _ (getD_in hi)
  refine ⟨(os.getD i 0).toNat, by omega, by omega, ?_⟩
  have := getD_in hi
  rwa [show os.getD i 0 = (((os.getD i 0).toNat : Nat) : Int) by omega] at this

theorem peakT_le {os : List Int} {lie : Nat → Int × Int} {r : Int} : ∀ {n : Nat}, n ≤ os.length → (peakT os lie n ≤ r ↔ 0 ≤ r ∧ ∀ i, i < n → (lie (os.getD i 0).toNat).2 + 1 ≤ r)
  | 0, _ => by simp [peakT]
  | n + 1, hn => by
    have ih := peakT_le (os := os) (lie := lie) (r := r) (n := n) (by omega)
    unfold peakT
    rw [Int.max_le, ih]
    constructor
    · rintro ⟨⟨h0, h1⟩, h2⟩
      refine ⟨h0, fun i hi => ?_⟩
      by_cases e : i = n
      · rw [e]; exact h2
      · exact h1 i (by omega)
    · rintro ⟨h0, h1⟩
      exact ⟨⟨h0, fun i hi => h1 i (by omega)⟩, h1 n (by omega)⟩
theorem peakR_le {ar : Nat → Int} {pl : List Int} {r : Int} : ∀ {n : Nat}, (peakR ar pl n ≤ r ↔ 0 ≤ r ∧ ∀ k, k < n → pl.getD k 0 = -1 ∨ pl.getD k 0 + ar k ≤ r)
  | 0 => by simp [peakR]
  | n + 1 => by
    have ih := peakR_le (ar := ar) (pl := pl) (r := r) (n := n)
    unfold peakR
    split
    · rename_i h
      rw [ih]
      constructor
      · rintro ⟨h0, h1⟩
        refine ⟨h0, fun i hi => ?_⟩
        by_cases e : i = n
        · rw [e]; exact .inl h
        · exact h1 i (by omega)
      · rintro ⟨h0, h1⟩
        exact ⟨h0, fun i hi => h1 i (by omega)⟩
    · rename_i h
      rw [Int.max_le, ih]
      constructor
      · rintro ⟨⟨h0, h1⟩, h2⟩
        refine ⟨h0, fun i hi => ?_⟩
        by_cases e : i = n
        · rw [e]; exact .inr h2
        · exact h1 i (by omega)
      · rintro ⟨h0, h1⟩
        exact ⟨⟨h0, fun i hi => h1 i (by omega)⟩, (h1 n (by omega)).resolve_left h⟩
theorem all_os {G : Gp} {os pl : List Int} (h : Ord G os pl) (P : Nat → Prop) : (∀ i, i < os.length → P (os.getD i 0).toNat) ↔ ∀ k, k < G.N → (k : Int) ∈ os → P k := by
  constructor
  · intro hp k hk hm
    obtain ⟨i, hi, e⟩ := mem_getD hm
    have := hp i hi
    rw [e] at this
    simpa using this
  · intro hp i hi
    obtain ⟨k, hk, e, hm⟩ := os_nat h hi
    rw [e]
    exact hp k hk hm
theorem le_all {a b : Int} (h : ∀ r, a ≤ r ↔ b ≤ r) : a = b := by
  have h1 := (h b).2 (Int.le_refl _)
  have h2 := (h a).1 (Int.le_refl _)
  omega
theorem peak_ref {G : Gp} {os pl : List Int} (h : Ord G os pl) : peakT os (lieP G os pl) os.length = peakR G.ar pl G.N := by
  refine le_all fun r => ?_
  rw [peakT_le (Nat.le_refl _), peakR_le, all_os h (fun k => (lieP G os pl k).2 + 1 ≤ r)]
  refine and_congr_right fun _ => ⟨fun hp k hk => ?_, fun hp k hk hm => ?_⟩
  · by_cases hm : (k : Int) ∈ os
    · have := hp k hk hm
      rw [Ord.lie hm] at this
      right; simp only at this; omega
    · exact .inl (h.no k hk hm)
  · rw [Ord.lie hm]
    have := hp k hk
    have := h.at_ k hk hm
    simp only; omega

/-- A sum over different passes is a sum over all of them that are there. -/
def sumK (g : Nat → Int) : Nat → Int
  | 0 => 0
  | k + 1 => sumK g k + g k
theorem sumK_add (g g' : Nat → Int) : ∀ n, sumK (fun k => g k + g' k) n = sumK g n + sumK g' n
  | 0 => rfl
  | n + 1 => by unfold sumK; rw [sumK_add g g' n]; omega
theorem sumK_congr {g g' : Nat → Int} : ∀ {n : Nat}, (∀ k, k < n → g k = g' k) → sumK g n = sumK g' n
  | 0, _ => rfl
  | n + 1, h => by unfold sumK; rw [sumK_congr (n := n) (fun k hk => h k (by omega)), h n (by omega)]
theorem sumK_one (m : Nat) (x : Int) : ∀ {n : Nat}, sumK (fun k => if k = m then x else 0) n = if m < n then x else 0
  | 0 => by simp [sumK]
  | n + 1 => by
    unfold sumK
    rw [sumK_one m x (n := n)]
    by_cases h : n = m
    · subst h; simp
    · by_cases h' : m < n
      · rw [if_pos h', if_neg h, if_pos (by omega)]; omega
      · rw [if_neg h', if_neg h, if_neg (by omega)]; omega
theorem sum_os (g : Nat → Int) {N : Nat} : ∀ {os : List Int}, (∀ o ∈ os, 0 ≤ o ∧ o < N) → os.Nodup → (os.map fun o => g o.toNat).sum = sumK (fun k => if (k : Int) ∈ os then g k else 0) N
  | [], _, _ => by
    have : ∀ n, sumK (fun _ => 0) n = 0 := fun n => by induction n with
      | zero => rfl
      | succ n ih => unfold sumK; rw [ih]; rfl
    simpa using (this N).symm
  | o :: l, hb, hn => by
    rw [List.nodup_cons] at hn
    have ho := hb o (List.mem_cons_self ..)
    have ih := sum_os g (os := l) (fun x hx => hb x (List.mem_cons_of_mem _ hx)) hn.2
    rw [List.map_cons, List.sum_cons, ih]
    have e : sumK (fun k => if (k : Int) ∈ o :: l then g k else 0) N = sumK (fun k => (if k = o.toNat then g o.toNat else 0) + (if (k : Int) ∈ l then g k else 0)) N := by
      refine sumK_congr fun k hk => ?_
      by_cases hk : k = o.toNat
      · have : (k : Int) = o := by omega
        rw [if_pos (by rw [this]; exact List.mem_cons_self ..), if_pos hk, if_neg (by rw [this]; exact hn.1), hk]; omega
      · have : ¬ (k : Int) = o := by omega
        rw [if_neg hk]
        by_cases hm : (k : Int) ∈ l
        · rw [if_pos (List.mem_cons_of_mem _ hm), if_pos hm]; omega
        · rw [if_neg (by rw [List.mem_cons]; exact fun h => h.elim this hm), if_neg hm]; rfl
    rw [e, sumK_add, sumK_one, if_pos (by omega)]
theorem sumT_eq {os : List Int} {span lie : Nat → Int × Int} {i : Int} : ∀ {n : Nat}, n ≤ os.length → sumT os span lie i n = ((os.take n).map fun o => if meetB (span o.toNat) (i, i) = true then (lie o.toNat).2 - (lie o.toNat).1 + 1 else 0).sum
  | 0, _ => by simp [sumT]
  | n + 1, hn => by
    have hl : n < os.length := by omega
    have e : os.getD n 0 = os[n] := by rw [List.getD_eq_getElem?_getD, List.getElem?_eq_getElem hl]; rfl
    unfold sumT
    rw [sumT_eq (n := n) (by omega), List.take_succ_eq_append_getElem hl, List.map_append, List.sum_append, e]
    simp only [List.map_cons, List.map_nil, List.sum_cons, List.sum_nil]
    split <;> omega
theorem sumR_eq {ar : Nat → Int} {pl : List Int} {span : Nat → Int × Int} {i : Int} : ∀ {n : Nat}, sumR ar pl span i n = sumK (fun k => if ¬ pl.getD k 0 = -1 ∧ meetB (span k) (i, i) = true then ar k else 0) n
  | 0 => rfl
  | n + 1 => by
    unfold sumR sumK
    rw [sumR_eq (n := n)]
    split <;> omega
theorem sum_ref {G : Gp} {os pl : List Int} (h : Ord G os pl) (span : Nat → Int × Int) (i : Int) : sumT os span (lieP G os pl) i os.length = sumR G.ar pl span i G.N := by
  rw [sumT_eq (Nat.le_refl _), List.take_length, sum_os (fun k => if meetB (span k) (i, i) = true then (lieP G os pl k).2 - (lieP G os pl k).1 + 1 else 0) h.inN h.nodup, sumR_eq]
  refine sumK_congr fun k hk => ?_
  by_cases hm : (k : Int) ∈ os
  · have hne : ¬ pl.getD k 0 = -1 := fun e => ((h.no_iff hk).1 e) hm
    rw [if_pos hm, Ord.lie hm]
    by_cases hc : meetB (span k) (i, i) = true
    · rw [if_pos hc, if_pos ⟨hne, hc⟩]; simp only; omega
    · rw [if_neg hc, if_neg (fun h => hc h.2)]
  · rw [if_neg hm, if_neg (fun h' => h'.1 (h.no k hk hm))]
theorem floor_ref {G : Gp} {os pl : List Int} (h : Ord G os pl) (span : Nat → Int × Int) : ∀ n, floorT os span (lieP G os pl) n = floorR G.ar pl span G.N n
  | 0 => rfl
  | n + 1 => by unfold floorT floorR; rw [floor_ref h span n, sum_ref h]
theorem meetB_comm (a b : Int × Int) : meetB a b = meetB b a := by unfold meetB; rw [Bool.and_comm]
/-- No two images clash. -/
def Clear (os : List Int) (span lie : Nat → Int × Int) : Prop := ∀ a b : Nat, (a : Int) ∈ os → (b : Int) ∈ os → a ≠ b → meetB (span a) (span b) = true → meetB (lie a) (lie b) = true → False
theorem clearT_iff {G : Gp} {os pl : List Int} (h : Ord G os pl) (span lie : Nat → Int × Int) : clearT os span lie os.length = true ↔ Clear os span lie := by
  unfold clearT Clear
  rw [allTo_iff]
  constructor
  · intro hc a b ha hb hab h1 h2
    obtain ⟨i, hi, ei⟩ := mem_getD ha
    obtain ⟨j, hj, ej⟩ := mem_getD hb
    have key : ∀ i j, i < os.length → j < i → ∀ a b : Nat, os.getD i 0 = a → os.getD j 0 = b → meetB (span a) (span b) = true → meetB (lie a) (lie b) = true → False := by
      intro i j hi hj a b ea eb h1 h2
      have := hc i hi
      simp only [allTo_iff] at this
      have := this j hj
      unfold apartT at this
      rw [ea, eb, Int.toNat_natCast, Int.toNat_natCast, h1, h2] at this
      cases this
    rcases Nat.lt_trichotomy i j with hij | hij | hij
    · exact key j i hj hij b a ej ei (by rw [meetB_comm]; exact h1) (by rw [meetB_comm]; exact h2)
    · subst hij; rw [ei] at ej; omega
    · exact key i j hi hij a b ei ej h1 h2
  · intro hc i hi
    simp only [allTo_iff]
    intro j hj
    obtain ⟨a, _, ea, ha⟩ := os_nat h hi
    obtain ⟨b, _, eb, hb⟩ := os_nat h (show j < os.length by omega)
    have hab : a ≠ b := by
      intro e
      have h1 := stepAt_self h.nodup hi
      have h2 := stepAt_self h.nodup (show j < os.length by omega)
      rw [ea, e, ← eb, h2] at h1
      omega
    unfold apartT
    rw [ea, eb, Int.toNat_natCast, Int.toNat_natCast]
    cases h1 : meetB (span a) (span b)
    · rfl
    · cases h2 : meetB (lie a) (lie b)
      · rfl
      · exact (hc a b ha hb hab h1 h2).elim
theorem fits_ref {G : Gp} {os pl : List Int} (h : Ord G os pl) (span : Nat → Int × Int) {room : Int} (hr : 0 ≤ room) : fitsR G.ar pl span room G.N = true ↔ peakT os (lieP G os pl) os.length ≤ room ∧ clearT os span (lieP G os pl) os.length = true := by
  rw [clearT_iff h, peakT_le (Nat.le_refl _), all_os h (fun k => (lieP G os pl k).2 + 1 ≤ room)]
  unfold fitsR
  rw [allTo_iff]
  constructor
  · intro hf
    have hf' : ∀ k, k < G.N → (k : Int) ∈ os → pl.getD k 0 ≤ room - G.ar k ∧ ∀ j, j < k → (j : Int) ∈ os → meetB (span k) (span j) = true → pl.getD k 0 < pl.getD j 0 + G.ar j → pl.getD j 0 < pl.getD k 0 + G.ar k → False := by
      intro k hk hm
      have := hf k hk
      unfold fitR at this
      have hne : ¬ pl.getD k 0 = -1 := fun e => ((h.no_iff hk).1 e) hm
      rw [decide_eq_false hne, Bool.false_or] at this
      simp only [Bool.and_eq_true, decide_eq_true_eq, allTo_iff] at this
      refine ⟨this.1.2, fun j hj hmj h1 h2 h3 => ?_⟩
      have := this.2 j hj
      unfold apartR at this
      have hne : ¬ pl.getD j 0 = -1 := fun e => ((h.no_iff (by omega)).1 e) hmj
      rw [decide_eq_false hne, h1, decide_eq_true h2, decide_eq_true h3] at this
      cases this
    refine ⟨⟨hr, fun k hk hm => ?_⟩, fun a b ha hb hab h1 h2 => ?_⟩
    · rw [Ord.lie hm]; have := (hf' k hk hm).1; simp only; omega
    · rw [Ord.lie ha, Ord.lie hb] at h2
      have hA := h.inN _ ha
      have hB := h.inN _ hb
      unfold meetB at h2
      simp only [Bool.and_eq_true, decide_eq_true_eq] at h2
      rcases Nat.lt_or_gt_of_ne hab with hl | hl
      · exact (hf' b (by omega) hb).2 a hl ha (by rw [meetB_comm]; exact h1) (by omega) (by omega)
      · exact (hf' a (by omega) ha).2 b hl hb h1 (by omega) (by omega)
  · rintro ⟨⟨_, hp⟩, hc⟩ k hk
    unfold fitR
    by_cases hm : (k : Int) ∈ os
    · have h1 := hp k hk hm
      rw [Ord.lie hm] at h1
      simp only at h1
      have h2 := h.at_ k hk hm
      rw [Bool.or_eq_true]; right
      simp only [Bool.and_eq_true, decide_eq_true_eq, allTo_iff]
      refine ⟨⟨h2.1, by omega⟩, fun j hj => ?_⟩
      unfold apartR
      by_cases hmj : (j : Int) ∈ os
      · cases e1 : meetB (span k) (span j)
        · simp
        · by_cases e2 : pl.getD k 0 < pl.getD j 0 + G.ar j
          · by_cases e3 : pl.getD j 0 < pl.getD k 0 + G.ar k
            · refine (hc k j hm hmj (by omega) e1 ?_).elim
              rw [Ord.lie hm, Ord.lie hmj]
              unfold meetB
              simp only [Bool.and_eq_true, decide_eq_true_eq]
              omega
            · rw [decide_eq_false e3]; simp
          · rw [decide_eq_false e2]; simp
      · rw [decide_eq_true (h.no j (by omega) hmj)]; simp
    · rw [decide_eq_true (h.no k hk hm)]; rfl
end Go.Proofs.Ytfpkiimlaepnhab
/-
  PLANM3: numbers alone: a plan that fits has no peak below its floor.
-/
namespace Go.Proofs.Ytfpkiimlaepnhab
set_option maxRecDepth 100000

theorem floorT_le {os : List Int} {span lie : Nat → Int × Int} {r : Int} : ∀ {n : Nat}, (floorT os span lie n ≤ r ↔ 0 ≤ r ∧ ∀ i : Nat, i < n → sumT os span lie i os.length ≤ r)
  | 0 => by simp [floorT]
  | n + 1 => by
    have ih := floorT_le (os := os) (span := span) (lie := lie) (r := r) (n := n)
    unfold floorT
    rw [Int.max_le, ih]
    constructor
    · rintro ⟨⟨h0, h1⟩, h2⟩
      refine ⟨h0, fun i hi => ?_⟩
      by_cases e : i = n
      · rw [e]; exact h2
      · exact h1 i (by omega)
    · rintro ⟨h0, h1⟩
      exact ⟨⟨h0, fun i hi => h1 i (by omega)⟩, h1 n (by omega)⟩
theorem peakT_nonneg {os : List Int} {lie : Nat → Int × Int} : ∀ n, 0 ≤ peakT os lie n
  | 0 => Int.le_refl _
  | n + 1 => by unfold peakT; have := peakT_nonneg (os := os) (lie := lie) n; omega
theorem floorT_nonneg {os : List Int} {span lie : Nat → Int × Int} : ∀ n, 0 ≤ floorT os span lie n
  | 0 => Int.le_refl _
  | n + 1 => by unfold floorT; have := floorT_nonneg (os := os) (span := span) (lie := lie) n; omega
theorem sum_filter (l : List Int) (c : Int → Bool) (g : Int → Int) : (l.map fun o => if c o = true then g o else 0).sum = ((l.filter c).map g).sum := by
  induction l with
  | nil => rfl
  | cons x l ih =>
    rw [List.map_cons, List.sum_cons, ih, List.filter_cons]
    split
    · rw [List.map_cons, List.sum_cons]
    · omega
theorem floor_peak {G : Gp} (hG : G.Right) {os pl : List Int} (h : Ord G os pl) {span : Nat → Int × Int} (hc : Clear os span (lieP G os pl)) : floorT os span (lieP G os pl) os.length ≤ peakT os (lieP G os pl) os.length := by
  rw [floorT_le]
  refine ⟨peakT_nonneg _, fun i _ => ?_⟩
  have hp := (peakT_le (os := os) (lie := lieP G os pl) (Nat.le_refl _)).1 (Int.le_refl _)
  have hp2 := (all_os h (fun k => (lieP G os pl k).2 + 1 ≤ peakT os (lieP G os pl) os.length)).1 hp.2
  rw [sumT_eq (Nat.le_refl _), List.take_length, sum_filter os (fun o => meetB (span o.toNat) (i, i)) (fun o => (lieP G os pl o.toNat).2 - (lieP G os pl o.toNat).1 + 1)]
  have key := apart_sum _ ((os.filter (fun o => meetB (span o.toNat) (i, i))).map fun o => (pl.getD o.toNat 0, G.ar o.toNat)) (peakT os (lieP G os pl) os.length) rfl (peakT_nonneg _)
    (fun x hx => by
      obtain ⟨o, ho, rfl⟩ := List.mem_map.1 hx
      obtain ⟨ho, _⟩ := List.mem_filter.1 ho
      have hN := h.inN o ho
      have e : ((o.toNat : Nat) : Int) = o := by omega
      have hm : ((o.toNat : Nat) : Int) ∈ os := by rw [e]; exact ho
      have h1 := h.at_ o.toNat (by omega) hm
      have h2 := hG.ar o.toNat (by omega)
      have h3 := hp2 o.toNat (by omega) hm
      rw [Ord.lie hm] at h3
      simp only at h3 ⊢
      omega)
    (by
      rw [List.pairwise_map]
      have hn : (os.filter (fun o => meetB (span o.toNat) (i, i))).Pairwise (fun a b => a ≠ b) := (h.nodup.filter _)
      refine List.Pairwise.imp_of_mem ?_ hn
      intro a b ha hb hab
      obtain ⟨ha, ha'⟩ := List.mem_filter.1 ha
      obtain ⟨hb, hb'⟩ := List.mem_filter.1 hb
      have hA := h.inN a ha
      have hB := h.inN b hb
      have ea : ((a.toNat : Nat) : Int) = a := by omega
      have eb : ((b.toNat : Nat) : Int) = b := by omega
      have ma : ((a.toNat : Nat) : Int) ∈ os := by rw [ea]; exact ha
      have mb : ((b.toNat : Nat) : Int) ∈ os := by rw [eb]; exact hb
      have hne : a.toNat ≠ b.toNat := by omega
      have hl := hc a.toNat b.toNat ma mb hne (by
        unfold meetB at ha' hb' ⊢
        simp only [Bool.and_eq_true, decide_eq_true_eq] at ha' hb' ⊢
        omega)
      rw [Ord.lie ma, Ord.lie mb] at hl
      unfold meetB at hl
      simp only [Bool.and_eq_true, decide_eq_true_eq] at hl
      by_cases h1 : pl.getD a.toNat 0 + G.ar a.toNat ≤ pl.getD b.toNat 0
      · exact .inl h1
      · by_cases h2 : pl.getD b.toNat 0 + G.ar b.toNat ≤ pl.getD a.toNat 0
        · exact .inr h2
        · exact (hl ⟨by omega, by omega⟩).elim)
  rw [List.map_map] at key
  have e : (os.filter (fun o => meetB (span o.toNat) (i, i))).map (Prod.snd ∘ fun o => (pl.getD o.toNat 0, G.ar o.toNat)) = (os.filter (fun o => meetB (span o.toNat) (i, i))).map (fun o => (lieP G os pl o.toNat).2 - (lieP G os pl o.toNat).1 + 1) := by
    refine List.map_congr_left fun o ho => ?_
    obtain ⟨ho, _⟩ := List.mem_filter.1 ho
    have hN := h.inN o ho
    have hm : ((o.toNat : Nat) : Int) ∈ os := by rw [show ((o.toNat : Nat) : Int) = o by omega]; exact ho
    rw [Ord.lie hm]
    simp only [Function.comp]
    omega
  rw [e] at key
  exact key
theorem Ord.pos {G : Gp} (hG : G.Right) {os pl : List Int} (h : Ord G os pl) : G.last ∈ os := by
  have := h.has G.last.toNat (by have := hG.last; omega) hG.kept
  rwa [show ((G.last.toNat : Nat) : Int) = G.last by have := hG.last; omega] at this
theorem Ord.olen {G : Gp} {os pl : List Int} (h : Ord G os pl) : os.length ≤ G.N := nodup_len _ _ h.nodup h.inN
theorem peak_bd {G : Gp} (hG : G.Right) {os pl : List Int} (h : Ord G os pl) : 1 ≤ peakT os (lieP G os pl) os.length ∧ peakT os (lieP G os pl) os.length ≤ 4352 := by
  constructor
  · have hp := (peakT_le (os := os) (lie := lieP G os pl) (Nat.le_refl _)).1 (Int.le_refl _)
    have hp2 := (all_os h (fun k => (lieP G os pl k).2 + 1 ≤ peakT os (lieP G os pl) os.length)).1 hp.2
    have hl := hG.last
    have hm := h.pos hG
    have e : ((G.last.toNat : Nat) : Int) = G.last := by omega
    rw [← e] at hm
    have h3 := hp2 G.last.toNat (by omega) hm
    rw [Ord.lie hm] at h3
    have h1 := h.at_ _ (show G.last.toNat < G.N by omega) hm
    have h2 := hG.ar _ (show G.last.toNat < G.N by omega)
    simp only at h3
    omega
  · rw [peakT_le (Nat.le_refl _)]
    refine ⟨by omega, (all_os h (fun k => (lieP G os pl k).2 + 1 ≤ 4352)).2 fun k hk hm => ?_⟩
    rw [Ord.lie hm]
    have h1 := h.at_ k hk hm
    have h2 := hG.ar k hk
    simp only
    omega
theorem lie_bd {G : Gp} (hG : G.Right) {os pl : List Int} (h : Ord G os pl) {k : Nat} (hk : k < G.N) : (0 ≤ (lieP G os pl k).1 ∧ (lieP G os pl k).1 ≤ 4096) ∧ (0 ≤ (lieP G os pl k).2 ∧ (lieP G os pl k).2 ≤ 4352) ∧ (lieP G os pl k).1 ≤ (lieP G os pl k).2 ∧ (lieP G os pl k).2 ≤ (lieP G os pl k).1 + 255 := by
  by_cases hm : (k : Int) ∈ os
  · rw [Ord.lie hm]
    have h1 := h.at_ k hk hm
    have h2 := hG.ar k hk
    simp only
    omega
  · unfold lieP
    rw [if_neg (fun h => hm (stepAt_mem.1 h))]
    simp
theorem ltk_bd (src : Nat → List Int) (os : List Int) (k d : Int) : ∀ n, ltk src os k d n = d ∨ (0 ≤ ltk src os k d n ∧ ltk src os k d n < n)
  | 0 => .inl rfl
  | n + 1 => by
    unfold ltk
    split
    · right; omega
    · rcases ltk_bd src os k d n with h | h
      · exact .inl h
      · right; omega
end Go.Proofs.Ytfpkiimlaepnhab
/-
  STEPS: the map of a plan's steps: plan.stepsOf, hasAll, isBehind, isPlaced.
-/
namespace Go.Proofs.Ytfpkiimlaepnhab
set_option maxRecDepth 100000
open Go.RowKit Im Go.Maps

theorem intKeyed : Keyed Try.prog 3 := int_keyed Try.underlying3
theorem zeroInt (w : World) : (zeroValue 3).run Try.prog w = .ok (.int .i64 0) w := by kernel_rfl
theorem keyInt {p : Int} (h : -9223372036854775808 ≤ p ∧ p ≤ 9223372036854775807) : keyOf Try.prog 3 (.int .i64 p) = some (.int .i64 p) := keyOf_int_mk Try.underlying3 (WalkArith.wf_i64 (by omega))
/-- The map in block B tells the steps of the order os. -/
def Steps (w : World) (B : Nat) (os : List Int) : Prop :=
  ∃ D : DataW Unit, w.ownsMap Try.prog 3 (plainElem Try.prog 3) B os.length D ∧ IsMap D ∧ ∀ p : Int, Maps.has D (.int .i64 p) = decide (0 ≤ stepAt os p) ∧ (0 ≤ stepAt os p → ∀ z, D.atKey (.int .i64 p) z = .lit (.int .i64 (stepAt os p)))
def stepV (os : List Int) (p : Int) : Int := if 0 ≤ stepAt os p then stepAt os p else 0
def stepB (os : List Int) (p : Int) : Bool := decide (0 ≤ stepAt os p)
theorem Steps.made (w : World) : Steps (w.alloc (.map #[] 0)) w.heap.size [] :=
  ⟨.map [], World.ownsMap_made _ _ _ _, isMap_empty, fun p => ⟨by simp [Maps.has, stepAt], fun h => by simp [stepAt] at h⟩⟩
theorem Steps.lt {w : World} {B : Nat} {os : List Int} (h : Steps w B os) : B < w.heap.size := by
  obtain ⟨D, ⟨es, c, hb, _⟩, _⟩ := h
  rcases Nat.lt_or_ge B w.heap.size with h | h
  · exact h
  · rw [Array.getElem?_eq_none h] at hb; cases hb
theorem Steps.below {w w' : World} {B : Nat} {os : List Int} (h : Steps w B os) (hb : Below w.heap.size w w') : Steps w' B os := by
  have hlt := h.lt
  obtain ⟨D, ⟨es, c, he, r⟩, hm, hp⟩ := h
  exact ⟨D, ⟨es, c, (hb.block B hlt).trans he, r⟩, hm, hp⟩
theorem wpList_lookup_steps {P : Program} (hP : P = Try.prog) (w : World) {ops : Array Oper} {rest : List Oper} {o : Oper} {a : Act} {Q : Exit → Act → World → Prop} (hg : o.guard = none) (m x : Operand) (hop : o.op = Op.lookup 113 m x true)
    {B : Nat} {os : List Int} (hs : Steps w B os) (hm : a.eval m = .map (some B)) {p : Int} (hx : a.eval x = .int .i64 p) (hp : -9223372036854775808 ≤ p ∧ p ≤ 9223372036854775807)
    (hK : wpList P ops Q rest (a.put o.dst (.tuple #[.int .i64 (stepV os p), .bool (stepB os p)])) w) : wpList P ops Q (o :: rest) a w := by
  subst hP
  obtain ⟨D, hown, hM, hD⟩ := hs
  obtain ⟨h1, h2⟩ := hD p
  refine wpList_lookup_own_ok_int w hg m x 113 hop 3 3 .i64 intKeyed Try.underlying113 Try.underlying3 (zeroInt _) B os.length D hm hown _ _ hx (keyInt hp) ?_
  intro c hat _
  have e1 : Maps.has D (.int .i64 p) = stepB os p := h1
  have e2 : c = stepV os p := by
    unfold stepV
    by_cases hn : 0 ≤ stepAt os p
    · rw [if_pos hn]
      rw [h2 hn] at hat
      injection hat with hat
      injection hat with _ hat
      exact hat.symm
    · rw [if_neg hn]
      have hf : Maps.has D (.int .i64 p) = false := by rw [h1]; simpa using hn
      rw [atKey_of_not_has hf] at hat
      injection hat with hat
      injection hat with _ hat
      exact hat.symm
  rw [e1, e2]
  exact hK
theorem wpList_update_steps {P : Program} (hP : P = Try.prog) (w : World) {ops : Array Oper} {rest : List Oper} {o : Oper} {a : Act} {Q : Exit → Act → World → Prop} (hg : o.guard = none) (m x v : Operand) (hop : o.op = Op.mapUpdate 113 m x v)
    {B : Nat} {os : List Int} (hs : Steps w B os) (hm : a.eval m = .map (some B)) {p : Int} (hx : a.eval x = .int .i64 p) (hv : a.eval v = .int .i64 os.length) (hp : -9223372036854775808 ≤ p ∧ p ≤ 9223372036854775807) (hl : os.length ≤ 100) (hn : p ∉ os)
    (hK : ∀ w', Steps w' B (os ++ [p]) → w.grownBy w' (some B) → wpList P ops Q rest (a.put o.dst undef) w') : wpList P ops Q (o :: rest) a w := by
  subst hP
  obtain ⟨D, hown, hM, hD⟩ := hs
  refine wpList_mapUpdate_own w hg m x v 113 hop 3 3 intKeyed Try.underlying113 _ B os.length D hm hown (by unfold maxLen; omega) _ _ _ hx hv (keyInt hp) _ [] (plainElem_int Try.underlying3 (WalkArith.wf_i64 (by omega))) ?_
  intro w' hown' hgrow
  refine hK w' ⟨_, by rw [List.length_append]; exact hown', hM.put _ _, fun q => ?_⟩ hgrow
  rw [stepAt_snoc q hn]
  by_cases e : p = q
  · subst e
    rw [if_pos rfl]
    refine ⟨?_, fun _ z => atKey_put_same hM (intKeyed.key (keyInt hp)) _ z⟩
    rw [has_put_same hM (intKeyed.key (keyInt hp))]
    simp
  · rw [if_neg e]
    have hne : (Lit.int .i64 q) ≠ (Lit.int .i64 p) := fun h => e (by injection h with _ h; exact h.symm)
    refine ⟨by rw [has_put_other hne]; exact (hD q).1, fun hq z => ?_⟩
    rw [atKey_put_other hne]
    exact (hD q).2 hq z
/-- What plan.stepsOf tells. -/
def ToldSt (w : World) (os : List Int) (N : Nat) (e : Ending) (w' : World) : Prop :=
  (onceB os N = true ∧ (∃ B, e = .returned (.tuple #[.map (some B), .bool true]) ∧ w.heap.size ≤ B ∧ Steps w' B os) ∧ Below w.heap.size w w') ∨ (onceB os N = false ∧ e = .returned (.tuple #[.map none, .bool false]) ∧ Below w.heap.size w w')
set_option maxHeartbeats 1000000 in
theorem stepsOf_any {a : Option Addr} {len : Nat} (cap : Nat) {os : List Int} {base : Nat} {w : World} (hI : Ints base w a len os) {N : Nat} (hN : N ≤ 12) :
    Calls Try.prog 70 #[.slice a len cap, .int .i64 N] w (ToldSt w os N) := by
  have hmm := @run_makeMap Try.prog
  obtain rfl := hI.leng
  have hbig := hI.big
  go_enter Try.func70, Try.ntmps70
  go_wp2
  go_loopw [4, 13] (fun m i wr => ∃ k : Nat, k ≤ os.length ∧ i = .int .i64 k ∧ m = .map (some w.heap.size) ∧ allTo (onceP os N) k = true ∧ Steps wr w.heap.size (os.take k) ∧ Below w.heap.size w wr) (fun _ i _ => os.length - (intOf i).toNat)
  case atStart => exact ⟨0, Nat.zero_le _, rfl, rfl, rfl, Steps.made w, (Below.refl _ _).alloc (Nat.le_refl _) _⟩
  case round =>
    obtain ⟨k, hk, rfl, rfl, hall, hst, hb⟩ := hrel
    by_cases hlt : k < os.length
    · obtain ⟨b, off, rfl, hcx⟩ := (hI.below (Nat.le_refl _) hb).nth hlt
      have hon := (once_to (os := os) (N := N) hk).1 hall
      have hk12 : (os.take k).length ≤ N := nodup_len N _ hon.2 hon.1
      rw [List.length_take] at hk12
      have HSn : Hid (os.take (k + 1) = os.take k ++ [os.getD k 0]) := by
        show _ = _
        rw [List.take_succ_eq_append_getElem hlt, List.getD_eq_getElem?_getD, List.getElem?_eq_getElem hlt]; rfl
      have HA : Hid (onceP os N k = true → allTo (onceP os N) (k + 1) = true) := fun h => allTo_succ hall h
      have HF : Hid (onceP os N k = false → onceB os N = false) := fun h => allTo_not hlt h
      have HP : Hid (onceP os N k = (decide (0 ≤ os.getD k 0) && decide (os.getD k 0 < N) && decide (stepAt (os.take k) (os.getD k 0) < 0))) := rfl
      have hlk : (os.take k).length = k := by rw [List.length_take]; omega
      have HL : Hid ((os.take k).length = k) := hlk
      clear hlk hon hall
      generalize os.getD k 0 = n at hcx HSn HP
      generalize os.take k = l at hst HSn HP HL
      by_cases h1 : n < 0
      · go_wp2
        go_ret2
        exact .inr ⟨HF.out (by rw [HP.out, decide_eq_false (by omega)]; rfl), rfl, hb⟩
      · by_cases h2 : (N : Int) ≤ n
        · go_wp2
          go_ret2
          exact .inr ⟨HF.out (by rw [HP.out, decide_eq_false (show ¬ n < (N : Int) by omega)]; simp), rfl, hb⟩
        · by_cases h3 : 0 ≤ stepAt l n
          · have hsb : stepB l n = true := decide_eq_true h3
            go_wp2_with (at_lookup; refine wpList_lookup_steps rfl _ rfl _ _ rfl hst rfl rfl (by omega) ?_)
            go_ret2
            exact .inr ⟨HF.out (by rw [HP.out, decide_eq_false (show ¬ stepAt l n < 0 by omega)]; simp), rfl, hb⟩
          · have hsb : stepB l n = false := decide_eq_false h3
            have hni : n ∉ l := fun hm => h3 (stepAt_mem.2 hm)
            go_wp2_with (first
              | (at_lookup; refine wpList_lookup_steps rfl _ rfl _ _ rfl hst rfl rfl (by omega) ?_)
              | (at_mapUpdate; refine wpList_update_steps rfl _ rfl _ _ _ rfl hst rfl rfl (by rw [HL.out]; rfl) (by omega) (by rw [HL.out]; omega) hni ?_; intro w1 hst1 hgrow1))
            go_roundw
            case rel => exact ⟨k + 1, by omega, by go_num, rfl, HA.out (by rw [HP.out, decide_eq_true (show 0 ≤ n by omega), decide_eq_true (show n < (N : Int) by omega), decide_eq_true (show stepAt l n < 0 by omega)]; rfl), by rw [HSn.out]; exact hst1, hb.grown hgrow1 hb.size (fun j hj => by cases hj; exact Nat.le_refl _)⟩
            case measure => simp [intOf]; omega
    · have hke : k = os.length := by omega
      subst hke
      rw [List.take_length] at hst
      go_wp2
      go_ret2
      exact .inl ⟨hall, ⟨_, rfl, Nat.le_refl _, hst⟩, hb⟩
end Go.Proofs.Ytfpkiimlaepnhab
/-
  INREF: numbers and lists alone: the sizes by slots, as the reference holds them, and its error of a pass.
-/
namespace Go.Proofs.Ytfpkiimlaepnhab
set_option maxRecDepth 100000
open Go.RowKit Im

/-- The size of what lies in slot s ahead of pass n; (0, 0): nothing. -/
def inP (f : Fr) (n : Nat) (s : Int) : Sz := if 0 ≤ wrt f.ps n s then (szs f n).getD (wrt f.ps n s).toNat Sz.zero else Sz.zero
theorem inP_some {f : Fr} {n : Nat} {s : Int} (hb : boundsE f = 0) (h : firstE f n = 0) (hw : 0 ≤ wrt f.ps n s) : ZB (inP f n s) := by
  unfold inP
  rw [if_pos hw]
  have := wrt_bd f.ps n s
  exact szs_bd hb h _ (getD_mem (by rw [szs_length]; omega) _)
theorem inP_none {f : Fr} {n : Nat} {s : Int} (hw : ¬ 0 ≤ wrt f.ps n s) : inP f n s = (0, 0) := by unfold inP; rw [if_neg hw]
theorem inP_zero {f : Fr} {n : Nat} {s : Int} (hb : boundsE f = 0) (h : firstE f n = 0) : (inP f n s).1 = 0 ↔ ¬ 0 ≤ wrt f.ps n s := by
  constructor
  · intro e hw
    have := (inP_some hb h hw).1
    omega
  · intro hw
    rw [inP_none hw]
theorem inP_start (f : Fr) (s : Int) : inP f 0 s = (0, 0) := inP_none (by simp [wrt])
theorem inP_succ (f : Fr) (n : Nat) (s : Int) : inP f (n + 1) s = if (f.ps.getD n Ps.zero).To = s then sizeP f.W f.H (f.ps.getD n Ps.zero).Op (pickZ (szs f n) (srcOf f.ps n)) else inP f n s := by
  have e : szs f (n + 1) = szs f n ++ [sizeP f.W f.H (f.ps.getD n Ps.zero).Op (pickZ (szs f n) (srcOf f.ps n))] := rfl
  have hl := szs_length f n
  have ew : wrt f.ps (n + 1) s = if (f.ps.getD n Ps.zero).To = s then (n : Int) else wrt f.ps n s := rfl
  unfold inP
  rw [ew]
  by_cases ht : (f.ps.getD n Ps.zero).To = s
  · rw [if_pos ht, if_pos ht, if_pos (by omega), e, Int.toNat_natCast, List.getD_eq_getElem?_getD, List.getElem?_append_right (by omega)]
    simp [hl]
  · rw [if_neg ht, if_neg ht]
    by_cases hw : 0 ≤ wrt f.ps n s
    · have := wrt_bd f.ps n s
      rw [if_pos hw, if_pos hw, e, List.getD_eq_getElem?_getD, List.getElem?_append_left (by omega), ← List.getD_eq_getElem?_getD]
    · rw [if_neg hw, if_neg hw]
/-- The reference's error of a pass that takes images of the sizes zA and zB. -/
def refE (p : Ps) (S : Int) (zA zB : Sz) : Int :=
  if ownE p S = 0 then
    if (hasA p.Op = true ∧ zA.1 = 0) ∨ (hasB p.Op = true ∧ zB.1 = 0) then 5
    else if hasB p.Op = true ∧ zA ≠ zB then 6
    else if (p.Op = 11 ∧ (zA.1 % 2 = 1 ∨ zA.2 % 2 = 1)) ∨ (p.Op = 12 ∧ (16 < 2 * zA.1 ∨ 16 < 2 * zA.2)) then 6
    else 0
  else ownE p S
theorem hasB_hasA {op : Int} (h : hasB op = true) : hasA op = true := by simp [hasB, withinB] at h; simp [hasA, withinB]; omega
theorem refE_eq {f : Fr} {n : Nat} (hb : boundsE f = 0) (h : firstE f n = 0) : refE (f.ps.getD n Ps.zero) f.S (inP f n (f.ps.getD n Ps.zero).A) (inP f n (f.ps.getD n Ps.zero).B) = passE f n := by
  have zA := inP_zero (f := f) (n := n) (s := (f.ps.getD n Ps.zero).A) hb h
  have zB := inP_zero (f := f) (n := n) (s := (f.ps.getD n Ps.zero).B) hb h
  have eA : 0 ≤ wrt f.ps n (f.ps.getD n Ps.zero).A → (szs f n).getD (wrt f.ps n (f.ps.getD n Ps.zero).A).toNat Sz.zero = inP f n (f.ps.getD n Ps.zero).A := fun hw => by unfold inP; rw [if_pos hw]
  have eB : 0 ≤ wrt f.ps n (f.ps.getD n Ps.zero).B → (szs f n).getD (wrt f.ps n (f.ps.getD n Ps.zero).B).toNat Sz.zero = inP f n (f.ps.getD n Ps.zero).B := fun hw => by unfold inP; rw [if_pos hw]
  unfold refE passE srcOf thereB
  by_cases ho : ownE (f.ps.getD n Ps.zero) f.S = 0
  · rw [if_pos ho, if_pos ho]
    clear ho
    generalize f.ps.getD n Ps.zero = p at *
    generalize inP f n p.A = za at *
    generalize inP f n p.B = zb at *
    unfold takesP fitP
    rw [List.getD_eq_getElem?_getD] at eA eB
    by_cases hB : hasB p.Op = true
    · have hA := hasB_hasA hB
      have n11 : ¬ p.Op = 11 := by simp [hasB, withinB] at hB; omega
      have n12 : ¬ p.Op = 12 := by simp [hasB, withinB] at hB; omega
      by_cases a1 : 0 ≤ wrt f.ps n p.A
      · have za0 : ¬ za.1 = 0 := fun e => (zA.1 e) a1
        by_cases b1 : 0 ≤ wrt f.ps n p.B
        · have zb0 : ¬ zb.1 = 0 := fun e => (zB.1 e) b1
          by_cases e : za = zb
          · simp [hB, hA, n11, n12, a1, b1, zb0, eA a1, eB b1, pickZ, e]
          · simp [hB, hA, n11, n12, a1, b1, za0, zb0, eA a1, eB b1, pickZ, e]
        · have zb0 := zB.2 b1
          simp [hB, hA, b1, zb0]
      · have za0 := zA.2 a1
        simp [hB, hA, a1, za0]
    · by_cases hA : hasA p.Op = true
      · by_cases a1 : 0 ≤ wrt f.ps n p.A
        · have za0 : ¬ za.1 = 0 := fun e => (zA.1 e) a1
          by_cases h11 : p.Op = 11
          · have x1 : hasA 11 = true := rfl
            have x2 : hasB 11 = false := rfl
            by_cases c1 : za.1 % 2 = 0 <;> by_cases c2 : za.2 % 2 = 0
            all_goals simp [x1, x2, a1, za0, eA a1, pickZ, h11, c1, c2]
            all_goals omega
          · by_cases h12 : p.Op = 12
            · have x1 : hasA 12 = true := rfl
              have x2 : hasB 12 = false := rfl
              by_cases c1 : 2 * za.1 ≤ 16 <;> by_cases c2 : 2 * za.2 ≤ 16
              all_goals simp [x1, x2, a1, za0, eA a1, pickZ, h12, c1, c2]
              all_goals omega
            · simp [hB, hA, a1, za0, h11, h12]
        · have za0 := zA.2 a1
          simp [hB, hA, a1, za0]
      · have n11 : ¬ p.Op = 11 := fun e => hA (by rw [e]; rfl)
        have n12 : ¬ p.Op = 12 := fun e => hA (by rw [e]; rfl)
        simp [hA, hB, n11, n12]
  · rw [if_neg ho, if_neg ho]
end Go.Proofs.Ytfpkiimlaepnhab
/-
  GIVEN: what a light gives to a place; how far it is from a part.
-/
namespace Go.Proofs.Ytfpkiimlaepnhab
set_option maxRecDepth 100000
open Go.RowKit Im

/-- How far c is from the nearest of n columns (or rows) from f on. -/
def awayP (c f n : Int) : Int := max (max (f - c) (c - (f + n - 1))) 0
theorem away_bd (c f n : Int) (hc : 0 ≤ c ∧ c < 16) (hf : 0 ≤ f ∧ f < 16) (hn : 1 ≤ n ∧ n ≤ 16) : 0 ≤ awayP c f n ∧ awayP c f n ≤ 15 := by unfold awayP; omega
/-- What a light gives to a place. -/
def givenP (l : Lt) (x y : Int) : Int := l.P * max (l.R - (awayP l.X x 1 + awayP l.Y y 1)) 0 / l.R
theorem given_bd {l : Lt} (hl : rightB l = true) (x y : Int) (hx : 0 ≤ x ∧ x < 16) (hy : 0 ≤ y ∧ y < 16) : 0 ≤ givenP l x y ∧ givenP l x y ≤ 65535 := by
  obtain ⟨hX, hY, hR, hP⟩ := (right_iff l).1 hl
  have a1 := away_bd l.X x 1 hX hx (by omega)
  have a2 := away_bd l.Y y 1 hY hy (by omega)
  unfold givenP
  have hd : 0 ≤ awayP l.X x 1 + awayP l.Y y 1 := by omega
  generalize awayP l.X x 1 + awayP l.Y y 1 = d at hd ⊢
  have h1 : 0 ≤ max (l.R - d) 0 ∧ max (l.R - d) 0 ≤ l.R := by omega
  · have m1 : 0 ≤ l.P * max (l.R - d) 0 := Int.mul_nonneg hP.1 h1.1
    have m2 : l.P * max (l.R - d) 0 ≤ 65535 * l.R := Int.mul_le_mul hP.2 h1.2 h1.1 (by omega)
    refine ⟨Int.ediv_nonneg m1 (by omega), ?_⟩
    have : l.P * max (l.R - d) 0 / l.R < 65536 := Int.ediv_lt_of_lt_mul (by omega) (by omega)
    omega
theorem given_pos {l : Lt} {x y d : Int} (hd : awayP l.X x 1 + awayP l.Y y 1 = d) (h : d < l.R) : givenP l x y = l.P * (l.R - d) / l.R := by
  unfold givenP; rw [hd, show max (l.R - d) 0 = l.R - d by omega]
theorem given_zero {l : Lt} {x y d : Int} (hd : awayP l.X x 1 + awayP l.Y y 1 = d) (h : ¬ d < l.R) : givenP l x y = 0 := by
  unfold givenP; rw [hd, show max (l.R - d) 0 = 0 by omega]; simp
def stretchB (f n : Int) : Bool := placeB f && decide (1 ≤ n) && decide (n ≤ 16 - f)
end Go.Proofs.Ytfpkiimlaepnhab
/-
  AT: light.At.
-/
namespace Go.Proofs.Ytfpkiimlaepnhab
set_option maxRecDepth 100000
open Go.RowKit Im

/-- What all lights give to a place, added. -/
def sumG (x y : Int) : List Lt → Int
  | [] => 0
  | l :: r => givenP l x y + sumG x y r
theorem sumG_snoc (x y : Int) (l : Lt) : ∀ ls, sumG x y (ls ++ [l]) = sumG x y ls + givenP l x y
  | [] => by simp [sumG]
  | m :: r => by simp [sumG, sumG_snoc x y l r, Int.add_assoc]
theorem sumG_bd (x y : Int) (hx : 0 ≤ x ∧ x < 16) (hy : 0 ≤ y ∧ y < 16) : ∀ ls : List Lt, ls.all rightB = true → 0 ≤ sumG x y ls ∧ sumG x y ls ≤ 65535 * ls.length
  | [], _ => by simp [sumG]
  | l :: r, h => by
    simp only [List.all_cons, Bool.and_eq_true] at h
    have h1 := sumG_bd x y hx hy r h.2
    have h2 := given_bd h.1 x y hx hy
    simp only [sumG, List.length_cons]
    omega
theorem take_snocL (ls : List Lt) (k : Nat) (hk : k < ls.length) : ls.take (k + 1) = ls.take k ++ [ls.getD k Lt.zero] := by
  rw [List.take_succ_eq_append_getElem hk, List.getD_eq_getElem?_getD, List.getElem?_eq_getElem hk]; rfl
theorem all_take (ls : List Lt) (k : Nat) (h : ls.all rightB = true) : (ls.take k).all rightB = true := by
  rw [List.all_eq_true] at h ⊢
  exact fun x hx => h x (List.mem_of_mem_take hx)
theorem all_getD (ls : List Lt) (k : Nat) (hk : k < ls.length) (h : ls.all rightB = true) : rightB (ls.getD k Lt.zero) = true := by
  rw [List.getD_eq_getElem?_getD, List.getElem?_eq_getElem hk]
  exact List.all_eq_true.1 h _ (List.getElem_mem hk)

def atE (ls : List Lt) (x y : Int) : Int := if lightsErr ls = 0 then okIf (placeB x && placeB y) 3 else lightsErr ls
def atV (ls : List Lt) (x y : Int) : Int := if atE ls x y = 0 then sumG x y ls else 0
theorem lightsErr_zero {ls : List Lt} (h : lightsErr ls = 0) : ls.length ≤ 8 ∧ ls.all rightB = true := by
  unfold lightsErr at h
  by_cases h8 : ls.length ≤ 8
  · rw [if_pos h8] at h
    refine ⟨h8, ?_⟩
    cases hr : ls.all rightB
    · rw [hr] at h; cases h
    · rfl
  · rw [if_neg h8] at h; cases h
end Go.Proofs.Ytfpkiimlaepnhab
/-
  NEAR: light.Near.
-/
namespace Go.Proofs.Ytfpkiimlaepnhab
set_option maxRecDepth 100000
open Go.RowKit Im

/-- Is the light near the part? -/
def nearB (x y pw ph : Int) (l : Lt) : Bool := decide (awayP l.X x pw + awayP l.Y y ph < l.R)
/-- The numbers, below k, of the lights for which f holds. -/
def pickL (f : Lt → Bool) (ls : List Lt) (k : Nat) : List Int := ((List.range k).filter fun i => f (ls.getD i Lt.zero)).map (fun i : Nat => (i : Int))
theorem pickL_yes (f : Lt → Bool) (ls : List Lt) (k : Nat) (h : f (ls.getD k Lt.zero) = true) : pickL f ls (k + 1) = pickL f ls k ++ [(k : Int)] := by
  unfold pickL; rw [List.range_succ, List.filter_append, List.filter_cons, if_pos h]; simp
theorem pickL_no (f : Lt → Bool) (ls : List Lt) (k : Nat) (h : f (ls.getD k Lt.zero) = false) : pickL f ls (k + 1) = pickL f ls k := by
  unfold pickL; rw [List.range_succ, List.filter_append, List.filter_cons, if_neg (by rw [h]; simp)]; simp
theorem pickL_len (f : Lt → Bool) (ls : List Lt) (k : Nat) : (pickL f ls k).length ≤ k := by
  unfold pickL; rw [List.length_map]; exact Nat.le_trans (List.length_filter_le _ _) (by simp)

/-- The call's end tells a list of numbers and an error's number. -/
def ToldL (w : World) (ps : List Int) (E : Int) (e : Ending) (w' : World) : Prop :=
  ∃ a cap, e = .returned (.tuple #[.slice a ps.length cap, .int .i64 E]) ∧ Ints w.heap.size w' a ps.length ps ∧ Below w.heap.size w w'
theorem stretch_iff (f n : Int) : stretchB f n = true ↔ (0 ≤ f ∧ f < 16) ∧ 1 ≤ n ∧ n ≤ 16 - f := by simp [stretchB, place_iff, and_assoc]
end Go.Proofs.Ytfpkiimlaepnhab
/-
  TILE: light.eachPlace and light.eachTile go through all places, and all tiles.
-/
namespace Go.Proofs.Ytfpkiimlaepnhab
set_option maxRecDepth 100000
open Go.RowKit Im

/-- A function value does its work at each place of a part: what I says of the places that are done holds behind it of one more. -/
structure DoesP (n : Nat) (caps : Array Value) (I : (Nat → Prop) → World → Prop) (W x0 y0 pw ph : Nat) : Prop where
  enters : ∀ args w, (callFunc n args).run Try.prog w = .ok (.enter n args) w
  does : ∀ (x y : Nat) (D : Nat → Prop) (w1 : World), x0 ≤ x → x < x0 + pw → y0 ≤ y → y < y0 + ph → I D w1 → Calls Try.prog n (#[.int .i64 x, .int .i64 y] ++ caps) w1 fun e w2 => e = .returned (.tuple #[]) ∧ I (fun i => D i ∨ (i / W = y ∧ i % W = x)) w2

theorem DoesP.doesI {n : Nat} {caps : Array Value} {I : (Nat → Prop) → World → Prop} {W x0 y0 pw ph : Nat} (h : DoesP n caps I W x0 y0 pw ph) (x y : Nat) (X Y : Int) (hX : X = x) (hY : Y = y) (D : Nat → Prop) (w1 : World) (h1 : x0 ≤ x) (h2 : x < x0 + pw) (h3 : y0 ≤ y) (h4 : y < y0 + ph) (hI : I D w1) :
    Calls Try.prog n (#[.int .i64 X, .int .i64 Y] ++ caps) w1 fun e w2 => e = .returned (.tuple #[]) ∧ I (fun i => D i ∨ (i / W = y ∧ i % W = x)) w2 := by
  subst hX hY; exact h.does x y D w1 h1 h2 h3 h4 hI

/-- A function value does its work on each tile. -/
structure DoesT (n : Nat) (caps : Array Value) (I : (Nat → Prop) → World → Prop) (W H : Nat) : Prop where
  enters : ∀ args w, (callFunc n args).run Try.prog w = .ok (.enter n args) w
  does : ∀ (x y pw ph : Nat) (D : Nat → Prop) (w1 : World), 1 ≤ pw → x + pw ≤ W → 1 ≤ ph → y + ph ≤ H → I D w1 → Calls Try.prog n (#[.int .i64 x, .int .i64 y, .int .i64 pw, .int .i64 ph] ++ caps) w1 fun e w2 => e = .returned (.tuple #[]) ∧ I (fun i => D i ∨ (y ≤ i / W ∧ i / W < y + ph ∧ x ≤ i % W ∧ i % W < x + pw)) w2
theorem DoesT.doesI {n : Nat} {caps : Array Value} {I : (Nat → Prop) → World → Prop} {W H : Nat} (h : DoesT n caps I W H) (x y pw ph : Nat) (PW PH : Int) (e1 : PW = pw) (e2 : PH = ph) (D : Nat → Prop) (w1 : World) (h1 : 1 ≤ pw) (h2 : x + pw ≤ W) (h3 : 1 ≤ ph) (h4 : y + ph ≤ H) (hI : I D w1) :
    Calls Try.prog n (#[.int .i64 x, .int .i64 y, .int .i64 PW, .int .i64 PH] ++ caps) w1 fun e w2 => e = .returned (.tuple #[]) ∧ I (fun i => D i ∨ (y ≤ i / W ∧ i / W < y + ph ∧ x ≤ i % W ∧ i % W < x + pw)) w2 := by
  subst e1 e2; exact h.does x y pw ph D w1 h1 h2 h3 h4 hI

end Go.Proofs.Ytfpkiimlaepnhab
/-
  PAN: the row of numbers that light.Lit fills, place by place; what one place gets.
-/
namespace Go.Proofs.Ytfpkiimlaepnhab
set_option maxRecDepth 100000
open Go.RowKit Im

/-- Behind all that lay in wB: a row of L numbers, q of them, and the box of the slice that tells it. -/
structure Pan (wB w' : World) (L pb : Nat) (q : Nat → Int) : Prop where
  bel : Below wB.heap.size wB w'
  lo : wB.heap.size < pb
  siz : pb < w'.heap.size
  row : ∃ arr : Array Value, w'.heap[wB.heap.size]? = some (.cells arr 3 (0, 0)) ∧ arr.size = L ∧ ∀ j, j < L → arr[j]? = some (.int .i64 (q j))
  box : w'.cell? ⟨pb, 0, none⟩ = some (.slice (some ⟨wB.heap.size, 0, none⟩) L L)
theorem Pan.below {wB w' w2 : World} {L pb : Nat} {q : Nat → Int} (h : Pan wB w' L pb q) (hb : Below w'.heap.size w' w2) : Pan wB w2 L pb q := by
  have hs := h.siz
  have hlo := h.lo
  obtain ⟨arr, h1, h2, h3⟩ := h.row
  refine ⟨h.bel.trans (hb.mono (by omega)), hlo, Nat.lt_of_lt_of_le hs hb.size, ⟨arr, ?_, h2, h3⟩, (hb.cell (p := ⟨pb, 0, none⟩) hs).trans h.box⟩
  rw [hb.block _ (by omega)]; exact h1
theorem Pan.cell {wB w' : World} {L pb : Nat} {q : Nat → Int} (h : Pan wB w' L pb q) (j : Nat) (hj : j < L) : w'.cell? ⟨wB.heap.size, j, none⟩ = some (.int .i64 (q j)) ∧ w'.frozen? ⟨wB.heap.size, j, none⟩ = false := by
  obtain ⟨arr, h1, h2, h3⟩ := h.row
  unfold World.cell? World.frozen?
  rw [h1]
  simp [h3 j hj]
theorem Pan.store {wB w' : World} {L pb : Nat} {q : Nat → Int} (h : Pan wB w' L pb q) (j : Nat) (v : Int) (hj : j < L) : Pan wB (w'.setCell ⟨wB.heap.size, j, none⟩ (.int .i64 v)) L pb (fun i => if i = j then v else q i) := by
  obtain ⟨arr, h1, h2, h3⟩ := h.row
  have hlo := h.lo
  refine ⟨h.bel.setCell (Nat.le_refl _) _, hlo, by simpa [World.setCell] using h.siz, ⟨arr.setIfInBounds j (.int .i64 v), ?_, by simpa using h2, fun i hi => ?_⟩, ?_⟩
  · simp [World.setCell, Array.getElem?_modify, h1]
  · rw [Array.getElem?_setIfInBounds]
    by_cases e : j = i
    · subst e; simp [h2, hj]
    · rw [if_neg e, if_neg (fun h => e h.symm)]; exact h3 i hi
  · rw [World.cell?_of_block (w := w') (Below.heap_setCell w' _ _ _ (by show pb ≠ wB.heap.size; omega))]; exact h.box
/-- Of the places in D the numbers are those of G. -/
def Done (wB : World) (L pb : Nat) (G : Nat → Int) (D : Nat → Prop) (w' : World) : Prop := ∃ q, Pan wB w' L pb q ∧ ∀ i, i < L → D i → q i = G i

/-- What the lights of a list of numbers give to a place. -/
def sumN (x y : Int) (ls : List Lt) : List Int → Int
  | [] => 0
  | i :: r => givenP (ls.getD i.toNat Lt.zero) x y + sumN x y ls r
theorem sumN_snoc (x y : Int) (ls : List Lt) (i : Int) : ∀ l, sumN x y ls (l ++ [i]) = sumN x y ls l + givenP (ls.getD i.toNat Lt.zero) x y
  | [] => by simp [sumN]
  | m :: r => by simp [sumN, sumN_snoc x y ls i r, Int.add_assoc]
theorem sumN_pick (x y : Int) (f : Lt → Bool) (ls : List Lt) : ∀ n, n ≤ ls.length → (∀ k, k < n → f (ls.getD k Lt.zero) = false → givenP (ls.getD k Lt.zero) x y = 0) → sumN x y ls (pickL f ls n) = sumG x y (ls.take n)
  | 0, _, _ => by simp [pickL, sumN, sumG]
  | n + 1, hn, h => by
    have ih := sumN_pick x y f ls n (by omega) (fun k hk => h k (by omega))
    rw [take_snocL ls n (by omega), sumG_snoc]
    cases hf : f (ls.getD n Lt.zero) with
    | true => rw [pickL_yes f ls n hf, sumN_snoc, ih]; simp
    | false => rw [pickL_no f ls n hf, ih, h n (by omega) hf, Int.add_zero]
theorem pickL_get (f : Lt → Bool) (ls : List Lt) (n t : Nat) (ht : t < (pickL f ls n).length) : ∃ m : Nat, m < n ∧ (pickL f ls n).getD t 0 = m := by
  have hm : (pickL f ls n).getD t 0 ∈ pickL f ls n := by
    rw [List.getD_eq_getElem?_getD, List.getElem?_eq_getElem ht]; exact List.getElem_mem ht
  unfold pickL at hm
  simp only [List.mem_map, List.mem_filter, List.mem_range] at hm
  obtain ⟨m, ⟨h1, _⟩, h2⟩ := hm
  exact ⟨m, h1, h2.symm⟩
/-- Who is not near a part gives its places nothing. -/
theorem not_near {l : Lt} (x0 y0 : Int) (pw ph : Nat) (x y : Nat) (hx : x < pw) (hy : y < ph) (h : nearB x0 y0 pw ph l = false) : givenP l (x0 + x) (y0 + y) = 0 := by
  unfold nearB at h
  simp only [decide_eq_false_iff_not] at h
  refine given_zero rfl (fun hd => h ?_)
  have h1 : awayP l.X x0 pw ≤ awayP l.X (x0 + x) 1 := by unfold awayP; omega
  have h2 : awayP l.Y y0 ph ≤ awayP l.Y (y0 + y) 1 := by unfold awayP; omega
  omega
end Go.Proofs.Ytfpkiimlaepnhab
/-
  LITIN: what light.Lit does at one place, and in one tile.
-/
namespace Go.Proofs.Ytfpkiimlaepnhab
set_option maxRecDepth 100000
open Go.RowKit Im

/-- All that the functions of Lit lean on: the image in its box, the lights in theirs. -/
structure Scene (wB : World) (ab lb b off cap W H : Nat) (ps : List Int) (la : Option Addr) (llen lcap : Nat) (ls : List Lt) : Prop where
  box : Boxed wB ab b off cap W H
  fine : Fine wB b off W H ps
  llt : lb < wB.heap.size
  lc : wB.cell? ⟨lb, 0, none⟩ = some (.slice la llen lcap)
  lights : Lights wB la llen ls
  h8 : ls.length ≤ 8
  hr : ls.all rightB = true
theorem Scene.below {wB w' : World} {ab lb b off cap W H : Nat} {ps : List Int} {la : Option Addr} {llen lcap : Nat} {ls : List Lt} (h : Scene wB ab lb b off cap W H ps la llen lcap ls) (hb : Below wB.heap.size wB w') : Scene w' ab lb b off cap W H ps la llen lcap ls :=
  ⟨h.box.below hb, h.fine.below hb, Nat.lt_of_lt_of_le h.llt hb.size, (hb.cell (p := ⟨lb, 0, none⟩) h.llt).trans h.lc, h.lights.below hb, h.h8, h.hr⟩
/-- The number that a place gets. -/
def litG (W : Nat) (ps : List Int) (ls : List Lt) (x y : Nat) : Int := min (px W ps x y + sumG x y ls) 65535

end Go.Proofs.Ytfpkiimlaepnhab
/-
  LITTILE: what light.Lit does in one tile.
-/
namespace Go.Proofs.Ytfpkiimlaepnhab
set_option maxRecDepth 100000
open Go.RowKit Im

/-- The number of the place i. -/
def litI (W : Nat) (ps : List Int) (ls : List Lt) (i : Nat) : Int := litG W ps ls (i % W) (i / W)
theorem Done.mono {wB : World} {L pb : Nat} {G : Nat → Int} {A B : Nat → Prop} {w' : World} (h : Done wB L pb G A w') (hs : ∀ i, B i → A i) : Done wB L pb G B w' := by
  obtain ⟨q, hp, hq⟩ := h
  exact ⟨q, hp, fun i hi hb => hq i hi (hs i hb)⟩
theorem Done.below {wB : World} {L pb : Nat} {G : Nat → Int} {A : Nat → Prop} {w' w2 : World} (h : Done wB L pb G A w') (hb : Below w'.heap.size w' w2) : Done wB L pb G A w2 := by
  obtain ⟨q, hp, hq⟩ := h
  exact ⟨q, hp.below hb, hq⟩
/-- While a tile is worked: the list of its lights lies in the box nb. -/
def InTile (wB : World) (L pb : Nat) (G : Nat → Int) (nb : Nat) (na : Option Addr) (ncap : Nat) (near : List Int) (D : Nat → Prop) (w' : World) : Prop :=
  Done wB L pb G D w' ∧ w'.cell? ⟨nb, 0, none⟩ = some (.slice na near.length ncap) ∧ Ints (wB.heap.size + 1) w' na near.length near ∧ wB.heap.size < nb ∧ nb < w'.heap.size

end Go.Proofs.Ytfpkiimlaepnhab
/-
  LIT: light.Lit answers what the document says.
-/
namespace Go.Proofs.Ytfpkiimlaepnhab
set_option maxRecDepth 100000
open Go.RowKit Im

theorem lit_B (w : World) (o o' o'' : Obj) : Below w.heap.size w (((w.alloc o).alloc o').alloc o'') := (((Below.refl _ _).alloc (Nat.le_refl _) _).alloc (by simp) _).alloc (by simp; omega) _

theorem pan_made {wB wM : World} {L : Nat} {o : Obj} (ho : o = .cells #[.slice (some ⟨wB.heap.size, 0, none⟩) L L] 25) (hown : wM.ownsRow wB.heap.size 3 1 (.slice (some ⟨wB.heap.size, 0, none⟩) L L) L (madeCells (Value.int .i64 0).cells (L * 1)).toList) (hg : wB.grownBy wM none) :
    Pan wB (wM.alloc o) L wM.heap.size (fun _ => 0) := by
  subst ho
  obtain ⟨_, h⟩ := hown
  rcases h with ⟨h, _⟩ | ⟨g, cap, cur, hv, _, hh, _, _, hs, ht⟩
  · cases h
  · simp only [Value.slice.injEq, Option.some.injEq, Addr.mk.injEq, and_true, true_and] at hv
    obtain ⟨rfl, rfl⟩ := hv
    have hlt : wB.heap.size < wM.heap.size := by
      rcases Nat.lt_or_ge wB.heap.size wM.heap.size with h | h
      · exact h
      · rw [Array.getElem?_eq_none h] at hh; cases hh
    have hb : Below wB.heap.size wB wM := (Below.refl _ _).grown hg (Nat.le_refl _) (fun k hk => by cases hk)
    refine ⟨hb.alloc (by omega) _, hlt, by simp, ⟨cur, ?_, by simpa using hs, fun j hj => ?_⟩, by simp [go_sem]⟩
    · rw [Below.heap_alloc _ _ _ hlt]; exact hh
    · have e : cur.toList = List.replicate L (Value.int .i64 0) := by
        have h1 : cur.toList.take (L * 1) = cur.toList := List.take_of_length_le (by simp; omega)
        rw [h1] at ht
        rw [ht]
        show (madeCells #[Value.int .i64 0] (L * 1)).toList = _
        rw [toList_madeCells_one, Nat.mul_one]
      rw [← Array.getElem?_toList, e]
      simp [hj]
/-- The numbers of a row that is done. -/
theorem done_ints {wB w' : World} {L pb : Nat} {G : Nat → Int} (h : Done wB L pb G (fun i => i < L) w') (hL : L ≤ 256) : Ints wB.heap.size w' (some ⟨wB.heap.size, 0, none⟩) L ((List.range L).map G) := by
  obtain ⟨q, hp, hq⟩ := h
  refine ⟨by simp, by omega, ?_⟩
  refine .inr ⟨wB.heap.size, 0, rfl, Nat.le_refl _, by have := hp.lo; have := hp.siz; omega, fun j hj => ?_⟩
  rw [Nat.zero_add, (hp.cell j hj).1, hq j hj hj]
  simp [hj]
end Go.Proofs.Ytfpkiimlaepnhab
/-
  LIGHTBEGUN: the law's lightBegun answers true.
-/
namespace Go.Proofs.Ytfpkiimlaepnhab
set_option maxRecDepth 100000
open Go.RowKit Im

abbrev lampL : List Lt := [⟨1, 1, 2, 1000⟩]
theorem Lights.alloc {w : World} {a : Option Addr} {len : Nat} {ls : List Lt} (h : Lights w a len ls) (o : Obj) : Lights (w.alloc o) a len ls := h.below ((Below.refl _ _).alloc (Nat.le_refl _) _)
theorem lampErr : lightsErr lampL = 0 := by decide
end Go.Proofs.Ytfpkiimlaepnhab
/-
  MEANREF: the reference's at and mean.
-/
namespace Go.Proofs.Ytfpkiimlaepnhab
set_option maxRecDepth 100000
open Go.RowKit Im

end Go.Proofs.Ytfpkiimlaepnhab
