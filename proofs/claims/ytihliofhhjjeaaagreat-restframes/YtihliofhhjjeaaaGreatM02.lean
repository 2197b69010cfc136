/- FitM, FitM2, ExecM, Chk, Same: joined, in this order. -/
import Derived.Test.YtihliofhhjjeaaaGreatM01
import Derived.Deep.QuietTactic
import Derived.BigQuiet
set_option maxRecDepth 100000
namespace Go.Proofs.YtihliofhhjjeaaaGreat
def insP (x : Int × Int) : List (Int × Int) → List (Int × Int)
  | [] => [x]
  | y :: l => if x.1 ≤ y.1 then x :: y :: l else y :: insP x l
def isort (l : List (Int × Int)) : List (Int × Int) := l.foldr insP []
theorem ins_mem (x b : Int × Int) : ∀ l, b ∈ insP x l ↔ b = x ∨ b ∈ l
  | [] => by simp [insP]
  | y :: l => by
    unfold insP
    split
    · simp
    · rw [List.mem_cons, ins_mem x b l, List.mem_cons]
      constructor
      · rintro (h | h | h)
        · exact .inr (.inl h)
        · exact .inl h
        · exact .inr (.inr h)
      · rintro (h | h | h)
        · exact .inr (.inl h)
        · exact .inl h
        · exact .inr (.inr h)
theorem ins_sorted (x : Int × Int) : ∀ l : List (Int × Int), l.Pairwise (fun a b => a.1 ≤ b.1) → (insP x l).Pairwise (fun a b => a.1 ≤ b.1)
  | [], _ => by simp [insP]
  | y :: l, h => by
    rw [List.pairwise_cons] at h
    unfold insP
    split
    · rename_i hx
      rw [List.pairwise_cons, List.pairwise_cons]
      refine ⟨fun b hb => ?_, h⟩
      rcases List.mem_cons.1 hb with rfl | hb
      · exact hx
      · have := h.1 b hb; omega
    · rename_i hx
      rw [List.pairwise_cons]
      refine ⟨fun b hb => ?_, ins_sorted x l h.2⟩
      rcases (ins_mem x b l).1 hb with rfl | hb
      · omega
      · exact h.1 b hb
theorem isort_mem (b : Int × Int) : ∀ l, b ∈ isort l ↔ b ∈ l
  | [] => Iff.rfl
  | x :: l => by show b ∈ insP x (isort l) ↔ _; rw [ins_mem, isort_mem b l, List.mem_cons]
theorem isort_sorted : ∀ l : List (Int × Int), (isort l).Pairwise (fun a b => a.1 ≤ b.1)
  | [] => List.Pairwise.nil
  | x :: l => ins_sorted x _ (isort_sorted l)
def placeR (l : List (Int × Int)) (size : Int) : Int := placeN size (isort l) 0
theorem placeR_least (l : List (Int × Int)) (size : Int) : 0 ≤ placeR l size ∧ freeAt l size (placeR l size) ∧ ∀ q, 0 ≤ q → freeAt l size q → placeR l size ≤ q := by
  obtain ⟨h1, h2, h3⟩ := placeN_least size (isort l) 0 (isort_sorted l)
  exact ⟨h1, fun b hb => h2 b ((isort_mem b l).2 hb), fun q hq hf => h3 q hq (fun b hb => hf b ((isort_mem b l).1 hb))⟩
theorem placeR_of {l l' : List (Int × Int)} {size : Int} (hm : ∀ b, b ∈ l' ↔ b ∈ l) (hs : l'.Pairwise (fun a b => a.1 ≤ b.1)) : placeN size l' 0 = placeR l size := by
  obtain ⟨h1, h2, h3⟩ := placeR_least l size
  exact placeN_only hm hs h1 h2 h3
theorem placeR_top {l : List (Int × Int)} {size T : Int} (h : ∀ b ∈ l, b.2 + 1 ≤ T) (hT : 0 ≤ T) : placeR l size ≤ T :=
  placeN_top (fun b hb => h b ((isort_mem b l).1 hb)) hT
def cOrd (G : Gp) : Nat → List Int
  | 0 => []
  | n + 1 => if G.kept n = true then cOrd G n ++ [(n : Int)] else cOrd G n
theorem cOrd_mem (G : Gp) (x : Int) : ∀ n, x ∈ cOrd G n ↔ 0 ≤ x ∧ x < n ∧ G.kept x.toNat = true
  | 0 => by simp [cOrd]; omega
  | n + 1 => by
    unfold cOrd
    split
    · rename_i h
      rw [List.mem_append, cOrd_mem G x n, List.mem_singleton]
      constructor
      · rintro (⟨a, b, c⟩ | rfl)
        · exact ⟨a, by omega, c⟩
        · exact ⟨by omega, by omega, by rw [Int.toNat_natCast]; exact h⟩
      · rintro ⟨a, b, c⟩
        by_cases e : x = n
        · exact .inr e
        · exact .inl ⟨a, by omega, c⟩
    · rename_i h
      rw [cOrd_mem G x n]
      constructor
      · rintro ⟨a, b, c⟩; exact ⟨a, by omega, c⟩
      · rintro ⟨a, b, c⟩
        refine ⟨a, ?_, c⟩
        by_cases e : x = n
        · subst e; rw [Int.toNat_natCast] at c; exact (h c).elim
        · omega
theorem cOrd_sorted (G : Gp) : ∀ n, (cOrd G n).Pairwise (· < ·)
  | 0 => List.Pairwise.nil
  | n + 1 => by
    unfold cOrd
    split
    · rw [List.pairwise_append]
      refine ⟨cOrd_sorted G n, by simp, fun a ha b hb => ?_⟩
      rw [List.mem_singleton] at hb
      have := (cOrd_mem G a n).1 ha
      omega
    · exact cOrd_sorted G n
theorem cOrd_len (G : Gp) : ∀ n, (cOrd G n).length ≤ n
  | 0 => Nat.le_refl _
  | n + 1 => by
    have := cOrd_len G n
    unfold cOrd
    split
    · rw [List.length_append]; simp; omega
    · omega
theorem sorted_step : ∀ {l : List Int}, l.Pairwise (· < ·) → ∀ {a b : Int}, a ∈ l → b ∈ l → a < b → stepAt l a ≤ stepAt l b
  | [], _, a, b, ha, _, _ => by cases ha
  | x :: l, h, a, b, ha, hb, hab => by
    rw [List.pairwise_cons] at h
    have hb' : b ∈ l := by
      rcases List.mem_cons.1 hb with rfl | hb
      · rcases List.mem_cons.1 ha with rfl | ha
        · omega
        · have := h.1 a ha; omega
      · exact hb
    have hpb := stepAt_mem.2 hb'
    have hxb : ¬ x = b := fun e => by have := h.1 b hb'; omega
    show (if x = a then (0 : Int) else if stepAt l a < 0 then -1 else stepAt l a + 1) ≤ (if x = b then (0 : Int) else if stepAt l b < 0 then -1 else stepAt l b + 1)
    have eb : (if x = b then (0 : Int) else if stepAt l b < 0 then -1 else stepAt l b + 1) = stepAt l b + 1 := by rw [if_neg hxb, if_neg (by omega)]
    rw [eb]
    rcases List.mem_cons.1 ha with rfl | ha
    · rw [if_pos rfl]; omega
    · have hxa : ¬ x = a := fun e => by have := h.1 a ha; omega
      have hpa := stepAt_mem.2 ha
      rw [if_neg hxa, if_neg (by omega)]
      have := sorted_step h.2 ha hb' hab
      omega
def Closed (G : Gp) : Prop := ∀ k, k < G.N → G.kept k = true → ∀ s ∈ G.src k, G.kept s.toNat = true
theorem cOrd_ord {G : Gp} (hG : G.Right) (hC : Closed G) {pl : List Int} (hl : pl.length = G.N) (h1 : ∀ k, k < G.N → G.kept k = true → 0 ≤ pl.getD k 0 ∧ pl.getD k 0 ≤ 4096) (h0 : ∀ k, k < G.N → ¬ G.kept k = true → pl.getD k 0 = -1) : Ord G (cOrd G G.N) pl := by
  refine ⟨fun o ho => ?_, ?_, fun k hk hK => ?_, fun k hk hm s hs => ?_, hl, fun k hk hm => ?_, fun k hk hm => ?_⟩
  · have := (cOrd_mem G o G.N).1 ho; exact ⟨this.1, this.2.1⟩
  · exact (cOrd_sorted G G.N).imp (fun h => by omega)
  · exact (cOrd_mem G k G.N).2 ⟨by omega, by omega, by rw [Int.toNat_natCast]; exact hK⟩
  · have hK := ((cOrd_mem G k G.N).1 hm).2.2
    rw [Int.toNat_natCast] at hK
    have hb := hG.src k hk s hs
    have hm' := (cOrd_mem G s G.N).2 ⟨hb.1, by omega, hC k hk hK s hs⟩
    exact ⟨hm', sorted_step (cOrd_sorted G G.N) hm' hm hb.2⟩
  · have hK := ((cOrd_mem G k G.N).1 hm).2.2
    rw [Int.toNat_natCast] at hK
    exact h1 k hk hK
  · exact h0 k hk (fun hK => hm ((cOrd_mem G k G.N).2 ⟨by omega, by omega, by rw [Int.toNat_natCast]; exact hK⟩))
def busyQ (G : Gp) (os qs : List Int) (n : Nat) : Nat → List (Int × Int)
  | 0 => []
  | m + 1 => if (n : Int) ≤ (spanP G os (os.getD m 0).toNat).2 then busyQ G os qs n m ++ [(qs.getD m 0, qs.getD m 0 + G.ar (os.getD m 0).toNat - 1)] else busyQ G os qs n m
def qsP (G : Gp) (os : List Int) : Nat → List Int
  | 0 => []
  | n + 1 => qsP G os n ++ [placeR (busyQ G os (qsP G os n) n n) (G.ar (os.getD n 0).toNat)]
theorem qsP_len (G : Gp) (os : List Int) : ∀ n, (qsP G os n).length = n
  | 0 => rfl
  | n + 1 => by unfold qsP; rw [List.length_append, qsP_len G os n]; rfl
theorem qsP_get (G : Gp) (os : List Int) {j : Nat} : ∀ {n : Nat}, j < n → (qsP G os n).getD j 0 = placeR (busyQ G os (qsP G os j) j j) (G.ar (os.getD j 0).toNat)
  | 0, h => by omega
  | n + 1, h => by
    have hl := qsP_len G os n
    have eq : qsP G os (n + 1) = qsP G os n ++ [placeR (busyQ G os (qsP G os n) n n) (G.ar (os.getD n 0).toNat)] := rfl
    rw [eq, List.getD_eq_getElem?_getD]
    by_cases e : j = n
    · subst e
      rw [List.getElem?_append_right (by omega), hl]; simp
    · rw [List.getElem?_append_left (by omega), ← List.getD_eq_getElem?_getD]
      exact qsP_get G os (by omega)
theorem busyQ_mem {G : Gp} {os qs : List Int} {n : Nat} {b : Int × Int} : ∀ {m : Nat}, b ∈ busyQ G os qs n m ↔ ∃ j, j < m ∧ (n : Int) ≤ (spanP G os (os.getD j 0).toNat).2 ∧ b = (qs.getD j 0, qs.getD j 0 + G.ar (os.getD j 0).toNat - 1)
  | 0 => by simp [busyQ]
  | m + 1 => by
    have ih := busyQ_mem (G := G) (os := os) (qs := qs) (n := n) (b := b) (m := m)
    unfold busyQ
    split
    · rename_i h
      rw [List.mem_append, ih, List.mem_singleton]
      constructor
      · rintro (⟨j, h1, h2, h3⟩ | h1)
        · exact ⟨j, by omega, h2, h3⟩
        · exact ⟨m, by omega, h, h1⟩
      · rintro ⟨j, h1, h2, h3⟩
        by_cases e : j = m
        · subst e; exact .inr h3
        · exact .inl ⟨j, by omega, h2, h3⟩
    · rename_i h
      rw [ih]
      constructor
      · rintro ⟨j, h1, h2, h3⟩; exact ⟨j, by omega, h2, h3⟩
      · rintro ⟨j, h1, h2, h3⟩
        by_cases e : j = m
        · subst e; exact (h h2).elim
        · exact ⟨j, by omega, h2, h3⟩
theorem busyQ_len (G : Gp) (os qs : List Int) (n : Nat) : ∀ m, (busyQ G os qs n m).length ≤ m
  | 0 => Nat.le_refl _
  | m + 1 => by
    have := busyQ_len G os qs n m
    unfold busyQ
    split
    · rw [List.length_append]; simp; omega
    · omega
def plcN (G : Gp) (os : List Int) (z : Nat → Int) (n k : Nat) : Int := if 0 ≤ stepAt (os.take n) k then (qsP G os n).getD (stepAt (os.take n) k).toNat 0 else z k
def arTo (G : Gp) (os : List Int) : Nat → Int
  | 0 => 0
  | n + 1 => arTo G os n + G.ar (os.getD n 0).toNat
theorem arTo_mono {G : Gp} (hG : G.Right) {os : List Int} (hin : ∀ o ∈ os, 0 ≤ o ∧ o < G.N) : ∀ {n : Nat}, n ≤ os.length → ∀ {m : Nat}, m ≤ n → arTo G os m ≤ arTo G os n
  | 0, _, m, hm => by rw [show m = 0 by omega]; exact Int.le_refl _
  | n + 1, hn, m, hm => by
    by_cases e : m = n + 1
    · rw [e]; exact Int.le_refl _
    · have ih := arTo_mono hG hin (n := n) (by omega) (m := m) (by omega)
      have ho := hin _ (getD_in (show n < os.length by omega))
      have := hG.ar (os.getD n 0).toNat (by omega)
      have eq : arTo G os (n + 1) = arTo G os n + G.ar (os.getD n 0).toNat := rfl
      omega
theorem arTo_bd {G : Gp} (hG : G.Right) {os : List Int} (hin : ∀ o ∈ os, 0 ≤ o ∧ o < G.N) : ∀ {n : Nat}, n ≤ os.length → 0 ≤ arTo G os n ∧ arTo G os n ≤ 256 * n
  | 0, _ => by simp [arTo]
  | n + 1, hn => by
    have ih := arTo_bd hG hin (n := n) (by omega)
    have ho := hin _ (getD_in (show n < os.length by omega))
    have := hG.ar (os.getD n 0).toNat (by omega)
    unfold arTo
    omega
theorem qs_top {G : Gp} (hG : G.Right) {os : List Int} (hin : ∀ o ∈ os, 0 ≤ o ∧ o < G.N) : ∀ (n : Nat), n < os.length → 0 ≤ (qsP G os (n + 1)).getD n 0 ∧ (qsP G os (n + 1)).getD n 0 ≤ arTo G os n := by
  intro n
  induction n using Nat.strongRecOn with
  | ind n ih =>
    intro hn
    rw [qsP_get G os (Nat.lt_succ_self n)]
    refine ⟨(placeR_least _ _).1, placeR_top (fun b hb => ?_) (arTo_bd hG hin (by omega)).1⟩
    obtain ⟨j, hj, _, rfl⟩ := busyQ_mem.1 hb
    have := ih j hj (by omega)
    rw [qsP_get G os (Nat.lt_succ_self j), ← qsP_get G os hj] at this
    have hm := arTo_mono hG hin (n := n) (by omega) (m := j + 1) (by omega)
    have eq : arTo G os (j + 1) = arTo G os j + G.ar (os.getD j 0).toNat := rfl
    simp only
    omega
theorem qs_bd {G : Gp} (hG : G.Right) {os : List Int} (hin : ∀ o ∈ os, 0 ≤ o ∧ o < G.N) {n j : Nat} (hn : n ≤ os.length) (hj : j < n) : 0 ≤ (qsP G os n).getD j 0 ∧ (qsP G os n).getD j 0 + G.ar (os.getD j 0).toNat ≤ arTo G os os.length := by
  have h1 := qs_top hG hin j (by omega)
  rw [qsP_get G os (Nat.lt_succ_self j), ← qsP_get G os hj] at h1
  have hm := arTo_mono hG hin (n := os.length) (Nat.le_refl _) (m := j + 1) (by omega)
  have eq : arTo G os (j + 1) = arTo G os j + G.ar (os.getD j 0).toNat := rfl
  exact ⟨h1.1, by omega⟩
end Go.Proofs.YtihliofhhjjeaaaGreat
namespace Go.Proofs.YtihliofhhjjeaaaGreat
theorem getD_map_range (g : Nat → Int) {N k : Nat} (hk : k < N) : ((List.range N).map g).getD k 0 = g k := by simp [List.getD, hk]
def cPl (G : Gp) : List Int := (List.range G.N).map (plcN G (cOrd G G.N) (fun _ => -1) (cOrd G G.N).length)
theorem plcN_end {G : Gp} {os : List Int} {z : Nat → Int} {k : Nat} : plcN G os z os.length k = if 0 ≤ stepAt os k then (qsP G os os.length).getD (stepAt os k).toNat 0 else z k := by
  unfold plcN; rw [List.take_length]
theorem cPl_no {G : Gp} {k : Nat} (hk : k < G.N) (h : ¬ (k : Int) ∈ cOrd G G.N) : (cPl G).getD k 0 = -1 := by
  unfold cPl
  rw [getD_map_range _ hk, plcN_end, if_neg (fun h' => h (stepAt_mem.1 h'))]
theorem cPl_at {G : Gp} {j k : Nat} (hk : k < G.N) (hj : j < (cOrd G G.N).length) (h : (cOrd G G.N).getD j 0 = k) : (cPl G).getD k 0 = (qsP G (cOrd G G.N) (cOrd G G.N).length).getD j 0 := by
  have hs := stepAt_self ((cOrd_sorted G G.N).imp (fun h => by omega)) hj
  rw [h] at hs
  unfold cPl
  rw [getD_map_range _ hk, plcN_end, hs, if_pos (by omega), Int.toNat_natCast]
theorem cOrd_in (G : Gp) : ∀ o ∈ cOrd G G.N, 0 ≤ o ∧ o < G.N := fun o ho => by have := (cOrd_mem G o G.N).1 ho; exact ⟨this.1, this.2.1⟩
theorem cPl_ord {G : Gp} (hG : G.Right) (hC : Closed G) : Ord G (cOrd G G.N) (cPl G) := by
  refine cOrd_ord hG hC (by unfold cPl; simp) (fun k hk hK => ?_) (fun k hk hK => ?_)
  · have hm := (cOrd_mem G k G.N).2 ⟨by omega, by omega, by rw [Int.toNat_natCast]; exact hK⟩
    obtain ⟨j, hj, e⟩ := mem_getD hm
    rw [cPl_at hk hj e]
    have h1 := qs_bd hG (cOrd_in G) (Nat.le_refl _) hj
    have h2 := arTo_bd hG (cOrd_in G) (n := (cOrd G G.N).length) (Nat.le_refl _)
    have h3 := cOrd_len G G.N
    have h4 := hG.hN
    have h5 := hG.ar k hk
    rw [e, Int.toNat_natCast] at h1
    omega
  · exact cPl_no hk (fun h => hK (by have := ((cOrd_mem G k G.N).1 h).2.2; rwa [Int.toNat_natCast] at this))
theorem span_first {G : Gp} {os : List Int} (hn : os.Nodup) {j k : Nat} (hj : j < os.length) (h : os.getD j 0 = k) : (spanP G os k).1 = j := by
  have := stepAt_self hn hj
  rw [h] at this
  exact this
theorem ltk_ge {G : Gp} {os pl : List Int} (h : Ord G os pl) {k : Nat} (hk : (k : Int) ∈ os) : ∀ {n : Nat}, n ≤ os.length → stepAt os k ≤ ltk G.src os k (stepAt os k) n
  | 0, _ => Int.le_refl _
  | n + 1, hn => by
    unfold ltk
    split
    · rename_i hs
      obtain ⟨m, hm, e, hmm⟩ := os_nat h (show n < os.length by omega)
      rw [e, Int.toNat_natCast] at hs
      have h1 := (h.beh m hm hmm k hs).2
      have h2 := stepAt_self h.nodup (show n < os.length by omega)
      rw [e] at h2
      omega
    · exact ltk_ge h hk (by omega)
theorem span_ge {G : Gp} {os pl : List Int} (h : Ord G os pl) {k : Nat} (hk : (k : Int) ∈ os) : (spanP G os k).1 ≤ (spanP G os k).2 := by
  unfold spanP
  simp only
  split
  · have := stepAt_bd os k; omega
  · exact ltk_ge h hk (Nat.le_refl _)
end Go.Proofs.YtihliofhhjjeaaaGreat
namespace Go.Proofs.YtihliofhhjjeaaaGreat
def putA (A : List Int) (p : Nat) (l : List Int) : List Int := A.take p ++ (l ++ A.drop (p + l.length))
def getA (A : List Int) (p n : Nat) : List Int := (A.drop p).take n
theorem putA_len {A : List Int} {p : Nat} {l : List Int} (h : p + l.length ≤ A.length) : (putA A p l).length = A.length := by
  unfold putA; simp; omega
theorem getA_len {A : List Int} {p n : Nat} (h : p + n ≤ A.length) : (getA A p n).length = n := by
  unfold getA; simp; omega
theorem putA_get {A : List Int} {p : Nat} {l : List Int} (h : p + l.length ≤ A.length) (i : Nat) : (putA A p l)[i]? = if p ≤ i ∧ i < p + l.length then l[i - p]? else A[i]? := by
  unfold putA
  have hp : (A.take p).length = p := by simp; omega
  by_cases h1 : i < p
  · rw [List.getElem?_append_left (by omega), if_neg (by omega), List.getElem?_take_of_lt h1]
  · rw [List.getElem?_append_right (by omega), hp]
    by_cases h2 : i < p + l.length
    · rw [List.getElem?_append_left (by omega), if_pos (by omega)]
    · rw [List.getElem?_append_right (by omega), if_neg (by omega), List.getElem?_drop]
      congr 1; omega
theorem getA_get {A : List Int} {p n i : Nat} (hi : i < n) : (getA A p n)[i]? = A[p + i]? := by
  unfold getA
  rw [List.getElem?_take_of_lt hi, List.getElem?_drop]
theorem getA_ext {A B : List Int} {p q n : Nat} (hA : p + n ≤ A.length) (hB : q + n ≤ B.length) (h : ∀ i, i < n → A[p + i]? = B[q + i]?) : getA A p n = getA B q n := by
  refine List.ext_getElem? fun i => ?_
  by_cases hi : i < n
  · rw [getA_get hi, getA_get hi, h i hi]
  · rw [List.getElem?_eq_none (by rw [getA_len hA]; omega), List.getElem?_eq_none (by rw [getA_len hB]; omega)]
theorem get_put_same {A : List Int} {p : Nat} {l : List Int} (h : p + l.length ≤ A.length) : getA (putA A p l) p l.length = l := by
  refine List.ext_getElem? fun i => ?_
  by_cases hi : i < l.length
  · rw [getA_get hi, putA_get h, if_pos (by omega)]
    congr 1; omega
  · rw [List.getElem?_eq_none (by rw [getA_len (by rw [putA_len h]; exact h)]; omega), List.getElem?_eq_none (by omega)]
theorem get_put_apart {A : List Int} {p q n : Nat} {l : List Int} (h : p + l.length ≤ A.length) (hq : q + n ≤ A.length) (ha : q + n ≤ p ∨ p + l.length ≤ q) : getA (putA A p l) q n = getA A q n := by
  refine getA_ext (by rw [putA_len h]; exact hq) hq fun i hi => ?_
  rw [putA_get h, if_neg (by omega)]
theorem put_mem {A : List Int} {p : Nat} {l : List Int} {P : Int → Prop} (hA : ∀ x ∈ A, P x) (hl : ∀ x ∈ l, P x) : ∀ x ∈ putA A p l, P x := by
  intro x hx
  unfold putA at hx
  rcases List.mem_append.1 hx with h | h
  · exact hA x (List.mem_of_mem_take h)
  · rcases List.mem_append.1 h with h | h
    · exact hl x h
    · exact hA x (List.mem_of_mem_drop h)
theorem get_mem {A : List Int} {p n : Nat} {P : Int → Prop} (hA : ∀ x ∈ A, P x) : ∀ x ∈ getA A p n, P x := fun x hx => hA x (List.mem_of_mem_drop (List.mem_of_mem_take hx))
def runN (G : Gp) (mk : Nat → (Nat → List Int) → List Int) (os pl A : List Int) : Nat → List Int
  | 0 => A
  | n + 1 => putA (runN G mk os pl A n) (pl.getD (os.getD n 0).toNat 0).toNat (mk (os.getD n 0).toNat (fun s => getA (runN G mk os pl A n) (pl.getD s 0).toNat (G.ar s).toNat))
theorem run_inv {G : Gp} (hG : G.Right) {mk : Nat → (Nat → List Int) → List Int} {pic : Nat → List Int} {os pl A : List Int} (h : Ord G os pl) (hc : Clear os (spanP G os) (lieP G os pl)) (hp : peakT os (lieP G os pl) os.length ≤ A.length)
    (hlen : ∀ k, k < G.N → ((pic k).length : Int) = G.ar k) (hmk : ∀ k c, k < G.N → (∀ s ∈ G.src k, c s.toNat = pic s.toNat) → mk k c = pic k) :
    ∀ {n : Nat}, n ≤ os.length → (runN G mk os pl A n).length = A.length ∧ ∀ j, j < n → (n : Int) - 1 ≤ (spanP G os (os.getD j 0).toNat).2 → getA (runN G mk os pl A n) (pl.getD (os.getD j 0).toNat 0).toNat (G.ar (os.getD j 0).toNat).toNat = pic (os.getD j 0).toNat
  | 0, _ => ⟨rfl, fun j hj => by omega⟩
  | n + 1, hn => by
    obtain ⟨hl, hI⟩ := run_inv hG h hc hp hlen hmk (n := n) (by omega)
    obtain ⟨k, hk, ek, hm⟩ := os_nat h (show n < os.length by omega)
    have hp2 := (all_os h (fun k => (lieP G os pl k).2 + 1 ≤ A.length)).1 (((peakT_le (Nat.le_refl _)).1 hp).2)
    have hfit : ∀ q, q < G.N → (q : Int) ∈ os → 0 ≤ pl.getD q 0 ∧ 1 ≤ G.ar q ∧ (pl.getD q 0).toNat + (G.ar q).toNat ≤ A.length := by
      intro q hq hqm
      have h1 := hp2 q hq hqm
      rw [Ord.lie hqm] at h1
      have h2 := h.at_ q hq hqm
      have h3 := hG.ar q hq
      simp only at h1
      exact ⟨h2.1, h3.1, by omega⟩
    have hsn := stepAt_self h.nodup (show n < os.length by omega)
    rw [ek] at hsn
    have hmade : mk k (fun s => getA (runN G mk os pl A n) (pl.getD s 0).toNat (G.ar s).toNat) = pic k := by
      refine hmk k _ hk fun s hs => ?_
      obtain ⟨hsm, hst⟩ := h.beh k hk hm s hs
      have hb := hG.src k hk s hs
      have es : ((s.toNat : Nat) : Int) = s := by omega
      have hpos := stepAt_mem.2 hsm
      obtain ⟨j, hj⟩ := Int.eq_ofNat_of_zero_le hpos
      have hbd := stepAt_bd os s
      have hg := stepAt_get hpos
      rw [hj, Int.toNat_natCast] at hg
      have hjn : j < n := by
        have hne : j ≠ n := by
          intro e
          rw [e, ek] at hg
          omega
        omega
      have := hI j hjn (by
        rw [hg]
        unfold spanP
        simp only
        split
        · omega
        · rw [es, show os.length = (n + (os.length - (n + 1))) + 1 by omega]
          have : ∀ d, (n : Int) - 1 ≤ ltk G.src os s (stepAt os s) (n + d + 1) := by
            intro d
            induction d with
            | zero =>
              show (n : Int) - 1 ≤ if s ∈ G.src (os.getD n 0).toNat then (n : Int) else ltk G.src os s (stepAt os s) n
              rw [ek, Int.toNat_natCast, if_pos hs]; omega
            | succ d ih =>
              show (n : Int) - 1 ≤ if s ∈ G.src (os.getD (n + (d + 1)) 0).toNat then ((n + (d + 1) : Nat) : Int) else ltk G.src os s (stepAt os s) (n + (d + 1))
              split
              · omega
              · exact ih
          exact this _)
      rw [hg] at this
      exact this
    have er : runN G mk os pl A (n + 1) = putA (runN G mk os pl A n) (pl.getD k 0).toNat (pic k) := by
      show putA (runN G mk os pl A n) (pl.getD (os.getD n 0).toNat 0).toNat (mk (os.getD n 0).toNat (fun s => getA (runN G mk os pl A n) (pl.getD s 0).toNat (G.ar s).toNat)) = _
      rw [ek, Int.toNat_natCast, hmade]
    obtain ⟨hk0, hk1, hkf⟩ := hfit k hk hm
    have hkl := hlen k hk
    have hfits : (pl.getD k 0).toNat + (pic k).length ≤ (runN G mk os pl A n).length := by rw [hl]; omega
    rw [er]
    refine ⟨by rw [putA_len hfits, hl], fun j hj hspan => ?_⟩
    by_cases ejn : j = n
    · subst ejn
      rw [ek, Int.toNat_natCast]
      have := get_put_same hfits
      rw [show (G.ar k).toNat = (pic k).length by omega]
      exact this
    · have hjn : j < n := by omega
      obtain ⟨q, hq, eq, hqm⟩ := os_nat h (show j < os.length by omega)
      have hI' := hI j hjn (by omega)
      rw [eq, Int.toNat_natCast] at hI' hspan ⊢
      obtain ⟨hq0, hq1, hqf⟩ := hfit q hq hqm
      have hsj := stepAt_self h.nodup (show j < os.length by omega)
      rw [eq] at hsj
      have hne : q ≠ k := by
        intro e
        rw [e, hsn] at hsj
        omega
      have hmeet : meetB (spanP G os q) (spanP G os k) = true := by
        have h1 := span_ge h hm
        rw [span_first h.nodup (show n < os.length by omega) ek] at h1
        unfold meetB
        rw [span_first h.nodup (show n < os.length by omega) ek, span_first h.nodup (show j < os.length by omega) eq]
        simp only [Bool.and_eq_true, decide_eq_true_eq]
        push_cast at hspan
        omega
      have hap : ¬ meetB (lieP G os pl q) (lieP G os pl k) = true := fun hl => hc q k hqm hm hne hmeet hl
      rw [Ord.lie hqm, Ord.lie hm] at hap
      unfold meetB at hap
      simp only [Bool.and_eq_true, decide_eq_true_eq] at hap
      rw [get_put_apart hfits (by rw [hl]; exact hqf) (by omega)]
      exact hI'
theorem run_shows {G : Gp} (hG : G.Right) {mk : Nat → (Nat → List Int) → List Int} {pic : Nat → List Int} {os pl A : List Int} (h : Ord G os pl) (hc : Clear os (spanP G os) (lieP G os pl)) (hp : peakT os (lieP G os pl) os.length ≤ A.length)
    (hlen : ∀ k, k < G.N → ((pic k).length : Int) = G.ar k) (hmk : ∀ k c, k < G.N → (∀ s ∈ G.src k, c s.toNat = pic s.toNat) → mk k c = pic k) :
    getA (runN G mk os pl A os.length) (pl.getD G.last.toNat 0).toNat (G.ar G.last.toNat).toNat = pic G.last.toNat := by
  have hm := h.pos hG
  have hl := hG.last
  obtain ⟨j, hj, e⟩ := mem_getD hm
  have := (run_inv hG h hc hp hlen hmk (Nat.le_refl _)).2 j hj (by
    rw [e]
    unfold spanP
    simp only
    rw [if_pos (by omega)]
    omega)
  rwa [e] at this
end Go.Proofs.YtihliofhhjjeaaaGreat
namespace Go.Proofs.YtihliofhhjjeaaaGreat
open Go.RowKit Im
theorem check_sides (W H : Int) (a : Option Addr) (len cap : Nat) (ps : List Int) (w : World) (h : Ints 0 w a len ps) (hs : (sideB W && sideB H && decide ((ps.length : Int) = W * H)) = false) :
    Calls Tryz.prog 19 #[.agg #[.int .i64 W, .int .i64 H, .slice a len cap]] w fun e w' => e = .returned (.int .i64 1) ∧ Below w.heap.size w w' := by
  have hl := h.leng
  by_cases h1 : sideB W = true
  · by_cases h2 : sideB H = true
    · have h3 : ¬ (len : Int) = W * H := by
        rw [h1, h2, hl] at hs; simpa using hs
      obtain ⟨b3, b4⟩ := side_mul h1 h2
      have hb := h.big
      go_enter Tryz.func19, Tryz.ntmps19
      go_wp2_with (go_at_call 50; refine (isSide_any _ _).mono ?_; rintro e w' ⟨rfl, rfl⟩)
      go_ret
      exact ⟨rfl, (Below.refl _ _).alloc (Nat.le_refl _) _⟩
    · have h2' : sideB H = false := by simpa using h2
      go_enter Tryz.func19, Tryz.ntmps19
      go_wp2_with (go_at_call 50; refine (isSide_any _ _).mono ?_; rintro e w' ⟨rfl, rfl⟩)
      go_ret
      exact ⟨rfl, (Below.refl _ _).alloc (Nat.le_refl _) _⟩
  · have h1' : sideB W = false := by simpa using h1
    go_enter Tryz.func19, Tryz.ntmps19
    go_wp2_with (go_at_call 50; refine (isSide_any _ _).mono ?_; rintro e w' ⟨rfl, rfl⟩)
    go_ret
    exact ⟨rfl, (Below.refl _ _).alloc (Nat.le_refl _) _⟩
theorem check_numbers (W H : Int) (b off len cap : Nat) (ps : List Int) (w : World) (hl : ps.length = len) (hb : b < w.heap.size) (hc : ∀ j, j < len → w.cell? ⟨b, off + j, none⟩ = some (.int .i64 (ps.getD j 0)))
    (h1 : sideB W = true) (h2 : sideB H = true) (h3 : (len : Int) = W * H) :
    Calls Tryz.prog 19 #[.agg #[.int .i64 W, .int .i64 H, .slice (some ⟨b, off, none⟩) len cap]] w fun e w' => e = .returned (.int .i64 (okIf (ps.all numB) 1)) ∧ Below w.heap.size w w' := by
  obtain ⟨b3, b4⟩ := side_mul h1 h2
  have h3' : W * H = (len : Int) := h3.symm
  clear h3
  go_enter Tryz.func19, Tryz.ntmps19
  go_wp2_with (go_at_call 50; refine (isSide_any _ _).mono ?_; rintro e w' ⟨rfl, rfl⟩)
  go_loop [29] (fun i => ∃ k : Nat, k ≤ len ∧ i = .int .i64 k ∧ (ps.take k).all numB = true) (fun i => len - (intOf i).toNat)
  case atStart => exact ⟨0, Nat.zero_le _, rfl, rfl⟩
  case round =>
    obtain ⟨k, hk, rfl, hall⟩ := hrel
    by_cases hlt : k < len
    · obtain ⟨n, hn0⟩ : ∃ n, n = ps.getD k 0 := ⟨_, rfl⟩
      have hcx : (w.alloc (.cells #[.int .i64 W, .int .i64 H, .slice (some ⟨b, off, none⟩) len cap] 31)).cell? ⟨b, off + k, none⟩ = some (.int .i64 n) := by
        rw [World.cell?_alloc_past _ _ _ (by simpa using hb), hn0]; exact hc k hlt
      have HN : Hid (n = ps.getD k 0) := hn0
      clear hn0
      by_cases hn : numB n = true
      · go_wp2_with (go_at_call 51; refine (isNumber_any _ _).mono ?_; rintro e w' ⟨rfl, rfl⟩)
        go_round
        case rel => exact ⟨k + 1, by omega, by go_num, all_succ ps k (by omega) hall (by rw [HN.out] at hn; exact hn)⟩
        case measure => simp [intOf]; omega
      · have hn' : numB n = false := by simpa using hn
        have hx := all_not ps k (by omega) (by rw [HN.out] at hn'; exact hn')
        go_wp2_with (go_at_call 51; refine (isNumber_any _ _).mono ?_; rintro e w' ⟨rfl, rfl⟩)
        go_ret
        exact ⟨by first | rfl | (rw [hx]; rfl), (Below.refl _ _).alloc (Nat.le_refl _) _⟩
    · have hx : ps.all numB = true := by rw [List.take_of_length_le (by omega)] at hall; exact hall
      go_wp2
      go_ret
      exact ⟨by first | rfl | (rw [hx]; rfl), (Below.refl _ _).alloc (Nat.le_refl _) _⟩
theorem check_fine {W H : Int} {a : Option Addr} {len : Nat} (cap : Nat) {ps : List Int} {w : World} (h : Ints 0 w a len ps) (hf : fineB W H ps = true) :
    Calls Tryz.prog 19 #[.agg #[.int .i64 W, .int .i64 H, .slice a len cap]] w fun e w' => e = .returned (.int .i64 0) ∧ Below w.heap.size w w' := by
  simp only [fineB, Bool.and_eq_true, decide_eq_true_eq] at hf
  obtain ⟨⟨⟨h1, h2⟩, h3⟩, h4⟩ := hf
  have h5 := side_mul h1 h2
  rcases h.cells with e | ⟨b, off, rfl, _, hb, hc⟩
  · subst e; simp at h3; omega
  · have := check_numbers W H b off len cap ps w h.leng hb hc h1 h2 (by rw [← h.leng]; exact h3)
    rw [h4] at this
    exact this
theorem check_not {W H : Int} {a : Option Addr} {len : Nat} (cap : Nat) {ps : List Int} {w : World} (h : Ints 0 w a len ps) (hf : fineB W H ps = false) :
    Calls Tryz.prog 19 #[.agg #[.int .i64 W, .int .i64 H, .slice a len cap]] w fun e w' => e = .returned (.int .i64 1) ∧ Below w.heap.size w w' := by
  by_cases hs : (sideB W && sideB H && decide ((ps.length : Int) = W * H)) = false
  · exact check_sides W H a len cap ps w h hs
  · have hs' := eq_true_of_ne_false hs
    have e : fineB W H ps = ps.all numB := by unfold fineB; rw [hs']; rfl
    rw [e] at hf
    simp only [Bool.and_eq_true, decide_eq_true_eq] at hs'
    obtain ⟨⟨h1, h2⟩, h3⟩ := hs'
    have h5 := side_mul h1 h2
    rcases h.cells with e | ⟨b, off, rfl, _, hb, hc⟩
    · subst e; simp at h3; omega
    · have := check_numbers W H b off len cap ps w h.leng hb hc h1 h2 (by rw [← h.leng]; exact h3)
      rw [hf] at this
      exact this
end Go.Proofs.YtihliofhhjjeaaaGreat
namespace Go.Proofs.YtihliofhhjjeaaaGreat
open Go.RowKit Im
theorem take_same {ps qs : List Int} {k : Nat} (h1 : k < ps.length) (h2 : k < qs.length) (h : ps.take k = qs.take k) (e : ps.getD k 0 = qs.getD k 0) : ps.take (k + 1) = qs.take (k + 1) := by
  rw [List.getD_eq_getElem?_getD, List.getD_eq_getElem?_getD, List.getElem?_eq_getElem h1, List.getElem?_eq_getElem h2] at e
  simp only [Option.getD_some] at e
  rw [List.take_succ_eq_append_getElem h1, List.take_succ_eq_append_getElem h2, h, e]
theorem sameInts_len (a a' : Option Addr) (len cap len' cap' : Nat) (w : World) (_h1 : len ≤ 9223372036854775807) (_h2 : len' ≤ 9223372036854775807) (hne : ¬ len = len') :
    Calls Tryz.prog 11 #[.slice a len cap, .slice a' len' cap'] w fun e w' => e = .returned (.bool false) ∧ Below w.heap.size w w' := by
  go_enter Tryz.func11, Tryz.ntmps11
  go_wp2
  go_ret
  exact ⟨rfl, Below.refl _ _⟩
theorem sameInts_nil (a a' : Option Addr) (cap cap' : Nat) (w : World) :
    Calls Tryz.prog 11 #[.slice a 0 cap, .slice a' 0 cap'] w fun e w' => e = .returned (.bool true) ∧ Below w.heap.size w w' := by
  go_enter Tryz.func11, Tryz.ntmps11
  go_wp2
  go_loop [5] (fun i => i = .int .i64 0) (fun _ => 0)
  case atStart => rfl
  case round =>
    subst hrel
    go_wp2
    go_ret
    exact ⟨rfl, Below.refl _ _⟩
theorem sameInts_row (b off cap b' off' cap' len : Nat) (ps qs : List Int) (w : World) (hl : ps.length = len) (hl' : qs.length = len) (hbig : len ≤ 9223372036854775807)
    (hc : ∀ j, j < len → w.cell? ⟨b, off + j, none⟩ = some (.int .i64 (ps.getD j 0))) (hc' : ∀ j, j < len → w.cell? ⟨b', off' + j, none⟩ = some (.int .i64 (qs.getD j 0))) :
    Calls Tryz.prog 11 #[.slice (some ⟨b, off, none⟩) len cap, .slice (some ⟨b', off', none⟩) len cap'] w fun e w' => e = .returned (.bool (decide (ps = qs))) ∧ Below w.heap.size w w' := by
  go_enter Tryz.func11, Tryz.ntmps11
  go_wp2
  go_loopw [5] (fun i wr => ∃ k : Nat, k ≤ len ∧ i = .int .i64 k ∧ ps.take k = qs.take k ∧ ∃ n, wr = w.drewN n) (fun i _ => len - (intOf i).toNat)
  case atStart => exact ⟨0, Nat.zero_le _, rfl, rfl, 0, rfl⟩
  case round =>
    obtain ⟨k, hk, rfl, hall, nd, rfl⟩ := hrel
    by_cases hlt : k < len
    · obtain ⟨x, hx⟩ : ∃ n, n = ps.getD k 0 := ⟨_, rfl⟩
      obtain ⟨y, hy⟩ : ∃ n, n = qs.getD k 0 := ⟨_, rfl⟩
      have hcx := hc k hlt
      have hcy := hc' k hlt
      rw [← hx] at hcx
      rw [← hy] at hcy
      have HX : Hid (x = ps.getD k 0) := hx
      have HY : Hid (y = qs.getD k 0) := hy
      have HL : Hid (ps.take k = qs.take k) := hall
      clear hx hy hc hc' hall
      by_cases hn : x = y
      · have hnb : (x != y) = false := by simp [hn]
        go_wp2
        go_quiet (fail)
        go_wp2
        go_roundw
        case rel => exact ⟨k + 1, by omega, by go_num, take_same (by omega) (by omega) HL.out (by rw [← HX.out, ← HY.out]; exact hn), _, rfl⟩
        case measure => simp [intOf]; omega
      · have hnb : (x != y) = true := by simp [hn]
        have hd : decide (ps = qs) = false := by
          refine decide_eq_false fun e => hn ?_
          rw [HX.out, HY.out, e]
        go_wp2
        go_quiet (fail)
        go_wp2
        go_ret
        exact ⟨by first | rfl | (rw [hd]; rfl), below_drewN (below_drewN (Below.refl _ _) _) _⟩
    · have hd : decide (ps = qs) = true := by
        rw [List.take_of_length_le (by omega), List.take_of_length_le (by omega)] at hall
        exact decide_eq_true hall
      go_wp2
      go_ret
      exact ⟨by first | rfl | (rw [hd]; rfl), below_drewN (Below.refl _ _) _⟩
theorem sameInts_any {a a' : Option Addr} {len len' : Nat} (cap cap' : Nat) {ps qs : List Int} {w : World} (h : Ints 0 w a len ps) (h' : Ints 0 w a' len' qs) :
    Calls Tryz.prog 11 #[.slice a len cap, .slice a' len' cap'] w fun e w' => e = .returned (.bool (decide (ps = qs))) ∧ Below w.heap.size w w' := by
  have l1 := h.leng
  have l2 := h'.leng
  by_cases hl : len = len'
  · subst hl
    rcases h.cells with e | ⟨b, off, rfl, _, hb, hc⟩
    · subst e
      have l3 : len = 0 := by simpa using l1.symm
      have l4 : qs = [] := by rw [l3] at l2; simpa using l2
      subst l3 l4
      simpa using sameInts_nil a a' cap cap' w
    · rcases h'.cells with e | ⟨b', off', rfl, _, hb', hc'⟩
      · subst e
        have l3 : len = 0 := by simpa using l2.symm
        have l4 : ps = [] := by rw [l3] at l1; simpa using l1
        subst l3 l4
        simpa using sameInts_nil _ a' cap cap' w
      · exact sameInts_row b off cap b' off' cap' len ps qs w l1 l2 h.big hc hc'
  · have hd : decide (ps = qs) = false := decide_eq_false fun e => hl (by rw [← l1, ← l2, e])
    rw [hd]
    exact sameInts_len a a' len cap len' cap' w h.big h'.big hl
theorem sameImages_any (W H W' H' : Int) {a a' : Option Addr} {len len' : Nat} (cap cap' : Nat) {ps qs : List Int} {w : World} (h : Ints 0 w a len ps) (h' : Ints 0 w a' len' qs) :
    Calls Tryz.prog 13 #[.agg #[.int .i64 W, .int .i64 H, .slice a len cap], .agg #[.int .i64 W', .int .i64 H', .slice a' len' cap']] w fun e w' => e = .returned (.bool (decide (W = W' ∧ H = H' ∧ ps = qs))) ∧ Below w.heap.size w w' := by
  have hB : ∀ o o', Below w.heap.size w ((w.alloc o).alloc o') := fun o o' => ((Below.refl _ _).alloc (Nat.le_refl _) _).alloc (by simp) _
  have h1 := h.below (Nat.le_refl _) (hB (.cells #[.int .i64 W, .int .i64 H, .slice a len cap] 31) (.cells #[.int .i64 W', .int .i64 H', .slice a' len' cap'] 31))
  have h2 := h'.below (Nat.le_refl _) (hB (.cells #[.int .i64 W, .int .i64 H, .slice a len cap] 31) (.cells #[.int .i64 W', .int .i64 H', .slice a' len' cap'] 31))
  by_cases e1 : W = W'
  · have e1b : (W == W') = true := by simp [e1]
    by_cases e2 : H = H'
    · have e2b : (H == H') = true := by simp [e2]
      have hd : decide (W = W' ∧ H = H' ∧ ps = qs) = decide (ps = qs) := by simp [e1, e2]
      rw [hd]
      clear hd e1 e2
      go_enter Tryz.func13, Tryz.ntmps13
      go_wp2_with (go_at_call 11; refine (sameInts_any _ _ h1 h2).mono ?_; rintro e w' ⟨rfl, hb⟩)
      go_ret
      exact ⟨rfl, (hB _ _).trans (hb.mono (by simp; omega))⟩
    · have e2b : (H == H') = false := by simp [e2]
      have hd : decide (W = W' ∧ H = H' ∧ ps = qs) = false := by simp [e2]
      rw [hd]
      go_enter Tryz.func13, Tryz.ntmps13
      go_wp2
      go_ret
      exact ⟨rfl, hB _ _⟩
  · have e1b : (W == W') = false := by simp [e1]
    have hd : decide (W = W' ∧ H = H' ∧ ps = qs) = false := by simp [e1]
    rw [hd]
    go_enter Tryz.func13, Tryz.ntmps13
    go_wp2
    go_ret
    exact ⟨rfl, hB _ _⟩
end Go.Proofs.YtihliofhhjjeaaaGreat
