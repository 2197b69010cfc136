/- FitM2, ExecM, Steps, Steps2, Spans: joined, in this order. -/
import Derived.Test.YtaenpgdmiaekcaaGreatDoorS20
import Derived.Test.YtaenpgdmiaekcaaGreatDoorS05
import Derived.Maps.OwnSet
import Derived.Test.YtaenpgdmiaekcaaGreatDoorS15
/-
  FITM2: numbers alone: what is compiled fits; its peak is at most all images together, and, if all have one size, its floor.
-/
namespace Go.Proofs.YtaenpgdmiaekcaaGreatDoor
set_option maxRecDepth 100000

theorem getD_map_range (g : Nat → Int) {N k : Nat} (hk : k < N) : ((List.range N).map g).getD k 0 = g k := by simp [List.getD, hk]
/-- The places of what is compiled. -/
def cPl (G : Gp) : List Int := (List.range G.N).map (plcN G (cOrd G G.N) (fun _ => -1) (cOrd G G.N).length)
theorem plcN_end {G : Gp} {os : List Int} {z : Nat → Int} {k : Nat} : plcN G os z os.length k = if 0 ≤ stepAt os k then (qsP G os os.length).getD (stepAt os k).toNat 0 else z k := by
  unfold plcN; rw [List.take_length]
theorem cPl_no {G : Gp} {k : Nat} (hk : k < G.N) (h : ¬ (k : Int) ∈ cOrd G G.N) : (cPl G).getD k 0 = -1 := by
  unfold cPl
  rw [getD_map_range _ hk, plcN_end, if_neg (fun h' => h (stepAt_mem.1 h'))]
theorem cPl_at {G : Gp} {j k : Nat} (hk : k < G.N) (hj : j < (cOrd G G.N).length) (h : (cOrd G G.N).getD j 0 = k) : (cPl G).getD k 0 = (qsP G (cOrd G G.N) (cOrd G G.N).length).getD j 0 := by
  have hs := stepAt_self ((cOrd_sorted G G.N).imp (fun h => by omega)) hj
  rw [h] at hs
  unfold cPl
  rw [getD_map_range _ hk, plcN_end, hs, if_pos (by omega), Int.toNat_natCast]
theorem cOrd_in (G : Gp) : ∀ o ∈ cOrd G G.N, 0 ≤ o ∧ o < G.N := fun o ho => by have := (cOrd_mem G o G.N).1 ho; exact ⟨this.1, this.2.1⟩
theorem cPl_ord {G : Gp} (hG : G.Right) (hC : Closed G) : Ord G (cOrd G G.N) (cPl G) := by
  refine cOrd_ord hG hC (by unfold cPl; simp) (fun k hk hK => ?_) (fun k hk hK => ?_)
  · have hm := (cOrd_mem G k G.N).2 ⟨by omega, by omega, by rw [Int.toNat_natCast]; exact hK⟩
    obtain ⟨j, hj, e⟩ := mem_getD hm
    rw [cPl_at hk hj e]
    have h1 := qs_bd hG (cOrd_in G) (Nat.le_refl _) hj
    have h2 := arTo_bd hG (cOrd_in G) (n := (cOrd G G.N).length) (Nat.le_refl _)
    have h3 := cOrd_len G G.N
    have h4 := hG.hN
    have h5 := hG.ar k hk
    rw [e, Int.toNat_natCast] at h1
    omega
  · exact cPl_no hk (fun h => hK (by have := ((cOrd_mem G k G.N).1 h).2.2; rwa [Int.toNat_natCast] at this))
theorem lie_at {G : Gp} {j k : Nat} (hk : k < G.N) (hj : j < (cOrd G G.N).length) (h : (cOrd G G.N).getD j 0 = k) : lieP G (cOrd G G.N) (cPl G) k = ((qsP G (cOrd G G.N) (cOrd G G.N).length).getD j 0, (qsP G (cOrd G G.N) (cOrd G G.N).length).getD j 0 + G.ar k - 1) := by
  rw [Ord.lie (by rw [← h]; exact getD_in hj), cPl_at hk hj h]
theorem span_first {G : Gp} {os : List Int} (hn : os.Nodup) {j k : Nat} (hj : j < os.length) (h : os.getD j 0 = k) : (spanP G os k).1 = j := by
  have := stepAt_self hn hj
  rw [h] at this
  exact this
theorem ltk_ge {G : Gp} {os pl : List Int} (h : Ord G os pl) {k : Nat} (hk : (k : Int) ∈ os) : ∀ {n : Nat}, n ≤ os.length → stepAt os k ≤ ltk G.src os k (stepAt os k) n
  | 0, _ => Int.le_refl _
  | n + 1, hn => by
    unfold ltk
    split
    · rename_i hs
      obtain ⟨m, hm, e, hmm⟩ := os_nat h (show n < os.length by omega)
      rw [e, Int.toNat_natCast] at hs
      have h1 := (h.beh m hm hmm k hs).2
      have h2 := stepAt_self h.nodup (show n < os.length by omega)
      rw [e] at h2
      omega
    · exact ltk_ge h hk (by omega)
theorem span_ge {G : Gp} {os pl : List Int} (h : Ord G os pl) {k : Nat} (hk : (k : Int) ∈ os) : (spanP G os k).1 ≤ (spanP G os k).2 := by
  unfold spanP
  simp only
  split
  · have := stepAt_bd os k; omega
  · exact ltk_ge h hk (Nat.le_refl _)
/-- Of two spans that meet one begins in the other: so what is compiled does not clash. -/
theorem comp_clear {G : Gp} (hG : G.Right) (hC : Closed G) : Clear (cOrd G G.N) (spanP G (cOrd G G.N)) (lieP G (cOrd G G.N) (cPl G)) := by
  have hO := cPl_ord hG hC
  have key : ∀ i j : Nat, i < (cOrd G G.N).length → j < i → ∀ a b : Nat, (cOrd G G.N).getD i 0 = a → (cOrd G G.N).getD j 0 = b → meetB (spanP G (cOrd G G.N) a) (spanP G (cOrd G G.N) b) = true → meetB (lieP G (cOrd G G.N) (cPl G) a) (lieP G (cOrd G G.N) (cPl G) b) = true → False := by
    intro i j hi hj a b ea eb h1 h2
    have ha := hO.inN _ (getD_in hi)
    have hb := hO.inN _ (getD_in (show j < (cOrd G G.N).length by omega))
    rw [ea] at ha
    rw [eb] at hb
    rw [lie_at (by omega) hi ea, lie_at (by omega) (show j < (cOrd G G.N).length by omega) eb] at h2
    unfold meetB at h1 h2
    simp only [Bool.and_eq_true, decide_eq_true_eq] at h1 h2
    rw [span_first hO.nodup hi ea] at h1
    have hf := (placeR_least (busyQ G (cOrd G G.N) (qsP G (cOrd G G.N) i) i i) (G.ar a)).2.1
    have hq := qsP_get G (cOrd G G.N) hi
    rw [ea, Int.toNat_natCast] at hq
    rw [← hq] at hf
    have hjq : (qsP G (cOrd G G.N) i).getD j 0 = (qsP G (cOrd G G.N) (cOrd G G.N).length).getD j 0 := by rw [qsP_get G _ hj, qsP_get G _ (show j < (cOrd G G.N).length by omega)]
    have hx := hf _ (busyQ_mem.2 ⟨j, hj, by rw [eb, Int.toNat_natCast]; exact h1.1, rfl⟩)
    rw [eb, Int.toNat_natCast, hjq] at hx
    simp only at hx
    omega
  intro a b ha hb hab h1 h2
  obtain ⟨i, hi, ei⟩ := mem_getD ha
  obtain ⟨j, hj, ej⟩ := mem_getD hb
  rcases Nat.lt_trichotomy i j with hij | hij | hij
  · exact key j i hj hij b a ej ei (by rw [meetB_comm]; exact h1) (by rw [meetB_comm]; exact h2)
  · subst hij; rw [ei] at ej; omega
  · exact key i j hi hij a b ei ej h1 h2
end Go.Proofs.YtaenpgdmiaekcaaGreatDoor
/-
  EXECM: numbers alone: an arena that is written step by step; what a step takes nobody wrote over since.
-/
namespace Go.Proofs.YtaenpgdmiaekcaaGreatDoor
set_option maxRecDepth 100000

/-- The arena with l laid into it from p on; n numbers of it from p on. -/
def putA (A : List Int) (p : Nat) (l : List Int) : List Int := A.take p ++ (l ++ A.drop (p + l.length))
def getA (A : List Int) (p n : Nat) : List Int := (A.drop p).take n
theorem putA_len {A : List Int} {p : Nat} {l : List Int} (h : p + l.length ≤ A.length) : (putA A p l).length = A.length := by
  unfold putA; simp; omega
theorem getA_len {A : List Int} {p n : Nat} (h : p + n ≤ A.length) : (getA A p n).length = n := by
  unfold getA; simp; omega
theorem putA_get {A : List Int} {p : Nat} {l : List Int} (h : p + l.length ≤ A.length) (i : Nat) : (putA A p l)[i]? = if p ≤ i ∧ i < p + l.length then l[i - p]? else A[i]? := by
  unfold putA
  have hp : (A.take p).length = p := by simp; omega
  by_cases h1 : i < p
  · rw [List.getElem?_append_left (by omega), if_neg (by omega), List.getElem?_take_of_lt h1]
  · rw [List.getElem?_append_right (by omega), hp]
    by_cases h2 : i < p + l.length
    · rw [List.getElem?_append_left (by omega), if_pos (by omega)]
    · rw [List.getElem?_append_right (by omega), if_neg (by omega), List.getElem?_drop]
      congr 1; omega
theorem getA_get {A : List Int} {p n i : Nat} (hi : i < n) : (getA A p n)[i]? = A[p + i]? := by
  unfold getA
  rw [List.getElem?_take_of_lt hi, List.getElem?_drop]
theorem getA_ext {A B : List Int} {p q n : Nat} (hA : p + n ≤ A.length) (hB : q + n ≤ B.length) (h : ∀ i, i < n → A[p + i]? = B[q + i]?) : getA A p n = getA B q n := by
  refine List.ext_getElem? fun i => ?_
  by_cases hi : i < n
  · rw [getA_get hi, getA_get hi, h i hi]
  · rw [List.getElem?_eq_none (by rw [getA_len hA]; omega), List.getElem?_eq_none (by rw [getA_len hB]; omega)]
theorem get_put_same {A : List Int} {p : Nat} {l : List Int} (h : p + l.length ≤ A.length) : getA (putA A p l) p l.length = l := by
  refine List.ext_getElem? fun i => ?_
  by_cases hi : i < l.length
  · rw [getA_get hi, putA_get h, if_pos (by omega)]
    congr 1; omega
  · rw [List.getElem?_eq_none (by rw [getA_len (by rw [putA_len h]; exact h)]; omega), List.getElem?_eq_none (by omega)]
theorem get_put_apart {A : List Int} {p q n : Nat} {l : List Int} (h : p + l.length ≤ A.length) (hq : q + n ≤ A.length) (ha : q + n ≤ p ∨ p + l.length ≤ q) : getA (putA A p l) q n = getA A q n := by
  refine getA_ext (by rw [putA_len h]; exact hq) hq fun i hi => ?_
  rw [putA_get h, if_neg (by omega)]
theorem put_mem {A : List Int} {p : Nat} {l : List Int} {P : Int → Prop} (hA : ∀ x ∈ A, P x) (hl : ∀ x ∈ l, P x) : ∀ x ∈ putA A p l, P x := by
  intro x hx
  unfold putA at hx
  rcases List.mem_append.1 hx with h | h
  · exact hA x (List.mem_of_mem_take h)
  · rcases List.mem_append.1 h with h | h
    · exact hl x h
    · exact hA x (List.mem_of_mem_drop h)
theorem get_mem {A : List Int} {p n : Nat} {P : Int → Prop} (hA : ∀ x ∈ A, P x) : ∀ x ∈ getA A p n, P x := fun x hx => hA x (List.mem_of_mem_drop (List.mem_of_mem_take hx))

/-- The arena when n steps are done: mk k c is what pass k makes out of what lies in c. -/
def runN (G : Gp) (mk : Nat → (Nat → List Int) → List Int) (os pl A : List Int) : Nat → List Int
  | 0 => A
  | n + 1 => putA (runN G mk os pl A n) (pl.getD (os.getD n 0).toNat 0).toNat (mk (os.getD n 0).toNat (fun s => getA (runN G mk os pl A n) (pl.getD s 0).toNat (G.ar s).toNat))
/-- What a step takes nobody wrote over since. -/
theorem run_inv {G : Gp} (hG : G.Right) {mk : Nat → (Nat → List Int) → List Int} {pic : Nat → List Int} {os pl A : List Int} (h : Ord G os pl) (hc : Clear os (spanP G os) (lieP G os pl)) (hp : peakT os (lieP G os pl) os.length ≤ A.length)
    (hlen : ∀ k, k < G.N → ((pic k).length : Int) = G.ar k) (hmk : ∀ k c, k < G.N → (∀ s ∈ G.src k, c s.toNat = pic s.toNat) → mk k c = pic k) :
    ∀ {n : Nat}, n ≤ os.length → (runN G mk os pl A n).length = A.length ∧ ∀ j, j < n → (n : Int) - 1 ≤ (spanP G os (os.getD j 0).toNat).2 → getA (runN G mk os pl A n) (pl.getD (os.getD j 0).toNat 0).toNat (G.ar (os.getD j 0).toNat).toNat = pic (os.getD j 0).toNat
  | 0, _ => ⟨rfl, fun j hj => by omega⟩
  | n + 1, hn => by
    obtain ⟨hl, hI⟩ := run_inv hG h hc hp hlen hmk (n := n) (by omega)
    obtain ⟨k, hk, ek, hm⟩ := os_nat h (show n < os.length by omega)
    have hp2 := (all_os h (fun k => (lieP G os pl k).2 + 1 ≤ A.length)).1 (((peakT_le (Nat.le_refl _)).1 hp).2)
    have hfit : ∀ q, q < G.N → (q : Int) ∈ os → 0 ≤ pl.getD q 0 ∧ 1 ≤ G.ar q ∧ (pl.getD q 0).toNat + (G.ar q).toNat ≤ A.length := by
      intro q hq hqm
      have h1 := hp2 q hq hqm
      rw [Ord.lie hqm] at h1
      have h2 := h.at_ q hq hqm
      have h3 := hG.ar q hq
      simp only at h1
      exact ⟨h2.1, h3.1, by omega⟩
    have hsn := stepAt_self h.nodup (show n < os.length by omega)
    rw [ek] at hsn
    have hmade : mk k (fun s => getA (runN G mk os pl A n) (pl.getD s 0).toNat (G.ar s).toNat) = pic k := by
      refine hmk k _ hk fun s hs => ?_
      obtain ⟨hsm, hst⟩ := h.beh k hk hm s hs
      have hb := hG.src k hk s hs
      have es : ((s.toNat : Nat) : Int) = s := by omega
      have hpos := stepAt_mem.2 hsm
      obtain ⟨j, hj⟩ := Int.eq_ofNat_of_zero_le hpos
      have hbd := stepAt_bd os s
      have hg := stepAt_get hpos
      rw [hj, Int.toNat_natCast] at hg
      have hjn : j < n := by
        have hne : j ≠ n := by
          intro e
          rw [e, ek] at hg
          omega
        omega
      have := hI j hjn (by
        rw [hg]
        unfold spanP
        simp only
        split
        · omega
        · rw [es, show os.length = (n + (os.length - (n + 1))) + 1 by omega]
          have : ∀ d, (n : Int) - 1 ≤ ltk G.src os s (stepAt os s) (n + d + 1) := by
            intro d
            induction d with
            | zero =>
              show (n : Int) - 1 ≤ if s ∈ G.src (os.getD n 0).toNat then (n : Int) else ltk G.src os s (stepAt os s) n
              rw [ek, Int.toNat_natCast, if_pos hs]; omega
            | succ d ih =>
              show (n : Int) - 1 ≤ if s ∈ G.src (os.getD (n + (d + 1)) 0).toNat then ((n + (d + 1) : Nat) : Int) else ltk G.src os s (stepAt os s) (n + (d + 1))
              split
              · omega
              · exact ih
          exact this _)
      rw [hg] at this
      exact this
    have er : runN G mk os pl A (n + 1) = putA (runN G mk os pl A n) (pl.getD k 0).toNat (pic k) := by
      show putA (runN G mk os pl A n) (pl.getD (os.getD n 0).toNat 0).toNat (mk (os.getD n 0).toNat (fun s => getA (runN G mk os pl A n) (pl.getD s 0).toNat (G.ar s).toNat)) = _
      rw [ek, Int.toNat_natCast, hmade]
    obtain ⟨hk0, hk1, hkf⟩ := hfit k hk hm
    have hkl := hlen k hk
    have hfits : (pl.getD k 0).toNat + (pic k).length ≤ (runN G mk os pl A n).length := by rw [hl]; omega
    rw [er]
    refine ⟨by rw [putA_len hfits, hl], fun j hj hspan => ?_⟩
    by_cases ejn : j = n
    · subst ejn
      rw [ek, Int.toNat_natCast]
      have := get_put_same hfits
      rw [show (G.ar k).toNat = (pic k).length by omega]
      exact this
    · have hjn : j < n := by omega
      obtain ⟨q, hq, eq, hqm⟩ := os_nat h (show j < os.length by omega)
      have hI' := hI j hjn (by omega)
      rw [eq, Int.toNat_natCast] at hI' hspan ⊢
      obtain ⟨hq0, hq1, hqf⟩ := hfit q hq hqm
      have hsj := stepAt_self h.nodup (show j < os.length by omega)
      rw [eq] at hsj
      have hne : q ≠ k := by
        intro e
        rw [e, hsn] at hsj
        omega
      have hmeet : meetB (spanP G os q) (spanP G os k) = true := by
        have h1 := span_ge h hm
        rw [span_first h.nodup (show n < os.length by omega) ek] at h1
        unfold meetB
        rw [span_first h.nodup (show n < os.length by omega) ek, span_first h.nodup (show j < os.length by omega) eq]
        simp only [Bool.and_eq_true, decide_eq_true_eq]
        push_cast at hspan
        omega
      have hap : ¬ meetB (lieP G os pl q) (lieP G os pl k) = true := fun hl => hc q k hqm hm hne hmeet hl
      rw [Ord.lie hqm, Ord.lie hm] at hap
      unfold meetB at hap
      simp only [Bool.and_eq_true, decide_eq_true_eq] at hap
      rw [get_put_apart hfits (by rw [hl]; exact hqf) (by omega)]
      exact hI'
theorem run_shows {G : Gp} (hG : G.Right) {mk : Nat → (Nat → List Int) → List Int} {pic : Nat → List Int} {os pl A : List Int} (h : Ord G os pl) (hc : Clear os (spanP G os) (lieP G os pl)) (hp : peakT os (lieP G os pl) os.length ≤ A.length)
    (hlen : ∀ k, k < G.N → ((pic k).length : Int) = G.ar k) (hmk : ∀ k c, k < G.N → (∀ s ∈ G.src k, c s.toNat = pic s.toNat) → mk k c = pic k) :
    getA (runN G mk os pl A os.length) (pl.getD G.last.toNat 0).toNat (G.ar G.last.toNat).toNat = pic G.last.toNat := by
  have hm := h.pos hG
  have hl := hG.last
  obtain ⟨j, hj, e⟩ := mem_getD hm
  have := (run_inv hG h hc hp hlen hmk (Nat.le_refl _)).2 j hj (by
    rw [e]
    unfold spanP
    simp only
    rw [if_pos (by omega)]
    omega)
  rwa [e] at this
end Go.Proofs.YtaenpgdmiaekcaaGreatDoor
/-
  STEPS: the map of a plan's steps: plan.stepsOf, hasAll, isBehind, isPlaced.
-/
namespace Go.Proofs.YtaenpgdmiaekcaaGreatDoor
set_option maxRecDepth 100000
open Go.RowKit Im Go.Maps

theorem intKeyed : Keyed Tryz.prog 3 := int_keyed Tryz.underlying3
theorem zeroInt (w : World) : (zeroValue 3).run Tryz.prog w = .ok (.int .i64 0) w := by kernel_rfl
theorem keyInt {p : Int} (h : -9223372036854775808 ≤ p ∧ p ≤ 9223372036854775807) : keyOf Tryz.prog 3 (.int .i64 p) = some (.int .i64 p) := keyOf_int_mk Tryz.underlying3 (WalkArith.wf_i64 (by omega))
/-- The map in block B tells the steps of the order os. -/
def Steps (w : World) (B : Nat) (os : List Int) : Prop :=
  ∃ D : DataW Unit, w.ownsMap Tryz.prog 3 (plainElem Tryz.prog 3) B os.length D ∧ IsMap D ∧ ∀ p : Int, Maps.has D (.int .i64 p) = decide (0 ≤ stepAt os p) ∧ (0 ≤ stepAt os p → ∀ z, D.atKey (.int .i64 p) z = .lit (.int .i64 (stepAt os p)))
def stepV (os : List Int) (p : Int) : Int := if 0 ≤ stepAt os p then stepAt os p else 0
def stepB (os : List Int) (p : Int) : Bool := decide (0 ≤ stepAt os p)
theorem Steps.made (w : World) : Steps (w.alloc (.map #[] 0)) w.heap.size [] :=
  ⟨.map [], World.ownsMap_made _ _ _ _, isMap_empty, fun p => ⟨by simp [Maps.has, stepAt], fun h => by simp [stepAt] at h⟩⟩
theorem Steps.lt {w : World} {B : Nat} {os : List Int} (h : Steps w B os) : B < w.heap.size := by
  obtain ⟨D, ⟨es, c, hb, _⟩, _⟩ := h
  rcases Nat.lt_or_ge B w.heap.size with h | h
  · exact h
  · rw [Array.getElem?_eq_none h] at hb; cases hb
theorem Steps.below {w w' : World} {B : Nat} {os : List Int} (h : Steps w B os) (hb : Below w.heap.size w w') : Steps w' B os := by
  have hlt := h.lt
  obtain ⟨D, ⟨es, c, he, r⟩, hm, hp⟩ := h
  exact ⟨D, ⟨es, c, (hb.block B hlt).trans he, r⟩, hm, hp⟩
theorem wpList_lookup_steps {P : Program} (hP : P = Tryz.prog) (w : World) {ops : Array Oper} {rest : List Oper} {o : Oper} {a : Act} {Q : Exit → Act → World → Prop} (hg : o.guard = none) (m x : Operand) (hop : o.op = Op.lookup 146 m x true)
    {B : Nat} {os : List Int} (hs : Steps w B os) (hm : a.eval m = .map (some B)) {p : Int} (hx : a.eval x = .int .i64 p) (hp : -9223372036854775808 ≤ p ∧ p ≤ 9223372036854775807)
    (hK : wpList P ops Q rest (a.put o.dst (.tuple #[.int .i64 (stepV os p), .bool (stepB os p)])) w) : wpList P ops Q (o :: rest) a w := by
  subst hP
  obtain ⟨D, hown, hM, hD⟩ := hs
  obtain ⟨h1, h2⟩ := hD p
  refine wpList_lookup_own_ok_int w hg m x 146 hop 3 3 .i64 intKeyed Tryz.underlying146 Tryz.underlying3 (zeroInt _) B os.length D hm hown _ _ hx (keyInt hp) ?_
  intro c hat _
  have e1 : Maps.has D (.int .i64 p) = stepB os p := h1
  have e2 : c = stepV os p := by
    unfold stepV
    by_cases hn : 0 ≤ stepAt os p
    · rw [if_pos hn]
      rw [h2 hn] at hat
      injection hat with hat
      injection hat with _ hat
      exact hat.symm
    · rw [if_neg hn]
      have hf : Maps.has D (.int .i64 p) = false := by rw [h1]; simpa using hn
      rw [atKey_of_not_has hf] at hat
      injection hat with hat
      injection hat with _ hat
      exact hat.symm
  rw [e1, e2]
  exact hK
theorem wpList_update_steps {P : Program} (hP : P = Tryz.prog) (w : World) {ops : Array Oper} {rest : List Oper} {o : Oper} {a : Act} {Q : Exit → Act → World → Prop} (hg : o.guard = none) (m x v : Operand) (hop : o.op = Op.mapUpdate 146 m x v)
    {B : Nat} {os : List Int} (hs : Steps w B os) (hm : a.eval m = .map (some B)) {p : Int} (hx : a.eval x = .int .i64 p) (hv : a.eval v = .int .i64 os.length) (hp : -9223372036854775808 ≤ p ∧ p ≤ 9223372036854775807) (hl : os.length ≤ 100) (hn : p ∉ os)
    (hK : ∀ w', Steps w' B (os ++ [p]) → w.grownBy w' (some B) → wpList P ops Q rest (a.put o.dst undef) w') : wpList P ops Q (o :: rest) a w := by
  subst hP
  obtain ⟨D, hown, hM, hD⟩ := hs
  refine wpList_mapUpdate_own w hg m x v 146 hop 3 3 intKeyed Tryz.underlying146 _ B os.length D hm hown (by unfold maxLen; omega) _ _ _ hx hv (keyInt hp) _ [] (plainElem_int Tryz.underlying3 (WalkArith.wf_i64 (by omega))) ?_
  intro w' hown' hgrow
  refine hK w' ⟨_, by rw [List.length_append]; exact hown', hM.put _ _, fun q => ?_⟩ hgrow
  rw [stepAt_snoc q hn]
  by_cases e : p = q
  · subst e
    rw [if_pos rfl]
    refine ⟨?_, fun _ z => atKey_put_same hM (intKeyed.key (keyInt hp)) _ z⟩
    rw [has_put_same hM (intKeyed.key (keyInt hp))]
    simp
  · rw [if_neg e]
    have hne : (Lit.int .i64 q) ≠ (Lit.int .i64 p) := fun h => e (by injection h with _ h; exact h.symm)
    refine ⟨by rw [has_put_other hne]; exact (hD q).1, fun hq z => ?_⟩
    rw [atKey_put_other hne]
    exact (hD q).2 hq z
/-- What plan.stepsOf tells. -/
def ToldSt (w : World) (os : List Int) (N : Nat) (e : Ending) (w' : World) : Prop :=
  (onceB os N = true ∧ (∃ B, e = .returned (.tuple #[.map (some B), .bool true]) ∧ w.heap.size ≤ B ∧ Steps w' B os) ∧ Below w.heap.size w w') ∨ (onceB os N = false ∧ e = .returned (.tuple #[.map none, .bool false]) ∧ Below w.heap.size w w')
set_option maxHeartbeats 1000000 in
theorem stepsOf_any {a : Option Addr} {len : Nat} (cap : Nat) {os : List Int} {base : Nat} {w : World} (hI : Ints base w a len os) {N : Nat} (hN : N ≤ 12) :
    Calls Tryz.prog 79 #[.slice a len cap, .int .i64 N] w (ToldSt w os N) := by
  have hmm := @run_makeMap Tryz.prog
  obtain rfl := hI.leng
  have hbig := hI.big
  go_enter Tryz.func79, Tryz.ntmps79
  go_wp2
  go_loopw [4, 13] (fun m i wr => ∃ k : Nat, k ≤ os.length ∧ i = .int .i64 k ∧ m = .map (some w.heap.size) ∧ allTo (onceP os N) k = true ∧ Steps wr w.heap.size (os.take k) ∧ Below w.heap.size w wr) (fun _ i _ => os.length - (intOf i).toNat)
  case atStart => exact ⟨0, Nat.zero_le _, rfl, rfl, rfl, Steps.made w, (Below.refl _ _).alloc (Nat.le_refl _) _⟩
  case round =>
    obtain ⟨k, hk, rfl, rfl, hall, hst, hb⟩ := hrel
    by_cases hlt : k < os.length
    · obtain ⟨b, off, rfl, hcx⟩ := (hI.below (Nat.le_refl _) hb).nth hlt
      have hon := (once_to (os := os) (N := N) hk).1 hall
      have hk12 : (os.take k).length ≤ N := nodup_len N _ hon.2 hon.1
      rw [List.length_take] at hk12
      have HSn : Hid (os.take (k + 1) = os.take k ++ [os.getD k 0]) := by
        show _ = _
        rw [List.take_succ_eq_append_getElem hlt, List.getD_eq_getElem?_getD, List.getElem?_eq_getElem hlt]; rfl
      have HA : Hid (onceP os N k = true → allTo (onceP os N) (k + 1) = true) := fun h => allTo_succ hall h
      have HF : Hid (onceP os N k = false → onceB os N = false) := fun h => allTo_not hlt h
      have HP : Hid (onceP os N k = (decide (0 ≤ os.getD k 0) && decide (os.getD k 0 < N) && decide (stepAt (os.take k) (os.getD k 0) < 0))) := rfl
      have hlk : (os.take k).length = k := by rw [List.length_take]; omega
      have HL : Hid ((os.take k).length = k) := hlk
      clear hlk hon hall
      generalize os.getD k 0 = n at hcx HSn HP
      generalize os.take k = l at hst HSn HP HL
      by_cases h1 : n < 0
      · go_wp2
        go_ret2
        exact .inr ⟨HF.out (by rw [HP.out, decide_eq_false (by omega)]; rfl), rfl, hb⟩
      · by_cases h2 : (N : Int) ≤ n
        · go_wp2
          go_ret2
          exact .inr ⟨HF.out (by rw [HP.out, decide_eq_false (show ¬ n < (N : Int) by omega)]; simp), rfl, hb⟩
        · by_cases h3 : 0 ≤ stepAt l n
          · have hsb : stepB l n = true := decide_eq_true h3
            go_wp2_with (at_lookup; refine wpList_lookup_steps rfl _ rfl _ _ rfl hst rfl rfl (by omega) ?_)
            go_ret2
            exact .inr ⟨HF.out (by rw [HP.out, decide_eq_false (show ¬ stepAt l n < 0 by omega)]; simp), rfl, hb⟩
          · have hsb : stepB l n = false := decide_eq_false h3
            have hni : n ∉ l := fun hm => h3 (stepAt_mem.2 hm)
            go_wp2_with (first
              | (at_lookup; refine wpList_lookup_steps rfl _ rfl _ _ rfl hst rfl rfl (by omega) ?_)
              | (at_mapUpdate; refine wpList_update_steps rfl _ rfl _ _ _ rfl hst rfl rfl (by rw [HL.out]; rfl) (by omega) (by rw [HL.out]; omega) hni ?_; intro w1 hst1 hgrow1))
            go_roundw
            case rel => exact ⟨k + 1, by omega, by go_num, rfl, HA.out (by rw [HP.out, decide_eq_true (show 0 ≤ n by omega), decide_eq_true (show n < (N : Int) by omega), decide_eq_true (show stepAt l n < 0 by omega)]; rfl), by rw [HSn.out]; exact hst1, hb.grown hgrow1 hb.size (fun j hj => by cases hj; exact Nat.le_refl _)⟩
            case measure => simp [intOf]; omega
    · have hke : k = os.length := by omega
      subst hke
      rw [List.take_length] at hst
      go_wp2
      go_ret2
      exact .inl ⟨hall, ⟨_, rfl, Nat.le_refl _, hst⟩, hb⟩
end Go.Proofs.YtaenpgdmiaekcaaGreatDoor
/-
  STEPS2: plan.hasAll, isBehind, isPlaced.
-/
namespace Go.Proofs.YtaenpgdmiaekcaaGreatDoor
set_option maxRecDepth 100000
open Go.RowKit Im Go.Maps

theorem Bl.at {w : World} {b n : Nat} {g : Nat → Bool} (h : Bl w b n g) {k : Nat} (hk : k < n) : w.cell? ⟨b, k, none⟩ = some (.bool (g k)) := h.cells k hk
set_option maxHeartbeats 1000000 in
theorem hasAll_any {B b n cap : Nat} {os : List Int} {g : Nat → Bool} {w : World} (hs : Steps w B os) (hK : Bl w b n g) (hn : n ≤ 12) :
    Calls Tryz.prog 80 #[.map (some B), .slice (some ⟨b, 0, none⟩) n cap] w fun e w' => e = .returned (.bool (hasAllB g os n)) ∧ w = w' := by
  go_enter Tryz.func80, Tryz.ntmps80
  go_wp2
  go_loop [11] (fun i => ∃ k : Nat, k ≤ n ∧ i = .int .i64 k ∧ allTo (hasP g os) k = true) (fun i => n - (intOf i).toNat)
  case atStart => exact ⟨0, Nat.zero_le _, rfl, rfl⟩
  case round =>
    obtain ⟨k, hk, rfl, hall⟩ := hrel
    by_cases hlt : k < n
    · have hcx := hK.cells k hlt
      have HA : Hid (hasP g os k = true → allTo (hasP g os) (k + 1) = true) := fun h => allTo_succ hall h
      have HF : Hid (hasP g os k = false → hasAllB g os n = false) := fun h => allTo_not hlt h
      have HP : Hid (hasP g os k = (!g k || stepB os k)) := rfl
      generalize g k = x at hcx HP
      generalize hy : stepB os k = y at HP
      clear hall
      cases x <;> cases y
      all_goals
        go_wp2_with (at_lookup; refine wpList_lookup_steps rfl _ rfl _ _ rfl hs rfl rfl (by omega) ?_)
        first
        | (go_round
           case rel => exact ⟨k + 1, by omega, by go_num, HA.out (by rw [HP.out]; rfl)⟩
           case measure => simp [intOf]; omega)
        | (go_ret
           exact ⟨by rw [HF.out (by rw [HP.out]; rfl)]; rfl, rfl⟩)
    · have hke : k = n := by omega
      subst hke
      go_wp2
      go_ret
      exact ⟨by unfold hasAllB; rw [hall]; rfl, rfl⟩
set_option maxHeartbeats 1000000 in
theorem isPlaced_any {B : Nat} {os pl : List Int} {a : Option Addr} {len cap N base : Nat} {w : World} (hs : Steps w B os) (hI : Ints base w a len pl) (hN : N ≤ 12) :
    Calls Tryz.prog 82 #[.map (some B), .slice a len cap, .int .i64 N] w fun e w' => e = .returned (.bool (plcB os pl N)) ∧ w = w' := by
  obtain rfl := hI.leng
  have hbig := hI.big
  by_cases hlN : pl.length = N
  · subst hlN
    go_enter Tryz.func82, Tryz.ntmps82
    go_wp2
    go_loop [17] (fun i => ∃ k : Nat, k ≤ pl.length ∧ i = .int .i64 k ∧ allTo (plcP os pl) k = true) (fun i => pl.length - (intOf i).toNat)
    case atStart => exact ⟨0, Nat.zero_le _, rfl, rfl⟩
    case round =>
      obtain ⟨k, hk, rfl, hall⟩ := hrel
      by_cases hlt : k < pl.length
      · obtain ⟨b, off, rfl, hcx⟩ := hI.nth hlt
        have HA : Hid (plcP os pl k = true → allTo (plcP os pl) (k + 1) = true) := fun h => allTo_succ hall h
        have HF : Hid (plcP os pl k = false → plcB os pl pl.length = false) := fun h => by unfold plcB; rw [allTo_not hlt h]; simp
        have HP : Hid (plcP os pl k = bif stepB os k then decide (0 ≤ pl.getD k 0) && decide (pl.getD k 0 ≤ 4096) else decide (pl.getD k 0 = -1)) := by show _ = _; unfold plcP stepB; by_cases h : 0 ≤ stepAt os k <;> simp [h]
        generalize pl.getD k 0 = n at hcx HP
        generalize hy : stepB os k = y at HP
        clear hall
        cases y with
        | true =>
          by_cases h1 : n < 0
          · go_wp2_with (at_lookup; refine wpList_lookup_steps rfl _ rfl _ _ rfl hs rfl rfl (by omega) ?_)
            go_ret
            exact ⟨by rw [HF.out (by rw [HP.out, decide_eq_false (show ¬ 0 ≤ n by omega)]; rfl)]; rfl, rfl⟩
          · by_cases h2 : 4096 < n
            · go_wp2_with (at_lookup; refine wpList_lookup_steps rfl _ rfl _ _ rfl hs rfl rfl (by omega) ?_)
              go_ret
              exact ⟨by rw [HF.out (by rw [HP.out, decide_eq_false (show ¬ n ≤ 4096 by omega)]; simp)]; rfl, rfl⟩
            · go_wp2_with (at_lookup; refine wpList_lookup_steps rfl _ rfl _ _ rfl hs rfl rfl (by omega) ?_)
              go_round
              case rel => exact ⟨k + 1, by omega, by go_num, HA.out (by rw [HP.out, decide_eq_true (show 0 ≤ n by omega), decide_eq_true (show n ≤ 4096 by omega)]; rfl)⟩
              case measure => simp [intOf]; omega
        | false =>
          by_cases h1 : n = -1
          · subst h1
            go_wp2_with (at_lookup; refine wpList_lookup_steps rfl _ rfl _ _ rfl hs rfl rfl (by omega) ?_)
            go_round
            case rel => exact ⟨k + 1, by omega, by go_num, HA.out (by rw [HP.out]; rfl)⟩
            case measure => simp [intOf]; omega
          · go_wp2_with (at_lookup; refine wpList_lookup_steps rfl _ rfl _ _ rfl hs rfl rfl (by omega) ?_)
            go_ret
            exact ⟨by rw [HF.out (by rw [HP.out, decide_eq_false h1]; rfl)]; rfl, rfl⟩
      · have hke : k = pl.length := by omega
        subst hke
        go_wp2
        go_ret
        exact ⟨by unfold plcB; rw [hall, decide_eq_true rfl]; rfl, rfl⟩
  · have hne : ¬ (pl.length : Int) = (N : Int) := by omega
    go_enter Tryz.func82, Tryz.ntmps82
    go_wp2
    go_ret
    exact ⟨by unfold plcB; rw [decide_eq_false hlN]; rfl, rfl⟩
set_option maxHeartbeats 1000000 in
theorem isBehind_any {B : Nat} {os : List Int} {ss : List (List Int)} {src : Nat → List Int} {a : Option Addr} {len cap : Nat} {w : World} (hs : Steps w B os) (hL : LLs w a len ss) (hn : len ≤ 12) (hsrc : ∀ k, k < len → ss.getD k [] = src k) (hs2 : ∀ k, k < len → (src k).length ≤ 2 ∧ ∀ s ∈ src k, 0 ≤ s ∧ s < len) :
    Calls Tryz.prog 81 #[.map (some B), .slice a len cap] w fun e w' => e = .returned (.bool (behB src os len)) ∧ w = w' := by
  have HS2 : Hid (_) := hs2
  have HSR : Hid (_) := hsrc
  clear hs2 hsrc
  go_enter Tryz.func81, Tryz.ntmps81
  go_wp2
  go_loop [15] (fun i => ∃ k : Nat, k ≤ len ∧ i = .int .i64 k ∧ allTo (behP src os) k = true) (fun i => len - (intOf i).toNat)
  case atStart => exact ⟨0, Nat.zero_le _, rfl, rfl⟩
  case round =>
    obtain ⟨k, hk, rfl, hall⟩ := hrel
    by_cases hlt : k < len
    · obtain ⟨sb, so, ua, uc, rfl, hsb, qq, hUI⟩ := hL.nth hlt
      rw [HSR.out k hlt] at qq hUI
      obtain ⟨hl2, hin⟩ := HS2.out k hlt
      have HA : Hid (behP src os k = true → allTo (behP src os) (k + 1) = true) := fun h => allTo_succ hall h
      have HF : Hid (behP src os k = false → behB src os len = false) := fun h => allTo_not hlt h
      have HP : Hid (behP src os k = (!stepB os k || allTo (behS os (stepAt os k) (src k)) (src k).length)) := by
        show _ = _
        unfold behP stepB
        congr 1
        by_cases h : 0 ≤ stepAt os k
        · rw [decide_eq_true h, decide_eq_false (by omega)]; rfl
        · rw [decide_eq_false h, decide_eq_true (by omega)]; rfl
      have HV : Hid (stepB os k = true → stepV os k = stepAt os k) := fun h => by unfold stepV; rw [if_pos (of_decide_eq_true h)]
      generalize src k = sr at qq hUI hl2 hin HP
      generalize hy : stepB os k = y at HP HV
      clear hall
      cases y with
      | false =>
        go_wp2_with (at_lookup; refine wpList_lookup_steps rfl _ rfl _ _ rfl hs rfl rfl (by omega) ?_)
        go_round
        case rel => exact ⟨k + 1, by omega, by go_num, HA.out (by rw [HP.out]; rfl)⟩
        case measure => simp [intOf]; omega
      | true =>
        have hv := HV.out rfl
        generalize stepAt os k = st at hv HP
        go_wp2_with (at_lookup; refine wpList_lookup_steps rfl _ rfl _ _ rfl hs rfl rfl (by omega) ?_)
        go_loop [30] (fun i => ∃ t : Nat, t ≤ sr.length ∧ i = .int .i64 t ∧ allTo (behS os st sr) t = true) (fun i => sr.length - (intOf i).toNat)
        case atStart => exact ⟨0, Nat.zero_le _, rfl, rfl⟩
        case round =>
          obtain ⟨t, ht, rfl, hallt⟩ := hrel
          by_cases htl : t < sr.length
          · obtain ⟨bu, ou, rfl, hcx⟩ := hUI.nth htl
            have hr := hin _ (getD_mem htl 0)
            have HA2 : Hid (behS os st sr t = true → allTo (behS os st sr) (t + 1) = true) := fun h => allTo_succ hallt h
            have HF2 : Hid (behS os st sr t = false → allTo (behS os st sr) sr.length = false) := fun h => allTo_not htl h
            have HP2 : Hid (behS os st sr t = (stepB os (sr.getD t 0) && decide (stepAt os (sr.getD t 0) ≤ st))) := rfl
            have HV2 : Hid (stepB os (sr.getD t 0) = true → stepV os (sr.getD t 0) = stepAt os (sr.getD t 0)) := fun h => by unfold stepV; rw [if_pos (of_decide_eq_true h)]
            generalize sr.getD t 0 = n at hcx hr HP2 HV2
            generalize hy2 : stepB os n = y2 at HP2 HV2
            clear hallt
            cases y2 with
            | false =>
              go_wp2_with (at_lookup; refine wpList_lookup_steps rfl _ rfl _ _ rfl hs rfl rfl (by omega) ?_)
              go_ret
              exact ⟨by rw [HF.out (by rw [HP.out, HF2.out (by rw [HP2.out]; rfl)]; rfl)]; rfl, rfl⟩
            | true =>
              have hv2 := HV2.out rfl
              generalize stepAt os n = st2 at hv2 HP2
              by_cases hc : st < st2
              · go_wp2_with (at_lookup; refine wpList_lookup_steps rfl _ rfl _ _ rfl hs rfl rfl (by omega) ?_)
                go_ret
                exact ⟨by rw [HF.out (by rw [HP.out, HF2.out (by rw [HP2.out, decide_eq_false (show ¬ st2 ≤ st by omega)]; rfl)]; rfl)]; rfl, rfl⟩
              · go_wp2_with (at_lookup; refine wpList_lookup_steps rfl _ rfl _ _ rfl hs rfl rfl (by omega) ?_)
                go_round
                case rel => exact ⟨t + 1, by omega, by go_num, HA2.out (by rw [HP2.out, decide_eq_true (show st2 ≤ st by omega)]; rfl)⟩
                case measure => simp [intOf]; omega
          · have hte : t = sr.length := by omega
            subst hte
            go_wp2
            go_round
            case rel => exact ⟨k + 1, by omega, by go_num, HA.out (by rw [HP.out, hallt]; rfl)⟩
            case measure => simp [intOf]; omega
    · have hke : k = len := by omega
      subst hke
      go_wp2
      go_ret
      exact ⟨by unfold behB; rw [hall]; rfl, rfl⟩
end Go.Proofs.YtaenpgdmiaekcaaGreatDoor
/-
  SPANS: rows of spans in memory that are written; plan.spansOf, plan.liesOf.
-/
namespace Go.Proofs.YtaenpgdmiaekcaaGreatDoor
set_option maxRecDepth 100000
open Go.RowKit Im Go.Maps

/-- Spans in a block of their own. -/
structure Sp (w : World) (b n : Nat) (g : Nat → Int × Int) : Prop where
  lt : b < w.heap.size
  c0 : ∀ j, j < n → w.cell? ⟨b, j * 2, none⟩ = some (.int .i64 (g j).1)
  c1 : ∀ j, j < n → w.cell? ⟨b, j * 2 + 1, none⟩ = some (.int .i64 (g j).2)
  froz : ∀ o, w.frozen? ⟨b, o, none⟩ = false
theorem Sp.below {w w' : World} {b n B : Nat} {g : Nat → Int × Int} (h : Sp w b n g) (hb : Below B w w') (hB : b < B) (hs : w.heap.size ≤ w'.heap.size) : Sp w' b n g :=
  ⟨Nat.lt_of_lt_of_le h.lt hs, fun j hj => (hb.cell (p := ⟨b, j * 2, none⟩) hB).trans (h.c0 j hj), fun j hj => (hb.cell (p := ⟨b, j * 2 + 1, none⟩) hB).trans (h.c1 j hj), fun o => (hb.frozen (p := ⟨b, o, none⟩) hB).trans (h.froz o)⟩
theorem Sp.congr {w : World} {b n : Nat} {g g' : Nat → Int × Int} (h : Sp w b n g) (hg : ∀ j, j < n → g' j = g j) : Sp w b n g' :=
  ⟨h.lt, fun j hj => by rw [hg j hj]; exact h.c0 j hj, fun j hj => by rw [hg j hj]; exact h.c1 j hj, h.froz⟩
theorem Sp.putLast {w : World} {b n : Nat} {g g' : Nat → Int × Int} (h : Sp w b n g) (m : Nat) (x : Int) (hm : m < n) (hg : ∀ j, j < n → g' j = if m = j then ((g j).1, x) else g j) : Sp (w.setCell ⟨b, m * 2 + 1, none⟩ (.int .i64 x)) b n g' := by
  refine ⟨by simpa using h.lt, fun j hj => ?_, fun j hj => ?_, fun o => by simpa using h.froz o⟩
  · rw [hg j hj, set_other _ (fun e => by injection e with e1 e2; omega), h.c0 j hj]
    split <;> rfl
  · rw [hg j hj]
    by_cases e : m = j
    · subst e
      rw [if_pos rfl]
      exact set_same (h.c1 m hm)
    · rw [if_neg e, set_other _ (fun e => by injection e with e1 e2; omega)]
      exact h.c1 j hj
theorem Sp.put {w : World} {b n : Nat} {g g' : Nat → Int × Int} (h : Sp w b n g) (m : Nat) (x y : Int) (hm : m < n) (hg : ∀ j, j < n → g' j = if m = j then (x, y) else g j) : Sp ((w.setCell ⟨b, m * 2, none⟩ (.int .i64 x)).setCell ⟨b, m * 2 + 1, none⟩ (.int .i64 y)) b n g' := by
  refine ⟨by simpa using h.lt, fun j hj => ?_, fun j hj => ?_, fun o => by simpa using h.froz o⟩
  · rw [hg j hj, set_other _ (fun e => by injection e with e1 e2; omega)]
    by_cases e : m = j
    · subst e
      rw [if_pos rfl]
      exact set_same (h.c0 m hm)
    · rw [if_neg e, set_other _ (fun e => by injection e with e1 e2; omega)]
      exact h.c0 j hj
  · rw [hg j hj]
    by_cases e : m = j
    · subst e
      rw [if_pos rfl]
      exact set_same ((set_other _ (fun e => by injection e with e1 e2; omega)).trans (h.c1 m hm))
    · rw [if_neg e, set_other _ (fun e => by injection e with e1 e2; omega), set_other _ (fun e => by injection e with e1 e2; omega)]
      exact h.c1 j hj
theorem Sp.made {w : World} {base b N cap : Nat} (h : w.ownsRow base 111 2 (.slice (some ⟨b, 0, none⟩) N cap) N (madeCells (Value.agg #[.int .i64 0, .int .i64 0]).cells (N * 2)).toList) (hb : b < w.heap.size) : Sp w b N (fun _ => (0, 0)) := by
  have hc : ∀ j, j < N * 2 → w.cell? ⟨b, j, none⟩ = some ((#[Value.int .i64 0, Value.int .i64 0] : Array Value)[j % 2]!) := by
    intro j hj
    rw [World.ownsRow.cellAt h j hj]
    have e : (Value.agg #[.int .i64 0, .int .i64 0]).cells = #[.int .i64 0, .int .i64 0] := rfl
    rw [e]
    simp only [madeCells, Array.toList_map, Array.toList_range, List.getElem?_map, List.getElem?_range hj, Option.map_some]
    rfl
  refine ⟨hb, fun m hm => ?_, fun m hm => ?_, fun o => World.ownsRow.frozenAt h o⟩
  · rw [hc _ (by omega), show (m * 2) % 2 = 0 by omega]; rfl
  · rw [hc _ (by omega), show (m * 2 + 1) % 2 = 1 by omega]; rfl
theorem Tryz.infoSpan : (Tryz.prog.info? 111).map (fun i => (i.zero, i.size, i.bytes)) = some (some (.agg #[.int .i64 0, .int .i64 0]), 2, 16) := by kernel_rfl
/-- The call's end tells the spans g, in a block of its own. -/
def ToldSp (w : World) (n : Nat) (g : Nat → Int × Int) (e : Ending) (w' : World) : Prop :=
  (∃ b, e = .returned (.slice (some ⟨b, 0, none⟩) n n) ∧ w.heap.size ≤ b ∧ Sp w' b n g) ∧ Below w.heap.size w w'
def spanQ (src : Nat → List Int) (os : List Int) (la : Int) (k : Nat) : Int × Int := (stepAt os k, if (k : Int) = la then (os.length : Int) - 1 else ltk src os k (stepAt os k) os.length)
theorem mem_take_succ {l : List Int} {t : Nat} (h : t < l.length) (x : Int) : x ∈ l.take (t + 1) ↔ x ∈ l.take t ∨ l.getD t 0 = x := by
  rw [List.take_succ_eq_append_getElem h, List.mem_append, List.mem_singleton, List.getD_eq_getElem?_getD, List.getElem?_eq_getElem h]
  exact or_congr_right ⟨fun e => e.symm, fun e => e.symm⟩
set_option maxHeartbeats 4000000 in
theorem spansOf_any {N la : Nat} {src : Nat → List Int} (hN : N ≤ 12) (hla : la < N) (hs2 : ∀ k, k < N → (src k).length ≤ 2 ∧ ∀ s ∈ src k, 0 ≤ s ∧ s < N) {os : List Int} (hos : ∀ o ∈ os, 0 ≤ o ∧ o < N) (hol : os.length ≤ 12)
    {a : Option Addr} {len : Nat} (cap : Nat) {base : Nat} {B : Nat} {ss : List (List Int)} {sa : Option Addr} (scap : Nat) {w : World} (hI : Ints base w a len os) (hS : Steps w B os) (hL : LLs w sa N ss) (hsrc : ∀ k, k < N → ss.getD k [] = src k) :
    Calls Tryz.prog 83 #[.slice a len cap, .map (some B), .slice sa N scap, .int .i64 la] w (ToldSp w N (spanQ src os la)) := by
  obtain rfl := hI.leng
  obtain ⟨i0, hi, hz0, hz1, hz2⟩ := info_parts Tryz.infoSpan
  have HS2 : Hid (_) := hs2
  have HSR : Hid (_) := hsrc
  have HOS : Hid (_) := hos
  have HLT : Hid (∀ k d n, ltk src os k d (n + 1) = if k ∈ src (os.getD n 0).toNat then (n : Int) else ltk src os k d n) := fun _ _ _ => rfl
  have hlaI : (la : Int) < (N : Int) := by omega
  have hwl : IntKind.i64.wrap ((os.length : Int) - 1) = (os.length : Int) - 1 := by rw [IntKind.wrap_i64]; omega
  clear hs2 hsrc hos
  go_enter Tryz.func83, Tryz.ntmps83
  go_upto_region 2 with (at_make; refine wpList_make_full _ rfl _ _ 84 rfl w.heap.size 111 i0 (.agg #[.int .i64 0, .int .i64 0]) 2 Tryz.underlying84 hi hz0 hz1 .i64 .i64 _ _ N rfl rfl (by simp) (by simp) (by rw [hz2]; omega) (by unfold maxLen; omega) (Nat.le_refl _) ?_; intro wM hown hgrow)
  have hbM : Below w.heap.size w wM := (Below.refl _ _).grown hgrow (Nat.le_refl _) (fun k hk => by cases hk)
  have hlM := (World.ownsRow.lt (w := wM) hown w.heap.size rfl).2
  have hKM := Sp.made hown hlM
  clear hown hgrow
  go_wp2
  go_loopw [22] (fun i wr => ∃ k : Nat, k ≤ N ∧ i = .int .i64 k ∧ Sp wr w.heap.size N (fun j => if j < k then (stepAt os j, stepAt os j) else (0, 0)) ∧ Below w.heap.size w wr) (fun i _ => N - (intOf i).toNat)
  case atStart => exact ⟨0, Nat.zero_le _, rfl, hKM.congr (fun j _ => by simp), hbM⟩
  case round =>
    obtain ⟨k, hk, rfl, hSp, hb⟩ := hrel
    clear hKM hbM hlM
    by_cases hlt : k < N
    · have hSr := hS.below hb
      have d0 := hSp.c0 k hlt
      have d1 := hSp.c1 k hlt
      have f0 := hSp.froz (k * 2)
      have f1 := hSp.froz (k * 2 + 1)
      have hkI : (k : Int) < (N : Int) := by omega
      have hk0 : (0 : Int) ≤ (k : Int) := by omega
      obtain ⟨st, hst⟩ : ∃ st, st = stepAt os k := ⟨_, rfl⟩
      have HV : Hid (stepB os k = true → stepV os k = st) := fun h => by unfold stepV; rw [if_pos (of_decide_eq_true h), hst]
      have HW : Hid (stepB os k = false → st = -1) := fun h => by have h1 := of_decide_eq_false h; have := stepAt_bd os k; omega
      have HSp : Hid (Sp ((wr.setCell ⟨w.heap.size, k * 2, none⟩ (.int .i64 st)).setCell ⟨w.heap.size, k * 2 + 1, none⟩ (.int .i64 st)) w.heap.size N (fun j => if j < k + 1 then (stepAt os j, stepAt os j) else (0, 0))) := hSp.put k st st hlt (fun j hj => by
        by_cases e : k = j
        · subst e; rw [if_pos (by omega), if_pos rfl, hst]
        · rw [if_neg e]
          by_cases h : j < k
          · rw [if_pos h, if_pos (by omega)]
          · rw [if_neg h, if_neg (by omega)])
      have hb9 := (hb.setCell (p := ⟨w.heap.size, k * 2, none⟩) (Nat.le_refl _) (.int .i64 st)).setCell (p := ⟨w.heap.size, k * 2 + 1, none⟩) (Nat.le_refl _) (.int .i64 st)
      generalize hy : stepB os k = y at HV HW
      clear hst hSp
      cases y with
      | true =>
        have hv := HV.out rfl
        go_wp2_with (at_lookup; refine wpList_lookup_steps rfl _ rfl _ _ rfl hSr rfl rfl (by omega) ?_)
        go_roundw
        case rel => exact ⟨k + 1, by omega, by go_num, HSp.out, hb9⟩
        case measure => simp [intOf]; omega
      | false =>
        obtain rfl := HW.out rfl
        go_wp2_with (at_lookup; refine wpList_lookup_steps rfl _ rfl _ _ rfl hSr rfl rfl (by omega) ?_)
        go_roundw
        case rel => exact ⟨k + 1, by omega, by go_num, HSp.out, hb9⟩
        case measure => simp [intOf]; omega
    · have hke : k = N := by omega
      subst hke
      replace hSp : Sp wr w.heap.size k (fun j => (stepAt os j, ltk src os j (stepAt os j) 0)) := hSp.congr (fun j hj => by rw [if_pos hj]; rfl)
      go_wp2
      go_loopw [42] (fun i ws => ∃ n : Nat, n ≤ os.length ∧ i = .int .i64 n ∧ Sp ws w.heap.size k (fun j => (stepAt os j, ltk src os j (stepAt os j) n)) ∧ Below w.heap.size w ws) (fun i _ => os.length - (intOf i).toNat)
      case atStart => exact ⟨0, Nat.zero_le _, rfl, hSp, hb⟩
      case round =>
        obtain ⟨n, hn, rfl, hSn, hbn⟩ := hrel
        clear hSp hb
        by_cases hnl : n < os.length
        · obtain ⟨ob, oo, rfl, hox⟩ := (hI.below (Nat.le_refl _) hbn).nth hnl
          have hor := HOS.out _ (getD_mem hnl 0)
          have HL1 : Hid (∀ k d, ltk src os k d (n + 1) = if k ∈ src (os.getD n 0).toNat then (n : Int) else ltk src os k d n) := fun k d => HLT.out k d n
          generalize os.getD n 0 = p at hox hor HL1
          obtain ⟨q, rfl⟩ := Int.eq_ofNat_of_zero_le hor.1
          have hql : q < k := by omega
          have hqI : (q : Int) < (k : Int) := by omega
          rw [Int.toNat_natCast] at HL1
          obtain ⟨sb, so, ua, uc, rfl, hsb, qq, hUI⟩ := hL.nth hql
          rw [HSR.out q hql] at qq hUI
          obtain ⟨hl2, hin⟩ := HS2.out q hql
          generalize src q = sr at qq hUI hl2 hin HL1
          have q0 := (hbn.cell (p := ⟨sb, so + q, none⟩) hsb).trans qq
          have HIN : Hid (_) := hin
          clear hin
          go_wp2
          go_loopw [52] (fun i wt => ∃ t : Nat, t ≤ sr.length ∧ i = .int .i64 t ∧ Sp wt w.heap.size k (fun j => (stepAt os j, if (j : Int) ∈ sr.take t then (n : Int) else ltk src os j (stepAt os j) n)) ∧ Below w.heap.size w wt) (fun i _ => sr.length - (intOf i).toNat)
          case atStart => exact ⟨0, Nat.zero_le _, rfl, hSn.congr (fun j _ => by simp), hbn⟩
          case round =>
            obtain ⟨t, ht, rfl, hSt, hbt⟩ := hrel
            clear hSn q0
            by_cases htl : t < sr.length
            · obtain ⟨bu, ou, rfl, hcx⟩ := (hUI.below (Nat.le_refl _) hbt).nth htl
              have hr := HIN.out _ (getD_mem htl 0)
              have HM : Hid (∀ x, x ∈ sr.take (t + 1) ↔ x ∈ sr.take t ∨ sr.getD t 0 = x) := fun x => mem_take_succ htl x
              generalize sr.getD t 0 = m at hcx hr HM
              obtain ⟨z, rfl⟩ := Int.eq_ofNat_of_zero_le hr.1
              have hzl : z < k := by omega
              have hzI : (z : Int) < (k : Int) := by omega
              have d1 := hSt.c1 z hzl
              have f1 := hSt.froz (z * 2 + 1)
              have HS9 : Hid (Sp (wr.setCell ⟨w.heap.size, z * 2 + 1, none⟩ (.int .i64 n)) w.heap.size k (fun j => (stepAt os j, if (j : Int) ∈ sr.take (t + 1) then (n : Int) else ltk src os j (stepAt os j) n))) := hSt.putLast z n hzl (fun j hj => by
                by_cases e : z = j
                · subst e; rw [if_pos rfl, if_pos ((HM.out _).2 (.inr rfl))]
                · rw [if_neg e]
                  have hne : ¬ (z : Int) = (j : Int) := by omega
                  by_cases h : (j : Int) ∈ sr.take t
                  · rw [if_pos h, if_pos ((HM.out _).2 (.inl h))]
                  · rw [if_neg h, if_neg (fun h' => ((HM.out _).1 h').elim h hne)])
              have hb9 := hbt.setCell (p := ⟨w.heap.size, z * 2 + 1, none⟩) (Nat.le_refl _) (.int .i64 n)
              clear hSt
              go_wp2
              go_roundw
              case rel => exact ⟨t + 1, by omega, by go_num, HS9.out, hb9⟩
              case measure => simp [intOf]; omega
            · have hte : t = sr.length := by omega
              subst hte
              rw [List.take_length] at hSt
              go_wp2
              go_roundw
              case rel => exact ⟨n + 1, by omega, by go_num, hSt.congr (fun j _ => by rw [HL1.out]), hbt⟩
              case measure => simp [intOf]; omega
        · have hne : n = os.length := by omega
          subst hne
          have d1 := hSn.c1 la hla
          have f1 := hSn.froz (la * 2 + 1)
          have HS9 : Hid (Sp (wr.setCell ⟨w.heap.size, la * 2 + 1, none⟩ (.int .i64 ((os.length : Int) - 1))) w.heap.size k (spanQ src os la)) := hSn.putLast la _ hla (fun j hj => by
            unfold spanQ
            by_cases e : la = j
            · subst e; rw [if_pos rfl, if_pos rfl]
            · have hne : ¬ (j : Int) = (la : Int) := by omega
              rw [if_neg e, if_neg hne])
          have hb9 := hbn.setCell (p := ⟨w.heap.size, la * 2 + 1, none⟩) (Nat.le_refl _) (.int .i64 ((os.length : Int) - 1))
          clear hSn
          go_wp2
          go_ret
          exact ⟨⟨_, rfl, Nat.le_refl _, HS9.out⟩, hb9⟩
end Go.Proofs.YtaenpgdmiaekcaaGreatDoor
