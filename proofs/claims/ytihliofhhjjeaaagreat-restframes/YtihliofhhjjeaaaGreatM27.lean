/- OpenZ: joined, in this order. -/
import Derived.Test.YtihliofhhjjeaaaGreatM26
import Derived.SizedLaws
set_option maxRecDepth 100000
namespace Go.Proofs.YtihliofhhjjeaaaGreat
open Go.ChangeShapes Go.WideShapes Go.ChangeAt Go.RowKit Go.Joins Go.Deep
theorem bytesLight : Tryz.prog.bytesOf 89 = 32 := by kernel_rfl
theorem bytesPass : Tryz.prog.bytesOf 62 = 64 := by kernel_rfl
theorem bytesInt : Tryz.prog.bytesOf 3 = 8 := by kernel_rfl
theorem weights_all {H : Type} {P : Program} {e : TypeId} : ∀ {l : List (DataW H)} {d : DataW H}, d ∈ l → ∀ n ∈ d.weights P e, n ∈ DataW.weightsAll P e l
  | d' :: r, d, hd, n, hn => by
    simp only [DataW.weightsAll, List.mem_append]
    rcases List.mem_cons.1 hd with rfl | h
    · exact Or.inl hn
    · exact Or.inr (weights_all h n hn)
theorem weight_slice {H : Type} {P : Program} {t e : TypeId} {l m : Nat} {D : Nat → DataW H} {B : Nat} (ht : P.underlying t = some (.slice e)) (hl : l ≤ m) (hw : ∀ x ∈ DataW.weights P t (.slice ((List.range l).map D) ((List.range (m - l)).map fun j => D (l + j))), x ≤ B) :
    m * P.bytesOf e ≤ B ∧ ∀ i, i < l → ∀ x ∈ DataW.weights P e (D i), x ≤ B := by
  simp only [DataW.weights, ht, List.mem_cons, List.mem_append] at hw
  constructor
  · have := hw _ (.inl rfl)
    simp only [List.length_map, List.length_range] at this
    rw [show l + (m - l) = m by omega] at this
    exact this
  · intro i hi x hx
    exact hw x (.inr (.inl (weights_all (List.mem_map.2 ⟨i, List.mem_range.2 hi, rfl⟩) x hx)))
theorem lights_ofZ {H : Type} {enc : TypeId × Value → H} {W : World} {n : Nat} {v : Value} {y : DataW H × List MemPlace} (h : DataW.trod enc Tryz.prog W 0 (fun _ => true) true n 60 [v] = some y) (hw : ∀ x ∈ DataW.weights Tryz.prog 60 y.1, x ≤ reachBytes) :
    ∃ a len cap ls, v = .slice a len cap ∧ Lights W a len ls ∧ ls.length * 32 ≤ reachBytes := by
  obtain ⟨a, len, cap, ls, e, hL⟩ := lights_of h
  refine ⟨a, len, cap, ls, e, hL, ?_⟩
  rw [hL.leng]
  rcases open_slice Tryz.underlying60 h with ⟨e', _⟩ | ⟨x, l, c, m, n', D, Pl, e', _, hl, hm, hmm, hy, hx⟩
  · simp at e'
    rw [e'] at e
    injection e with _ e2 _
    subst e2
    simp
  · simp at e'
    rw [e'] at e
    injection e with _ e2 _
    subst e2
    simp at hmm
    subst hmm hy
    have := (weight_slice Tryz.underlying60 hl hw).1
    rw [bytesLight] at this
    exact Nat.le_trans (Nat.mul_le_mul_right _ hl) this
theorem fieldsPass : ∃ fs, Tryz.prog.underlying 62 = some (.struct fs) ∧ (fs.toList.map (·.type))[5]? = some 60 := ⟨_, Tryz.underlying62, by kernel_rfl⟩
theorem fieldsFrame : ∃ fs, Tryz.prog.underlying 24 = some (.struct fs) ∧ (fs.toList.map (·.type))[4]? = some 22 := ⟨_, Tryz.underlying24, by kernel_rfl⟩
theorem weight_part {H : Type} {P : Program} {t u : TypeId} {ys : List (DataW H)} {fs : Array Field} {B j : Nat} {d : DataW H} (ht : P.underlying t = some (.struct fs)) (hj : (fs.toList.map (·.type))[j]? = some u) (hd : ys[j]? = some d) (hw : ∀ x ∈ DataW.weights P t (.agg ys), x ≤ B) : ∀ x ∈ DataW.weights P u d, x ≤ B := by
  simp only [DataW.weights, ht] at hw
  exact fun x hx => hw x (DataW.weights_mem_each hj hd x hx)
theorem pass_cellsZ {H : Type} {enc : TypeId × Value → H} {W : World} {n : Nat} {cs : List Value} {y : DataW H × List MemPlace} (h : DataW.trod enc Tryz.prog W 0 (fun _ => true) true n 62 cs = some y) (hw : ∀ x ∈ DataW.weights Tryz.prog 62 y.1, x ≤ reachBytes) :
    ∃ p : Ps, ∃ la ll lc, cs = [.int .i64 p.Op, .int .i64 p.To, .int .i64 p.A, .int .i64 p.B, .int .i64 p.K, .slice la ll lc] ∧ Lights W la ll p.ls ∧ p.ls.length * 32 ≤ reachBytes := by
  obtain ⟨xs, n, _, hy, hl, hlen, hf⟩ := DataW.trod_struct Tryz.underlying62 h
  rw [cellsPass] at hl
  obtain ⟨c0, c1, c2, c3, c4, c5, rfl⟩ := list6 hl
  obtain ⟨y0, y1, y2, y3, y4, y5, rfl⟩ := list6 (by simpa using hlen)
  have h0 : DataW.trod enc Tryz.prog W 0 (fun _ => true) true n 3 [c0] = some y0 := by have := hf 0 _ rfl; simpa [cellsInt] using this
  have h1 : DataW.trod enc Tryz.prog W 0 (fun _ => true) true n 3 [c1] = some y1 := by have := hf 1 _ rfl; simpa [cellsInt] using this
  have h2 : DataW.trod enc Tryz.prog W 0 (fun _ => true) true n 3 [c2] = some y2 := by have := hf 2 _ rfl; simpa [cellsInt] using this
  have h3 : DataW.trod enc Tryz.prog W 0 (fun _ => true) true n 3 [c3] = some y3 := by have := hf 3 _ rfl; simpa [cellsInt] using this
  have h4 : DataW.trod enc Tryz.prog W 0 (fun _ => true) true n 3 [c4] = some y4 := by have := hf 4 _ rfl; simpa [cellsInt] using this
  have h5 : DataW.trod enc Tryz.prog W 0 (fun _ => true) true n 60 [c5] = some y5 := by have := hf 5 _ rfl; simpa [cellsLights] using this
  obtain ⟨x0, e0, _, _⟩ := DataW.trod_int Tryz.underlying3 h0
  obtain ⟨x1, e1, _, _⟩ := DataW.trod_int Tryz.underlying3 h1
  obtain ⟨x2, e2, _, _⟩ := DataW.trod_int Tryz.underlying3 h2
  obtain ⟨x3, e3, _, _⟩ := DataW.trod_int Tryz.underlying3 h3
  obtain ⟨x4, e4, _, _⟩ := DataW.trod_int Tryz.underlying3 h4
  subst hy
  obtain ⟨fs, hu, h5f⟩ := fieldsPass
  obtain ⟨la, ll, lc, ls, e5, hL, hZ⟩ := lights_ofZ h5 (weight_part (j := 5) hu h5f (d := y5.1) (by simp) hw)
  simp at e0 e1 e2 e3 e4
  subst e0 e1 e2 e3 e4 e5
  exact ⟨⟨x0, x1, x2, x3, x4, ls⟩, la, ll, lc, rfl, hL, hZ⟩
theorem passes_ofZ {H : Type} {enc : TypeId × Value → H} {W : World} {n : Nat} {v : Value} {y : DataW H × List MemPlace} (h : DataW.trod enc Tryz.prog W 0 (fun _ => true) true n 22 [v] = some y) (hw : ∀ x ∈ DataW.weights Tryz.prog 22 y.1, x ≤ reachBytes) :
    ∃ a len cap ps, v = .slice a len cap ∧ Passes W a len ps ∧ ps.length * 64 ≤ reachBytes ∧ ∀ k, k < ps.length → (ps.getD k Ps.zero).ls.length * 32 ≤ reachBytes := by
  rcases open_slice Tryz.underlying22 h with ⟨e, _⟩ | ⟨x, l, c, m, n', D, Pl, e, _, hl, hm, hmm, hy, hx⟩
  · simp at e
    subst e
    exact ⟨none, 0, 0, [], rfl, ⟨rfl, by omega, .inl rfl⟩, by simp, fun k hk => by simp at hk⟩
  · simp at e
    subst e
    simp at hmm
    subst hmm hy
    obtain ⟨w1, w2⟩ := weight_slice Tryz.underlying22 hl hw
    rw [bytesPass] at w1
    rw [cellsPass] at hx
    have each : ∀ i, i < m → ∃ p : Ps, ∃ la ll lc, (∀ j, j < 6 → W.cell? (x.add (i * 6) |>.add j) = [Value.int .i64 p.Op, .int .i64 p.To, .int .i64 p.A, .int .i64 p.B, .int .i64 p.K, .slice la ll lc][j]?) ∧ Lights W la ll p.ls ∧ (i < l → p.ls.length * 32 ≤ reachBytes) := fun i hi => by
      obtain ⟨cs', h1, h2⟩ := hx i hi
      by_cases hil : i < l
      · obtain ⟨p, la, ll, lc, rfl, hL, hZ⟩ := pass_cellsZ h2 (w2 i hil)
        exact ⟨p, la, ll, lc, (World.cells?_some h1).2.2, hL, fun _ => hZ⟩
      · obtain ⟨p, la, ll, lc, rfl, hL⟩ := pass_cells h2
        exact ⟨p, la, ll, lc, (World.cells?_some h1).2.2, hL, fun h => absurd h hil⟩
    obtain ⟨L, hL⟩ := choose_lt each
    unfold maxLen at hm
    have hgd : ∀ j, j < l → ((List.range l).map L).getD j Ps.zero = L j := fun j hj => by simp [List.getD_eq_getElem?_getD, hj]
    refine ⟨some x, l, m, (List.range l).map L, rfl, ⟨by simp, by omega, ?_⟩, by simp only [List.length_map, List.length_range]; exact Nat.le_trans (Nat.mul_le_mul_right _ hl) w1, fun k hk => ?_⟩
    · by_cases h0 : l = 0
      · subst h0; exact .inl rfl
      · right
        obtain ⟨la0, ll0, lc0, g0, _⟩ := hL 0 (by omega)
        have h00 := g0 0 (by omega)
        obtain ⟨b, off, spot⟩ := x
        have hspot : spot = none := by simpa [Addr.add] using World.cell?_spot (h00.trans rfl)
        subst hspot
        refine ⟨b, off, rfl, ?_, fun j hj => ?_⟩
        · have := World.block_lt_of_cell? W _ (h00.trans rfl)
          simpa [Addr.add] using this
        · rw [hgd j hj]
          obtain ⟨la, ll, lc, q, hLi, _⟩ := hL j (by omega)
          simp only [addr_add] at q
          exact ⟨la, ll, lc, q 0 (by omega), q 1 (by omega), q 2 (by omega), q 3 (by omega), q 4 (by omega), q 5 (by omega), hLi⟩
    · simp only [List.length_map, List.length_range] at hk
      rw [hgd k hk]
      obtain ⟨_, _, _, _, _, hZ⟩ := hL k (by omega)
      exact hZ hk
theorem frame_inZ {H : Type} {enc : TypeId × Value → H} {W : World} {b0 : Nat} {v : Value} {d : DataW H} {p : List MemPlace} (hv : Value.okWide Tryz.prog W .any b0 24 v) (h : DataW.Trod enc Tryz.prog W 0 (fun _ => true) true 24 v d p) (hw : ∀ x ∈ DataW.weights Tryz.prog 24 d, x ≤ reachBytes) :
    ∃ w h s o a len cap ps, v = .agg #[.int .i64 w, .int .i64 h, .int .i64 s, .int .i64 o, .slice a len cap] ∧ Passes W a len ps ∧ ps.length * 64 ≤ reachBytes ∧ ∀ k, k < ps.length → (ps.getD k Ps.zero).ls.length * 32 ≤ reachBytes := by
  obtain ⟨cs, rfl, hsz⟩ := okWide_struct Tryz.underlying24 hv
  obtain ⟨n, hn⟩ := h
  obtain ⟨xs, n, _, hy, hl, hlen, hf⟩ := DataW.trod_struct Tryz.underlying24 hn
  rw [cellsFrame] at hsz
  obtain ⟨c0, c1, c2, c3, c4, hcs⟩ := list5 (cs := cs.toList) (by simpa using hsz)
  have hcs' : cs = #[c0, c1, c2, c3, c4] := by rw [← Array.toArray_toList (xs := cs), hcs]
  subst hcs'
  obtain ⟨y0, y1, y2, y3, y4, rfl⟩ := list5 (by simpa using hlen)
  have h0 : DataW.trod enc Tryz.prog W 0 (fun _ => true) true n 3 [c0] = some y0 := by have := hf 0 _ rfl; simpa [cellsInt, Value.cells] using this
  have h1 : DataW.trod enc Tryz.prog W 0 (fun _ => true) true n 3 [c1] = some y1 := by have := hf 1 _ rfl; simpa [cellsInt, Value.cells] using this
  have h2 : DataW.trod enc Tryz.prog W 0 (fun _ => true) true n 3 [c2] = some y2 := by have := hf 2 _ rfl; simpa [cellsInt, Value.cells] using this
  have h3 : DataW.trod enc Tryz.prog W 0 (fun _ => true) true n 3 [c3] = some y3 := by have := hf 3 _ rfl; simpa [cellsInt, Value.cells] using this
  have h4 : DataW.trod enc Tryz.prog W 0 (fun _ => true) true n 22 [c4] = some y4 := by have := hf 4 _ rfl; simpa [cellsPasses, Value.cells] using this
  obtain ⟨x0, e0, _, _⟩ := DataW.trod_int Tryz.underlying3 h0
  obtain ⟨x1, e1, _, _⟩ := DataW.trod_int Tryz.underlying3 h1
  obtain ⟨x2, e2, _, _⟩ := DataW.trod_int Tryz.underlying3 h2
  obtain ⟨x3, e3, _, _⟩ := DataW.trod_int Tryz.underlying3 h3
  obtain ⟨hd, _⟩ := Prod.mk.inj hy
  subst hd
  obtain ⟨fs, hu, h4f⟩ := fieldsFrame
  obtain ⟨a, len, cap, ps, e4, hP, hZ⟩ := passes_ofZ h4 (weight_part (j := 4) hu h4f (d := y4.1) (by simp) hw)
  simp at e0 e1 e2 e3
  subst e0 e1 e2 e3 e4
  exact ⟨x0, x1, x2, x3, a, len, cap, ps, rfl, hP, hZ⟩
theorem arena_inZ {H : Type} {enc : TypeId × Value → H} {W : World} {b0 : Nat} {v : Value} {d : DataW H} {p : List MemPlace} (hv : Value.okWide Tryz.prog W .any b0 25 v) (h : DataW.Trod enc Tryz.prog W 0 (fun _ => true) true 25 v d p) (hw : ∀ x ∈ DataW.weights Tryz.prog 25 d, x ≤ reachBytes) :
    ∃ a len cap ps, v = .slice a len cap ∧ len ≤ cap ∧ Ints 0 W a len ps ∧ len * 8 ≤ reachBytes := by
  obtain ⟨a0, len, cap, rfl⟩ := okWide_slice Tryz.underlying25 hv
  obtain ⟨n, hn⟩ := h
  have hcs : (Value.slice a0 len cap).cells.toList = [.slice a0 len cap] := rfl
  rw [hcs] at hn
  obtain ⟨a, l', c', ps, e, hc, hI⟩ := ints_cap hn
  injection e with e1 e2 e3
  subst e1 e2 e3
  refine ⟨a0, len, cap, ps, rfl, hc, hI, ?_⟩
  rcases open_slice Tryz.underlying25 hn with ⟨e', _⟩ | ⟨x, l, c, m, n', D, Pl, e', _, hl, hm, hmm, hy, hx⟩
  · simp at e'
    obtain ⟨_, e2, _⟩ := e'
    subst e2
    simp
  · simp at e'
    obtain ⟨_, e2, _⟩ := e'
    subst e2
    simp at hmm
    subst hmm
    obtain ⟨hd, _⟩ := Prod.mk.inj hy
    subst hd
    have := (weight_slice Tryz.underlying25 hl hw).1
    rw [bytesInt] at this
    exact Nat.le_trans (Nat.mul_le_mul_right _ hl) this
end Go.Proofs.YtihliofhhjjeaaaGreat
