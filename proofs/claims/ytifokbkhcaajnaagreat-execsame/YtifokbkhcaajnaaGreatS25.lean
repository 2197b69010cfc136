/- OpenF, OpenP, OpenA: joined, in this order. -/
import Derived.Test.YtifokbkhcaajnaaGreatS24
import Derived.Test.YtifokbkhcaajnaaGreatS11
import Derived.Test.YtifokbkhcaajnaaGreatS19
/-
  OPENF: how a frame that comes in as an argument is read.
-/
namespace Go.Proofs.YtifokbkhcaajnaaGreat
set_option maxRecDepth 100000
open Go.ChangeShapes Go.WideShapes Go.ChangeAt Go.RowKit Go.Joins Go.Deep

instance : Inhabited Ps := ⟨Ps.zero⟩
theorem cellsPass : Tryz.prog.cellsOf 67 = 6 := by kernel_rfl
theorem cellsFrame : Tryz.prog.cellsOf 24 = 5 := by kernel_rfl
theorem cellsLights : Tryz.prog.cellsOf 65 = 1 := by kernel_rfl
theorem cellsPasses : Tryz.prog.cellsOf 22 = 1 := by kernel_rfl
theorem list5 {α : Type} {cs : List α} (h : cs.length = 5) : ∃ c0 c1 c2 c3 c4, cs = [c0, c1, c2, c3, c4] := by
  match cs, h with
  | [c0, c1, c2, c3, c4], _ => exact ⟨c0, c1, c2, c3, c4, rfl⟩
theorem list6 {α : Type} {cs : List α} (h : cs.length = 6) : ∃ c0 c1 c2 c3 c4 c5, cs = [c0, c1, c2, c3, c4, c5] := by
  match cs, h with
  | [c0, c1, c2, c3, c4, c5], _ => exact ⟨c0, c1, c2, c3, c4, c5, rfl⟩
/-- A slice of lights, read. -/
theorem lights_of {H : Type} {enc : TypeId × Value → H} {W : World} {n : Nat} {v : Value} {y : DataW H × List MemPlace} (h : DataW.trod enc Tryz.prog W 0 (fun _ => true) true n 65 [v] = some y) :
    ∃ a len cap ls, v = .slice a len cap ∧ Lights W a len ls := by
  rcases open_slice Tryz.underlying65 h with ⟨e, _⟩ | ⟨x, l, c, m, n', D, Pl, e, _, hl, hm, hmm, _, hx⟩
  · simp at e
    subst e
    exact ⟨none, 0, 0, [], rfl, rfl, by omega, .inl rfl⟩
  · simp at e
    subst e
    simp at hmm
    subst hmm
    rw [cellsLight] at hx
    have each : ∀ i, i < m → ∃ lt : Lt, ∀ j, j < 4 → W.cell? (x.add (i * 4) |>.add j) = [Value.int .i64 lt.X, .int .i64 lt.Y, .int .i64 lt.R, .int .i64 lt.P][j]? := fun i hi => by
      obtain ⟨cs', h1, h2⟩ := hx i hi
      obtain ⟨lt, rfl⟩ := light_cells h2
      exact ⟨lt, (World.cells?_some h1).2.2⟩
    obtain ⟨L, hL⟩ := choose_lt each
    unfold maxLen at hm
    refine ⟨some x, l, m, (List.range l).map L, rfl, by simp, by omega, ?_⟩
    by_cases h0 : l = 0
    · subst h0; exact .inl rfl
    · right
      have h00 := hL 0 (by omega) 0 (by omega)
      obtain ⟨b, off, spot⟩ := x
      have hspot : spot = none := by simpa [Addr.add] using World.cell?_spot (h00.trans rfl)
      subst hspot
      refine ⟨b, off, rfl, ?_, fun j hj => ?_⟩
      · have := World.block_lt_of_cell? W _ (h00.trans rfl)
        simpa [Addr.add] using this
      · have g : ((List.range l).map L).getD j Lt.zero = L j := by simp [List.getD_eq_getElem?_getD, hj]
        rw [g]
        have q := hL j (by omega)
        simp only [addr_add] at q
        exact ⟨q 0 (by omega), q 1 (by omega), q 2 (by omega), q 3 (by omega)⟩
/-- A pass's six cells, read. -/
theorem pass_cells {H : Type} {enc : TypeId × Value → H} {W : World} {n : Nat} {cs : List Value} {y : DataW H × List MemPlace} (h : DataW.trod enc Tryz.prog W 0 (fun _ => true) true n 67 cs = some y) :
    ∃ p : Ps, ∃ la ll lc, cs = [.int .i64 p.Op, .int .i64 p.To, .int .i64 p.A, .int .i64 p.B, .int .i64 p.K, .slice la ll lc] ∧ Lights W la ll p.ls := by
  obtain ⟨xs, n, _, _, hl, hlen, hf⟩ := DataW.trod_struct Tryz.underlying67 h
  rw [cellsPass] at hl
  obtain ⟨c0, c1, c2, c3, c4, c5, rfl⟩ := list6 hl
  obtain ⟨y0, y1, y2, y3, y4, y5, rfl⟩ := list6 (by simpa using hlen)
  have h0 : DataW.trod enc Tryz.prog W 0 (fun _ => true) true n 3 [c0] = some y0 := by have := hf 0 _ rfl; simpa [cellsInt] using this
  have h1 : DataW.trod enc Tryz.prog W 0 (fun _ => true) true n 3 [c1] = some y1 := by have := hf 1 _ rfl; simpa [cellsInt] using this
  have h2 : DataW.trod enc Tryz.prog W 0 (fun _ => true) true n 3 [c2] = some y2 := by have := hf 2 _ rfl; simpa [cellsInt] using this
  have h3 : DataW.trod enc Tryz.prog W 0 (fun _ => true) true n 3 [c3] = some y3 := by have := hf 3 _ rfl; simpa [cellsInt] using this
  have h4 : DataW.trod enc Tryz.prog W 0 (fun _ => true) true n 3 [c4] = some y4 := by have := hf 4 _ rfl; simpa [cellsInt] using this
  have h5 : DataW.trod enc Tryz.prog W 0 (fun _ => true) true n 65 [c5] = some y5 := by have := hf 5 _ rfl; simpa [cellsLights] using this
  obtain ⟨x0, e0, _, _⟩ := DataW.trod_int Tryz.underlying3 h0
  obtain ⟨x1, e1, _, _⟩ := DataW.trod_int Tryz.underlying3 h1
  obtain ⟨x2, e2, _, _⟩ := DataW.trod_int Tryz.underlying3 h2
  obtain ⟨x3, e3, _, _⟩ := DataW.trod_int Tryz.underlying3 h3
  obtain ⟨x4, e4, _, _⟩ := DataW.trod_int Tryz.underlying3 h4
  obtain ⟨la, ll, lc, ls, e5, hL⟩ := lights_of h5
  simp at e0 e1 e2 e3 e4
  subst e0 e1 e2 e3 e4 e5
  exact ⟨⟨x0, x1, x2, x3, x4, ls⟩, la, ll, lc, rfl, hL⟩
/-- A slice of passes, read. -/
theorem passes_of {H : Type} {enc : TypeId × Value → H} {W : World} {n : Nat} {v : Value} {y : DataW H × List MemPlace} (h : DataW.trod enc Tryz.prog W 0 (fun _ => true) true n 22 [v] = some y) :
    ∃ a len cap ps, v = .slice a len cap ∧ Passes W a len ps := by
  rcases open_slice Tryz.underlying22 h with ⟨e, _⟩ | ⟨x, l, c, m, n', D, Pl, e, _, hl, hm, hmm, _, hx⟩
  · simp at e
    subst e
    exact ⟨none, 0, 0, [], rfl, rfl, by omega, .inl rfl⟩
  · simp at e
    subst e
    simp at hmm
    subst hmm
    rw [cellsPass] at hx
    have each : ∀ i, i < m → ∃ p : Ps, ∃ la ll lc, (∀ j, j < 6 → W.cell? (x.add (i * 6) |>.add j) = [Value.int .i64 p.Op, .int .i64 p.To, .int .i64 p.A, .int .i64 p.B, .int .i64 p.K, .slice la ll lc][j]?) ∧ Lights W la ll p.ls := fun i hi => by
      obtain ⟨cs', h1, h2⟩ := hx i hi
      obtain ⟨p, la, ll, lc, rfl, hL⟩ := pass_cells h2
      exact ⟨p, la, ll, lc, (World.cells?_some h1).2.2, hL⟩
    obtain ⟨L, hL⟩ := choose_lt each
    unfold maxLen at hm
    refine ⟨some x, l, m, (List.range l).map L, rfl, by simp, by omega, ?_⟩
    by_cases h0 : l = 0
    · subst h0; exact .inl rfl
    · right
      obtain ⟨la0, ll0, lc0, g0, _⟩ := hL 0 (by omega)
      have h00 := g0 0 (by omega)
      obtain ⟨b, off, spot⟩ := x
      have hspot : spot = none := by simpa [Addr.add] using World.cell?_spot (h00.trans rfl)
      subst hspot
      refine ⟨b, off, rfl, ?_, fun j hj => ?_⟩
      · have := World.block_lt_of_cell? W _ (h00.trans rfl)
        simpa [Addr.add] using this
      · have g : ((List.range l).map L).getD j Ps.zero = L j := by simp [List.getD_eq_getElem?_getD, hj]
        rw [g]
        obtain ⟨la, ll, lc, q, hLi⟩ := hL j (by omega)
        simp only [addr_add] at q
        exact ⟨la, ll, lc, q 0 (by omega), q 1 (by omega), q 2 (by omega), q 3 (by omega), q 4 (by omega), q 5 (by omega), hLi⟩
/-- A frame that came in. -/
theorem frame_in {H : Type} {enc : TypeId × Value → H} {W : World} {b0 : Nat} {v : Value} {d : DataW H} {p : List MemPlace} (hv : Value.okWide Tryz.prog W .any b0 24 v) (h : DataW.Trod enc Tryz.prog W 0 (fun _ => true) true 24 v d p) :
    ∃ w h s o a len cap ps, v = .agg #[.int .i64 w, .int .i64 h, .int .i64 s, .int .i64 o, .slice a len cap] ∧ Passes W a len ps := by
  obtain ⟨cs, rfl, hsz⟩ := okWide_struct Tryz.underlying24 hv
  obtain ⟨n, hn⟩ := h
  obtain ⟨xs, n, _, _, hl, hlen, hf⟩ := DataW.trod_struct Tryz.underlying24 hn
  rw [cellsFrame] at hsz
  obtain ⟨c0, c1, c2, c3, c4, hcs⟩ := list5 (cs := cs.toList) (by simpa using hsz)
  have hcs' : cs = #[c0, c1, c2, c3, c4] := by rw [← Array.toArray_toList (xs := cs), hcs]
  subst hcs'
  obtain ⟨y0, y1, y2, y3, y4, rfl⟩ := list5 (by simpa using hlen)
  have h0 : DataW.trod enc Tryz.prog W 0 (fun _ => true) true n 3 [c0] = some y0 := by have := hf 0 _ rfl; simpa [cellsInt, Value.cells] using this
  have h1 : DataW.trod enc Tryz.prog W 0 (fun _ => true) true n 3 [c1] = some y1 := by have := hf 1 _ rfl; simpa [cellsInt, Value.cells] using this
  have h2 : DataW.trod enc Tryz.prog W 0 (fun _ => true) true n 3 [c2] = some y2 := by have := hf 2 _ rfl; simpa [cellsInt, Value.cells] using this
  have h3 : DataW.trod enc Tryz.prog W 0 (fun _ => true) true n 3 [c3] = some y3 := by have := hf 3 _ rfl; simpa [cellsInt, Value.cells] using this
  have h4 : DataW.trod enc Tryz.prog W 0 (fun _ => true) true n 22 [c4] = some y4 := by have := hf 4 _ rfl; simpa [cellsPasses, Value.cells] using this
  obtain ⟨x0, e0, _, _⟩ := DataW.trod_int Tryz.underlying3 h0
  obtain ⟨x1, e1, _, _⟩ := DataW.trod_int Tryz.underlying3 h1
  obtain ⟨x2, e2, _, _⟩ := DataW.trod_int Tryz.underlying3 h2
  obtain ⟨x3, e3, _, _⟩ := DataW.trod_int Tryz.underlying3 h3
  obtain ⟨a, len, cap, ps, e4, hP⟩ := passes_of h4
  simp at e0 e1 e2 e3
  subst e0 e1 e2 e3 e4
  exact ⟨x0, x1, x2, x3, a, len, cap, ps, rfl, hP⟩
end Go.Proofs.YtifokbkhcaajnaaGreat
/-
  OPENP: how a plan that comes in as an argument is read.
-/
namespace Go.Proofs.YtifokbkhcaajnaaGreat
set_option maxRecDepth 100000
open Go.ChangeShapes Go.WideShapes Go.ChangeAt Go.RowKit Go.Joins

theorem cellsPlan : Tryz.prog.cellsOf 27 = 2 := by kernel_rfl
/-- A slice of numbers that came in, and its capacity. -/
theorem ints_cap {H : Type} {enc : TypeId × Value → H} {W : World} {n : Nat} {v : Value} {y : DataW H × List MemPlace} (h : DataW.trod enc Tryz.prog W 0 (fun _ => true) true n 25 [v] = some y) :
    ∃ a len cap ps, v = .slice a len cap ∧ len ≤ cap ∧ Ints 0 W a len ps := by
  obtain ⟨a, len, cap, ps, e, hi⟩ := ints_in h
  refine ⟨a, len, cap, ps, e, ?_, hi⟩
  rcases open_ints Tryz.underlying25 Tryz.underlying3 cellsInt h with ⟨hcs, _⟩ | ⟨x, l, c, zs, hcs, _, hl, _⟩
  · simp at hcs
    rw [hcs] at e
    injection e with e1 e2 e3
    omega
  · simp at hcs
    rw [hcs] at e
    injection e with e1 e2 e3
    omega
/-- A plan that came in. -/
theorem plan_in {H : Type} {enc : TypeId × Value → H} {W : World} {b0 : Nat} {v : Value} {d : DataW H} {p : List MemPlace} (hv : Value.okWide Tryz.prog W .any b0 27 v) (h : DataW.Trod enc Tryz.prog W 0 (fun _ => true) true 27 v d p) :
    ∃ oa olen ocap os pa plen pcap pl, v = .agg #[.slice oa olen ocap, .slice pa plen pcap] ∧ Ints 0 W oa olen os ∧ olen ≤ ocap ∧ Ints 0 W pa plen pl := by
  obtain ⟨v0, v1, y0, y1, n, rfl, _, _, h0, h1⟩ := open_agg2 Tryz.underlying27 (by kernel_rfl) cellsPlan hv h
  obtain ⟨oa, olen, ocap, os, e0, hc, hO⟩ := ints_cap h0
  obtain ⟨pa, plen, pcap, pl, e1, _, hL⟩ := ints_cap h1
  subst e0 e1
  exact ⟨oa, olen, ocap, os, pa, plen, pcap, pl, rfl, hO, hc, hL⟩
end Go.Proofs.YtifokbkhcaajnaaGreat
/-
  OPENA: how a slice of numbers that comes in as an argument is read.
-/
namespace Go.Proofs.YtifokbkhcaajnaaGreat
set_option maxRecDepth 100000
open Go.ChangeShapes Go.WideShapes Go.ChangeAt Go.RowKit Go.Joins

/-- Numbers that came in. -/
theorem arena_in {H : Type} {enc : TypeId × Value → H} {W : World} {b0 : Nat} {v : Value} {d : DataW H} {p : List MemPlace} (hv : Value.okWide Tryz.prog W .any b0 25 v) (h : DataW.Trod enc Tryz.prog W 0 (fun _ => true) true 25 v d p) :
    ∃ a len cap ps, v = .slice a len cap ∧ len ≤ cap ∧ Ints 0 W a len ps := by
  obtain ⟨a0, len, cap, rfl⟩ := okWide_slice Tryz.underlying25 hv
  obtain ⟨n, hn⟩ := h
  have hcs : (Value.slice a0 len cap).cells.toList = [.slice a0 len cap] := rfl
  rw [hcs] at hn
  exact ints_cap hn
end Go.Proofs.YtifokbkhcaajnaaGreat
