/-
  OPENL: how a list of lights that comes in as an argument is read.
-/
import Derived.Test.YtfpkiimlaepnhaaOpen
import Derived.Test.YtfpkiimlaepnhaaLamp
import Derived.Deep.Slices
namespace Go.Proofs.Ytfpkiimlaepnhaa
set_option maxRecDepth 100000
open Go.ChangeShapes Go.WideShapes Go.ChangeAt Go.RowKit Go.Joins Go.Deep

instance : Inhabited Lt := ⟨Lt.zero⟩
theorem cellsLight : Try.prog.cellsOf 59 = 4 := by kernel_rfl
theorem list4 {cs : List Value} (h : cs.length = 4) : ∃ c0 c1 c2 c3, cs = [c0, c1, c2, c3] := by
  match cs, h with
  | [c0, c1, c2, c3], _ => exact ⟨c0, c1, c2, c3, rfl⟩
/-- A light's four cells, read. -/
theorem light_cells {H : Type} {enc : TypeId × Value → H} {W : World} {n : Nat} {cs : List Value} {y : DataW H × List MemPlace} (h : DataW.trod enc Try.prog W 0 (fun _ => true) true n 59 cs = some y) :
    ∃ l : Lt, cs = [.int .i64 l.X, .int .i64 l.Y, .int .i64 l.R, .int .i64 l.P] := by
  obtain ⟨y0, y1, y2, y3, n, _, hl, h0, h1, h2, h3⟩ := trod_struct4 Try.underlying59 h
  rw [cellsLight] at hl
  obtain ⟨c0, c1, c2, c3, rfl⟩ := list4 hl
  simp only [cellsInt] at h0 h1 h2 h3
  obtain ⟨x0, e0, _, _⟩ := DataW.trod_int Try.underlying3 h0
  obtain ⟨x1, e1, _, _⟩ := DataW.trod_int Try.underlying3 h1
  obtain ⟨x2, e2, _, _⟩ := DataW.trod_int Try.underlying3 h2
  obtain ⟨x3, e3, _, _⟩ := DataW.trod_int Try.underlying3 h3
  simp at e0 e1 e2 e3
  subst e0 e1 e2 e3
  exact ⟨⟨x0, x1, x2, x3⟩, rfl⟩
/-- A list of lights that came in. -/
theorem lights_in {H : Type} {enc : TypeId × Value → H} {W : World} {b0 : Nat} {v : Value} {d : DataW H} {p : List MemPlace} (hv : Value.okWide Try.prog W .any b0 45 v) (h : DataW.Trod enc Try.prog W 0 (fun _ => true) true 45 v d p) :
    ∃ a len cap ls, v = .slice a len cap ∧ Lights W a len ls := by
  obtain ⟨a0, len, cap, rfl⟩ := okWide_slice Try.underlying45 hv
  obtain ⟨n, hn⟩ := h
  have hcs : (Value.slice a0 len cap).cells.toList = [.slice a0 len cap] := rfl
  rw [hcs] at hn
  rcases open_slice Try.underlying45 hn with ⟨e, _⟩ | ⟨x, l, c, m, n', D, Pl, e, _, hl, hm, hmm, _, hx⟩
  · simp at e
    obtain ⟨rfl, rfl, rfl⟩ := e
    exact ⟨none, 0, 0, [], rfl, rfl, by omega, .inl rfl⟩
  · simp at e
    obtain ⟨rfl, rfl, rfl⟩ := e
    simp at hmm
    subst hmm
    rw [cellsLight] at hx
    have each : ∀ i, i < m → ∃ lt : Lt, ∀ j, j < 4 → W.cell? (x.add (i * 4) |>.add j) = [Value.int .i64 lt.X, .int .i64 lt.Y, .int .i64 lt.R, .int .i64 lt.P][j]? := fun i hi => by
      obtain ⟨cs', h1, h2⟩ := hx i hi
      obtain ⟨lt, rfl⟩ := light_cells h2
      exact ⟨lt, (World.cells?_some h1).2.2⟩
    obtain ⟨L, hL⟩ := choose_lt each
    unfold maxLen at hm
    refine ⟨some x, len, m, (List.range len).map L, rfl, by simp, by omega, ?_⟩
    by_cases h0 : len = 0
    · subst h0; exact .inl rfl
    · right
      have h00 := hL 0 (by omega) 0 (by omega)
      obtain ⟨b, off, spot⟩ := x
      have hspot : spot = none := by simpa [Addr.add] using World.cell?_spot (h00.trans rfl)
      subst hspot
      refine ⟨b, off, rfl, ?_, fun j hj => ?_⟩
      · have := World.block_lt_of_cell? W _ (h00.trans rfl)
        simpa [Addr.add] using this
      · have g : ((List.range len).map L).getD j Lt.zero = L j := by simp [List.getD_eq_getElem?_getD, hj]
        rw [g]
        have q := hL j (by omega)
        simp only [addr_add] at q
        exact ⟨q 0 (by omega), q 1 (by omega), q 2 (by omega), q 3 (by omega)⟩
end Go.Proofs.Ytfpkiimlaepnhaa
