/- WireRead, WireEye, PassRef2, RefCheck, PassRef3, SizeRef, RefCheck2: joined, in this order. -/
import Derived.Test.YtaenpgdmiaekcaaGreatDoorM17
import Derived.Defers
import Derived.Recover
import Derived.Test.YtaenpgdmiaekcaaGreatDoorM14
import Derived.Test.YtaenpgdmiaekcaaGreatDoorM12
import Derived.Test.YtaenpgdmiaekcaaGreatDoorM13
import Derived.Deep.RegionHeld3
import Derived.Deep.CutRange
import Derived.BigQuiet
import Derived.Test.YtaenpgdmiaekcaaGreatDoorM07
import Derived.Test.YtaenpgdmiaekcaaGreatDoorM06
import Derived.Test.YtaenpgdmiaekcaaGreatDoorM09
import Derived.Test.YtaenpgdmiaekcaaGreatDoorM02
/-
  WIREREAD: wire.Read.
-/
namespace Go.Proofs.YtaenpgdmiaekcaaGreatDoor
set_option maxRecDepth 100000
open Go.RowKit Im

/-- What Read is told by, of bytes that are not too many. -/
def ToldRead (w : World) (r : List Int) (e : Ending) (w' : World) : Prop :=
  Below w.heap.size w w' ∧ ((readOk r ∧ ∃ a c L, e = .returned (.tuple #[.agg #[.int .i64 (rdFrame r).W, .int .i64 (rdFrame r).H, .int .i64 (rdFrame r).S, .int .i64 (rdFrame r).O, .slice a (rdFrame r).ps.length c], .int .i64 0]) ∧ RowP w.heap.size w' (.slice a (rdFrame r).ps.length c) L ∧ L.map Prod.fst = (rdFrame r).ps) ∨ (¬ readOk r ∧ e = .returned (.tuple #[.agg #[.int .i64 0, .int .i64 0, .int .i64 0, .int .i64 0, .slice none 0 0], .int .i64 1])))
/-- A box of one value that may be written. -/
structure WBox1 (w : World) (b : Nat) : Prop where
  lt : b < w.heap.size
  c : ∃ v, w.cell? ⟨b, 0, none⟩ = some v
  fz : w.frozen? ⟨b, 0, none⟩ = false
theorem WBox1.below {w w' : World} {b B : Nat} (h : WBox1 w b) (hb : Below B w w') (hB : b < B) (hs : w.heap.size ≤ w'.heap.size) : WBox1 w' b :=
  ⟨Nat.lt_of_lt_of_le h.lt hs, by obtain ⟨v, hv⟩ := h.c; exact ⟨v, (hb.cell (p := ⟨b, 0, none⟩) hB).trans hv⟩, (hb.frozen (p := ⟨b, 0, none⟩) hB).trans h.fz⟩
theorem WBox5.below {w w' : World} {b B : Nat} (h : WBox5 w b) (hb : Below B w w') (hB : b < B) (hs : w.heap.size ≤ w'.heap.size) : WBox5 w' b :=
  ⟨Nat.lt_of_lt_of_le h.lt hs, fun j hj => by obtain ⟨v, hv⟩ := h.c j hj; exact ⟨v, (hb.cell (p := ⟨b, j, none⟩) hB).trans hv⟩, fun o => (hb.frozen (p := ⟨b, o, none⟩) hB).trans (h.fz o)⟩
theorem read_catch (p q : Nat) (u : TypeId) (pv : Value) (older : List PanicEntry) (w : World) (hne : p ≠ q) (hp : WBox5 w p) (hq : WBox1 w q) :
    CallsD Tryz.prog 28 #[.pointer (some ⟨p, 0, none⟩), .pointer (some ⟨q, 0, none⟩)] (.panicking ({ v := .iface u pv, recovered := false } :: older)) w fun e u' w' =>
      e = .returned (.tuple #[]) ∧ u' = .panicking ({ v := .iface u pv, recovered := true } :: older) ∧ w' = (set5 w p (.int .i64 0) (.int .i64 0) (.int .i64 0) (.int .i64 0) (.slice none 0 0)).setCell ⟨q, 0, none⟩ (.int .i64 1) := by
  obtain ⟨v0, k0⟩ := hp.c 0 (by decide)
  obtain ⟨v1, k1⟩ := hp.c 1 (by decide)
  obtain ⟨v2, k2⟩ := hp.c 2 (by decide)
  obtain ⟨v3, k3⟩ := hp.c 3 (by decide)
  obtain ⟨v4, k4⟩ := hp.c 4 (by decide)
  obtain ⟨u0, c0⟩ := hq.c
  have f0 := hp.fz 0
  have f1 := hp.fz 1
  have f2 := hp.fz 2
  have f3 := hp.fz 3
  have f4 := hp.fz 4
  have fq := hq.fz
  refine callsD_of_wpS Tryz.func28 rfl fun c₀ cs hu => ?_
  apply wpS_seq
  apply wpS_region
  simp [wpOpsS, go_sem, recoverD, hu, Tryz.ntmps28, Exit.thenS]
  refine wpS_cond (t := true) (by simp [Act.eval, Array.replicate]) ?_
  simp only [if_true]
  apply wpS_region
  simp [wpOpsS, go_sem, *, bodyPostS, results, Tryz.results28]
theorem read_idle (p q : Addr) (w : World) :
    CallsD Tryz.prog 28 #[.pointer (some p), .pointer (some q)] .returning w fun e u' w' => e = .returned (.tuple #[]) ∧ u' = .returning ∧ w' = w := by
  refine callsD_of_wpS Tryz.func28 rfl fun c₀ cs hu => ?_
  apply wpS_seq
  apply wpS_region
  simp [wpOpsS, go_sem, recoverD, hu, Tryz.ntmps28, Exit.thenS]
  refine wpS_cond (t := false) (by simp [Act.eval, Array.replicate]) ?_
  simp only [Bool.false_eq_true, if_false]
  refine wpS_of_wp (wp_skip ?_)
  cases c₀
  simp_all [bodyPostS, results, Tryz.results28]
set_option maxHeartbeats 2000000 in
theorem read_many {s : ByteArray} (hs : 2048 < s.size) (w : World) :
    Calls Tryz.prog 11 #[.string s] w fun e w' => e = .returned (.tuple #[.agg #[.int .i64 0, .int .i64 0, .int .i64 0, .int .i64 0, .slice none 0 0], .int .i64 2]) ∧ Below w.heap.size w w' := by
  have hI : (2048 : Int) < (s.size : Int) := by omega
  have hb := below_box (below_box (Below.refl w.heap.size w) (.cells #[.int .i64 0, .int .i64 0, .int .i64 0, .int .i64 0, .slice none 0 0] 35)) (.cells #[.int .i64 2] 25)
  go_enter_defers Tryz.func11, Tryz.ntmps11
  go_wp2
  exact ⟨_, by simp [results, Tryz.results11, go_sem], rfl, hb⟩
set_option maxHeartbeats 4000000 in
theorem read_any {r : List Int} (hby : Bytes r) (hfew : r.length ≤ 2048) (w : World) :
    Calls Tryz.prog 11 #[.string (strOfNums r)] w (ToldRead w r) := by
  have hmf : ∀ (fn : Fn) (first cap : Array Value) (w : World), (Instr.makeFunc fn first cap).run Tryz.prog w = .ok (.func fn first cap) w := fun _ _ _ _ => rfl
  have hsz : (strOfNums r).size = r.length := strOfNums_size r
  have hI : ¬ (2048 : Int) < (r.length : Int) := by omega
  have hb0 := below_box (below_box (Below.refl w.heap.size w) (.cells #[.int .i64 0, .int .i64 0, .int .i64 0, .int .i64 0, .slice none 0 0] 35)) (.cells #[.int .i64 0] 25)
  have hP0 := (WBox5.new w (.int .i64 0) (.int .i64 0) (.int .i64 0) (.int .i64 0) (.slice none 0 0) 35).grown (row := none) (grown_alloc (World.grownBy.refl _ _) (.cells #[.int .i64 0] 25)) (by simp)
  have hQ0 : WBox1 ((w.alloc (.cells #[.int .i64 0, .int .i64 0, .int .i64 0, .int .i64 0, .slice none 0 0] 35)).alloc (.cells #[.int .i64 0] 25)) (w.heap.size + 1) :=
    ⟨by simp, ⟨.int .i64 0, by simp [go_sem]⟩, by have := frozen_new (w.alloc (.cells #[.int .i64 0, .int .i64 0, .int .i64 0, .int .i64 0, .slice none 0 0] 35)) #[.int .i64 0] 25 0; rw [World.size_alloc] at this; exact this⟩
  have hrt := rightFrame_any hby (by omega) ((w.alloc (.cells #[.int .i64 0, .int .i64 0, .int .i64 0, .int .i64 0, .slice none 0 0] 35)).alloc (.cells #[.int .i64 0] 25))
  have hs2 : w.heap.size + 2 ≤ ((w.alloc (.cells #[.int .i64 0, .int .i64 0, .int .i64 0, .int .i64 0, .slice none 0 0] 35)).alloc (.cells #[.int .i64 0] 25)).heap.size := by simp
  go_enter_defers Tryz.func11, Tryz.ntmps11
  go_wp2_with fail
  generalize (w.alloc (.cells #[.int .i64 0, .int .i64 0, .int .i64 0, .int .i64 0, .slice none 0 0] 35)).alloc (.cells #[.int .i64 0] 25) = w0 at *
  refine hrt.mono ?_
  clear hrt
  rintro e w1 ⟨b1, ⟨hok, a, c, L, rfl, hL, hmap⟩ | ⟨hok, rfl⟩⟩
  · have hP1 := hP0.below b1 hP0.lt b1.size
    have hQ1 := hQ0.below b1 hQ0.lt b1.size
    obtain ⟨v0, k0⟩ := hP1.c 0 (by decide)
    obtain ⟨v1, k1⟩ := hP1.c 1 (by decide)
    obtain ⟨v2, k2⟩ := hP1.c 2 (by decide)
    obtain ⟨v3, k3⟩ := hP1.c 3 (by decide)
    obtain ⟨v4, k4⟩ := hP1.c 4 (by decide)
    obtain ⟨u0, c0⟩ := hQ1.c
    have f0 := hP1.fz 0
    have f1 := hP1.fz 1
    have f2 := hP1.fz 2
    have f3 := hP1.fz 3
    have f4 := hP1.fz 4
    have fq := hQ1.fz
    obtain ⟨t0, t1, t2, t3, t4⟩ := hP1.sets (.int .i64 (rdFrame r).W) (.int .i64 (rdFrame r).H) (.int .i64 (rdFrame r).S) (.int .i64 (rdFrame r).O) (.slice a (rdFrame r).ps.length c)
    have hne : ∀ j, (⟨w.heap.size + 1, 0, none⟩ : Addr) ≠ ⟨w.heap.size, j, none⟩ := fun j e => by injection e with e; omega
    have tq : ((set5 w1 w.heap.size (.int .i64 (rdFrame r).W) (.int .i64 (rdFrame r).H) (.int .i64 (rdFrame r).S) (.int .i64 (rdFrame r).O) (.slice a (rdFrame r).ps.length c)).setCell ⟨w.heap.size + 1, 0, none⟩ (.int .i64 0)).cell? ⟨w.heap.size + 1, 0, none⟩ = some (.int .i64 0) := set_same (by
      unfold set5
      rw [set_other _ (hne 4).symm, set_other _ (hne 3).symm, set_other _ (hne 2).symm, set_other _ (hne 1).symm, set_other _ (hne 0).symm]
      exact c0)
    have s0 := (set_other (.int .i64 0) (hne 0)).trans t0
    have s1 := (set_other (.int .i64 0) (hne 1)).trans t1
    have s2 := (set_other (.int .i64 0) (hne 2)).trans t2
    have s3 := (set_other (.int .i64 0) (hne 3)).trans t3
    have s4 := (set_other (.int .i64 0) (hne 4)).trans t4
    have HFIN : Hid (ToldRead w r (.returned (.tuple #[.agg #[.int .i64 (rdFrame r).W, .int .i64 (rdFrame r).H, .int .i64 (rdFrame r).S, .int .i64 (rdFrame r).O, .slice a (rdFrame r).ps.length c], .int .i64 0])) ((set5 w1 w.heap.size (.int .i64 (rdFrame r).W) (.int .i64 (rdFrame r).H) (.int .i64 (rdFrame r).S) (.int .i64 (rdFrame r).O) (.slice a (rdFrame r).ps.length c)).setCell ⟨w.heap.size + 1, 0, none⟩ (.int .i64 0))) := by
      show ToldRead _ _ _ _
      have hx : w.heap.size < w0.heap.size := by omega
      have hx1 : w.heap.size + 1 < w0.heap.size := by omega
      have X := (((((hL.setBelow (p := ⟨w.heap.size, 0, none⟩) hx (.int .i64 (rdFrame r).W)).setBelow (p := ⟨w.heap.size, 1, none⟩) hx (.int .i64 (rdFrame r).H)).setBelow (p := ⟨w.heap.size, 2, none⟩) hx (.int .i64 (rdFrame r).S)).setBelow (p := ⟨w.heap.size, 3, none⟩) hx (.int .i64 (rdFrame r).O)).setBelow (p := ⟨w.heap.size, 4, none⟩) hx (.slice a (rdFrame r).ps.length c)).setBelow (p := ⟨w.heap.size + 1, 0, none⟩) hx1 (.int .i64 0)
      exact ⟨((((((below_step hb0 b1).setCell (p := ⟨w.heap.size, 0, none⟩) (Nat.le_refl _) _).setCell (p := ⟨w.heap.size, 1, none⟩) (Nat.le_refl _) _).setCell (p := ⟨w.heap.size, 2, none⟩) (Nat.le_refl _) _).setCell (p := ⟨w.heap.size, 3, none⟩) (Nat.le_refl _) _).setCell (p := ⟨w.heap.size, 4, none⟩) (Nat.le_refl _) _).setCell (p := ⟨w.heap.size + 1, 0, none⟩) (Nat.le_succ _) _, .inl ⟨hok, a, c, L, rfl, ⟨World.ownsRow.mono X.1 (by omega), fun x hx => (X.2 x hx).mono (by omega)⟩, hmap⟩⟩
    clear hL hmap hP1 hQ1 hP0 hQ0 t0 t1 t2 t3 t4 hne
    generalize rdFrame r = f at *
    go_wp2
    refine leaves_cons (f := 28) (args := #[.pointer (some ⟨w.heap.size, 0, none⟩), .pointer (some ⟨w.heap.size + 1, 0, none⟩)]) (by simp) (by simp [go_sem]) ?_
    refine (read_idle _ _ _).mono ?_
    rintro e u' w'' ⟨rfl, rfl, rfl⟩
    exact ⟨_, by simp [results, Tryz.results11, go_sem, s0, s1, s2, s3, s4, tq], HFIN.out⟩
  · have hP1 := hP0.below b1 hP0.lt b1.size
    have hQ1 := hQ0.below b1 hQ0.lt b1.size
    obtain ⟨t0, t1, t2, t3, t4⟩ := hP1.sets (.int .i64 0) (.int .i64 0) (.int .i64 0) (.int .i64 0) (.slice none 0 0)
    have hne : ∀ j, (⟨w.heap.size + 1, 0, none⟩ : Addr) ≠ ⟨w.heap.size, j, none⟩ := fun j e => by injection e with e; omega
    obtain ⟨u0, c0⟩ := hQ1.c
    have tq : ((set5 w1 w.heap.size (.int .i64 0) (.int .i64 0) (.int .i64 0) (.int .i64 0) (.slice none 0 0)).setCell ⟨w.heap.size + 1, 0, none⟩ (.int .i64 1)).cell? ⟨w.heap.size + 1, 0, none⟩ = some (.int .i64 1) := set_same (by
      unfold set5
      rw [set_other _ (hne 4).symm, set_other _ (hne 3).symm, set_other _ (hne 2).symm, set_other _ (hne 1).symm, set_other _ (hne 0).symm]
      exact c0)
    have s0 := (set_other (.int .i64 1) (hne 0)).trans t0
    have s1 := (set_other (.int .i64 1) (hne 1)).trans t1
    have s2 := (set_other (.int .i64 1) (hne 2)).trans t2
    have s3 := (set_other (.int .i64 1) (hne 3)).trans t3
    have s4 := (set_other (.int .i64 1) (hne 4)).trans t4
    have HB : Hid (_) := ((((((below_step hb0 b1).setCell (p := ⟨w.heap.size, 0, none⟩) (Nat.le_refl _) (.int .i64 0)).setCell (p := ⟨w.heap.size, 1, none⟩) (Nat.le_refl _) (.int .i64 0)).setCell (p := ⟨w.heap.size, 2, none⟩) (Nat.le_refl _) (.int .i64 0)).setCell (p := ⟨w.heap.size, 3, none⟩) (Nat.le_refl _) (.int .i64 0)).setCell (p := ⟨w.heap.size, 4, none⟩) (Nat.le_refl _) (.slice none 0 0)).setCell (p := ⟨w.heap.size + 1, 0, none⟩) (Nat.le_succ _) (.int .i64 1)
    refine leaves_cons (f := 28) (args := #[.pointer (some ⟨w.heap.size, 0, none⟩), .pointer (some ⟨w.heap.size + 1, 0, none⟩)]) (by simp) (by simp [go_sem]) ?_
    refine (read_catch w.heap.size (w.heap.size + 1) _ _ [] w1 (by omega) hP1 hQ1).mono ?_
    rintro e u' w'' ⟨rfl, rfl, rfl⟩
    simp [Leaves, settle, results, Tryz.results11, go_sem, s0, s1, s2, s3, s4, tq]
    exact ⟨HB.out, .inr ⟨hok, rfl⟩⟩
end Go.Proofs.YtaenpgdmiaekcaaGreatDoor
/-
  WIREEYE: the reference's eye.
-/
namespace Go.Proofs.YtaenpgdmiaekcaaGreatDoor
set_option maxRecDepth 100000
open Go.RowKit Im

end Go.Proofs.YtaenpgdmiaekcaaGreatDoor
/-
  PASSREF2: the reference's passError, whatever it is handed.
-/
namespace Go.Proofs.YtaenpgdmiaekcaaGreatDoor
set_option maxRecDepth 100000
open Go.RowKit Im

end Go.Proofs.YtaenpgdmiaekcaaGreatDoor
/-
  REFCHECK: the reference's CheckFrame, of a frame whose bounds are not right; the sizes by slots in memory.
-/
namespace Go.Proofs.YtaenpgdmiaekcaaGreatDoor
set_option maxRecDepth 100000
open Go.RowKit Im

/-- The sizes by slots lie in a block of their own. -/
structure In (w : World) (b : Nat) (S : Nat) (g : Int → Sz) : Prop where
  lt : b < w.heap.size
  cells : ∀ m : Nat, m < S → w.cell? ⟨b, 0 + m * 2, none⟩ = some (.int .i64 (g m).1) ∧ w.cell? ⟨b, 0 + m * 2 + 1, none⟩ = some (.int .i64 (g m).2)
  froz : ∀ o, w.frozen? ⟨b, o, none⟩ = false
theorem In.below {w w' : World} {b S B : Nat} {g : Int → Sz} (h : In w b S g) (hb : Below B w w') (hB : b < B) (hs : w.heap.size ≤ w'.heap.size) : In w' b S g :=
  ⟨Nat.lt_of_lt_of_le h.lt hs, fun m hm => ⟨(hb.cell (p := ⟨b, 0 + m * 2, none⟩) hB).trans (h.cells m hm).1, (hb.cell (p := ⟨b, 0 + m * 2 + 1, none⟩) hB).trans (h.cells m hm).2⟩, fun o => (hb.frozen (p := ⟨b, o, none⟩) hB).trans (h.froz o)⟩
theorem In.put {w : World} {b S : Nat} {g g' : Int → Sz} (h : In w b S g) (m : Nat) (z : Sz) (hm : m < S) (hg : ∀ j : Nat, g' j = if (m : Int) = j then z else g j) : In ((w.setCell ⟨b, 0 + m * 2, none⟩ (.int .i64 z.1)).setCell ⟨b, 0 + m * 2 + 1, none⟩ (.int .i64 z.2)) b S g' := by
  refine ⟨by simpa using h.lt, fun j hj => ?_, fun o => by simpa using h.froz o⟩
  rw [hg j]
  by_cases e : m = j
  · subst e
    rw [if_pos rfl]
    exact ⟨(set_other _ (fun e => by injection e with e1 e2; omega)).trans (set_same (h.cells m hm).1), set_same ((set_other _ (fun e => by injection e with e1 e2; omega)).trans (h.cells m hm).2)⟩
  · rw [if_neg (by omega)]
    refine ⟨?_, ?_⟩
    · rw [set_other _ (fun e => by injection e with e1 e2; omega), set_other _ (fun e => by injection e with e1 e2; omega)]; exact (h.cells j hj).1
    · rw [set_other _ (fun e => by injection e with e1 e2; omega), set_other _ (fun e => by injection e with e1 e2; omega)]; exact (h.cells j hj).2
end Go.Proofs.YtaenpgdmiaekcaaGreatDoor
/-
  PASSREF3: the reference's passError tells refE.
-/
namespace Go.Proofs.YtaenpgdmiaekcaaGreatDoor
set_option maxRecDepth 100000
open Go.RowKit Im

end Go.Proofs.YtaenpgdmiaekcaaGreatDoor
/-
  SIZEREF: the reference's sizeOf: how great what a pass makes is.
-/
namespace Go.Proofs.YtaenpgdmiaekcaaGreatDoor
set_option maxRecDepth 100000
open Go.RowKit Im

end Go.Proofs.YtaenpgdmiaekcaaGreatDoor
/-
  REFCHECK2: the reference's sizeOf, at a pass of a frame; how its sizes by slots begin.
-/
namespace Go.Proofs.YtaenpgdmiaekcaaGreatDoor
set_option maxRecDepth 100000
open Go.RowKit Im

theorem In.made {w : World} {base b N cap : Nat} (h : w.ownsRow base 75 2 (.slice (some ⟨b, 0, none⟩) N cap) N (madeCells (Value.agg #[.int .i64 0, .int .i64 0]).cells (N * 2)).toList) (hb : b < w.heap.size) : In w b N (fun _ => (0, 0)) := by
  have hc : ∀ j, j < N * 2 → w.cell? ⟨b, j, none⟩ = some (.int .i64 0) := by
    intro j hj
    rw [World.ownsRow.cellAt h j hj]
    have e : (Value.agg #[.int .i64 0, .int .i64 0]).cells = #[.int .i64 0, .int .i64 0] := rfl
    rw [e]
    simp only [madeCells, Array.toList_map, Array.toList_range, List.getElem?_map, List.getElem?_range hj, Option.map_some]
    congr 1
    have : j % 2 = 0 ∨ j % 2 = 1 := by omega
    show (#[Value.int .i64 0, Value.int .i64 0] : Array Value)[j % 2]! = _
    rcases this with e | e <;> rw [e] <;> rfl
  exact ⟨hb, fun m hm => ⟨hc _ (by omega), hc _ (by omega)⟩, fun o => World.ownsRow.frozenAt h o⟩
end Go.Proofs.YtaenpgdmiaekcaaGreatDoor
