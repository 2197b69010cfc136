/- RefCheck3, WireFrom, WireX, Apart: joined, in this order. -/
import Derived.Test.YtaenpgdmiaekcaaGreatDoorM18
import Derived.Test.YtaenpgdmiaekcaaGreatDoorM01
/-
  REFCHECK3: the reference's CheckFrame.
-/
namespace Go.Proofs.YtaenpgdmiaekcaaGreatDoor
set_option maxRecDepth 100000
open Go.RowKit Im

theorem FBox.set {w : World} {b : Nat} {W H S O : Int} {a : Option Addr} {len cap : Nat} (h : FBox w b W H S O a len cap) {p : Addr} (hp : p.block ≠ b) (v : Value) : FBox (w.setCell p v) b W H S O a len cap := by
  obtain ⟨h0, h1, h2, h3, h4, h5⟩ := h
  have hn : ∀ o, p ≠ (⟨b, o, none⟩ : Addr) := fun o e => hp (by rw [e])
  exact ⟨by simpa using h0, (set_other _ (hn 0)).trans h1, (set_other _ (hn 1)).trans h2, (set_other _ (hn 2)).trans h3, (set_other _ (hn 3)).trans h4, (set_other _ (hn 4)).trans h5⟩
theorem FBox.keep {w w' : World} {b B : Nat} {W H S O : Int} {a : Option Addr} {len cap : Nat} (h : FBox w b W H S O a len cap) (hb : Below B w w') (hB : b < B) (hs : w.heap.size ≤ w'.heap.size) : FBox w' b W H S O a len cap := by
  obtain ⟨h0, h1, h2, h3, h4, h5⟩ := h
  exact ⟨Nat.lt_of_lt_of_le h0 hs, (hb.cell (p := ⟨b, 0, none⟩) hB).trans h1, (hb.cell (p := ⟨b, 1, none⟩) hB).trans h2, (hb.cell (p := ⟨b, 2, none⟩) hB).trans h3, (hb.cell (p := ⟨b, 3, none⟩) hB).trans h4, (hb.cell (p := ⟨b, 4, none⟩) hB).trans h5⟩
end Go.Proofs.YtaenpgdmiaekcaaGreatDoor
/-
  WIREFROM: the reference's FrameFrom.
-/
namespace Go.Proofs.YtaenpgdmiaekcaaGreatDoor
set_option maxRecDepth 100000
open Go.RowKit Im

theorem QBox.new (w : World) (Op To A B K : Int) (v : Value) : QBox (w.alloc (.cells #[.int .i64 Op, .int .i64 To, .int .i64 A, .int .i64 B, .int .i64 K, v] 72)) w.heap.size Op To A B K v :=
  ⟨by simp, by simp [go_sem], by simp [go_sem], by simp [go_sem], by simp [go_sem], by simp [go_sem], by simp [go_sem], fun o => frozen_new w _ _ o⟩
theorem RdB.set {w : World} {b : Nat} {r : List Int} (h : RdB w b r) {p : Addr} (hp : p.block ≠ b) (v : Value) : RdB (w.setCell p v) b r :=
  ⟨(set_other _ (fun e => hp (by rw [e]))).trans h.cell, by simpa using h.fz, h.bytes, h.few⟩
end Go.Proofs.YtaenpgdmiaekcaaGreatDoor
/-
  WIREX: Read and FrameFrom, told in one form; strings and their bytes.
-/
namespace Go.Proofs.YtaenpgdmiaekcaaGreatDoor
set_option maxRecDepth 100000
open Go.RowKit Im

/-- The bytes of a string. -/
def numsOf (s : ByteArray) : List Int := s.data.toList.map fun u => (u.toNat : Int)
theorem numsOf_str (s : ByteArray) : strOfNums (numsOf s) = s := by
  apply ByteArray.ext
  apply Array.toList_inj.1
  rw [strOfNums_data]
  unfold numsOf
  rw [List.map_map]
  conv => rhs; rw [← List.map_id s.data.toList]
  refine List.map_congr_left fun u _ => ?_
  simp
theorem numsOf_bytes (s : ByteArray) : Bytes (numsOf s) := by
  intro x hx
  unfold numsOf at hx
  obtain ⟨u, _, rfl⟩ := List.mem_map.1 hx
  have := u.toNat_lt
  omega
theorem numsOf_len (s : ByteArray) : (numsOf s).length = s.size := by
  show (s.data.toList.map _).length = s.data.size
  rw [List.length_map, Array.length_toList]
open Classical in
/-- The frame that is read, and the error. -/
noncomputable def rdF (r : List Int) : Fr := if readOk r then rdFrame r else ⟨0, 0, 0, 0, []⟩
open Classical in
noncomputable def rdE (r : List Int) : Int := if readOk r then 0 else 1
/-- A frame, and a value, are handed back. -/
def ToldX (w : World) (f : Fr) (v : Value) (e : Ending) (w' : World) : Prop :=
  ∃ a c, e = .returned (.tuple #[.agg #[.int .i64 f.W, .int .i64 f.H, .int .i64 f.S, .int .i64 f.O, .slice a f.ps.length c], v]) ∧ Passes w' a f.ps.length f.ps ∧ Below w.heap.size w w'
theorem Passes.none (w : World) : Passes w none 0 [] := ⟨rfl, by omega, .inl rfl⟩
theorem rowP_slice {base : Nat} {w : World} {a : Option Addr} {c : Nat} {L : Lp} {ps : List Ps} (h : RowP base w (.slice a ps.length c) L) (hm : L.map Prod.fst = ps) (hl : ps.length ≤ 4096) : Passes w a ps.length ps := by
  obtain ⟨a', c', e, hp⟩ := h.passes' hm (by rw [← hm, List.length_map] at hl; exact hl)
  injection e with e1 _ _
  subst e1
  exact hp
theorem read_x {r : List Int} (hby : Bytes r) (hfew : r.length ≤ 2048) (w : World) : Calls Tryz.prog 11 #[.string (strOfNums r)] w (ToldX w (rdF r) (.int .i64 (rdE r))) := by
  refine (read_any hby hfew w).mono ?_
  rintro e w' ⟨hb, ⟨hok, a, c, L, rfl, hL, hm⟩ | ⟨hok, rfl⟩⟩
  · have h1 : rdF r = rdFrame r := by unfold rdF; rw [if_pos hok]
    have h2 : rdE r = 0 := by unfold rdE; rw [if_pos hok]
    unfold ToldX
    rw [h1, h2]
    exact ⟨a, c, rfl, rowP_slice hL hm (passes_few r hby), hb⟩
  · have h1 : rdF r = ⟨0, 0, 0, 0, []⟩ := by unfold rdF; rw [if_neg hok]
    have h2 : rdE r = 1 := by unfold rdE; rw [if_neg hok]
    unfold ToldX
    rw [h1, h2]
    exact ⟨none, 0, rfl, Passes.none _, hb⟩
theorem read_big {s : ByteArray} (hs : 2048 < s.size) (w : World) : Calls Tryz.prog 11 #[.string s] w (ToldX w ⟨0, 0, 0, 0, []⟩ (.int .i64 2)) := by
  refine (read_many hs w).mono ?_
  rintro e w' ⟨rfl, hb⟩
  exact ⟨none, 0, rfl, Passes.none _, hb⟩
/-- A right frame's numbers go into their bytes. -/
theorem right_fr {f : Fr} (h : frameE f = 0) : FrOk f := by
  obtain ⟨hb, hfirst, _⟩ := frameE_zero h
  obtain ⟨hW, hH, hS, hO, hL⟩ := boundsE_zero hb
  refine ⟨by omega, by omega, by omega, by omega, by omega, fun p hp => ?_⟩
  obtain ⟨k, hk, e⟩ := List.mem_iff_getElem.1 hp
  have e' : f.ps.getD k Ps.zero = p := by rw [List.getD_eq_getElem?_getD, List.getElem?_eq_getElem hk, e]; rfl
  have hfk := firstE_down f hfirst (k := k) (by omega)
  have hpE : passE f k = 0 := (firstE_at f hfk).symm.trans (firstE_down f hfirst (k := k + 1) (by omega))
  obtain ⟨o1, _⟩ := passE_zero hpE
  have h8 := ownE_zero o1
  have h9 := few_lights h hk
  rw [e'] at h8 h9
  obtain ⟨q1, q2, q3, q4, q5, _⟩ := h8
  have w1 : ∀ n a b : Int, withinB n a b = true → a ≤ n ∧ n ≤ b := fun n a b h => by simpa [withinB] using h
  have hOp := w1 _ _ _ q1
  unfold slotsB at q2
  rw [Bool.and_eq_true] at q2
  have hTo := w1 _ _ _ q2.2
  unfold bareB at q5
  simp only [Bool.and_eq_true, Bool.or_eq_true, decide_eq_true_eq] at q5
  obtain ⟨⟨⟨qA, qB⟩, qK⟩, qL⟩ := q5
  have hA : 0 ≤ p.A ∧ p.A < 256 := by
    rcases qA with qA | qA
    · have : p.A ∈ takesP p := by
        unfold takesP
        split
        · simp
        · simp
      have := w1 _ _ _ (List.all_eq_true.1 q2.1 _ this)
      omega
    · omega
  have hB : 0 ≤ p.B ∧ p.B < 256 := by
    rcases qB with qB | qB
    · have : p.B ∈ takesP p := by
        unfold takesP
        rw [if_pos qB]; simp
      have := w1 _ _ _ (List.all_eq_true.1 q2.1 _ this)
      omega
    · omega
  have hK : -8388608 ≤ p.K ∧ p.K < 8388608 := by
    rcases qK with qK | qK
    · have hk := q3 qK
      unfold kB at hk
      split at hk
      · have := w1 _ _ _ hk; omega
      · split at hk
        · have := w1 _ _ _ hk; omega
        · have := w1 _ _ _ hk; omega
    · omega
  refine ⟨by omega, by omega, hA, hB, hK, by omega, fun l hl => ?_⟩
  rcases qL with qL | qL
  · have := (lightsErr_zero (q4 qL)).2
    have := (right_iff l).1 (List.all_eq_true.1 this l hl)
    exact ⟨by omega, by omega, by omega, by omega⟩
  · rw [List.length_eq_zero_iff.1 qL] at hl
    cases hl
/-- What is written of a right frame is read as it was. -/
theorem wire_back {f : Fr} (h : frameE f = 0) : readOk (frameBytes f) ∧ rdFrame (frameBytes f) = f := by
  obtain ⟨h1, h2⟩ := read_frame (right_fr h)
  exact ⟨⟨h2, by rw [h1]; exact h⟩, h1⟩
end Go.Proofs.YtaenpgdmiaekcaaGreatDoor
/-
  APART: numbers alone: stretches that lie apart in 0 .. N-1 are together at most N long.
-/
namespace Go.Proofs.YtaenpgdmiaekcaaGreatDoor
set_option maxRecDepth 100000

end Go.Proofs.YtaenpgdmiaekcaaGreatDoor
