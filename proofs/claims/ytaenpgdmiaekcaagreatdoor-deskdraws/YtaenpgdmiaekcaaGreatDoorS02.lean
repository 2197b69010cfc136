/- WireM, Draw, Acc, WireNum, DeskShow, Mean, Rule: joined, in this order. -/
import Derived.Test.YtaenpgdmiaekcaaGreatDoorS01
import Derived.Maps.AppendAt
import Derived.Shelf.Strconv.AppendIntPublic10
import Derived.Shelf.Lay
import Derived.Ground.NamesProg
import Derived.Lib.AppendIntMem
import Derived.Lib.ItoaLen
import Derived.Lib.Slices
import Derived.Laws.IdiomStrings
/-
  WIREM: numbers alone: the bytes of a frame, and the frame of which bytes are.
-/
namespace Go.Proofs.YtaenpgdmiaekcaaGreatDoor
set_option maxRecDepth 100000

def b8 (n : Int) : Int := n % 256
def lightBytes (l : Lt) : List Int := [b8 l.X, b8 l.Y, b8 l.R, b8 (l.P / 256), b8 l.P]
def passBytes (p : Ps) : List Int := [b8 p.Op, b8 p.To, b8 p.A, b8 p.B, b8 (p.K / 65536), b8 (p.K / 256), b8 p.K, b8 p.ls.length] ++ p.ls.flatMap lightBytes
def frameBytes (f : Fr) : List Int := [b8 f.W, b8 f.H, b8 f.S, b8 f.O, b8 f.ps.length] ++ f.ps.flatMap passBytes
/-- The n numbers from place i on; nothing there is 0. -/
def win (s : List Int) (i n : Nat) : List Int := (List.range n).map fun k => s.getD (i + k) 0
theorem win_len (s : List Int) (i n : Nat) : (win s i n).length = n := by simp [win]
theorem win_add (s : List Int) (i n m : Nat) : win s i (n + m) = win s i n ++ win s (i + n) m := by
  unfold win
  rw [List.range_add, List.map_append, List.map_map]
  congr 1
  refine List.map_congr_left fun k _ => ?_
  simp only [Function.comp]
  rw [Nat.add_assoc]
theorem win_all (s : List Int) : win s 0 s.length = s := by
  refine List.ext_getElem? fun k => ?_
  unfold win
  by_cases h : k < s.length
  · simp [h, List.getD]
  · rw [List.getElem?_eq_none (by simp; omega), List.getElem?_eq_none (by omega)]
/-- The number for which n, of three bytes, stands. -/
def sgn (n : Int) : Int := if 8388608 ≤ n then n - 16777216 else n
def rdLight (s : List Int) (i : Nat) : Lt := ⟨s.getD i 0, s.getD (i + 1) 0, s.getD (i + 2) 0, 256 * s.getD (i + 3) 0 + s.getD (i + 4) 0⟩
def rdLights (s : List Int) (i : Nat) : Nat → List Lt
  | 0 => []
  | n + 1 => rdLights s i n ++ [rdLight s (i + 5 * n)]
def rdPass (s : List Int) (i : Nat) : Ps := ⟨s.getD i 0, s.getD (i + 1) 0, s.getD (i + 2) 0, s.getD (i + 3) 0, sgn (65536 * s.getD (i + 4) 0 + 256 * s.getD (i + 5) 0 + s.getD (i + 6) 0), rdLights s (i + 8) (s.getD (i + 7) 0).toNat⟩
def rdStop (s : List Int) (i : Nat) : Nat := i + 8 + 5 * (s.getD (i + 7) 0).toNat
def rdPos (s : List Int) : Nat → Nat
  | 0 => 5
  | n + 1 => rdStop s (rdPos s n)
def rdPasses (s : List Int) : Nat → List Ps
  | 0 => []
  | n + 1 => rdPasses s n ++ [rdPass s (rdPos s n)]
def rdFrame (s : List Int) : Fr := ⟨s.getD 0 0, s.getD 1 0, s.getD 2 0, s.getD 3 0, rdPasses s (s.getD 4 0).toNat⟩
def rdEnd (s : List Int) : Nat := rdPos s (s.getD 4 0).toNat
/-- All are bytes. -/
def Bytes (s : List Int) : Prop := ∀ x ∈ s, 0 ≤ x ∧ x < 256
theorem Bytes.at {s : List Int} (h : Bytes s) (i : Nat) : 0 ≤ s.getD i 0 ∧ s.getD i 0 < 256 := by
  rw [List.getD_eq_getElem?_getD]
  by_cases hi : i < s.length
  · rw [List.getElem?_eq_getElem hi]; exact h _ (List.getElem_mem hi)
  · rw [List.getElem?_eq_none (by omega)]; simp
theorem Bytes.low {s : List Int} (h : Bytes s) (i : Nat) : b8 (s.getD i 0) = s.getD i 0 := by
  have := h.at i
  unfold b8
  omega
theorem rdLights_len (s : List Int) (i : Nat) : ∀ n, (rdLights s i n).length = n
  | 0 => rfl
  | n + 1 => by unfold rdLights; rw [List.length_append, rdLights_len s i n]; rfl
theorem rdPasses_len (s : List Int) : ∀ n, (rdPasses s n).length = n
  | 0 => rfl
  | n + 1 => by unfold rdPasses; rw [List.length_append, rdPasses_len s n]; rfl
theorem bytes_light {s : List Int} (h : Bytes s) (i : Nat) : lightBytes (rdLight s i) = win s i 5 := by
  have h3 := h.at (i + 3)
  have h4 := h.at (i + 4)
  have e1 : b8 ((256 * s.getD (i + 3) 0 + s.getD (i + 4) 0) / 256) = s.getD (i + 3) 0 := by unfold b8; omega
  have e2 : b8 (256 * s.getD (i + 3) 0 + s.getD (i + 4) 0) = s.getD (i + 4) 0 := by unfold b8; omega
  show [b8 (s.getD i 0), b8 (s.getD (i + 1) 0), b8 (s.getD (i + 2) 0), b8 ((256 * s.getD (i + 3) 0 + s.getD (i + 4) 0) / 256), b8 (256 * s.getD (i + 3) 0 + s.getD (i + 4) 0)] = [s.getD (i + 0) 0, s.getD (i + 1) 0, s.getD (i + 2) 0, s.getD (i + 3) 0, s.getD (i + 4) 0]
  rw [h.low i, h.low (i + 1), h.low (i + 2), e1, e2]; rfl
theorem bytes_lights {s : List Int} (h : Bytes s) (i : Nat) : ∀ n, (rdLights s i n).flatMap lightBytes = win s i (5 * n)
  | 0 => rfl
  | n + 1 => by
    unfold rdLights
    rw [List.flatMap_append, bytes_lights h i n, show 5 * (n + 1) = 5 * n + 5 by omega, win_add]
    simp [bytes_light h]
theorem bytes_pass {s : List Int} (h : Bytes s) (i : Nat) : passBytes (rdPass s i) = win s i (8 + 5 * (s.getD (i + 7) 0).toNat) := by
  have h4 := h.at (i + 4)
  have h5 := h.at (i + 5)
  have h6 := h.at (i + 6)
  have h7 := h.at (i + 7)
  have e1 : b8 (sgn (65536 * s.getD (i + 4) 0 + 256 * s.getD (i + 5) 0 + s.getD (i + 6) 0) / 65536) = s.getD (i + 4) 0 := by unfold b8 sgn; split <;> omega
  have e2 : b8 (sgn (65536 * s.getD (i + 4) 0 + 256 * s.getD (i + 5) 0 + s.getD (i + 6) 0) / 256) = s.getD (i + 5) 0 := by unfold b8 sgn; split <;> omega
  have e3 : b8 (sgn (65536 * s.getD (i + 4) 0 + 256 * s.getD (i + 5) 0 + s.getD (i + 6) 0)) = s.getD (i + 6) 0 := by unfold b8 sgn; split <;> omega
  have e4 : b8 ((rdLights s (i + 8) (s.getD (i + 7) 0).toNat).length : Int) = s.getD (i + 7) 0 := by rw [rdLights_len]; unfold b8; omega
  rw [win_add, ← bytes_lights h]
  show [b8 (s.getD i 0), b8 (s.getD (i + 1) 0), b8 (s.getD (i + 2) 0), b8 (s.getD (i + 3) 0), b8 (sgn (65536 * s.getD (i + 4) 0 + 256 * s.getD (i + 5) 0 + s.getD (i + 6) 0) / 65536), b8 (sgn (65536 * s.getD (i + 4) 0 + 256 * s.getD (i + 5) 0 + s.getD (i + 6) 0) / 256), b8 (sgn (65536 * s.getD (i + 4) 0 + 256 * s.getD (i + 5) 0 + s.getD (i + 6) 0)), b8 ((rdLights s (i + 8) (s.getD (i + 7) 0).toNat).length : Int)] ++ (rdLights s (i + 8) (s.getD (i + 7) 0).toNat).flatMap lightBytes = [s.getD (i + 0) 0, s.getD (i + 1) 0, s.getD (i + 2) 0, s.getD (i + 3) 0, s.getD (i + 4) 0, s.getD (i + 5) 0, s.getD (i + 6) 0, s.getD (i + 7) 0] ++ _
  rw [h.low i, h.low (i + 1), h.low (i + 2), h.low (i + 3), e1, e2, e3, e4]; rfl
theorem rdPos_ge (s : List Int) : ∀ n, 5 + 8 * n ≤ rdPos s n
  | 0 => Nat.le_refl _
  | n + 1 => by have := rdPos_ge s n; show _ ≤ rdStop s (rdPos s n); unfold rdStop; omega
theorem bytes_passes {s : List Int} (h : Bytes s) : ∀ n, win s 0 5 ++ (rdPasses s n).flatMap passBytes = win s 0 (rdPos s n)
  | 0 => by simp [rdPasses, rdPos]
  | n + 1 => by
    have ih := bytes_passes h n
    unfold rdPasses
    rw [List.flatMap_append, ← List.append_assoc, ih]
    show _ = win s 0 (rdStop s (rdPos s n))
    unfold rdStop
    rw [Nat.add_assoc, win_add, Nat.zero_add]
    simp [bytes_pass h]
/-- The bytes of the frame that is read are those that were read. -/
theorem bytes_frame {s : List Int} (h : Bytes s) : frameBytes (rdFrame s) = win s 0 (rdEnd s) := by
  have h4 := h.at 4
  have e4 : b8 ((rdPasses s (s.getD 4 0).toNat).length : Int) = s.getD 4 0 := by rw [rdPasses_len]; unfold b8; omega
  unfold rdEnd
  rw [← bytes_passes h]
  show [b8 (s.getD 0 0), b8 (s.getD 1 0), b8 (s.getD 2 0), b8 (s.getD 3 0), b8 ((rdPasses s (s.getD 4 0).toNat).length : Int)] ++ _ = _
  rw [h.low 0, h.low 1, h.low 2, h.low 3, e4]; rfl
theorem bytes_same {s : List Int} (h : Bytes s) : frameBytes (rdFrame s) = s ↔ rdEnd s = s.length := by
  rw [bytes_frame h]
  constructor
  · intro e
    have := congrArg List.length e
    rwa [win_len] at this
  · intro e
    rw [e, win_all]
/-- Lights, passes and frames whose numbers go into their bytes. -/
def LtOk (l : Lt) : Prop := (0 ≤ l.X ∧ l.X < 256) ∧ (0 ≤ l.Y ∧ l.Y < 256) ∧ (0 ≤ l.R ∧ l.R < 256) ∧ (0 ≤ l.P ∧ l.P < 65536)
def PsOk (p : Ps) : Prop := (0 ≤ p.Op ∧ p.Op < 256) ∧ (0 ≤ p.To ∧ p.To < 256) ∧ (0 ≤ p.A ∧ p.A < 256) ∧ (0 ≤ p.B ∧ p.B < 256) ∧ (-8388608 ≤ p.K ∧ p.K < 8388608) ∧ p.ls.length < 256 ∧ ∀ l ∈ p.ls, LtOk l
def FrOk (f : Fr) : Prop := (0 ≤ f.W ∧ f.W < 256) ∧ (0 ≤ f.H ∧ f.H < 256) ∧ (0 ≤ f.S ∧ f.S < 256) ∧ (0 ≤ f.O ∧ f.O < 256) ∧ f.ps.length < 256 ∧ ∀ p ∈ f.ps, PsOk p
theorem getD_mid {pre l post : List Int} {k : Nat} (h : k < l.length) : (pre ++ (l ++ post)).getD (pre.length + k) 0 = l.getD k 0 := by
  rw [List.getD_eq_getElem?_getD, List.getElem?_append_right (by omega), Nat.add_sub_cancel_left, List.getElem?_append_left h, ← List.getD_eq_getElem?_getD]
theorem read_light {pre post : List Int} {l : Lt} (h : LtOk l) : rdLight (pre ++ (lightBytes l ++ post)) pre.length = l := by
  obtain ⟨hX, hY, hR, hP⟩ := h
  have g : ∀ k, k < 5 → (pre ++ (lightBytes l ++ post)).getD (pre.length + k) 0 = (lightBytes l).getD k 0 := fun k hk => getD_mid hk
  have g0 := g 0 (by omega)
  rw [Nat.add_zero] at g0
  unfold rdLight
  rw [g0, g 1 (by omega), g 2 (by omega), g 3 (by omega), g 4 (by omega)]
  obtain ⟨X, Y, R, P⟩ := l
  show Lt.mk (b8 X) (b8 Y) (b8 R) (256 * b8 (P / 256) + b8 P) = ⟨X, Y, R, P⟩
  simp only at hX hY hR hP
  have e1 : b8 X = X := by unfold b8; omega
  have e2 : b8 Y = Y := by unfold b8; omega
  have e3 : b8 R = R := by unfold b8; omega
  have e4 : 256 * b8 (P / 256) + b8 P = P := by unfold b8; omega
  rw [e1, e2, e3, e4]
theorem lights_len : ∀ ls : List Lt, (ls.flatMap lightBytes).length = 5 * ls.length
  | [] => rfl
  | l :: ls => by rw [List.flatMap_cons, List.length_append, lights_len ls]; simp [lightBytes]; omega
theorem read_lights {pre post : List Int} : ∀ {ls : List Lt}, (∀ l ∈ ls, LtOk l) → ∀ n, n ≤ ls.length → rdLights (pre ++ (ls.flatMap lightBytes ++ post)) pre.length n = ls.take n
  | ls, h, 0, _ => by simp [rdLights]
  | ls, h, n + 1, hn => by
    have hl : n < ls.length := by omega
    have ih := read_lights (pre := pre) (post := post) h n (by omega)
    unfold rdLights
    rw [ih, List.take_succ_eq_append_getElem hl]
    congr 2
    have e : ls = ls.take n ++ (ls[n] :: ls.drop (n + 1)) := by rw [← List.drop_eq_getElem_cons hl, List.take_append_drop]
    have e2 : pre ++ (ls.flatMap lightBytes ++ post) = (pre ++ (ls.take n).flatMap lightBytes) ++ (lightBytes ls[n] ++ ((ls.drop (n + 1)).flatMap lightBytes ++ post)) := by
      refine (congrArg (fun l => pre ++ (l.flatMap lightBytes ++ post)) e).trans ?_
      simp only [List.flatMap_append, List.flatMap_cons, List.append_assoc]
    have e3 : pre.length + 5 * n = (pre ++ (ls.take n).flatMap lightBytes).length := by
      rw [List.length_append, lights_len, List.length_take]; omega
    rw [e2, e3]
    exact read_light (h _ (List.getElem_mem hl))
theorem read_pass {pre post : List Int} {p : Ps} (h : PsOk p) : rdPass (pre ++ (passBytes p ++ post)) pre.length = p ∧ rdStop (pre ++ (passBytes p ++ post)) pre.length = pre.length + (passBytes p).length := by
  obtain ⟨hO, hT, hA, hB, hK, hl, hL⟩ := h
  have hlen : (passBytes p).length = 8 + 5 * p.ls.length := by unfold passBytes; rw [List.length_append, lights_len]; rfl
  have g : ∀ k, k < 8 → (pre ++ (passBytes p ++ post)).getD (pre.length + k) 0 = (passBytes p).getD k 0 := fun k hk => getD_mid (by omega)
  have g0 := g 0 (by omega)
  rw [Nat.add_zero] at g0
  have g7 := g 7 (by omega)
  have e7 : (passBytes p).getD 7 0 = p.ls.length := by
    show b8 (p.ls.length : Int) = _
    unfold b8; omega
  have hls : rdLights (pre ++ (passBytes p ++ post)) (pre.length + 8) p.ls.length = p.ls := by
    have := read_lights (pre := pre ++ [b8 p.Op, b8 p.To, b8 p.A, b8 p.B, b8 (p.K / 65536), b8 (p.K / 256), b8 p.K, b8 p.ls.length]) (post := post) hL p.ls.length (Nat.le_refl _)
    rw [List.take_length] at this
    rw [List.length_append] at this
    unfold passBytes
    simpa using this
  constructor
  · unfold rdPass
    rw [g0, g 1 (by omega), g 2 (by omega), g 3 (by omega), g 4 (by omega), g 5 (by omega), g 6 (by omega), g7, e7, Int.toNat_natCast, hls]
    obtain ⟨Op, To, A, B, K, ls⟩ := p
    show Ps.mk (b8 Op) (b8 To) (b8 A) (b8 B) (sgn (65536 * b8 (K / 65536) + 256 * b8 (K / 256) + b8 K)) ls = ⟨Op, To, A, B, K, ls⟩
    simp only at hO hT hA hB hK
    have e1 : b8 Op = Op := by unfold b8; omega
    have e2 : b8 To = To := by unfold b8; omega
    have e3 : b8 A = A := by unfold b8; omega
    have e4 : b8 B = B := by unfold b8; omega
    have e5 : sgn (65536 * b8 (K / 65536) + 256 * b8 (K / 256) + b8 K) = K := by unfold b8 sgn; split <;> omega
    rw [e1, e2, e3, e4, e5]
  · unfold rdStop
    rw [g7, e7, Int.toNat_natCast, hlen]; omega
theorem read_passes {pre : List Int} (h5 : pre.length = 5) : ∀ {ps : List Ps}, (∀ p ∈ ps, PsOk p) → ∀ n, n ≤ ps.length → rdPasses (pre ++ ps.flatMap passBytes) n = ps.take n ∧ rdPos (pre ++ ps.flatMap passBytes) n = (pre ++ (ps.take n).flatMap passBytes).length
  | ps, h, 0, _ => by simp [rdPasses, rdPos, h5]
  | ps, h, n + 1, hn => by
    have hl : n < ps.length := by omega
    obtain ⟨ih1, ih2⟩ := read_passes h5 h n (by omega)
    have e : ps = ps.take n ++ (ps[n] :: ps.drop (n + 1)) := by rw [← List.drop_eq_getElem_cons hl, List.take_append_drop]
    have e2 : pre ++ ps.flatMap passBytes = (pre ++ (ps.take n).flatMap passBytes) ++ (passBytes ps[n] ++ (ps.drop (n + 1)).flatMap passBytes) := by
      refine (congrArg (fun l => pre ++ l.flatMap passBytes) e).trans ?_
      simp only [List.flatMap_append, List.flatMap_cons, List.append_assoc]
    obtain ⟨r1, r2⟩ := read_pass (pre := pre ++ (ps.take n).flatMap passBytes) (post := (ps.drop (n + 1)).flatMap passBytes) (h _ (List.getElem_mem hl))
    rw [← e2, ← ih2] at r1 r2
    refine ⟨?_, ?_⟩
    · unfold rdPasses
      rw [ih1, r1, List.take_succ_eq_append_getElem hl]
    · show rdStop _ (rdPos _ n) = _
      rw [r2, ih2, List.take_succ_eq_append_getElem hl]
      simp only [List.flatMap_append, List.flatMap_cons, List.flatMap_nil, List.append_nil, List.length_append]
      omega
/-- What is written is read as it was. -/
theorem read_frame {f : Fr} (h : FrOk f) : rdFrame (frameBytes f) = f ∧ rdEnd (frameBytes f) = (frameBytes f).length := by
  obtain ⟨hW, hH, hS, hO, hl, hP⟩ := h
  obtain ⟨r1, r2⟩ := read_passes (pre := [b8 f.W, b8 f.H, b8 f.S, b8 f.O, b8 f.ps.length]) rfl hP f.ps.length (Nat.le_refl _)
  rw [List.take_length] at r1 r2
  have e4 : (frameBytes f).getD 4 0 = f.ps.length := by
    show b8 (f.ps.length : Int) = _
    unfold b8; omega
  constructor
  · unfold rdFrame
    rw [e4, Int.toNat_natCast]
    have : rdPasses (frameBytes f) f.ps.length = f.ps := r1
    rw [this]
    obtain ⟨W, H, S, O, ps⟩ := f
    show Fr.mk (b8 W) (b8 H) (b8 S) (b8 O) ps = ⟨W, H, S, O, ps⟩
    simp only at hW hH hS hO
    have e1 : b8 W = W := by unfold b8; omega
    have e2 : b8 H = H := by unfold b8; omega
    have e3 : b8 S = S := by unfold b8; omega
    have e5 : b8 O = O := by unfold b8; omega
    rw [e1, e2, e3, e5]
  · unfold rdEnd
    rw [e4, Int.toNat_natCast]
    exact r2
theorem b8_bd (n : Int) : 0 ≤ b8 n ∧ b8 n < 256 := by unfold b8; omega
theorem bytes_of_frame (f : Fr) : Bytes (frameBytes f) := by
  intro x hx
  have hb : ∀ n, 0 ≤ b8 n ∧ b8 n < 256 := b8_bd
  unfold frameBytes at hx
  rcases List.mem_append.1 hx with h | h
  · simp only [List.mem_cons, List.not_mem_nil, or_false] at h
    rcases h with rfl | rfl | rfl | rfl | rfl <;> exact hb _
  · obtain ⟨p, _, h⟩ := List.mem_flatMap.1 h
    unfold passBytes at h
    rcases List.mem_append.1 h with h | h
    · simp only [List.mem_cons, List.not_mem_nil, or_false] at h
      rcases h with rfl | rfl | rfl | rfl | rfl | rfl | rfl | rfl <;> exact hb _
    · obtain ⟨l, _, h⟩ := List.mem_flatMap.1 h
      unfold lightBytes at h
      simp only [List.mem_cons, List.not_mem_nil, or_false] at h
      rcases h with rfl | rfl | rfl | rfl | rfl <;> exact hb _
end Go.Proofs.YtaenpgdmiaekcaaGreatDoor
/-
  DRAW: image.draw makes the image that a function of places tells.
-/
namespace Go.Proofs.YtaenpgdmiaekcaaGreatDoor
set_option maxRecDepth 100000
open Go.RowKit Im

/-- The slice value v is nil or the head of a row of the call's own, from block 'base' on, whose numbers are qs. -/
def Owns (base : Nat) (w : World) (v : Value) (qs : List Int) : Prop := w.ownsRow base 3 1 v qs.length (qs.map (Value.int .i64))

theorem Owns.ints {base : Nat} {w : World} {v : Value} {qs : List Int} (h : Owns base w v qs) (hb : qs.length ≤ 9223372036854775807) : ∃ a cap, v = .slice a qs.length cap ∧ Ints base w a qs.length qs := by
  obtain ⟨h1, h2⟩ := h
  rcases h2 with ⟨rfl, h0⟩ | ⟨g, cap, cur, rfl, hg, hh, hc, hm, hs, ht⟩
  · have : qs = [] := by simpa using h0
    subst this
    exact ⟨none, 0, rfl, rfl, by simp, .inl rfl⟩
  · refine ⟨_, cap, rfl, rfl, hb, .inr ⟨g, 0, rfl, hg, ?_, fun j hj => ?_⟩⟩
    · rcases Nat.lt_or_ge g w.heap.size with h | h
      · exact h
      · rw [Array.getElem?_eq_none h] at hh; cases hh
    · have := World.ownsRow.cellAt (base := base) (e := 3) (size := 1) ⟨h1, .inr ⟨g, cap, cur, rfl, hg, hh, hc, hm, hs, ht⟩⟩ j (by simpa using hj)
      rw [Nat.zero_add, this]
      simp [hj]

theorem Owns.push {base : Nat} {w wx w1 : World} {v v' : Value} {qs : List Int} {x : Int} {B0 : World} {o : Obj} (h : Owns base w v qs) (hb : Below base B0 w) (hB : base ≤ w.heap.size)
    (h' : w1.ownsRow base 3 1 v' (qs.length + 1) (qs.map (Value.int .i64) ++ [.int .i64 x])) (hx : wx = w.alloc o) (hg : wx.grownBy w1 v.ownBlock) : Owns base w1 v' (qs ++ [x]) ∧ Below base B0 w1 := by
  subst hx
  refine ⟨by unfold Owns; simpa using h', ?_⟩
  exact (hb.alloc hB o).grown hg (by simp; omega) (fun j hj => (World.ownsRow.lt (w := w) h j hj).1)
theorem Owns.below {base B : Nat} {w w' : World} {v : Value} {qs : List Int} (h : Owns base w v qs) (hb : Below B w w') (hB : w.heap.size ≤ B) : Owns base w' v qs := by
  obtain ⟨h1, h2⟩ := h
  refine ⟨h1, ?_⟩
  rcases h2 with h2 | ⟨g, cap, cur, hv, hg, hh, r⟩
  · exact .inl h2
  · refine .inr ⟨g, cap, cur, hv, hg, ?_, r⟩
    rw [hb.block g ?_]
    · exact hh
    · rcases Nat.lt_or_ge g w.heap.size with h | h
      · omega
      · rw [Array.getElem?_eq_none h] at hh; cases hh

/-- A function value tells, of column x and row y of W columns and H rows, the number g x y: in every world that has all that w has. -/
structure Tells (w : World) (n : Nat) (caps : Array Value) (W H : Nat) (g : Nat → Nat → Int) : Prop where
  enters : ∀ args w, (callFunc n args).run Tryz.prog w = .ok (.enter n args) w
  tells : ∀ (x y : Nat) (w1 : World), x < W → y < H → Below w.heap.size w w1 → Calls Tryz.prog n (#[.int .i64 x, .int .i64 y] ++ caps) w1 fun e w2 => e = .returned (.int .i64 (g x y)) ∧ Below w1.heap.size w1 w2

set_option maxHeartbeats 1000000 in
theorem draw_any (W H : Nat) (n : Nat) (caps : Array Value) (g : Nat → Nat → Int) (w : World) (hW : 1 ≤ W ∧ W ≤ 16) (hH : 1 ≤ H ∧ H ≤ 16) (hf : Tells w n caps W H g) :
    Calls Tryz.prog 106 #[.int .i64 W, .int .i64 H, .func (.func n) #[] caps] w fun e w' =>
      ∃ a cap, e = .returned (.agg #[.int .i64 W, .int .i64 H, .slice a (W * H) cap]) ∧ Ints w.heap.size w' a (W * H) (pix W g (W * H)) ∧ Below w.heap.size w w' := by
  obtain ⟨i0, hi, hz0, hz1, hz2⟩ := info_parts Tryz.info3
  have hWH : 1 ≤ (W : Int) * H ∧ (W : Int) * H ≤ 256 := side_mul (by simp [sideB]; omega) (by simp [sideB]; omega)
  have hWN : W * H ≤ 256 := by have := hWH.2; rw [← Int.natCast_mul] at this; omega
  obtain ⟨k1, k2⟩ := hWH
  have hent := hf.enters
  go_enter Tryz.func106, Tryz.ntmps106
  go_wp2_with (at_make; refine wpList_make_own _ rfl _ _ 22 rfl (w.heap.size + 1) 3 i0 (.int .i64 0) 1 Tryz.underlying22 hi hz0 hz1 .i64 .i64 _ (W * H) rfl rfl (by simp) (by rw [hz2]; omega) (by unfold maxLen; omega) (by simp) ?_; intro w1 hown hgrow)
  have hb1 : Below (w.heap.size + 1) (w.alloc (.cells #[.int .i64 0, .int .i64 0, .slice none 0 0] 24)) w1 := (Below.refl _ _).grown hgrow (by simp) (by simp)
  go_loopw [7, 15] (fun v i wr => ∃ y : Nat, y ≤ H ∧ i = .int .i64 y ∧ Owns (w.heap.size + 1) wr v (pix W g (y * W)) ∧ Below (w.heap.size + 1) (w.alloc (.cells #[.int .i64 0, .int .i64 0, .slice none 0 0] 24)) wr) (fun _ i _ => H - (intOf i).toNat)
  case atStart => exact ⟨0, Nat.zero_le _, rfl, by rw [Nat.zero_mul]; simpa [Owns, pix] using hown, hb1⟩
  case round =>
    obtain ⟨y, hy, rfl, hownr, hbr⟩ := hrel
    by_cases hlt : y < H
    · go_wp2
      go_loopw [7, 19] (fun v i ws => ∃ x : Nat, x ≤ W ∧ i = .int .i64 x ∧ Owns (w.heap.size + 1) ws v (pix W g (y * W + x)) ∧ Below (w.heap.size + 1) (w.alloc (.cells #[.int .i64 0, .int .i64 0, .slice none 0 0] 24)) ws) (fun _ i _ => W - (intOf i).toNat)
      case atStart => exact ⟨0, Nat.zero_le _, rfl, hownr, hbr⟩
      case round =>
        obtain ⟨x, hx, rfl, howns, hbs⟩ := hrel
        by_cases hlx : x < W
        · have hsz : w.heap.size + 1 ≤ wr.heap.size := by have := hbs.size; simpa using this
          have hbw : Below w.heap.size w wr := ((Below.refl _ _).alloc (Nat.le_refl _) _).trans (hbs.mono (by omega))
          have hpl : y * W + x < W * H := place_lt hlx hlt
          have hlen : (pix W g (y * W + x)).length = y * W + x := pix_length _ _ _
          go_wp2_with (first
            | (refine (hf.tells x y _ hlx hlt hbw).mono ?_; rintro e w2 ⟨rfl, hb2⟩; have hown2 := howns.below hb2 (Nat.le_refl _))
            | (at_builtin; refine wpList_append_own _ rfl _ _ 22 rfl (w.heap.size + 1) 3 i0 (.int .i64 0) 1 8 Tryz.underlying22 hi hz0 hz1 hz2 rfl (by decide) _ _ _ rfl (World.ownsRow.alloc hown2 _) ⟨w2.heap.size, 0, none⟩ 1 1 [.int .i64 (g x y)] rfl rfl (cell_one_new _ _ _) (by intro u hu; simp at hu; subst hu; rfl) (by rw [hlen]; unfold maxLen; omega) (by rw [hlen]; omega) (by have := hb2.size; simp; omega) ?_; intro v' w3 hown3 hgrow3 _))
          have R := Owns.push hown2 (hbs.trans (hb2.mono hsz)) (by have := hb2.size; omega) hown3 rfl hgrow3
          go_roundw
          case rel => exact ⟨x + 1, by omega, by go_num, by rw [← Nat.add_assoc, pix_succ W g x y hlx]; exact R.1, R.2⟩
          case measure => simp [intOf]; omega
        · have hxW : x = W := by omega
          subst hxW
          go_wp2
          go_roundw
          case rel => exact ⟨y + 1, by omega, by go_num, by rw [Nat.add_mul, Nat.one_mul]; exact howns, hbs⟩
          case measure => simp [intOf]; omega
    · have hyH : y = H := by omega
      subst hyH
      have hlen : (pix W g (y * W)).length = y * W := pix_length _ _ _
      obtain ⟨a, cap, hv, hints⟩ := hownr.ints (by rw [hlen, Nat.mul_comm]; omega)
      have c0 : wr.cell? ⟨w.heap.size, 0, none⟩ = some (.int .i64 0) := by rw [hbr.cell (by simp)]; simp [go_sem]
      have c1 : wr.cell? ⟨w.heap.size, 1, none⟩ = some (.int .i64 0) := by rw [hbr.cell (by simp)]; simp [go_sem]
      have c2 : wr.cell? ⟨w.heap.size, 2, none⟩ = some (.slice none 0 0) := by rw [hbr.cell (by simp)]; simp [go_sem]
      have f0 : wr.frozen? ⟨w.heap.size, 0, none⟩ = false := by rw [hbr.frozen (by simp)]; simp [go_sem]
      have f1 : wr.frozen? ⟨w.heap.size, 1, none⟩ = false := by rw [hbr.frozen (by simp)]; simp [go_sem]
      have f2 : wr.frozen? ⟨w.heap.size, 2, none⟩ = false := by rw [hbr.frozen (by simp)]; simp [go_sem]
      rw [hv]
      go_wp2
      rw [hlen, Nat.mul_comm] at hints
      refine bodyPost_ret (v := .agg #[.int .i64 W, .int .i64 y, .slice a (W * y) cap]) (by simp [results, Tryz.results106, go_sem, c0, c1, c2]; exact Nat.mul_comm _ _) rfl ⟨a, cap, rfl, ?_, ?_⟩
      · exact (((hints.setCell (by simp) _).setCell (by simp) _).setCell (by simp) _).mono (by omega)
      · exact (((((Below.refl _ _).alloc (Nat.le_refl _) _).trans (hbr.mono (by omega))).setCell (by simp) _).setCell (by simp) _).setCell (by simp) _
end Go.Proofs.YtaenpgdmiaekcaaGreatDoor
/-
  ACC: an image that is built up in a variable ('out.P = append(out.P, n)'), step by step.
-/
namespace Go.Proofs.YtaenpgdmiaekcaaGreatDoor
set_option maxRecDepth 100000
open Go.RowKit Im

/-- The image of W columns and H rows that lies in block c has the numbers qs so far, in the slice v, a row of the call's own behind c; what lay ahead of c is as in w0. -/
structure Acc (c : Nat) (w0 wr : World) (W H : Int) (v : Value) (qs : List Int) : Prop where
  own : Owns (c + 1) wr v qs
  blk : wr.heap[c]? = some (.cells #[.int .i64 W, .int .i64 H, v] 24 (0, 0))
  bel : Below c w0 wr
  siz : c < wr.heap.size

theorem owns_slice {base e size n : Nat} {w : World} {v : Value} {xs : List Value} (h : w.ownsRow base e size v n xs) : ∃ a cap, v = .slice a n cap := by
  rcases h.2 with ⟨rfl, rfl⟩ | ⟨g, cap, cur, rfl, _⟩
  · exact ⟨none, 0, rfl⟩
  · exact ⟨_, cap, rfl⟩
theorem Acc.start (w1 : World) (c : Nat) (W H : Int) (hc : c = w1.heap.size) : Acc c (w1.alloc (.cells #[.int .i64 W, .int .i64 H, .slice none 0 0] 24)) (w1.alloc (.cells #[.int .i64 W, .int .i64 H, .slice none 0 0] 24)) W H (.slice none 0 0) [] := by
  subst hc
  refine ⟨World.ownsRow_nil _ _ _ _, ?_, Below.refl _ _, by simp⟩
  show (w1.heap.push _)[w1.heap.size]? = _
  simp
theorem Acc.ints {c : Nat} {w0 wr : World} {W H : Int} {v : Value} {qs : List Int} (h : Acc c w0 wr W H v qs) (hb : qs.length ≤ 9223372036854775807) : ∃ a cap, v = .slice a qs.length cap ∧ Ints (c + 1) wr a qs.length qs := h.own.ints hb
theorem Acc.cells {c : Nat} {w0 wr : World} {W H : Int} {v : Value} {qs : List Int} (h : Acc c w0 wr W H v qs) :
    wr.cell? ⟨c, 0, none⟩ = some (.int .i64 W) ∧ wr.cell? ⟨c, 1, none⟩ = some (.int .i64 H) ∧ wr.cell? ⟨c, 2, none⟩ = some v ∧ (∀ o, wr.frozen? ⟨c, o, none⟩ = false) := by
  refine ⟨?_, ?_, ?_, fun o => ?_⟩
  all_goals simp [World.cell?, World.frozen?, h.blk]
theorem Acc.below {c : Nat} {w0 wr w2 : World} {W H : Int} {v : Value} {qs : List Int} (h : Acc c w0 wr W H v qs) (hb : Below wr.heap.size wr w2) : Acc c w0 w2 W H v qs :=
  ⟨h.own.below hb (Nat.le_refl _), (hb.block c h.siz).trans h.blk, h.bel.trans (hb.mono (Nat.le_of_lt h.siz)), Nat.lt_of_lt_of_le h.siz hb.size⟩
theorem Acc.mid {c : Nat} {w0 w2 w3 : World} {W H : Int} {v : Value} {qs : List Int} {o : Obj} (h : Acc c w0 w2 W H v qs) (hg : (w2.alloc o).grownBy w3 v.ownBlock) :
    w3.heap[c]? = some (.cells #[.int .i64 W, .int .i64 H, v] 24 (0, 0)) ∧ w3.cell? ⟨c, 2, none⟩ = some v ∧ w3.frozen? ⟨c, 2, none⟩ = false := by
  have e : w3.heap[c]? = some (.cells #[.int .i64 W, .int .i64 H, v] 24 (0, 0)) := by
    rw [hg.block c (by have := h.siz; simp; omega) (fun e => by have := (World.ownsRow.lt (w := w2) h.own c e.symm).1; omega), Below.heap_alloc _ _ _ h.siz, h.blk]
  refine ⟨e, ?_, ?_⟩
  all_goals simp [World.cell?, World.frozen?, e]
theorem Acc.push {c : Nat} {w0 w2 w3 : World} {W H : Int} {v v' : Value} {qs : List Int} {x : Int} {o : Obj} (h : Acc c w0 w2 W H v qs) (hg : (w2.alloc o).grownBy w3 v.ownBlock)
    (h' : w3.ownsRow (c + 1) 3 1 v' (qs.length + 1) (qs.map (Value.int .i64) ++ [.int .i64 x])) : Acc c w0 (w3.setCell ⟨c, 2, none⟩ v') W H v' (qs ++ [x]) := by
  have hs : c < w3.heap.size := by have h1 := h.siz; have h2 := hg.size; simp at h2; omega
  refine ⟨?_, ?_, ?_, by simpa [World.setCell] using hs⟩
  · exact ownsRow_setCell_below (show w3.ownsRow (c + 1) 3 1 v' (qs ++ [x]).length ((qs ++ [x]).map (Value.int .i64)) by simpa using h') (by simp) _
  · simp [World.setCell, Array.getElem?_modify, (h.mid hg).1]
  · exact (((h.bel.alloc (Nat.le_of_lt h.siz) o).grown hg (by have := h.siz; simp; omega) (fun k hk => by have := (World.ownsRow.lt (w := w2) h.own k hk).1; omega))).setCell (Nat.le_refl _) _
end Go.Proofs.YtaenpgdmiaekcaaGreatDoor
/-
  WIRENUM: rows of bytes that are one's own; wire.appendNumber.
-/
namespace Go.Proofs.YtaenpgdmiaekcaaGreatDoor
set_option maxRecDepth 100000
open Go.RowKit Im

/-- The slice value v is nil or the head of a row of bytes of the call's own, from block 'base' on; since w0 nothing else but the block r has changed. -/
structure BRow (base : Nat) (r : Option Nat) (w0 w : World) (v : Value) (l : List Int) : Prop where
  own : w.ownsRow base 5 1 v l.length (l.map (Value.int .u8))
  grew : w0.grownBy w r
  lies : v.ownBlock = r ∨ ∃ b, v.ownBlock = some b ∧ w0.heap.size ≤ b
theorem BRow.start {base : Nat} {w : World} {v : Value} {l : List Int} (h : w.ownsRow base 5 1 v l.length (l.map (Value.int .u8))) : BRow base v.ownBlock w w v l := ⟨h, World.grownBy.refl _ _, .inl rfl⟩
theorem BRow.alloc {base : Nat} {r : Option Nat} {w0 w : World} {v : Value} {l : List Int} (h : BRow base r w0 w v l) (o : Obj) : BRow base r w0 (w.alloc o) v l :=
  ⟨World.ownsRow.alloc h.own o, ⟨h.grew.os, h.grew.tape, h.grew.output, by have := h.grew.size; simp; omega, fun k hk hr => (Below.heap_alloc _ _ _ (Nat.lt_of_lt_of_le hk h.grew.size)).trans (h.grew.block k hk hr)⟩, h.lies⟩
theorem BRow.push {base : Nat} {r : Option Nat} {w0 w w1 : World} {v v' : Value} {l news : List Int} {m : Nat} (h : BRow base r w0 w v l) (hm : news.length = m)
    (h' : w1.ownsRow base 5 1 v' (l.length + m) (l.map (Value.int .u8) ++ news.map (Value.int .u8))) (hg : w.grownBy w1 v.ownBlock) (ha : v'.ownBlock = v.ownBlock ∨ v'.ownBlock = some w.heap.size) : BRow base r w0 w1 v' (l ++ news) := by
  have hs := h.grew.size
  refine ⟨by rw [List.length_append, List.map_append, hm]; exact h', ⟨hg.os.trans h.grew.os, hg.tape.trans h.grew.tape, hg.output.trans h.grew.output, Nat.le_trans hs hg.size, fun k hk hr => ?_⟩, ?_⟩
  · rw [hg.block k (Nat.lt_of_lt_of_le hk hs) (fun e => ?_)]
    · exact h.grew.block k hk hr
    · rcases h.lies with h1 | ⟨b, h1, h2⟩
      · exact hr (e.trans h1)
      · rw [h1] at e; injection e with e; omega
  · rcases ha with ha | ha
    · rw [ha]; exact h.lies
    · exact .inr ⟨_, ha, hs⟩
/-- A round's row is the whole's. -/
theorem BRow.join {base : Nat} {r : Option Nat} {w0 w w1 w2 : World} {v v' : Value} {l l' : List Int} (h : BRow base r w0 w v l) (hk : BRow base v.ownBlock w1 w2 v' l') (hg : w0.grownBy w1 r) : BRow base r w0 w2 v' l' := by
  have hs := hg.size
  refine ⟨hk.own, ⟨hk.grew.os.trans hg.os, hk.grew.tape.trans hg.tape, hk.grew.output.trans hg.output, Nat.le_trans hs hk.grew.size, fun k hk' hr => ?_⟩, ?_⟩
  · rw [hk.grew.block k (Nat.lt_of_lt_of_le hk' hs) (fun e => ?_)]
    · exact hg.block k hk' hr
    · rcases h.lies with h1 | ⟨b, h1, h2⟩
      · exact hr (e.trans h1)
      · rw [h1] at e; injection e with e; omega
  · rcases hk.lies with h1 | ⟨b, h1, h2⟩
    · rw [h1]; exact h.lies
    · exact .inr ⟨b, h1, Nat.le_trans hs h2⟩
theorem BRow.below {base B : Nat} {r : Option Nat} {w0 w : World} {v : Value} {l : List Int} (h : BRow base r w0 w v l) (hB : B ≤ w0.heap.size) (hr : ∀ k, r = some k → B ≤ k) : Below B w0 w := (Below.refl B w0).grown h.grew hB hr
theorem cells_new (w : World) (vs : List Value) (t : TypeId) : ∀ (j : Nat) (u : Value), vs[j]? = some u → (w.alloc (.cells vs.toArray t)).cell? ((⟨w.heap.size, 0, none⟩ : Addr).add j) = some u := by
  intro j u h
  have : (⟨w.heap.size, 0, none⟩ : Addr).add j = ⟨w.heap.size, j, none⟩ := by simp [Addr.add]; exact fun h => h.symm
  rw [this, World.cell?_alloc_new]
  simpa using h
theorem Tryz.infoByte : (Tryz.prog.info? 5).map (fun i => (i.zero, i.size, i.bytes)) = some (some (.int .u8 0), 1, 1) := by kernel_rfl
/-- The k lowest bytes of n, the highest first. -/
def numBy (n : Int) : Nat → List Int
  | 0 => []
  | k + 1 => (n / 2 ^ (8 * k)) % 256 :: numBy n k
set_option maxHeartbeats 2000000 in
theorem appendNumber_any {base : Nat} {r : Option Nat} {w0 w : World} {v : Value} {l : List Int} (h : BRow base r w0 w v l) (hB : base ≤ w0.heap.size) (n : Int) {many : Nat} (hm : many ≤ 3) (hl : l.length ≤ 4096) :
    Calls Tryz.prog 94 #[v, .int .i64 n, .int .i64 many] w fun e w' => ∃ v', e = .returned v' ∧ BRow base r w0 w' v' (l ++ numBy n many) := by
  obtain ⟨i0, hi, hz0, hz1, hz2⟩ := info_parts Tryz.infoByte
  have hw1 : IntKind.i64.wrap ((many : Int) - 1) = (many : Int) - 1 := by rw [IntKind.wrap_i64]; omega
  obtain ⟨va, vc, rfl⟩ := owns_slice h.own
  go_enter Tryz.func94, Tryz.ntmps94
  go_wp2
  go_loopw [0, 7] (fun u i wr => ∃ (k : Nat) (l' : List Int), k ≤ many ∧ i = .int .i64 ((k : Int) - 1) ∧ BRow base r w0 wr u l' ∧ l' ++ numBy n k = l ++ numBy n many ∧ l'.length + k = l.length + many) (fun _ i _ => (intOf i + 1).toNat)
  case atStart => exact ⟨many, l, Nat.le_refl _, rfl, h, rfl, rfl⟩
  case round =>
    obtain ⟨k, l', hk, rfl, hown, hcat, hlen⟩ := hrel
    obtain ⟨ua, uc, rfl⟩ := owns_slice hown.own
    have hsz := Nat.le_trans hB hown.grew.size
    by_cases h0 : k = 0
    · subst h0
      have HF : Hid (BRow base r w0 wr (.slice ua l'.length uc) (l ++ numBy n many)) := by
        have e : l' = l ++ numBy n many := by rw [← hcat]; simp [numBy]
        show BRow base r w0 wr _ _
        rw [← e]; exact hown
      go_wp2
      go_ret
      exact ⟨_, rfl, HF.out⟩
    · obtain ⟨j, rfl⟩ : ∃ j, k = j + 1 := ⟨k - 1, by omega⟩
      have hj : ((j + 1 : Nat) : Int) - 1 = (j : Int) := by omega
      rw [hj]
      have HC : Hid (l' ++ ((n / 2 ^ (8 * j)) % 256 :: numBy n j) = l ++ numBy n many) := hcat
      have hj3 : j < 3 := by omega
      have hj0 : (0 : Int) ≤ (j : Int) := by omega
      clear hcat h0
      go_wp2_with (at_builtin; refine wpList_append_own_at _ rfl _ _ 42 rfl base 5 i0 (.int .u8 0) 1 1 Tryz.underlying42 hi hz0 hz1 hz2 rfl (by decide) _ _ _ rfl (hown.alloc _).own ⟨wr.heap.size, 0, none⟩ 1 1 [.int .u8 (n / 2 ^ (8 * j) % 256)] rfl rfl (cell_one_new _ _ _) (by intro u hu; simp at hu; subst hu; rfl) (by unfold maxLen; omega) (by omega) (by simp; omega) ?_; intro v' w9 hown9 hgrow9 _ hat9; obtain ⟨a9, c9, hv9⟩ := owns_slice hown9; subst hv9; have RR := (hown.alloc _).push (news := [n / 2 ^ (8 * j) % 256]) rfl hown9 hgrow9 hat9)
      go_roundw
      case rel => exact ⟨j, l' ++ [n / 2 ^ (8 * j) % 256], by omega, by go_num, RR, by rw [← HC.out]; simp, by simp; omega⟩
      case measure => simp [intOf]
theorem numB_three (n : Int) : numBy n 3 = [b8 (n / 65536), b8 (n / 256), b8 n] := by
  show [n / 2 ^ (8 * 2) % 256, n / 2 ^ (8 * 1) % 256, n / 2 ^ (8 * 0) % 256] = _
  unfold b8
  simp
theorem numB_two (n : Int) : numBy n 2 = [b8 (n / 256), b8 n] := by
  show [n / 2 ^ (8 * 1) % 256, n / 2 ^ (8 * 0) % 256] = _
  unfold b8
  simp
end Go.Proofs.YtaenpgdmiaekcaaGreatDoor
/-
  DESKSHOW: desk.Show.
-/
namespace Go.Proofs.YtaenpgdmiaekcaaGreatDoor
set_option maxRecDepth 100000
open Go.Shelf Go.RowKit Im

shelf_lay LaysM.n176 Nm 176 at Tryz as Tryz.laysAI
/-- The table of the powers of ten. -/
def Pow (w : World) : Prop := Lib.TabIs Tryz.prog w "internal/strconv.uint64pow10" .u64 Lib.pow10Tab
theorem Pow.below {w w' : World} (h : Pow w) (hb : Below w.heap.size w w') : Pow w' := Lib.tabBelow_of_tabIs h w' hb
theorem appendInt_any (B n : Nat) (i : Int) (h0 : -9223372036854775808 ≤ i) (h1 : i ≤ 9223372036854775807) (sv : Value) (xs : List Value) (w : World) (hown : w.ownsRow B 5 1 sv n xs) (hBw : B ≤ w.heap.size) (hlim : n + 21 ≤ 140737488355328)
    (htab : Lib.TabBelow Tryz.prog B w "internal/strconv.uint64pow10" .u64 Lib.pow10Tab) :
    Calls Tryz.prog 14 #[sv, .int .i64 i, .int .i64 10] w fun e w' => ∃ v', e = .returned v' ∧ w'.ownsRow B 5 1 v' (n + (Lib.itoa i).length) (xs ++ Lib.byteCells (Lib.itoa i)) ∧ Below B w w' := (Any.strconv_AppendInt_10 Tryz.laysAI B n i h0 h1 sv xs w hown hBw hlim htab).mono fun _ _ ⟨v', h1, h2, h3, _⟩ => ⟨v', h1, h2, h3⟩
/-- What Show says. -/
def textS (W H : Int) (ps : List Int) : ByteArray := if fineB W H ps = true then ⟨(showN W.toNat ps ps.length).toArray⟩ else ByteArray.empty
theorem show_next (W : Nat) (ps : List Int) (k : Nat) {c : UInt8} (hc : c = if (k + 1) % W = 0 then 10 else 32) : Lib.byteCells (showN W ps k) ++ Lib.byteCells (Lib.itoa (ps.getD k 0)) ++ [Value.int .u8 (c.toNat : Int)] = Lib.byteCells (showN W ps (k + 1)) ∧ (showN W ps k).length + (Lib.itoa (ps.getD k 0)).length + 1 = (showN W ps (k + 1)).length := by
  subst hc
  have e : showN W ps (k + 1) = showN W ps k ++ (Lib.itoa (ps.getD k 0) ++ [if (k + 1) % W = 0 then 10 else 32]) := rfl
  rw [e]
  constructor
  · simp [Lib.byteCells]
  · simp [Nat.add_assoc]
theorem show_pos (W : Nat) (ps : List Int) (k : Nat) : 0 < (showN W ps (k + 1)).length := by
  have e : showN W ps (k + 1) = showN W ps k ++ (Lib.itoa (ps.getD k 0) ++ [if (k + 1) % W = 0 then 10 else 32]) := rfl
  rw [e, List.length_append, List.length_append, List.length_cons]
  omega
theorem num_bd {ps : List Int} (hn : ∀ n ∈ ps, 0 ≤ n ∧ n ≤ 65535) (k : Nat) : 0 ≤ ps.getD k 0 ∧ ps.getD k 0 ≤ 65535 := by
  rw [List.getD_eq_getElem?_getD]
  by_cases hk : k < ps.length
  · rw [List.getElem?_eq_getElem hk]
    exact hn _ (List.getElem_mem hk)
  · rw [List.getElem?_eq_none (by omega)]
    decide
set_option maxHeartbeats 8000000 in
theorem show_fine (W : Nat) (H : Int) (b off len cap : Nat) (ps : List Int) (w : World) (h : Ints 0 w (some ⟨b, off, none⟩) len ps) (hf : fineB W H ps = true) (hp : Pow w) :
    Calls Tryz.prog 5 #[.agg #[.int .i64 W, .int .i64 H, .slice (some ⟨b, off, none⟩) len cap]] w fun e w' => e = .returned (.tuple #[.string ⟨(showN W ps ps.length).toArray⟩, .int .i64 0]) ∧ Below w.heap.size w w' := by
  obtain ⟨i0, hi, hz0, hz1, hz2⟩ := info_parts Tryz.infoByte
  obtain ⟨hW, hH, hl, hn⟩ := (fine_iff _ _ _).1 hf
  have hm := side_mul ((side_iff _).2 hW) ((side_iff _).2 hH)
  have hlen := h.leng
  subst hlen
  have hlim : ps.length ≤ 256 := by omega
  have hpos : 0 < ps.length := by omega
  clear hl hm
  have hb0 := (Below.refl w.heap.size w).alloc (Nat.le_refl _) (.cells #[.int .i64 W, .int .i64 H, .slice (some ⟨b, off, none⟩) ps.length cap] 24)
  have c0 : (w.alloc (.cells #[.int .i64 W, .int .i64 H, .slice (some ⟨b, off, none⟩) ps.length cap] 24)).cell? ⟨w.heap.size, 0, none⟩ = some (.int .i64 W) := by simp [go_sem]
  have c2 : (w.alloc (.cells #[.int .i64 W, .int .i64 H, .slice (some ⟨b, off, none⟩) ps.length cap] 24)).cell? ⟨w.heap.size, 2, none⟩ = some (.slice (some ⟨b, off, none⟩) ps.length cap) := by simp [go_sem]
  have hck := check_fine cap (h.below (Nat.le_refl _) hb0) hf
  have hlt : w.heap.size < (w.alloc (.cells #[.int .i64 W, .int .i64 H, .slice (some ⟨b, off, none⟩) ps.length cap] 24)).heap.size := by simp
  have hlenN : ∀ k, (showN W ps k).length ≤ 22 * k := show_len W ps fun j => by
    have := num_bd hn j
    exact Lib.itoa_length_le _ (by omega) (by omega)
  go_enter Tryz.func5, Tryz.ntmps5
  go_wp2_with fail
  refine hck.mono ?_
  clear hck
  rintro e w1 ⟨rfl, b1⟩
  have hb1 := below_stepL hb0 b1
  have d0 := (b1.cell (p := ⟨w.heap.size, 0, none⟩) hlt).trans c0
  have d2 := (b1.cell (p := ⟨w.heap.size, 2, none⟩) hlt).trans c2
  have hl1 : w.heap.size < w1.heap.size := Nat.lt_of_lt_of_le hlt b1.size
  have hP1 := h.below (Nat.le_refl _) hb1
  have hT := Lib.tabBelow_of_tabIs (hp.below hb1)
  clear c0 c2 hlt hb0 h
  go_wp2_with fail
  go_loopw [5, 16] (fun u i wr => ∃ k : Nat, k ≤ ps.length ∧ i = .int .i64 k ∧ wr.ownsRow w1.heap.size 5 1 u (showN W ps k).length (Lib.byteCells (showN W ps k)) ∧ Below w1.heap.size w1 wr) (fun _ i _ => ps.length - (intOf i).toNat)
  case atStart => exact ⟨0, Nat.zero_le _, rfl, World.ownsRow_nil _ _ _ _, Below.refl _ _⟩
  case round =>
    obtain ⟨k, hk, rfl, hown, hbr⟩ := hrel
    obtain ⟨ua, uc, rfl⟩ := owns_slice hown
    have hln := hlenN k
    have hsz := hbr.size
    have e0 := (hbr.cell (p := ⟨w.heap.size, 0, none⟩) hl1).trans d0
    by_cases hlt : k < ps.length
    · have hkI : (k : Int) < (ps.length : Int) := by omega
      have hk0 : (0 : Int) ≤ (k : Int) := by omega
      have hbk : b < w1.heap.size ∧ w1.cell? ⟨b, off + k, none⟩ = some (.int .i64 (ps.getD k 0)) := by
        rcases hP1.cells with e | ⟨b', off', e, _, h2, h3⟩
        · subst e; simp at hpos
        · injection e with e; injection e with e1 e2; subst e1; subst e2
          exact ⟨h2, h3 k hlt⟩
      have ek := (hbr.cell (p := ⟨b, off + k, none⟩) hbk.1).trans hbk.2
      have hq := num_bd hn k
      have hql := Lib.itoa_length_le (ps.getD k 0) (by omega) (by omega)
      have HS1 : Hid (∀ c : UInt8, (c = if (k + 1) % W = 0 then 10 else 32) → _) := fun c => show_next W ps k (c := c)
      have hmod : ((k : Int) + 1).tmod (W : Int) = (((k + 1) % W : Nat) : Int) := by
        rw [Int.tmod_eq_emod_of_nonneg (by omega), Int.natCast_emod]; rfl
      have hW0 : ¬ (W : Int) = 0 := by omega
      generalize ps.getD k 0 = q at *
      have hai := appendInt_any w1.heap.size (showN W ps k).length q (by omega) (by omega) (.slice ua (showN W ps k).length uc) _ wr hown hsz (by omega) (hT.on hbr)
      generalize showN W ps k = M at *
      clear hlenN hbk d0 d2 hP1 hf hn
      go_wp2_with fail
      refine hai.mono ?_
      rintro e w2 ⟨v2, rfl, hown2, b2⟩
      obtain ⟨va, vc, rfl⟩ := owns_slice hown2
      have hsz2 := b2.size
      have f0 := (b2.cell (p := ⟨w.heap.size, 0, none⟩) hl1).trans e0
      clear e0 ek hai hown
      by_cases hnl : (k + 1) % W = 0
      · rw [hnl] at hmod
        have HC : Hid (_) := HS1.out 10 (by rw [if_pos hnl])
        go_wp2_with (at_builtin; refine wpList_append_own_at _ rfl _ _ 42 rfl w1.heap.size 5 i0 (.int .u8 0) 1 1 Tryz.underlying42 hi hz0 hz1 hz2 rfl (by decide) _ _ _ rfl (World.ownsRow.alloc hown2 _) ⟨w2.heap.size, 0, none⟩ 1 1 [.int .u8 10] rfl rfl (cell_one_new _ _ _) (by intro u hu; simp at hu; subst hu; rfl) (by unfold maxLen; omega) (by omega) (by simp; omega) ?_; intro v' w9 hown9 hgrow9 _ hat9; obtain ⟨a9, c9, hv9⟩ := owns_slice hown9; subst hv9)
        have b9 : Below w1.heap.size w1 w9 := ((hbr.trans b2).alloc (by omega) _).grown hgrow9 (by simp; omega) (fun j hj => (World.ownsRow.lt hown2 j hj).1)
        go_roundw
        case rel => exact ⟨k + 1, by omega, by go_num, by rw [← HC.out.1, ← HC.out.2]; exact hown9, b9⟩
        case measure => simp [intOf]; omega
      · have hmn : ¬ (((k + 1) % W : Nat) : Int) = 0 := by omega
        have HNL : Hid (_) := hnl
        clear hnl
        generalize (((k + 1) % W : Nat) : Int) = m at *
        have HC : Hid (_) := HS1.out 32 (by rw [if_neg HNL.out])
        go_wp2_with (at_builtin; refine wpList_append_own_at _ rfl _ _ 42 rfl w1.heap.size 5 i0 (.int .u8 0) 1 1 Tryz.underlying42 hi hz0 hz1 hz2 rfl (by decide) _ _ _ rfl (World.ownsRow.alloc hown2 _) ⟨w2.heap.size, 0, none⟩ 1 1 [.int .u8 32] rfl rfl (cell_one_new _ _ _) (by intro u hu; simp at hu; subst hu; rfl) (by unfold maxLen; omega) (by omega) (by simp; omega) ?_; intro v' w9 hown9 hgrow9 _ hat9; obtain ⟨a9, c9, hv9⟩ := owns_slice hown9; subst hv9)
        have b9 : Below w1.heap.size w1 w9 := ((hbr.trans b2).alloc (by omega) _).grown hgrow9 (by simp; omega) (fun j hj => (World.ownsRow.lt hown2 j hj).1)
        go_roundw
        case rel => exact ⟨k + 1, by omega, by go_num, by rw [← HC.out.1, ← HC.out.2]; exact hown9, b9⟩
        case measure => simp [intOf]; omega
    · have hke : k = ps.length := by omega
      subst hke
      obtain ⟨m, hm⟩ : ∃ m, ps.length = m + 1 := ⟨ps.length - 1, by omega⟩
      have hps : 0 < (showN W ps ps.length).length := by rw [hm]; exact show_pos W ps m
      have HB : Hid (_) := below_stepL hb1 hbr
      clear hm d0 d2 e0 hP1
      generalize hM : showN W ps ps.length = M at *
      have HM : Hid (_) := hM
      clear hM
      rcases hown.2 with ⟨-, h0⟩ | ⟨g, gcap, cur, e, -, -, -, -, -, -⟩
      · omega
      · injection e with e1 e2 e3
        subst e1; subst e3
        have hcv := run_convert_bytes_back (P := Tryz.prog) wr 42 9 5 ⟨g, 0, none⟩ uc M Tryz.underlying42 Tryz.underlying5 Tryz.underlying9 (fun j hj => hown.cells (g := g) rfl j _ (by simp [Lib.byteCells, hj]))
        clear hown
        go_wp2
        go_ret2
        exact ⟨by rw [HM.out]; rfl, HB.out⟩
theorem show_any (W H : Int) (a : Option Addr) (len cap : Nat) (ps : List Int) (w : World) (h : Ints 0 w a len ps) (hp : Pow w) :
    Calls Tryz.prog 5 #[.agg #[.int .i64 W, .int .i64 H, .slice a len cap]] w fun e w' => e = .returned (.tuple #[.string (textS W H ps), .int .i64 (if fineB W H ps = true then 0 else 1)]) ∧ Below w.heap.size w w' := by
  by_cases hf : fineB W H ps = true
  · obtain ⟨hW, hH, hl, _⟩ := (fine_iff _ _ _).1 hf
    have hm := side_mul ((side_iff _).2 hW) ((side_iff _).2 hH)
    obtain ⟨n, rfl⟩ : ∃ n : Nat, W = n := ⟨W.toNat, by omega⟩
    unfold textS
    rw [if_pos hf, if_pos hf]
    rcases h.cells with e | ⟨b, off, rfl, _, _, _⟩
    · subst e; simp at hl; omega
    · exact show_fine n H b off len cap ps w h hf hp
  · have hf' : fineB W H ps = false := by simpa using hf
    have hb0 := (Below.refl w.heap.size w).alloc (Nat.le_refl _) (.cells #[.int .i64 W, .int .i64 H, .slice a len cap] 24)
    have hck := check_not cap (h.below (Nat.le_refl _) hb0) hf'
    unfold textS
    rw [if_neg hf, if_neg hf]
    clear hf hf'
    go_enter Tryz.func5, Tryz.ntmps5
    go_wp2_with fail
    refine hck.mono ?_
    rintro e w1 ⟨rfl, b1⟩
    go_wp2
    go_ret2
    exact ⟨rfl, below_stepL hb0 b1⟩
end Go.Proofs.YtaenpgdmiaekcaaGreatDoor
/-
  MEAN: image.mean, of a function that tells the number of a place.
-/
namespace Go.Proofs.YtaenpgdmiaekcaaGreatDoor
set_option maxRecDepth 100000
open Go.RowKit Im

set_option maxHeartbeats 1000000 in
theorem mean_any (W H : Nat) (n : Nat) (caps : Array Value) (p : Nat → Nat → Int) (w : World) (l t r b : Nat) (hW : W ≤ 16) (hH : H ≤ 16) (h1 : l ≤ r) (h2 : r < W) (h3 : t ≤ b) (h4 : b < H)
    (hp : ∀ x y, x < W → y < H → 0 ≤ p x y ∧ p x y ≤ 65535) (hf : Tells w n caps W H p) :
    Calls Tryz.prog 154 #[.func (.func n) #[] caps, .int .i64 l, .int .i64 t, .int .i64 r, .int .i64 b] w fun e w' => e = .returned (.int .i64 (meanP p l t r b)) ∧ Below w.heap.size w w' := by
  have hent := hf.enters
  go_enter Tryz.func154, Tryz.ntmps154
  go_wp2
  go_loopw [11, 12] (fun s i wr => ∃ j : Nat, j ≤ b + 1 - t ∧ i = .int .i64 ((t : Int) + (j : Int)) ∧ s = .int .i64 (sumBox p l t (r + 1 - l) j) ∧ Below w.heap.size w wr) (fun _ i _ => b + 1 - (intOf i).toNat)
  case atStart => exact ⟨0, Nat.zero_le _, by simp, rfl, Below.refl _ _⟩
  case round =>
    obtain ⟨j, hj, rfl, rfl, hbr⟩ := hrel
    have sb := sumBox_bd (p := p) (l := l) (t := t) (n := r + 1 - l) (by omega) (m := j) (fun x y _ _ _ _ => hp x y (by omega) (by omega))
    by_cases hlt : j < b + 1 - t
    · have hle : (t : Int) + (j : Int) ≤ b := by omega
      go_wp2
      go_loopw [11, 13] (fun s i wr => ∃ i' : Nat, i' ≤ r + 1 - l ∧ i = .int .i64 ((l : Int) + (i' : Int)) ∧ s = .int .i64 (sumBox p l t (r + 1 - l) j + sumRow p (t + j) l i') ∧ Below w.heap.size w wr) (fun _ i _ => r + 1 - (intOf i).toNat)
      case atStart => exact ⟨0, Nat.zero_le _, by simp, by simp [sumRow], hbr⟩
      case round =>
        obtain ⟨i, hi, rfl, rfl, hbs⟩ := hrel
        have sr := sumRow_bd (p := p) (y := t + j) (l := l) (n := i) (fun x _ _ => hp x (t + j) (by omega) (by omega))
        by_cases hli : i < r + 1 - l
        · have hli2 : (l : Int) + (i : Int) ≤ r := by omega
          have hpp := hp (l + i) (t + j) (by omega) (by omega)
          go_wp2_with (refine (hf.tells (l + i) (t + j) _ (by omega) (by omega) hbs).mono ?_; rintro e w2 ⟨rfl, hb2⟩)
          have hbw := hbs.trans (hb2.mono (by have := hbs.size; omega))
          go_roundw
          case rel => exact ⟨i + 1, by omega, by go_num, by show _ = Value.int .i64 (_ + (sumRow p (t + j) l i + p (l + i) (t + j))); go_num, hbw⟩
          case measure => simp [intOf]; omega
        · have hie : i = r + 1 - l := by omega
          subst hie
          go_wp2
          go_roundw
          case rel => exact ⟨j + 1, by omega, by go_num, rfl, hbs⟩
          case measure => simp [intOf]; omega
    · have hje : j = b + 1 - t := by omega
      subst hje
      have m1 : 1 ≤ ((r : Int) - l + 1) * ((b : Int) - t + 1) := (side_mul (by simp [sideB]; omega) (by simp [sideB]; omega)).1
      have m2 : ((r : Int) - l + 1) * ((b : Int) - t + 1) ≤ 256 := (side_mul (by simp [sideB]; omega) (by simp [sideB]; omega)).2
      go_wp2
      go_ret
      exact ⟨rfl, hbr⟩
end Go.Proofs.YtaenpgdmiaekcaaGreatDoor
/-
  RULE: the functions of places of image.One.
-/
namespace Go.Proofs.YtaenpgdmiaekcaaGreatDoor
set_option maxRecDepth 100000
open Go.RowKit Im

/-- A right image of W columns and H rows, its numbers ps from the offset off of block b on. -/
structure Fine (w : World) (b off : Nat) (W H : Nat) (ps : List Int) : Prop where
  hW : 1 ≤ W ∧ W ≤ 16
  hH : 1 ≤ H ∧ H ≤ 16
  hb : b < w.heap.size
  len : ps.length = W * H
  cell : ∀ j, j < W * H → w.cell? ⟨b, off + j, none⟩ = some (.int .i64 (ps.getD j 0))
  num : ∀ n ∈ ps, 0 ≤ n ∧ n ≤ 65535

theorem Fine.below {w w' : World} {b off W H : Nat} {ps : List Int} (h : Fine w b off W H ps) (hb : Below w.heap.size w w') : Fine w' b off W H ps :=
  ⟨h.hW, h.hH, Nat.lt_of_lt_of_le h.hb hb.size, h.len, fun j hj => (hb.cell (p := ⟨b, off + j, none⟩) h.hb).trans (h.cell j hj), h.num⟩
theorem Fine.small {w : World} {b off W H : Nat} {ps : List Int} (h : Fine w b off W H ps) : 1 ≤ W * H ∧ W * H ≤ 256 := by
  have := side_mul (W := (W : Int)) (H := (H : Int)) (by have := h.hW; simp [sideB]; omega) (by have := h.hH; simp [sideB]; omega)
  rw [← Int.natCast_mul] at this
  omega
theorem Fine.px_bd {w : World} {b off W H : Nat} {ps : List Int} (h : Fine w b off W H ps) (x y : Nat) (hx : x < W) (hy : y < H) : 0 ≤ px W ps x y ∧ px W ps x y ≤ 65535 := by
  have hl : y * W + x < ps.length := by rw [h.len]; exact place_lt hx hy
  unfold px
  rw [List.getD_eq_getElem?_getD, List.getElem?_eq_getElem hl]
  exact h.num _ (List.getElem_mem hl)
theorem Fine.ints {w : World} {b off W H : Nat} {ps : List Int} (h : Fine w b off W H ps) : Ints 0 w (some ⟨b, off, none⟩) (W * H) ps :=
  ⟨h.len, by have := h.small; omega, .inr ⟨b, off, rfl, Nat.zero_le _, h.hb, h.cell⟩⟩
theorem Fine.fineB {w : World} {b off W H : Nat} {ps : List Int} (h : Fine w b off W H ps) : fineB W H ps = true := by
  rw [fine_iff]
  exact ⟨by have := h.hW; omega, by have := h.hH; omega, by rw [h.len, Int.natCast_mul], h.num⟩
theorem fine_of {w : World} {a : Option Addr} {len : Nat} {W H : Int} {ps : List Int} (h : Ints 0 w a len ps) (hf : fineB W H ps = true) :
    ∃ (W' H' b off : Nat), W = W' ∧ H = H' ∧ a = some ⟨b, off, none⟩ ∧ len = W' * H' ∧ Fine w b off W' H' ps := by
  obtain ⟨h1, h2, h3, h4⟩ := (fine_iff W H ps).1 hf
  obtain ⟨W', rfl⟩ := Int.eq_ofNat_of_zero_le (show 0 ≤ W by omega)
  obtain ⟨H', rfl⟩ := Int.eq_ofNat_of_zero_le (show 0 ≤ H by omega)
  have hl : ps.length = W' * H' := by rw [← Int.natCast_mul] at h3; omega
  have hl' := h.leng
  rcases h.cells with e | ⟨b, off, ha, _, hb, hc⟩
  · subst e
    have : 1 * 1 ≤ W' * H' := Nat.mul_le_mul (by omega) (by omega)
    simp at hl; omega
  · exact ⟨W', H', b, off, rfl, rfl, ha, by omega, by omega, by omega, hb, hl, fun j hj => hc j (by omega), h4⟩

theorem numbers_enters : ∀ args w, (callFunc 147 args).run Tryz.prog w = .ok (.enter 147 args) w := fun _ _ => by kernel_rfl
theorem numbersOf_any (W H : Int) (a : Option Addr) (len cap : Nat) (w : World) :
    Calls Tryz.prog 110 #[.agg #[.int .i64 W, .int .i64 H, .slice a len cap]] w fun e w' => e = .returned (.func (.func 147) #[] #[.pointer (some ⟨w.heap.size, 0, none⟩)]) ∧ w' = w.alloc (.cells #[.int .i64 W, .int .i64 H, .slice a len cap] 24) := by
  go_enter Tryz.func110, Tryz.ntmps110
  go_wp2
  go_ret
  exact ⟨rfl, rfl⟩
/-- The image lies in the box c. -/
structure Boxed (w : World) (c b off cap W H : Nat) : Prop where
  lt : c < w.heap.size
  c0 : w.cell? ⟨c, 0, none⟩ = some (.int .i64 W)
  c1 : w.cell? ⟨c, 1, none⟩ = some (.int .i64 H)
  c2 : w.cell? ⟨c, 2, none⟩ = some (.slice (some ⟨b, off, none⟩) (W * H) cap)
theorem Boxed.below {w w' : World} {c b off cap W H : Nat} (h : Boxed w c b off cap W H) (hb : Below w.heap.size w w') : Boxed w' c b off cap W H :=
  ⟨Nat.lt_of_lt_of_le h.lt hb.size, (hb.cell (p := ⟨c, 0, none⟩) h.lt).trans h.c0, (hb.cell (p := ⟨c, 1, none⟩) h.lt).trans h.c1, (hb.cell (p := ⟨c, 2, none⟩) h.lt).trans h.c2⟩
theorem numbers_tells {w : World} {c b off cap W H : Nat} {ps : List Int} (hB : Boxed w c b off cap W H) (hF : Fine w b off W H ps) : Tells w 147 #[.pointer (some ⟨c, 0, none⟩)] W H (px W ps) := by
  refine ⟨numbers_enters, fun x y w1 hx hy hbel => ?_⟩
  obtain ⟨hlt, c0, c1, c2⟩ := hB.below hbel
  have hc := (hF.below hbel).cell (y * W + x) (place_lt hx hy)
  have hpl := place_lt hx hy
  obtain ⟨hm, hM⟩ := hF.small
  have hb1 := hF.hW
  have hb2 := hF.hH
  have hpi : (y : Int) * (W : Int) + (x : Int) < (W : Int) * (H : Int) := by rw [← Int.natCast_mul, ← Int.natCast_mul]; omega
  have hp0 : 0 ≤ (y : Int) * (W : Int) := Int.mul_nonneg (by omega) (by omega)
  have hpM : (W : Int) * (H : Int) ≤ 256 := by rw [← Int.natCast_mul]; omega
  obtain ⟨v, hv⟩ : ∃ v, v = px W ps x y := ⟨_, rfl⟩
  have hc' : w1.cell? ⟨b, off + (y * W + x), none⟩ = some (.int .i64 v) := by rw [hv]; exact hc
  show Calls Tryz.prog 147 #[.int .i64 x, .int .i64 y, .pointer (some ⟨c, 0, none⟩)] w1 _
  rw [← hv]
  clear hc hv hF hB hpl
  go_enter Tryz.func147, Tryz.ntmps147
  go_wp2
  go_ret
  exact ⟨rfl, Below.refl _ _⟩
end Go.Proofs.YtaenpgdmiaekcaaGreatDoor
