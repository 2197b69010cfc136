/- WireM, WireNum, WireFrm, WireWrite, WireRef: joined, in this order. -/
import Derived.Test.YtaenpgdmiaekcaaGreatDoorM01
import Derived.Test.YtaenpgdmiaekcaaGreatDoorM03
import Derived.Maps.AppendAt
import Derived.Test.YtaenpgdmiaekcaaGreatDoorM10
import Derived.Test.YtaenpgdmiaekcaaGreatDoorM15
import Derived.Test.YtaenpgdmiaekcaaGreatDoorM11
import Derived.Laws.BytesArg
/-
  WIREM: numbers alone: the bytes of a frame, and the frame of which bytes are.
-/
namespace Go.Proofs.YtaenpgdmiaekcaaGreatDoor
set_option maxRecDepth 100000

def b8 (n : Int) : Int := n % 256
def lightBytes (l : Lt) : List Int := [b8 l.X, b8 l.Y, b8 l.R, b8 (l.P / 256), b8 l.P]
def passBytes (p : Ps) : List Int := [b8 p.Op, b8 p.To, b8 p.A, b8 p.B, b8 (p.K / 65536), b8 (p.K / 256), b8 p.K, b8 p.ls.length] ++ p.ls.flatMap lightBytes
def frameBytes (f : Fr) : List Int := [b8 f.W, b8 f.H, b8 f.S, b8 f.O, b8 f.ps.length] ++ f.ps.flatMap passBytes
/-- The n numbers from place i on; nothing there is 0. -/
def win (s : List Int) (i n : Nat) : List Int := (List.range n).map fun k => s.getD (i + k) 0
theorem win_len (s : List Int) (i n : Nat) : (win s i n).length = n := by simp [win]
theorem win_add (s : List Int) (i n m : Nat) : win s i (n + m) = win s i n ++ win s (i + n) m := by
  unfold win
  rw [List.range_add, List.map_append, List.map_map]
  congr 1
  refine List.map_congr_left fun k _ => ?_
  simp only [Function.comp]
  rw [Nat.add_assoc]
theorem win_all (s : List Int) : win s 0 s.length = s := by
  refine List.ext_getElem? fun k => ?_
  unfold win
  by_cases h : k < s.length
  · simp [h, List.getD]
  · rw [List.getElem?_eq_none (by simp; omega), List.getElem?_eq_none (by omega)]
/-- The number for which n, of three bytes, stands. -/
def sgn (n : Int) : Int := if 8388608 ≤ n then n - 16777216 else n
def rdLight (s : List Int) (i : Nat) : Lt := ⟨s.getD i 0, s.getD (i + 1) 0, s.getD (i + 2) 0, 256 * s.getD (i + 3) 0 + s.getD (i + 4) 0⟩
def rdLights (s : List Int) (i : Nat) : Nat → List Lt
  | 0 => []
  | n + 1 => rdLights s i n ++ [rdLight s (i + 5 * n)]
def rdPass (s : List Int) (i : Nat) : Ps := ⟨s.getD i 0, s.getD (i + 1) 0, s.getD (i + 2) 0, s.getD (i + 3) 0, sgn (65536 * s.getD (i + 4) 0 + 256 * s.getD (i + 5) 0 + s.getD (i + 6) 0), rdLights s (i + 8) (s.getD (i + 7) 0).toNat⟩
def rdStop (s : List Int) (i : Nat) : Nat := i + 8 + 5 * (s.getD (i + 7) 0).toNat
def rdPos (s : List Int) : Nat → Nat
  | 0 => 5
  | n + 1 => rdStop s (rdPos s n)
def rdPasses (s : List Int) : Nat → List Ps
  | 0 => []
  | n + 1 => rdPasses s n ++ [rdPass s (rdPos s n)]
def rdFrame (s : List Int) : Fr := ⟨s.getD 0 0, s.getD 1 0, s.getD 2 0, s.getD 3 0, rdPasses s (s.getD 4 0).toNat⟩
def rdEnd (s : List Int) : Nat := rdPos s (s.getD 4 0).toNat
/-- All are bytes. -/
def Bytes (s : List Int) : Prop := ∀ x ∈ s, 0 ≤ x ∧ x < 256
theorem Bytes.at {s : List Int} (h : Bytes s) (i : Nat) : 0 ≤ s.getD i 0 ∧ s.getD i 0 < 256 := by
  rw [List.getD_eq_getElem?_getD]
  by_cases hi : i < s.length
  · rw [List.getElem?_eq_getElem hi]; exact h _ (List.getElem_mem hi)
  · rw [List.getElem?_eq_none (by omega)]; simp
theorem Bytes.low {s : List Int} (h : Bytes s) (i : Nat) : b8 (s.getD i 0) = s.getD i 0 := by
  have := h.at i
  unfold b8
  omega
theorem rdLights_len (s : List Int) (i : Nat) : ∀ n, (rdLights s i n).length = n
  | 0 => rfl
  | n + 1 => by unfold rdLights; rw [List.length_append, rdLights_len s i n]; rfl
theorem rdPasses_len (s : List Int) : ∀ n, (rdPasses s n).length = n
  | 0 => rfl
  | n + 1 => by unfold rdPasses; rw [List.length_append, rdPasses_len s n]; rfl
theorem bytes_light {s : List Int} (h : Bytes s) (i : Nat) : lightBytes (rdLight s i) = win s i 5 := by
  have h3 := h.at (i + 3)
  have h4 := h.at (i + 4)
  have e1 : b8 ((256 * s.getD (i + 3) 0 + s.getD (i + 4) 0) / 256) = s.getD (i + 3) 0 := by unfold b8; omega
  have e2 : b8 (256 * s.getD (i + 3) 0 + s.getD (i + 4) 0) = s.getD (i + 4) 0 := by unfold b8; omega
  show [b8 (s.getD i 0), b8 (s.getD (i + 1) 0), b8 (s.getD (i + 2) 0), b8 ((256 * s.getD (i + 3) 0 + s.getD (i + 4) 0) / 256), b8 (256 * s.getD (i + 3) 0 + s.getD (i + 4) 0)] = [s.getD (i + 0) 0, s.getD (i + 1) 0, s.getD (i + 2) 0, s.getD (i + 3) 0, s.getD (i + 4) 0]
  rw [h.low i, h.low (i + 1), h.low (i + 2), e1, e2]; rfl
theorem bytes_lights {s : List Int} (h : Bytes s) (i : Nat) : ∀ n, (rdLights s i n).flatMap lightBytes = win s i (5 * n)
  | 0 => rfl
  | n + 1 => by
    unfold rdLights
    rw [List.flatMap_append, bytes_lights h i n, show 5 * (n + 1) = 5 * n + 5 by omega, win_add]
    simp [bytes_light h]
theorem bytes_pass {s : List Int} (h : Bytes s) (i : Nat) : passBytes (rdPass s i) = win s i (8 + 5 * (s.getD (i + 7) 0).toNat) := by
  have h4 := h.at (i + 4)
  have h5 := h.at (i + 5)
  have h6 := h.at (i + 6)
  have h7 := h.at (i + 7)
  have e1 : b8 (sgn (65536 * s.getD (i + 4) 0 + 256 * s.getD (i + 5) 0 + s.getD (i + 6) 0) / 65536) = s.getD (i + 4) 0 := by unfold b8 sgn; split <;> omega
  have e2 : b8 (sgn (65536 * s.getD (i + 4) 0 + 256 * s.getD (i + 5) 0 + s.getD (i + 6) 0) / 256) = s.getD (i + 5) 0 := by unfold b8 sgn; split <;> omega
  have e3 : b8 (sgn (65536 * s.getD (i + 4) 0 + 256 * s.getD (i + 5) 0 + s.getD (i + 6) 0)) = s.getD (i + 6) 0 := by unfold b8 sgn; split <;> omega
  have e4 : b8 ((rdLights s (i + 8) (s.getD (i + 7) 0).toNat).length : Int) = s.getD (i + 7) 0 := by rw [rdLights_len]; unfold b8; omega
  rw [win_add, ← bytes_lights h]
  show [b8 (s.getD i 0), b8 (s.getD (i + 1) 0), b8 (s.getD (i + 2) 0), b8 (s.getD (i + 3) 0), b8 (sgn (65536 * s.getD (i + 4) 0 + 256 * s.getD (i + 5) 0 + s.getD (i + 6) 0) / 65536), b8 (sgn (65536 * s.getD (i + 4) 0 + 256 * s.getD (i + 5) 0 + s.getD (i + 6) 0) / 256), b8 (sgn (65536 * s.getD (i + 4) 0 + 256 * s.getD (i + 5) 0 + s.getD (i + 6) 0)), b8 ((rdLights s (i + 8) (s.getD (i + 7) 0).toNat).length : Int)] ++ (rdLights s (i + 8) (s.getD (i + 7) 0).toNat).flatMap lightBytes = [s.getD (i + 0) 0, s.getD (i + 1) 0, s.getD (i + 2) 0, s.getD (i + 3) 0, s.getD (i + 4) 0, s.getD (i + 5) 0, s.getD (i + 6) 0, s.getD (i + 7) 0] ++ _
  rw [h.low i, h.low (i + 1), h.low (i + 2), h.low (i + 3), e1, e2, e3, e4]; rfl
theorem rdPos_ge (s : List Int) : ∀ n, 5 + 8 * n ≤ rdPos s n
  | 0 => Nat.le_refl _
  | n + 1 => by have := rdPos_ge s n; show _ ≤ rdStop s (rdPos s n); unfold rdStop; omega
theorem bytes_passes {s : List Int} (h : Bytes s) : ∀ n, win s 0 5 ++ (rdPasses s n).flatMap passBytes = win s 0 (rdPos s n)
  | 0 => by simp [rdPasses, rdPos]
  | n + 1 => by
    have ih := bytes_passes h n
    unfold rdPasses
    rw [List.flatMap_append, ← List.append_assoc, ih]
    show _ = win s 0 (rdStop s (rdPos s n))
    unfold rdStop
    rw [Nat.add_assoc, win_add, Nat.zero_add]
    simp [bytes_pass h]
/-- The bytes of the frame that is read are those that were read. -/
theorem bytes_frame {s : List Int} (h : Bytes s) : frameBytes (rdFrame s) = win s 0 (rdEnd s) := by
  have h4 := h.at 4
  have e4 : b8 ((rdPasses s (s.getD 4 0).toNat).length : Int) = s.getD 4 0 := by rw [rdPasses_len]; unfold b8; omega
  unfold rdEnd
  rw [← bytes_passes h]
  show [b8 (s.getD 0 0), b8 (s.getD 1 0), b8 (s.getD 2 0), b8 (s.getD 3 0), b8 ((rdPasses s (s.getD 4 0).toNat).length : Int)] ++ _ = _
  rw [h.low 0, h.low 1, h.low 2, h.low 3, e4]; rfl
theorem bytes_same {s : List Int} (h : Bytes s) : frameBytes (rdFrame s) = s ↔ rdEnd s = s.length := by
  rw [bytes_frame h]
  constructor
  · intro e
    have := congrArg List.length e
    rwa [win_len] at this
  · intro e
    rw [e, win_all]
/-- Lights, passes and frames whose numbers go into their bytes. -/
def LtOk (l : Lt) : Prop := (0 ≤ l.X ∧ l.X < 256) ∧ (0 ≤ l.Y ∧ l.Y < 256) ∧ (0 ≤ l.R ∧ l.R < 256) ∧ (0 ≤ l.P ∧ l.P < 65536)
def PsOk (p : Ps) : Prop := (0 ≤ p.Op ∧ p.Op < 256) ∧ (0 ≤ p.To ∧ p.To < 256) ∧ (0 ≤ p.A ∧ p.A < 256) ∧ (0 ≤ p.B ∧ p.B < 256) ∧ (-8388608 ≤ p.K ∧ p.K < 8388608) ∧ p.ls.length < 256 ∧ ∀ l ∈ p.ls, LtOk l
def FrOk (f : Fr) : Prop := (0 ≤ f.W ∧ f.W < 256) ∧ (0 ≤ f.H ∧ f.H < 256) ∧ (0 ≤ f.S ∧ f.S < 256) ∧ (0 ≤ f.O ∧ f.O < 256) ∧ f.ps.length < 256 ∧ ∀ p ∈ f.ps, PsOk p
theorem getD_mid {pre l post : List Int} {k : Nat} (h : k < l.length) : (pre ++ (l ++ post)).getD (pre.length + k) 0 = l.getD k 0 := by
  rw [List.getD_eq_getElem?_getD, List.getElem?_append_right (by omega), Nat.add_sub_cancel_left, List.getElem?_append_left h, ← List.getD_eq_getElem?_getD]
theorem read_light {pre post : List Int} {l : Lt} (h : LtOk l) : rdLight (pre ++ (lightBytes l ++ post)) pre.length = l := by
  obtain ⟨hX, hY, hR, hP⟩ := h
  have g : ∀ k, k < 5 → (pre ++ (lightBytes l ++ post)).getD (pre.length + k) 0 = (lightBytes l).getD k 0 := fun k hk => getD_mid hk
  have g0 := g 0 (by omega)
  rw [Nat.add_zero] at g0
  unfold rdLight
  rw [g0, g 1 (by omega), g 2 (by omega), g 3 (by omega), g 4 (by omega)]
  obtain ⟨X, Y, R, P⟩ := l
  show Lt.mk (b8 X) (b8 Y) (b8 R) (256 * b8 (P / 256) + b8 P) = ⟨X, Y, R, P⟩
  simp only at hX hY hR hP
  have e1 : b8 X = X := by unfold b8; omega
  have e2 : b8 Y = Y := by unfold b8; omega
  have e3 : b8 R = R := by unfold b8; omega
  have e4 : 256 * b8 (P / 256) + b8 P = P := by unfold b8; omega
  rw [e1, e2, e3, e4]
theorem lights_len : ∀ ls : List Lt, (ls.flatMap lightBytes).length = 5 * ls.length
  | [] => rfl
  | l :: ls => by rw [List.flatMap_cons, List.length_append, lights_len ls]; simp [lightBytes]; omega
theorem read_lights {pre post : List Int} : ∀ {ls : List Lt}, (∀ l ∈ ls, LtOk l) → ∀ n, n ≤ ls.length → rdLights (pre ++ (ls.flatMap lightBytes ++ post)) pre.length n = ls.take n
  | ls, h, 0, _ => by simp [rdLights]
  | ls, h, n + 1, hn => by
    have hl : n < ls.length := by omega
    have ih := read_lights (pre := pre) (post := post) h n (by omega)
    unfold rdLights
    rw [ih, List.take_succ_eq_append_getElem hl]
    congr 2
    have e : ls = ls.take n ++ (ls[n] :: ls.drop (n + 1)) := by rw [← List.drop_eq_getElem_cons hl, List.take_append_drop]
    have e2 : pre ++ (ls.flatMap lightBytes ++ post) = (pre ++ (ls.take n).flatMap lightBytes) ++ (lightBytes ls[n] ++ ((ls.drop (n + 1)).flatMap lightBytes ++ post)) := by
      refine (congrArg (fun l => pre ++ (l.flatMap lightBytes ++ post)) e).trans ?_
      simp only [List.flatMap_append, List.flatMap_cons, List.append_assoc]
    have e3 : pre.length + 5 * n = (pre ++ (ls.take n).flatMap lightBytes).length := by
      rw [List.length_append, lights_len, List.length_take]; omega
    rw [e2, e3]
    exact read_light (h _ (List.getElem_mem hl))
theorem read_pass {pre post : List Int} {p : Ps} (h : PsOk p) : rdPass (pre ++ (passBytes p ++ post)) pre.length = p ∧ rdStop (pre ++ (passBytes p ++ post)) pre.length = pre.length + (passBytes p).length := by
  obtain ⟨hO, hT, hA, hB, hK, hl, hL⟩ := h
  have hlen : (passBytes p).length = 8 + 5 * p.ls.length := by unfold passBytes; rw [List.length_append, lights_len]; rfl
  have g : ∀ k, k < 8 → (pre ++ (passBytes p ++ post)).getD (pre.length + k) 0 = (passBytes p).getD k 0 := fun k hk => getD_mid (by omega)
  have g0 := g 0 (by omega)
  rw [Nat.add_zero] at g0
  have g7 := g 7 (by omega)
  have e7 : (passBytes p).getD 7 0 = p.ls.length := by
    show b8 (p.ls.length : Int) = _
    unfold b8; omega
  have hls : rdLights (pre ++ (passBytes p ++ post)) (pre.length + 8) p.ls.length = p.ls := by
    have := read_lights (pre := pre ++ [b8 p.Op, b8 p.To, b8 p.A, b8 p.B, b8 (p.K / 65536), b8 (p.K / 256), b8 p.K, b8 p.ls.length]) (post := post) hL p.ls.length (Nat.le_refl _)
    rw [List.take_length] at this
    rw [List.length_append] at this
    unfold passBytes
    simpa using this
  constructor
  · unfold rdPass
    rw [g0, g 1 (by omega), g 2 (by omega), g 3 (by omega), g 4 (by omega), g 5 (by omega), g 6 (by omega), g7, e7, Int.toNat_natCast, hls]
    obtain ⟨Op, To, A, B, K, ls⟩ := p
    show Ps.mk (b8 Op) (b8 To) (b8 A) (b8 B) (sgn (65536 * b8 (K / 65536) + 256 * b8 (K / 256) + b8 K)) ls = ⟨Op, To, A, B, K, ls⟩
    simp only at hO hT hA hB hK
    have e1 : b8 Op = Op := by unfold b8; omega
    have e2 : b8 To = To := by unfold b8; omega
    have e3 : b8 A = A := by unfold b8; omega
    have e4 : b8 B = B := by unfold b8; omega
    have e5 : sgn (65536 * b8 (K / 65536) + 256 * b8 (K / 256) + b8 K) = K := by unfold b8 sgn; split <;> omega
    rw [e1, e2, e3, e4, e5]
  · unfold rdStop
    rw [g7, e7, Int.toNat_natCast, hlen]; omega
theorem read_passes {pre : List Int} (h5 : pre.length = 5) : ∀ {ps : List Ps}, (∀ p ∈ ps, PsOk p) → ∀ n, n ≤ ps.length → rdPasses (pre ++ ps.flatMap passBytes) n = ps.take n ∧ rdPos (pre ++ ps.flatMap passBytes) n = (pre ++ (ps.take n).flatMap passBytes).length
  | ps, h, 0, _ => by simp [rdPasses, rdPos, h5]
  | ps, h, n + 1, hn => by
    have hl : n < ps.length := by omega
    obtain ⟨ih1, ih2⟩ := read_passes h5 h n (by omega)
    have e : ps = ps.take n ++ (ps[n] :: ps.drop (n + 1)) := by rw [← List.drop_eq_getElem_cons hl, List.take_append_drop]
    have e2 : pre ++ ps.flatMap passBytes = (pre ++ (ps.take n).flatMap passBytes) ++ (passBytes ps[n] ++ (ps.drop (n + 1)).flatMap passBytes) := by
      refine (congrArg (fun l => pre ++ l.flatMap passBytes) e).trans ?_
      simp only [List.flatMap_append, List.flatMap_cons, List.append_assoc]
    obtain ⟨r1, r2⟩ := read_pass (pre := pre ++ (ps.take n).flatMap passBytes) (post := (ps.drop (n + 1)).flatMap passBytes) (h _ (List.getElem_mem hl))
    rw [← e2, ← ih2] at r1 r2
    refine ⟨?_, ?_⟩
    · unfold rdPasses
      rw [ih1, r1, List.take_succ_eq_append_getElem hl]
    · show rdStop _ (rdPos _ n) = _
      rw [r2, ih2, List.take_succ_eq_append_getElem hl]
      simp only [List.flatMap_append, List.flatMap_cons, List.flatMap_nil, List.append_nil, List.length_append]
      omega
/-- What is written is read as it was. -/
theorem read_frame {f : Fr} (h : FrOk f) : rdFrame (frameBytes f) = f ∧ rdEnd (frameBytes f) = (frameBytes f).length := by
  obtain ⟨hW, hH, hS, hO, hl, hP⟩ := h
  obtain ⟨r1, r2⟩ := read_passes (pre := [b8 f.W, b8 f.H, b8 f.S, b8 f.O, b8 f.ps.length]) rfl hP f.ps.length (Nat.le_refl _)
  rw [List.take_length] at r1 r2
  have e4 : (frameBytes f).getD 4 0 = f.ps.length := by
    show b8 (f.ps.length : Int) = _
    unfold b8; omega
  constructor
  · unfold rdFrame
    rw [e4, Int.toNat_natCast]
    have : rdPasses (frameBytes f) f.ps.length = f.ps := r1
    rw [this]
    obtain ⟨W, H, S, O, ps⟩ := f
    show Fr.mk (b8 W) (b8 H) (b8 S) (b8 O) ps = ⟨W, H, S, O, ps⟩
    simp only at hW hH hS hO
    have e1 : b8 W = W := by unfold b8; omega
    have e2 : b8 H = H := by unfold b8; omega
    have e3 : b8 S = S := by unfold b8; omega
    have e5 : b8 O = O := by unfold b8; omega
    rw [e1, e2, e3, e5]
  · unfold rdEnd
    rw [e4, Int.toNat_natCast]
    exact r2
theorem b8_bd (n : Int) : 0 ≤ b8 n ∧ b8 n < 256 := by unfold b8; omega
theorem bytes_of_frame (f : Fr) : Bytes (frameBytes f) := by
  intro x hx
  have hb : ∀ n, 0 ≤ b8 n ∧ b8 n < 256 := b8_bd
  unfold frameBytes at hx
  rcases List.mem_append.1 hx with h | h
  · simp only [List.mem_cons, List.not_mem_nil, or_false] at h
    rcases h with rfl | rfl | rfl | rfl | rfl <;> exact hb _
  · obtain ⟨p, _, h⟩ := List.mem_flatMap.1 h
    unfold passBytes at h
    rcases List.mem_append.1 h with h | h
    · simp only [List.mem_cons, List.not_mem_nil, or_false] at h
      rcases h with rfl | rfl | rfl | rfl | rfl | rfl | rfl | rfl <;> exact hb _
    · obtain ⟨l, _, h⟩ := List.mem_flatMap.1 h
      unfold lightBytes at h
      simp only [List.mem_cons, List.not_mem_nil, or_false] at h
      rcases h with rfl | rfl | rfl | rfl | rfl <;> exact hb _
end Go.Proofs.YtaenpgdmiaekcaaGreatDoor
/-
  WIRENUM: rows of bytes that are one's own; wire.appendNumber.
-/
namespace Go.Proofs.YtaenpgdmiaekcaaGreatDoor
set_option maxRecDepth 100000
open Go.RowKit Im

/-- The slice value v is nil or the head of a row of bytes of the call's own, from block 'base' on; since w0 nothing else but the block r has changed. -/
structure BRow (base : Nat) (r : Option Nat) (w0 w : World) (v : Value) (l : List Int) : Prop where
  own : w.ownsRow base 5 1 v l.length (l.map (Value.int .u8))
  grew : w0.grownBy w r
  lies : v.ownBlock = r ∨ ∃ b, v.ownBlock = some b ∧ w0.heap.size ≤ b
theorem BRow.start {base : Nat} {w : World} {v : Value} {l : List Int} (h : w.ownsRow base 5 1 v l.length (l.map (Value.int .u8))) : BRow base v.ownBlock w w v l := ⟨h, World.grownBy.refl _ _, .inl rfl⟩
theorem BRow.alloc {base : Nat} {r : Option Nat} {w0 w : World} {v : Value} {l : List Int} (h : BRow base r w0 w v l) (o : Obj) : BRow base r w0 (w.alloc o) v l :=
  ⟨World.ownsRow.alloc h.own o, ⟨h.grew.os, h.grew.tape, h.grew.output, by have := h.grew.size; simp; omega, fun k hk hr => (Below.heap_alloc _ _ _ (Nat.lt_of_lt_of_le hk h.grew.size)).trans (h.grew.block k hk hr)⟩, h.lies⟩
theorem BRow.push {base : Nat} {r : Option Nat} {w0 w w1 : World} {v v' : Value} {l news : List Int} {m : Nat} (h : BRow base r w0 w v l) (hm : news.length = m)
    (h' : w1.ownsRow base 5 1 v' (l.length + m) (l.map (Value.int .u8) ++ news.map (Value.int .u8))) (hg : w.grownBy w1 v.ownBlock) (ha : v'.ownBlock = v.ownBlock ∨ v'.ownBlock = some w.heap.size) : BRow base r w0 w1 v' (l ++ news) := by
  have hs := h.grew.size
  refine ⟨by rw [List.length_append, List.map_append, hm]; exact h', ⟨hg.os.trans h.grew.os, hg.tape.trans h.grew.tape, hg.output.trans h.grew.output, Nat.le_trans hs hg.size, fun k hk hr => ?_⟩, ?_⟩
  · rw [hg.block k (Nat.lt_of_lt_of_le hk hs) (fun e => ?_)]
    · exact h.grew.block k hk hr
    · rcases h.lies with h1 | ⟨b, h1, h2⟩
      · exact hr (e.trans h1)
      · rw [h1] at e; injection e with e; omega
  · rcases ha with ha | ha
    · rw [ha]; exact h.lies
    · exact .inr ⟨_, ha, hs⟩
/-- A round's row is the whole's. -/
theorem BRow.join {base : Nat} {r : Option Nat} {w0 w w1 w2 : World} {v v' : Value} {l l' : List Int} (h : BRow base r w0 w v l) (hk : BRow base v.ownBlock w1 w2 v' l') (hg : w0.grownBy w1 r) : BRow base r w0 w2 v' l' := by
  have hs := hg.size
  refine ⟨hk.own, ⟨hk.grew.os.trans hg.os, hk.grew.tape.trans hg.tape, hk.grew.output.trans hg.output, Nat.le_trans hs hk.grew.size, fun k hk' hr => ?_⟩, ?_⟩
  · rw [hk.grew.block k (Nat.lt_of_lt_of_le hk' hs) (fun e => ?_)]
    · exact hg.block k hk' hr
    · rcases h.lies with h1 | ⟨b, h1, h2⟩
      · exact hr (e.trans h1)
      · rw [h1] at e; injection e with e; omega
  · rcases hk.lies with h1 | ⟨b, h1, h2⟩
    · rw [h1]; exact h.lies
    · exact .inr ⟨b, h1, Nat.le_trans hs h2⟩
theorem BRow.below {base B : Nat} {r : Option Nat} {w0 w : World} {v : Value} {l : List Int} (h : BRow base r w0 w v l) (hB : B ≤ w0.heap.size) (hr : ∀ k, r = some k → B ≤ k) : Below B w0 w := (Below.refl B w0).grown h.grew hB hr
theorem cells_new (w : World) (vs : List Value) (t : TypeId) : ∀ (j : Nat) (u : Value), vs[j]? = some u → (w.alloc (.cells vs.toArray t)).cell? ((⟨w.heap.size, 0, none⟩ : Addr).add j) = some u := by
  intro j u h
  have : (⟨w.heap.size, 0, none⟩ : Addr).add j = ⟨w.heap.size, j, none⟩ := by simp [Addr.add]; exact fun h => h.symm
  rw [this, World.cell?_alloc_new]
  simpa using h
theorem Tryz.infoByte : (Tryz.prog.info? 5).map (fun i => (i.zero, i.size, i.bytes)) = some (some (.int .u8 0), 1, 1) := by kernel_rfl
/-- The k lowest bytes of n, the highest first. -/
def numBy (n : Int) : Nat → List Int
  | 0 => []
  | k + 1 => (n / 2 ^ (8 * k)) % 256 :: numBy n k
set_option maxHeartbeats 2000000 in
theorem appendNumber_any {base : Nat} {r : Option Nat} {w0 w : World} {v : Value} {l : List Int} (h : BRow base r w0 w v l) (hB : base ≤ w0.heap.size) (n : Int) {many : Nat} (hm : many ≤ 3) (hl : l.length ≤ 4096) :
    Calls Tryz.prog 94 #[v, .int .i64 n, .int .i64 many] w fun e w' => ∃ v', e = .returned v' ∧ BRow base r w0 w' v' (l ++ numBy n many) := by
  obtain ⟨i0, hi, hz0, hz1, hz2⟩ := info_parts Tryz.infoByte
  have hw1 : IntKind.i64.wrap ((many : Int) - 1) = (many : Int) - 1 := by rw [IntKind.wrap_i64]; omega
  obtain ⟨va, vc, rfl⟩ := owns_slice h.own
  go_enter Tryz.func94, Tryz.ntmps94
  go_wp2
  go_loopw [0, 7] (fun u i wr => ∃ (k : Nat) (l' : List Int), k ≤ many ∧ i = .int .i64 ((k : Int) - 1) ∧ BRow base r w0 wr u l' ∧ l' ++ numBy n k = l ++ numBy n many ∧ l'.length + k = l.length + many) (fun _ i _ => (intOf i + 1).toNat)
  case atStart => exact ⟨many, l, Nat.le_refl _, rfl, h, rfl, rfl⟩
  case round =>
    obtain ⟨k, l', hk, rfl, hown, hcat, hlen⟩ := hrel
    obtain ⟨ua, uc, rfl⟩ := owns_slice hown.own
    have hsz := Nat.le_trans hB hown.grew.size
    by_cases h0 : k = 0
    · subst h0
      have HF : Hid (BRow base r w0 wr (.slice ua l'.length uc) (l ++ numBy n many)) := by
        have e : l' = l ++ numBy n many := by rw [← hcat]; simp [numBy]
        show BRow base r w0 wr _ _
        rw [← e]; exact hown
      go_wp2
      go_ret
      exact ⟨_, rfl, HF.out⟩
    · obtain ⟨j, rfl⟩ : ∃ j, k = j + 1 := ⟨k - 1, by omega⟩
      have hj : ((j + 1 : Nat) : Int) - 1 = (j : Int) := by omega
      rw [hj]
      have HC : Hid (l' ++ ((n / 2 ^ (8 * j)) % 256 :: numBy n j) = l ++ numBy n many) := hcat
      have hj3 : j < 3 := by omega
      have hj0 : (0 : Int) ≤ (j : Int) := by omega
      clear hcat h0
      go_wp2_with (at_builtin; refine wpList_append_own_at _ rfl _ _ 42 rfl base 5 i0 (.int .u8 0) 1 1 Tryz.underlying42 hi hz0 hz1 hz2 rfl (by decide) _ _ _ rfl (hown.alloc _).own ⟨wr.heap.size, 0, none⟩ 1 1 [.int .u8 (n / 2 ^ (8 * j) % 256)] rfl rfl (cell_one_new _ _ _) (by intro u hu; simp at hu; subst hu; rfl) (by unfold maxLen; omega) (by omega) (by simp; omega) ?_; intro v' w9 hown9 hgrow9 _ hat9; obtain ⟨a9, c9, hv9⟩ := owns_slice hown9; subst hv9; have RR := (hown.alloc _).push (news := [n / 2 ^ (8 * j) % 256]) rfl hown9 hgrow9 hat9)
      go_roundw
      case rel => exact ⟨j, l' ++ [n / 2 ^ (8 * j) % 256], by omega, by go_num, RR, by rw [← HC.out]; simp, by simp; omega⟩
      case measure => simp [intOf]
theorem numB_three (n : Int) : numBy n 3 = [b8 (n / 65536), b8 (n / 256), b8 n] := by
  show [n / 2 ^ (8 * 2) % 256, n / 2 ^ (8 * 1) % 256, n / 2 ^ (8 * 0) % 256] = _
  unfold b8
  simp
theorem numB_two (n : Int) : numBy n 2 = [b8 (n / 256), b8 n] := by
  show [n / 2 ^ (8 * 1) % 256, n / 2 ^ (8 * 0) % 256] = _
  unfold b8
  simp
end Go.Proofs.YtaenpgdmiaekcaaGreatDoor
/-
  WIREFRM: wire.appendFrame.
-/
namespace Go.Proofs.YtaenpgdmiaekcaaGreatDoor
set_option maxRecDepth 100000
open Go.RowKit Im

theorem flat_succ {α : Type} (g : α → List Int) (l : List α) (z : α) {k : Nat} (hk : k < l.length) : (l.take (k + 1)).flatMap g = (l.take k).flatMap g ++ g (l.getD k z) := by
  rw [List.take_succ_eq_append_getElem hk, List.flatMap_append, List.getD_eq_getElem?_getD, List.getElem?_eq_getElem hk]
  simp
theorem light_len (l : Lt) : (lightBytes l).length = 5 := rfl
theorem flat_lights (ls : List Lt) : (ls.flatMap lightBytes).length = 5 * ls.length := by
  induction ls with
  | nil => rfl
  | cons l ls ih => rw [List.flatMap_cons, List.length_append, ih, light_len, List.length_cons]; omega
theorem passes_len {ps : List Ps} (h : ∀ p ∈ ps, p.ls.length ≤ 16) : (ps.flatMap passBytes).length ≤ 88 * ps.length := by
  induction ps with
  | nil => exact Nat.le_refl _
  | cons p ps ih =>
    have h1 := ih (fun q hq => h q (List.mem_cons_of_mem _ hq))
    have h2 := h p (List.mem_cons_self ..)
    have h3 : (passBytes p).length = 8 + 5 * p.ls.length := by unfold passBytes; rw [List.length_append, flat_lights]; rfl
    rw [List.flatMap_cons, List.length_append, List.length_cons]
    omega
set_option maxHeartbeats 8000000 in
theorem appendFrame_any (W H S O : Int) (a : Option Addr) (len cap : Nat) (ps : List Ps) (w : World) (hp : Passes w a len ps) (h12 : len ≤ 12) (hls : ∀ p ∈ ps, p.ls.length ≤ 16) :
    Calls Tryz.prog 59 #[.slice none 0 0, .agg #[.int .i64 W, .int .i64 H, .int .i64 S, .int .i64 O, .slice a len cap]] w fun e w' =>
      (∃ v', e = .returned v' ∧ w'.ownsRow w.heap.size 5 1 v' (frameBytes ⟨W, H, S, O, ps⟩).length ((frameBytes ⟨W, H, S, O, ps⟩).map (Value.int .u8))) ∧ Below w.heap.size w w' := by
  obtain rfl := hp.leng
  obtain ⟨i0, hi, hz0, hz1, hz2⟩ := info_parts Tryz.infoByte
  have hb0 := below_box (Below.refl w.heap.size w) (.cells #[.int .i64 W, .int .i64 H, .int .i64 S, .int .i64 O, .slice a ps.length cap] 35)
  have hF0 := FBox.new w W H S O a ps.length cap
  have hp1 := hp.below hb0
  have hs1 : w.heap.size + 1 ≤ (w.alloc (.cells #[.int .i64 W, .int .i64 H, .int .i64 S, .int .i64 O, .slice a ps.length cap] 35)).heap.size := by simp
  have HLS : Hid (_) := hls
  have HPL : Hid (∀ k, ((ps.take k).flatMap passBytes).length ≤ 88 * 12) := fun k => by
    have h1 := passes_len (ps := ps.take k) (fun p hp => hls p (List.mem_of_mem_take hp))
    have h2 : (ps.take k).length ≤ 12 := Nat.le_trans (List.length_take_le' k ps) h12
    omega
  clear hls hp
  go_enter Tryz.func59, Tryz.ntmps59
  go_upto_region 1 with fail
  generalize w.alloc (.cells #[.int .i64 W, .int .i64 H, .int .i64 S, .int .i64 O, .slice a ps.length cap] 35) = w1 at *
  obtain ⟨_, g0, g1, g2, g3, g4⟩ := id hF0
  have hst : BRow (w.heap.size + 1) none w1 w1 (.slice none 0 0) [] := BRow.start (v := .slice none 0 0) (World.ownsRow_nil _ _ _ _)
  go_upto_region 2 with (at_builtin; refine wpList_append_own_at _ rfl _ _ 42 rfl (w.heap.size + 1) 5 i0 (.int .u8 0) 1 1 Tryz.underlying42 hi hz0 hz1 hz2 rfl (by decide) _ _ _ rfl (hst.alloc _).own ⟨w1.heap.size, 0, none⟩ 5 5 [.int .u8 (W % 256), .int .u8 (H % 256), .int .u8 (S % 256), .int .u8 (O % 256), .int .u8 (ps.length : Int)] rfl rfl (cells_new _ _ _) (by intro u hu; simp at hu; rcases hu with rfl | rfl | rfl | rfl | rfl <;> rfl) (by unfold maxLen; simp) (by simp) (by simp; omega) ?_; intro v' w9 hown9 hgrow9 _ hat9; obtain ⟨a9, c9, hv9⟩ := owns_slice hown9; subst hv9; have RR := (hst.alloc _).push (news := [b8 W, b8 H, b8 S, b8 O, (ps.length : Int)]) rfl hown9 hgrow9 hat9)
  have hb8 : b8 ps.length = (ps.length : Int) := by unfold b8; omega
  have HFB : Hid (frameBytes ⟨W, H, S, O, ps⟩ = [b8 W, b8 H, b8 S, b8 O, (ps.length : Int)] ++ (ps.take ps.length).flatMap passBytes) := by
    show _ = _
    rw [List.take_length]
    unfold frameBytes
    dsimp only
    rw [hb8]
  have HFS : Hid (∀ k, k < ps.length → (ps.take (k + 1)).flatMap passBytes = (ps.take k).flatMap passBytes ++ passBytes (ps.getD k Ps.zero)) := fun k hk => flat_succ passBytes ps Ps.zero hk
  have HF0 : Hid (BRow (w.heap.size + 1) none w1 w9 (.slice a9 (List.length ([] : List Int) + 5) c9) ([b8 W, b8 H, b8 S, b8 O, (ps.length : Int)] ++ (ps.take 0).flatMap passBytes)) := by
    show BRow _ _ _ _ _ _
    simpa using RR
  have hbel := RR.below hs1 (fun k hk => by cases hk)
  have hF9 := hF0.below (RR.below (Nat.le_refl _) (fun k hk => by cases hk))
  clear hst g0 g1 g2 g3 g4 RR hbel hb8 hF0
  generalize (ps.length : Int) = zl at HFB HF0
  have hHD : [b8 W, b8 H, b8 S, b8 O, zl].length = 5 := rfl
  generalize [b8 W, b8 H, b8 S, b8 O, zl] = hd at *
  obtain ⟨_, g0, g1, g2, g3, g4⟩ := id hF9
  go_wp2
  clear g0 g1 g2 g3 g4 hF9
  go_loopw [0, 31] (fun u i wr => ∃ k : Nat, k ≤ ps.length ∧ i = .int .i64 k ∧ BRow (w.heap.size + 1) none w1 wr u (hd ++ (ps.take k).flatMap passBytes)) (fun _ i _ => ps.length - (intOf i).toNat)
  case atStart => exact ⟨0, Nat.zero_le _, rfl, HF0.out⟩
  case round =>
    obtain ⟨k, hk, rfl, hrow⟩ := hrel
    obtain ⟨wO, e0⟩ : ∃ z, z = wr := ⟨_, rfl⟩
    subst e0
    have hbl := HPL.out k
    obtain ⟨ua, uc, rfl⟩ := owns_slice hrow.own
    have hbel := hrow.below (Nat.le_refl _) (fun k hk => by cases hk)
    have hsz := Nat.le_trans hs1 hbel.size
    by_cases hlt : k < ps.length
    · have HK1 : Hid (_) := HFS.out k hlt
      have hkI : (k : Int) < (ps.length : Int) := by omega
      have hk0 : (0 : Int) ≤ (k : Int) := by omega
      obtain ⟨b, off, la, ll, lc, rfl, p0, p1, p2, p3, p4, p5, hLi⟩ := hp1.nth hlt
      have hblt : b < w1.heap.size := World.block_lt_of_cell? w1 _ p0
      replace p0 := (hbel.cell (p := ⟨b, off + k * 6, none⟩) hblt).trans p0
      replace p1 := (hbel.cell (p := ⟨b, off + k * 6 + 1, none⟩) hblt).trans p1
      replace p2 := (hbel.cell (p := ⟨b, off + k * 6 + 2, none⟩) hblt).trans p2
      replace p3 := (hbel.cell (p := ⟨b, off + k * 6 + 3, none⟩) hblt).trans p3
      replace p4 := (hbel.cell (p := ⟨b, off + k * 6 + 4, none⟩) hblt).trans p4
      replace p5 := (hbel.cell (p := ⟨b, off + k * 6 + 5, none⟩) hblt).trans p5
      have hl16 := HLS.out _ (getD_mem hlt Ps.zero)
      generalize ps.getD k Ps.zero = p at *
      obtain ⟨Op, To, A, B, K, ls⟩ := p
      dsimp only at p0 p1 p2 p3 p4 p5 hLi hl16
      obtain rfl := hLi.leng
      have HPB : Hid (passBytes ⟨Op, To, A, B, K, ls⟩ = [b8 Op, b8 To, b8 A, b8 B] ++ (numBy K 3 ++ ([(ls.length : Int)] ++ (ls.take ls.length).flatMap lightBytes))) := by
        show _ = _
        have e8 : b8 ls.length = (ls.length : Int) := by unfold b8; omega
        rw [numB_three, List.take_length]
        unfold passBytes
        dsimp only
        rw [e8]
        rfl
      have hB0 := PBox.new wO Op To A B K la ls.length lc
      have hst := BRow.start (World.ownsRow.alloc hrow.own (.cells #[.int .i64 Op, .int .i64 To, .int .i64 A, .int .i64 B, .int .i64 K, .slice la ls.length lc] 72))
      have hg1 := (hrow.alloc (.cells #[.int .i64 Op, .int .i64 To, .int .i64 A, .int .i64 B, .int .i64 K, .slice la ls.length lc] 72)).grew
      have hub : some wO.heap.size ≠ (Value.slice ua (hd ++ (ps.take k).flatMap passBytes).length uc).ownBlock := fun e => by
        have := (World.ownsRow.lt (w := wO) hrow.own _ e.symm).2
        omega
      have hll : (hd ++ (ps.take k).flatMap passBytes).length ≤ 5 + 88 * 12 := by rw [List.length_append]; omega
      generalize hLe : (hd ++ (ps.take k).flatMap passBytes) = L at *
      have HLe : Hid (_) := hLe
      clear hLe
      go_upto_region 5 with fail
      clear p0 p1 p2 p3 p4 p5
      have hszB : w.heap.size + 1 ≤ (wO.alloc (.cells #[.int .i64 Op, .int .i64 To, .int .i64 A, .int .i64 B, .int .i64 K, .slice la ls.length lc] 72)).heap.size := by simp; omega
      have hbB : Below w1.heap.size w1 (wO.alloc (.cells #[.int .i64 Op, .int .i64 To, .int .i64 A, .int .i64 B, .int .i64 K, .slice la ls.length lc] 72)) := below_box hbel _
      generalize wO.alloc (.cells #[.int .i64 Op, .int .i64 To, .int .i64 A, .int .i64 B, .int .i64 K, .slice la ls.length lc] 72) = wB at *
      generalize hube : (Value.slice ua L.length uc).ownBlock = rb at *
      obtain ⟨_, p0, p1, p2, p3, p4, p5⟩ := id hB0
      go_upto_region 6 with (at_builtin; refine wpList_append_own_at _ rfl _ _ 42 rfl (w.heap.size + 1) 5 i0 (.int .u8 0) 1 1 Tryz.underlying42 hi hz0 hz1 hz2 rfl (by decide) _ _ _ rfl (hst.alloc _).own ⟨wB.heap.size, 0, none⟩ 4 4 [.int .u8 (Op % 256), .int .u8 (To % 256), .int .u8 (A % 256), .int .u8 (B % 256)] rfl rfl (cells_new _ _ _) (by intro u hu; simp at hu; rcases hu with rfl | rfl | rfl | rfl <;> rfl) (by unfold maxLen; omega) (by omega) (by simp; omega) ?_; intro v5 w5 hown5 hgrow5 _ hat5; obtain ⟨a5, c5, hv5⟩ := owns_slice hown5; subst hv5; have R5 := (hst.alloc _).push (news := [b8 Op, b8 To, b8 A, b8 B]) rfl hown5 hgrow5 hat5)
      have q4 := R5.grew.cell p4 hub
      have q5 := R5.grew.cell p5 hub
      have hcn := fun v wx hr => appendNumber_any (v := v) (w := wx) (l := L ++ [b8 Op, b8 To, b8 A, b8 B]) (base := w.heap.size + 1) (r := rb) (w0 := wB) hr hszB K (many := 3) (by decide) (by simp; omega)
      clear p0 p1 p2 p3
      go_wp2_with fail
      refine (hcn _ _ R5).mono ?_
      clear hcn
      rintro e w6 ⟨v6, rfl, R6⟩
      have hM6 : ((L ++ [b8 Op, b8 To, b8 A, b8 B]) ++ numBy K 3).length ≤ 5 + 88 * 12 + 7 := by rw [numB_three]; simp; omega
      have HM6 : Hid (∀ x : Int, ((L ++ [b8 Op, b8 To, b8 A, b8 B]) ++ numBy K 3) ++ [x] = L ++ ([b8 Op, b8 To, b8 A, b8 B] ++ (numBy K 3 ++ [x]))) := fun x => by simp
      generalize ((L ++ [b8 Op, b8 To, b8 A, b8 B]) ++ numBy K 3) = M6 at *
      obtain ⟨a6, c6, rfl⟩ := owns_slice R6.own
      have s6 := Nat.le_trans hszB R6.grew.size
      have q5' := R6.grew.cell p5 hub
      clear q4 q5 R5 hown5 hgrow5 hat5
      dsimp only
      go_upto_region 8 with (at_builtin; refine wpList_append_own_at _ rfl _ _ 42 rfl (w.heap.size + 1) 5 i0 (.int .u8 0) 1 1 Tryz.underlying42 hi hz0 hz1 hz2 rfl (by decide) _ _ _ rfl (R6.alloc _).own ⟨w6.heap.size, 0, none⟩ 1 1 [.int .u8 ((ls.length : Int))] rfl rfl (cells_new _ _ _) (by intro u hu; simp at hu; rcases hu with rfl <;> rfl) (by unfold maxLen; omega) (by omega) (by simp; omega) ?_; intro v7 w7 hown7 hgrow7 _ hat7; obtain ⟨a7, c7, hv7⟩ := owns_slice hown7; subst hv7; have R7 := (R6.alloc _).push (news := [(ls.length : Int)]) rfl hown7 hgrow7 hat7)
      have q5 := R7.grew.cell p5 hub
      have hM7 : (M6 ++ [(ls.length : Int)]).length ≤ 5 + 88 * 12 + 8 := by simp; omega
      clear q5' R6 hown7 hgrow7 hat7 s6
      have HM7 : Hid (_) := HM6.out (ls.length : Int)
      clear HM6
      generalize hM7e : M6 ++ [(ls.length : Int)] = M7 at *
      clear hM7e
      have HLS2 : Hid (∀ m, m < ls.length → (ls.take (m + 1)).flatMap lightBytes = (ls.take m).flatMap lightBytes ++ lightBytes (ls.getD m Lt.zero)) := fun m hm => flat_succ lightBytes ls Lt.zero hm
      have HLL : Hid (∀ m, ((ls.take m).flatMap lightBytes).length ≤ 5 * 16) := fun m => by
        rw [flat_lights]
        have : (ls.take m).length ≤ ls.length := List.length_take_le' m ls
        omega
      have HR7 : Hid (BRow (w.heap.size + 1) rb wB w7 (.slice a7 (M6.length + 1) c7) (M7 ++ (ls.take 0).flatMap lightBytes)) := by
        show BRow _ _ _ _ _ _
        simpa using R7
      have hjo := fun (wx : World) (u : Value) (l : List Int) (h : BRow (w.heap.size + 1) rb wB wx u l) => hrow.join (by rw [hube]; exact h) hg1
      clear R7
      go_wp2
      clear q5
      go_loopw [0, 64] (fun u i wr => ∃ m : Nat, m ≤ ls.length ∧ i = .int .i64 m ∧ BRow (w.heap.size + 1) rb wB wr u (M7 ++ (ls.take m).flatMap lightBytes)) (fun _ i _ => ls.length - (intOf i).toNat)
      case atStart => exact ⟨0, Nat.zero_le _, rfl, HR7.out⟩
      case round =>
        obtain ⟨m, hm, rfl, hin⟩ := hrel
        clear HR7
        have hml := HLL.out m
        obtain ⟨ma, mc, rfl⟩ := owns_slice hin.own
        have hJ := hjo _ _ _ hin
        have hbi := hJ.below (Nat.le_refl _) (fun k hk => by cases hk)
        have hsi1 := Nat.le_trans hs1 hbi.size
        by_cases hmt : m < ls.length
        · have HL1 : Hid (_) := HLS2.out m hmt
          have hmI : (m : Int) < (ls.length : Int) := by omega
          have hm0 : (0 : Int) ≤ (m : Int) := by omega
          obtain ⟨lb, lo, rfl, _, l0, l1, l2, l3⟩ := (hLi.below hbi).nthL hmt
          generalize ls.getD m Lt.zero = lt at *
          obtain ⟨X, Y, Rr, Pw⟩ := lt
          dsimp only at l0 l1 l2 l3
          have hMl : (M7 ++ (ls.take m).flatMap lightBytes).length ≤ 2000 := by rw [List.length_append]; omega
          have HLB : Hid (lightBytes ⟨X, Y, Rr, Pw⟩ = [b8 X, b8 Y, b8 Rr] ++ numBy Pw 2) := by show _ = _; rw [numB_two]; rfl
          have hsi := BRow.start (World.ownsRow.alloc hin.own (.cells #[.int .i64 X, .int .i64 Y, .int .i64 Rr, .int .i64 Pw] 106))
          have hg2 := (hin.alloc (.cells #[.int .i64 X, .int .i64 Y, .int .i64 Rr, .int .i64 Pw] 106)).grew
          have hub2 : some wr.heap.size ≠ (Value.slice ma (M7 ++ (ls.take m).flatMap lightBytes).length mc).ownBlock := fun e => by
            have := (World.ownsRow.lt (w := wr) hin.own _ e.symm).2
            omega
          have hszI : w.heap.size + 1 ≤ (wr.alloc (.cells #[.int .i64 X, .int .i64 Y, .int .i64 Rr, .int .i64 Pw] 106)).heap.size := by simp; omega
          have c0 : (wr.alloc (.cells #[.int .i64 X, .int .i64 Y, .int .i64 Rr, .int .i64 Pw] 106)).cell? ⟨wr.heap.size, 0, none⟩ = some (.int .i64 X) := by simp [go_sem]
          have c1 : (wr.alloc (.cells #[.int .i64 X, .int .i64 Y, .int .i64 Rr, .int .i64 Pw] 106)).cell? ⟨wr.heap.size, 1, none⟩ = some (.int .i64 Y) := by simp [go_sem]
          have c2 : (wr.alloc (.cells #[.int .i64 X, .int .i64 Y, .int .i64 Rr, .int .i64 Pw] 106)).cell? ⟨wr.heap.size, 2, none⟩ = some (.int .i64 Rr) := by simp [go_sem]
          have c3 : (wr.alloc (.cells #[.int .i64 X, .int .i64 Y, .int .i64 Rr, .int .i64 Pw] 106)).cell? ⟨wr.heap.size, 3, none⟩ = some (.int .i64 Pw) := by simp [go_sem]
          have HJ2 : Hid (∀ (wx : World) (u : Value) (l : List Int), BRow (w.heap.size + 1) (Value.slice ma (M7 ++ (ls.take m).flatMap lightBytes).length mc).ownBlock (wr.alloc (.cells #[.int .i64 X, .int .i64 Y, .int .i64 Rr, .int .i64 Pw] 106)) wx u l → BRow (w.heap.size + 1) rb wB wx u l) := fun wx u l h => hin.join h hg2
          go_upto_region 11 with fail
          clear l0 l1 l2 l3 hJ hbi
          generalize hMe : M7 ++ (ls.take m).flatMap lightBytes = M8 at *
          generalize wr.alloc (.cells #[.int .i64 X, .int .i64 Y, .int .i64 Rr, .int .i64 Pw] 106) = wL at *
          generalize hmb : (Value.slice ma M8.length mc).ownBlock = rm at *
          have HMe : Hid (_) := hMe
          clear hMe hmb hin
          go_upto_region 12 with (at_builtin; refine wpList_append_own_at _ rfl _ _ 42 rfl (w.heap.size + 1) 5 i0 (.int .u8 0) 1 1 Tryz.underlying42 hi hz0 hz1 hz2 rfl (by decide) _ _ _ rfl (hsi.alloc _).own ⟨wL.heap.size, 0, none⟩ 3 3 [.int .u8 (X % 256), .int .u8 (Y % 256), .int .u8 (Rr % 256)] rfl rfl (cells_new _ _ _) (by intro u hu; simp at hu; rcases hu with rfl | rfl | rfl <;> rfl) (by unfold maxLen; omega) (by omega) (by simp; omega) ?_; intro v11 w11 hown11 hgrow11 _ hat11; obtain ⟨a11, c11, hv11⟩ := owns_slice hown11; subst hv11; have R11 := (hsi.alloc _).push (news := [b8 X, b8 Y, b8 Rr]) rfl hown11 hgrow11 hat11)
          have d3 := R11.grew.cell c3 hub2
          have hcn := fun v wx hr => appendNumber_any (v := v) (w := wx) (l := M8 ++ [b8 X, b8 Y, b8 Rr]) (base := w.heap.size + 1) (r := rm) (w0 := wL) hr hszI Pw (many := 2) (by decide) (by simp; omega)
          go_wp2_with fail
          refine (hcn _ _ R11).mono ?_
          rintro e w12 ⟨v12, rfl, R12⟩
          obtain ⟨a12, c12, rfl⟩ := owns_slice R12.own
          have HR : Hid (BRow (w.heap.size + 1) rb wB w12 (.slice a12 (M8 ++ [b8 X, b8 Y, b8 Rr] ++ numBy Pw 2).length c12) (M7 ++ (ls.take (m + 1)).flatMap lightBytes)) := by
            show BRow _ _ _ _ _ _
            rw [HL1.out, HLB.out, ← List.append_assoc, HMe.out, ← List.append_assoc]
            exact HJ2.out _ _ _ R12
          clear R11 R12 hcn HJ2 hsi hown11 hgrow11 hat11
          generalize (M8 ++ [b8 X, b8 Y, b8 Rr] ++ numBy Pw 2).length = n12 at *
          go_wp2
          go_roundw
          case rel => exact ⟨m + 1, by omega, by go_num, HR.out⟩
          case measure => simp [intOf]; omega
        · have hme : m = ls.length := by omega
          subst hme
          have HR : Hid (BRow (w.heap.size + 1) none w1 wr (.slice ma (M7 ++ (ls.take ls.length).flatMap lightBytes).length mc) (hd ++ (ps.take (k + 1)).flatMap passBytes)) := by
            show BRow _ _ _ _ _ _
            rw [HK1.out, ← List.append_assoc, HLe.out, HPB.out]
            have e : M7 ++ (ls.take ls.length).flatMap lightBytes = L ++ ([b8 Op, b8 To, b8 A, b8 B] ++ (numBy K 3 ++ ([(ls.length : Int)] ++ (ls.take ls.length).flatMap lightBytes))) := by rw [HM7.out]; simp
            rw [← e]
            exact hJ
          generalize (M7 ++ (ls.take ls.length).flatMap lightBytes).length = n9 at *
          clear hJ hjo
          go_wp2
          go_roundw
          case rel => exact ⟨k + 1, by omega, by go_num, HR.out⟩
          case measure => simp [intOf]; omega
    · have hke : k = ps.length := by omega
      subst hke
      have HF : Hid (wO.ownsRow w.heap.size 5 1 (.slice ua (hd ++ (ps.take ps.length).flatMap passBytes).length uc) (frameBytes ⟨W, H, S, O, ps⟩).length ((frameBytes ⟨W, H, S, O, ps⟩).map (Value.int .u8))) := by
        show World.ownsRow _ _ _ _ _ _ _
        rw [HFB.out]
        exact row_mono hrow.own (Nat.le_succ _)
      have hbw := below_step hb0 hbel
      generalize (hd ++ (ps.take ps.length).flatMap passBytes).length = nn at *
      go_wp2
      go_ret
      exact ⟨⟨_, rfl, HF.out⟩, hbw⟩
end Go.Proofs.YtaenpgdmiaekcaaGreatDoor
/-
  WIREWRITE: wire.Write.
-/
namespace Go.Proofs.YtaenpgdmiaekcaaGreatDoor
set_option maxRecDepth 100000
open Go.RowKit Im

theorem lights16 {f : Fr} (hE : frameE f = 0) : ∀ p ∈ f.ps, p.ls.length ≤ 16 := by
  intro p hp
  obtain ⟨k, hk, e⟩ := List.mem_iff_getElem.1 hp
  have e' : f.ps.getD k Ps.zero = p := by rw [List.getD_eq_getElem?_getD, List.getElem?_eq_getElem hk, e]; rfl
  obtain ⟨_, hfirst, _⟩ := frameE_zero hE
  have hfk := firstE_down f hfirst (k := k) (by omega)
  have hpE : passE f k = 0 := (firstE_at f hfk).symm.trans (firstE_down f hfirst (k := k + 1) (by omega))
  obtain ⟨o1, _⟩ := passE_zero hpE
  obtain ⟨_, _, _, hl, hbare, _⟩ := ownE_zero o1
  rw [e'] at hl hbare
  by_cases h : hasL p.Op = true
  · have h2 := hl h
    unfold lightsErr at h2
    by_cases h8 : p.ls.length ≤ 8
    · omega
    · rw [if_neg h8] at h2; cases h2
  · unfold bareB at hbare
    rw [eq_false_of_ne_true h] at hbare
    simp only [Bool.and_eq_true, Bool.false_or, decide_eq_true_eq] at hbare
    omega
def wireS (f : Fr) : ByteArray := if frameE f = 0 then strOfNums (frameBytes f) else ByteArray.empty
theorem row_bytes {base : Nat} {w : World} {v : Value} {l : List Int} (h : w.ownsRow base 5 1 v l.length (l.map (Value.int .u8))) (hl : l ≠ []) : ∃ b c, v = .slice (some ⟨b, 0, none⟩) l.length c ∧ ∀ i, i < l.length → w.cell? ⟨b, 0 + i, none⟩ = some (.int .u8 (l.getD i 0)) := by
  obtain ⟨h1, h2⟩ := h
  rcases h2 with ⟨rfl, h0⟩ | ⟨g, cap, cur, rfl, hg, hh, hc, hm, hs, ht⟩
  · exact absurd (List.length_eq_zero_iff.1 h0) hl
  · refine ⟨g, cap, rfl, fun j hj => ?_⟩
    have := World.ownsRow.cellAt (base := base) (e := 5) (size := 1) ⟨h1, .inr ⟨g, cap, cur, rfl, hg, hh, hc, hm, hs, ht⟩⟩ j (by simpa using hj)
    rw [Nat.zero_add, this]
    simp [hj]
set_option maxHeartbeats 2000000 in
theorem write_any (W H S O : Int) (a : Option Addr) (len cap : Nat) (ps : List Ps) (w : World) (hp : Passes w a len ps) :
    Calls Tryz.prog 25 #[.agg #[.int .i64 W, .int .i64 H, .int .i64 S, .int .i64 O, .slice a len cap]] w fun e w' =>
      e = .returned (.tuple #[.string (wireS ⟨W, H, S, O, ps⟩), .int .i64 (frameE ⟨W, H, S, O, ps⟩)]) ∧ Below w.heap.size w w' := by
  obtain rfl := hp.leng
  have hb0 := below_box (Below.refl w.heap.size w) (.cells #[.int .i64 W, .int .i64 H, .int .i64 S, .int .i64 O, .slice a ps.length cap] 35)
  have hF0 := FBox.new w W H S O a ps.length cap
  have hck := frameCheck_any W H S O a ps.length cap ps _ (hp.below hb0)
  go_enter Tryz.func25, Tryz.ntmps25
  go_wp2_with fail
  refine hck.mono ?_
  clear hck
  rintro e w1 ⟨rfl, b1⟩
  have hb1 := below_step hb0 b1
  by_cases hE : frameE ⟨W, H, S, O, ps⟩ = 0
  · have h12 : ps.length ≤ 12 := by
      obtain ⟨hb, _, _⟩ := frameE_zero hE
      exact (boundsE_zero hb).2.2.2.2.2
    have haf := appendFrame_any W H S O a ps.length cap ps w1 (hp.below hb1) h12 (lights16 hE)
    have HW : Hid (wireS ⟨W, H, S, O, ps⟩ = strOfNums (frameBytes ⟨W, H, S, O, ps⟩)) := by show _ = _; unfold wireS; rw [if_pos hE]
    have hne : frameBytes ⟨W, H, S, O, ps⟩ ≠ [] := by unfold frameBytes; simp
    obtain ⟨_, g0, g1, g2, g3, g4⟩ := hF0.below b1
    have HE : Hid (_) := hE
    rw [hE]
    generalize frameBytes ⟨W, H, S, O, ps⟩ = bs at *
    go_wp2_with fail
    refine haf.mono ?_
    rintro e w2 ⟨⟨v2, rfl, hown⟩, b2⟩
    obtain ⟨rb, rc, rfl, hcell⟩ := row_bytes hown hne
    have hcv := run_convert_bytes_arg (P := Tryz.prog) w2 42 5 Tryz.underlying42 Tryz.underlying5 rb 0 bs.length rc bs rfl hcell 9 Tryz.underlying9
    have HB : Hid (_) := below_step hb1 b2
    clear hown hcell haf
    go_wp2
    go_ret2
    exact ⟨by rw [HW.out, HE.out]; rfl, HB.out⟩
  · have HW : Hid (wireS ⟨W, H, S, O, ps⟩ = ByteArray.empty) := by show _ = _; unfold wireS; rw [if_neg hE]
    go_wp2
    go_ret2
    exact ⟨by rw [HW.out]; rfl, hb1⟩
end Go.Proofs.YtaenpgdmiaekcaaGreatDoor
/-
  WIREREF: the reference's FrameBytes.
-/
namespace Go.Proofs.YtaenpgdmiaekcaaGreatDoor
set_option maxRecDepth 100000
open Go.RowKit Im

set_option maxHeartbeats 8000000 in
theorem frameBytes_any (W H S O : Int) (a : Option Addr) (len cap : Nat) (ps : List Ps) (w : World) (hp : Passes w a len ps) (h12 : len ≤ 12) (hls : ∀ p ∈ ps, p.ls.length ≤ 16) :
    Calls Tryz.prog 51 #[.agg #[.int .i64 W, .int .i64 H, .int .i64 S, .int .i64 O, .slice a len cap]] w fun e w' =>
      e = .returned (.string (strOfNums (frameBytes ⟨W, H, S, O, ps⟩))) ∧ Below w.heap.size w w' := by
  obtain rfl := hp.leng
  obtain ⟨i0, hi, hz0, hz1, hz2⟩ := info_parts Tryz.infoByte
  have hb0 := below_box (Below.refl w.heap.size w) (.cells #[.int .i64 W, .int .i64 H, .int .i64 S, .int .i64 O, .slice a ps.length cap] 35)
  have hF0 := FBox.new w W H S O a ps.length cap
  have hp1 := hp.below hb0
  have hs1 : w.heap.size + 1 ≤ (w.alloc (.cells #[.int .i64 W, .int .i64 H, .int .i64 S, .int .i64 O, .slice a ps.length cap] 35)).heap.size := by simp
  have HLS : Hid (_) := hls
  have HPL : Hid (∀ k, ((ps.take k).flatMap passBytes).length ≤ 88 * 12) := fun k => by
    have h1 := passes_len (ps := ps.take k) (fun p hp => hls p (List.mem_of_mem_take hp))
    have h2 : (ps.take k).length ≤ 12 := Nat.le_trans (List.length_take_le' k ps) h12
    omega
  clear hls hp
  go_enter Tryz.func51, Tryz.ntmps51
  go_upto_region 1 with fail
  generalize w.alloc (.cells #[.int .i64 W, .int .i64 H, .int .i64 S, .int .i64 O, .slice a ps.length cap] 35) = w1 at *
  obtain ⟨_, g0, g1, g2, g3, g4⟩ := id hF0
  have hrow0 : BRow (w.heap.size + 1) none w1 (w1.alloc (.cells #[.int .u8 (W % 256), .int .u8 (H % 256), .int .u8 (S % 256), .int .u8 (O % 256), .int .u8 (ps.length : Int)] 5)) (.slice (some ⟨w1.heap.size, 0, none⟩) 5 5) [b8 W, b8 H, b8 S, b8 O, (ps.length : Int)] :=
    ⟨⟨rfl, .inr ⟨w1.heap.size, 5, _, rfl, hs1, heap_alloc_new w1 _, Nat.le_refl _, by unfold maxLen; omega, rfl, rfl⟩⟩, ⟨rfl, rfl, rfl, by simp, fun k hk _ => Below.heap_alloc _ _ _ hk⟩, .inr ⟨w1.heap.size, rfl, Nat.le_refl _⟩⟩
  have hb8 : b8 ps.length = (ps.length : Int) := by unfold b8; omega
  have HFB : Hid (frameBytes ⟨W, H, S, O, ps⟩ = [b8 W, b8 H, b8 S, b8 O, (ps.length : Int)] ++ (ps.take ps.length).flatMap passBytes) := by
    show _ = _
    rw [List.take_length]
    unfold frameBytes
    dsimp only
    rw [hb8]
  have HFS : Hid (∀ k, k < ps.length → (ps.take (k + 1)).flatMap passBytes = (ps.take k).flatMap passBytes ++ passBytes (ps.getD k Ps.zero)) := fun k hk => flat_succ passBytes ps Ps.zero hk
  have HF0 : Hid (BRow (w.heap.size + 1) none w1 (w1.alloc (.cells #[.int .u8 (W % 256), .int .u8 (H % 256), .int .u8 (S % 256), .int .u8 (O % 256), .int .u8 (ps.length : Int)] 5)) (.slice (some ⟨w1.heap.size, 0, none⟩) 5 5) ([b8 W, b8 H, b8 S, b8 O, (ps.length : Int)] ++ (ps.take 0).flatMap passBytes)) := by
    show BRow _ _ _ _ _ _
    simpa using hrow0
  clear hrow0 hb8
  have hHD : [b8 W, b8 H, b8 S, b8 O, (ps.length : Int)].length = 5 := rfl
  generalize [b8 W, b8 H, b8 S, b8 O, (ps.length : Int)] = hd at *
  go_wp2
  clear g0 g1 g2 g3 g4
  go_loopw [3, 4] (fun u i wr => ∃ k : Nat, k ≤ ps.length ∧ i = .int .i64 k ∧ BRow (w.heap.size + 1) none w1 wr u (hd ++ (ps.take k).flatMap passBytes)) (fun _ i _ => ps.length - (intOf i).toNat)
  case atStart => exact ⟨0, Nat.zero_le _, rfl, HF0.out⟩
  case round =>
    obtain ⟨k, hk, rfl, hrow⟩ := hrel
    clear HF0
    obtain ⟨wO, e0⟩ : ∃ z, z = wr := ⟨_, rfl⟩
    subst e0
    have hbl := HPL.out k
    obtain ⟨ua, uc, rfl⟩ := owns_slice hrow.own
    have hbel := hrow.below (Nat.le_refl _) (fun k hk => by cases hk)
    have hsz := Nat.le_trans hs1 hbel.size
    obtain ⟨_, g0, g1, g2, g3, g4⟩ := hF0.below hbel
    by_cases hlt : k < ps.length
    · have HK1 : Hid (_) := HFS.out k hlt
      have hkI : (k : Int) < (ps.length : Int) := by omega
      have hk0 : (0 : Int) ≤ (k : Int) := by omega
      obtain ⟨b, off, la, ll, lc, rfl, p0, p1, p2, p3, p4, p5, hLi⟩ := hp1.nth hlt
      have hblt : b < w1.heap.size := World.block_lt_of_cell? w1 _ p0
      replace p0 := (hbel.cell (p := ⟨b, off + k * 6, none⟩) hblt).trans p0
      replace p1 := (hbel.cell (p := ⟨b, off + k * 6 + 1, none⟩) hblt).trans p1
      replace p2 := (hbel.cell (p := ⟨b, off + k * 6 + 2, none⟩) hblt).trans p2
      replace p3 := (hbel.cell (p := ⟨b, off + k * 6 + 3, none⟩) hblt).trans p3
      replace p4 := (hbel.cell (p := ⟨b, off + k * 6 + 4, none⟩) hblt).trans p4
      replace p5 := (hbel.cell (p := ⟨b, off + k * 6 + 5, none⟩) hblt).trans p5
      have hl16 := HLS.out _ (getD_mem hlt Ps.zero)
      generalize ps.getD k Ps.zero = p at *
      obtain ⟨Op, To, A, B, K, ls⟩ := p
      dsimp only at p0 p1 p2 p3 p4 p5 hLi hl16
      obtain rfl := hLi.leng
      have HPB : Hid (passBytes ⟨Op, To, A, B, K, ls⟩ = [b8 Op, b8 To, b8 A, b8 B, b8 (K / 65536), b8 (K / 256), b8 K, (ls.length : Int)] ++ (ls.take ls.length).flatMap lightBytes) := by
        show _ = _
        have e8 : b8 ls.length = (ls.length : Int) := by unfold b8; omega
        rw [List.take_length]
        unfold passBytes
        dsimp only
        rw [e8]
      have hB0 := PBox.new wO Op To A B K la ls.length lc
      have hst := BRow.start (World.ownsRow.alloc hrow.own (.cells #[.int .i64 Op, .int .i64 To, .int .i64 A, .int .i64 B, .int .i64 K, .slice la ls.length lc] 72))
      have hg1 := (hrow.alloc (.cells #[.int .i64 Op, .int .i64 To, .int .i64 A, .int .i64 B, .int .i64 K, .slice la ls.length lc] 72)).grew
      have hub : some wO.heap.size ≠ (Value.slice ua (hd ++ (ps.take k).flatMap passBytes).length uc).ownBlock := fun e => by
        have := (World.ownsRow.lt (w := wO) hrow.own _ e.symm).2
        omega
      have hll : (hd ++ (ps.take k).flatMap passBytes).length ≤ 5 + 88 * 12 := by rw [List.length_append]; omega
      generalize hLe : (hd ++ (ps.take k).flatMap passBytes) = L at *
      have HLe : Hid (_) := hLe
      clear hLe
      go_upto_region 6 with fail
      clear p0 p1 p2 p3 p4 p5 g0 g1 g2 g3 g4
      have hszB : w.heap.size + 1 ≤ (wO.alloc (.cells #[.int .i64 Op, .int .i64 To, .int .i64 A, .int .i64 B, .int .i64 K, .slice la ls.length lc] 72)).heap.size := by simp; omega
      generalize wO.alloc (.cells #[.int .i64 Op, .int .i64 To, .int .i64 A, .int .i64 B, .int .i64 K, .slice la ls.length lc] 72) = wB at *
      generalize hube : (Value.slice ua L.length uc).ownBlock = rb at *
      obtain ⟨_, p0, p1, p2, p3, p4, p5⟩ := id hB0
      go_upto_region 7 with (at_builtin; refine wpList_append_own_at _ rfl _ _ 42 rfl (w.heap.size + 1) 5 i0 (.int .u8 0) 1 1 Tryz.underlying42 hi hz0 hz1 hz2 rfl (by decide) _ _ _ rfl (hst.alloc _).own ⟨wB.heap.size, 0, none⟩ 8 8 [.int .u8 (Op % 256), .int .u8 (To % 256), .int .u8 (A % 256), .int .u8 (B % 256), .int .u8 (K / 65536 % 256), .int .u8 (K / 256 % 256), .int .u8 (K % 256), .int .u8 ((ls.length : Int))] rfl rfl (cells_new _ _ _) (by intro u hu; simp at hu; rcases hu with rfl | rfl | rfl | rfl | rfl | rfl | rfl | rfl <;> rfl) (by unfold maxLen; omega) (by omega) (by simp; omega) ?_; intro v5 w5 hown5 hgrow5 _ hat5; obtain ⟨a5, c5, hv5⟩ := owns_slice hown5; subst hv5; have R5 := (hst.alloc _).push (news := [b8 Op, b8 To, b8 A, b8 B, b8 (K / 65536), b8 (K / 256), b8 K, (ls.length : Int)]) rfl hown5 hgrow5 hat5)
      clear p0 p1 p2 p3 p4
      have hM7 : (L ++ [b8 Op, b8 To, b8 A, b8 B, b8 (K / 65536), b8 (K / 256), b8 K, (ls.length : Int)]).length ≤ 5 + 88 * 12 + 8 := by simp; omega
      have HM7 : Hid (∀ l : List Int, (L ++ [b8 Op, b8 To, b8 A, b8 B, b8 (K / 65536), b8 (K / 256), b8 K, (ls.length : Int)]) ++ l = L ++ ([b8 Op, b8 To, b8 A, b8 B, b8 (K / 65536), b8 (K / 256), b8 K, (ls.length : Int)] ++ l)) := fun l => List.append_assoc _ _ _
      have HLS2 : Hid (∀ m, m < ls.length → (ls.take (m + 1)).flatMap lightBytes = (ls.take m).flatMap lightBytes ++ lightBytes (ls.getD m Lt.zero)) := fun m hm => flat_succ lightBytes ls Lt.zero hm
      have HLL : Hid (∀ m, ((ls.take m).flatMap lightBytes).length ≤ 5 * 16) := fun m => by
        rw [flat_lights]
        have : (ls.take m).length ≤ ls.length := List.length_take_le' m ls
        omega
      have HR7 : Hid (BRow (w.heap.size + 1) rb wB w5 (.slice a5 (L.length + 8) c5) ((L ++ [b8 Op, b8 To, b8 A, b8 B, b8 (K / 65536), b8 (K / 256), b8 K, (ls.length : Int)]) ++ (ls.take 0).flatMap lightBytes)) := by
        show BRow _ _ _ _ _ _
        rw [List.take_zero, List.flatMap_nil, List.append_nil]
        exact R5
      generalize (L ++ [b8 Op, b8 To, b8 A, b8 B, b8 (K / 65536), b8 (K / 256), b8 K, (ls.length : Int)]) = M7 at *
      have hjo := fun (wx : World) (u : Value) (l : List Int) (h : BRow (w.heap.size + 1) rb wB wx u l) => hrow.join (by rw [hube]; exact h) hg1
      clear R5 hown5 hgrow5 hat5
      go_wp2
      go_loopw [3, 6] (fun u i wr => ∃ m : Nat, m ≤ ls.length ∧ i = .int .i64 m ∧ BRow (w.heap.size + 1) rb wB wr u (M7 ++ (ls.take m).flatMap lightBytes)) (fun _ i _ => ls.length - (intOf i).toNat)
      case atStart => exact ⟨0, Nat.zero_le _, rfl, HR7.out⟩
      case round =>
        obtain ⟨m, hm, rfl, hin⟩ := hrel
        clear HR7
        have hml := HLL.out m
        obtain ⟨ma, mc, rfl⟩ := owns_slice hin.own
        have hJ := hjo _ _ _ hin
        have hbi := hJ.below (Nat.le_refl _) (fun k hk => by cases hk)
        have hsi1 := Nat.le_trans hs1 hbi.size
        have q5 := hin.grew.cell p5 hub
        by_cases hmt : m < ls.length
        · have HL1 : Hid (_) := HLS2.out m hmt
          have hmI : (m : Int) < (ls.length : Int) := by omega
          have hm0 : (0 : Int) ≤ (m : Int) := by omega
          obtain ⟨lb, lo, rfl, _, l0, l1, l2, l3⟩ := (hLi.below hbi).nthL hmt
          generalize ls.getD m Lt.zero = lt at *
          obtain ⟨X, Y, Rr, Pw⟩ := lt
          dsimp only at l0 l1 l2 l3
          have hMl : (M7 ++ (ls.take m).flatMap lightBytes).length ≤ 2000 := by rw [List.length_append]; omega
          have HLB : Hid (lightBytes ⟨X, Y, Rr, Pw⟩ = [b8 X, b8 Y, b8 Rr, b8 (Pw / 256), b8 Pw]) := rfl
          have hsi := BRow.start (World.ownsRow.alloc hin.own (.cells #[.int .i64 X, .int .i64 Y, .int .i64 Rr, .int .i64 Pw] 106))
          have hg2 := (hin.alloc (.cells #[.int .i64 X, .int .i64 Y, .int .i64 Rr, .int .i64 Pw] 106)).grew
          have c0 : (wr.alloc (.cells #[.int .i64 X, .int .i64 Y, .int .i64 Rr, .int .i64 Pw] 106)).cell? ⟨wr.heap.size, 0, none⟩ = some (.int .i64 X) := by simp [go_sem]
          have c1 : (wr.alloc (.cells #[.int .i64 X, .int .i64 Y, .int .i64 Rr, .int .i64 Pw] 106)).cell? ⟨wr.heap.size, 1, none⟩ = some (.int .i64 Y) := by simp [go_sem]
          have c2 : (wr.alloc (.cells #[.int .i64 X, .int .i64 Y, .int .i64 Rr, .int .i64 Pw] 106)).cell? ⟨wr.heap.size, 2, none⟩ = some (.int .i64 Rr) := by simp [go_sem]
          have c3 : (wr.alloc (.cells #[.int .i64 X, .int .i64 Y, .int .i64 Rr, .int .i64 Pw] 106)).cell? ⟨wr.heap.size, 3, none⟩ = some (.int .i64 Pw) := by simp [go_sem]
          have hszI : w.heap.size + 1 ≤ (wr.alloc (.cells #[.int .i64 X, .int .i64 Y, .int .i64 Rr, .int .i64 Pw] 106)).heap.size := by simp; omega
          have HJ2 : Hid (∀ (wx : World) (u : Value) (l : List Int), BRow (w.heap.size + 1) (Value.slice ma (M7 ++ (ls.take m).flatMap lightBytes).length mc).ownBlock (wr.alloc (.cells #[.int .i64 X, .int .i64 Y, .int .i64 Rr, .int .i64 Pw] 106)) wx u l → BRow (w.heap.size + 1) rb wB wx u l) := fun wx u l h => hin.join h hg2
          go_upto_region 11 with fail
          clear l0 l1 l2 l3 hJ hbi q5
          generalize hMe : M7 ++ (ls.take m).flatMap lightBytes = M8 at *
          generalize wr.alloc (.cells #[.int .i64 X, .int .i64 Y, .int .i64 Rr, .int .i64 Pw] 106) = wL at *
          generalize hmb : (Value.slice ma M8.length mc).ownBlock = rm at *
          have HMe : Hid (_) := hMe
          clear hMe hmb hin
          go_wp2_with (at_builtin; refine wpList_append_own_at _ rfl _ _ 42 rfl (w.heap.size + 1) 5 i0 (.int .u8 0) 1 1 Tryz.underlying42 hi hz0 hz1 hz2 rfl (by decide) _ _ _ rfl (hsi.alloc _).own ⟨wL.heap.size, 0, none⟩ 5 5 [.int .u8 (X % 256), .int .u8 (Y % 256), .int .u8 (Rr % 256), .int .u8 (Pw / 256 % 256), .int .u8 (Pw % 256)] rfl rfl (cells_new _ _ _) (by intro u hu; simp at hu; rcases hu with rfl | rfl | rfl | rfl | rfl <;> rfl) (by unfold maxLen; omega) (by omega) (by simp; omega) ?_; intro v11 w11 hown11 hgrow11 _ hat11; obtain ⟨a11, c11, hv11⟩ := owns_slice hown11; subst hv11; have R11 := (hsi.alloc _).push (news := [b8 X, b8 Y, b8 Rr, b8 (Pw / 256), b8 Pw]) rfl hown11 hgrow11 hat11)
          have HR : Hid (BRow (w.heap.size + 1) rb wB w11 (.slice a11 (M8.length + 5) c11) (M7 ++ (ls.take (m + 1)).flatMap lightBytes)) := by
            show BRow _ _ _ _ _ _
            rw [HL1.out, HLB.out, ← List.append_assoc, HMe.out]
            exact HJ2.out _ _ _ R11
          clear R11 HJ2 hsi hown11 hgrow11 hat11
          go_roundw
          case rel => exact ⟨m + 1, by omega, by go_num, HR.out⟩
          case measure => simp [intOf]; omega
        · have hme : m = ls.length := by omega
          subst hme
          have HR : Hid (BRow (w.heap.size + 1) none w1 wr (.slice ma (M7 ++ (ls.take ls.length).flatMap lightBytes).length mc) (hd ++ (ps.take (k + 1)).flatMap passBytes)) := by
            show BRow _ _ _ _ _ _
            rw [HK1.out, ← List.append_assoc, HLe.out, HPB.out, ← HM7.out]
            exact hJ
          generalize (M7 ++ (ls.take ls.length).flatMap lightBytes).length = n9 at *
          clear hJ hjo
          go_wp2
          go_roundw
          case rel => exact ⟨k + 1, by omega, by go_num, HR.out⟩
          case measure => simp [intOf]; omega
    · have hke : k = ps.length := by omega
      subst hke
      have hne : hd ++ (ps.take ps.length).flatMap passBytes ≠ [] := fun e => by rw [List.append_eq_nil_iff] at e; rw [e.1] at hHD; cases hHD
      obtain ⟨rb, rc, hve, hcell⟩ := row_bytes hrow.own hne
      injection hve with e1 _ e2
      subst e1 e2
      rw [← HFB.out] at hcell ⊢
      have hcv := run_convert_bytes_arg (P := Tryz.prog) wO 42 5 Tryz.underlying42 Tryz.underlying5 rb 0 _ uc (frameBytes ⟨W, H, S, O, ps⟩) rfl hcell 9 Tryz.underlying9
      have HB : Hid (_) := below_step hb0 hbel
      clear hrow hcell hne HFB
      go_wp2
      go_ret
      exact ⟨rfl, HB.out⟩
end Go.Proofs.YtaenpgdmiaekcaaGreatDoor
