/- WireRd, WireRd2, WireRd3, WireRd4, WireRd5, WireRd6, WireRd7: joined, in this order. -/
import Derived.Test.YtaenpgdmiaekcaaGreatDoorS26
import Derived.Laws.BitsAllLaws
import Derived.RangeFuncBox
import Derived.Deep.RegionHeld3
import Derived.Test.YtaenpgdmiaekcaaGreatDoorS16
import Derived.RegionDies
/-
  WIRERD: strings of bytes; wire.reader's number where too few are left.
-/
namespace Go.Proofs.YtaenpgdmiaekcaaGreatDoor
set_option maxRecDepth 100000
open Go.RowKit Im

theorem str_at {r : List Int} (h : Bytes r) {i : Nat} (hi : i < (strOfNums r).size) : (((strOfNums r)[i]'hi).toNat : Int) = r.getD i 0 := by
  have hl : i < r.length := by rw [strOfNums_size] at hi; exact hi
  have hb := h _ (List.getElem_mem hl)
  have e : (strOfNums r)[i]'hi = UInt8.ofNat (r[i]).toNat := by
    have hd : (strOfNums r).data[i]? = some (UInt8.ofNat (r[i]).toNat) := by
      rw [← Array.getElem?_toList, strOfNums_data]
      simp [hl]
    show (strOfNums r).data[i]'hi = _
    exact Option.some.inj ((Array.getElem?_eq_getElem (xs := (strOfNums r).data) hi).symm.trans hd)
  rw [e, List.getD_eq_getElem?_getD, List.getElem?_eq_getElem hl]
  simp only [Option.getD_some, UInt8.toNat_ofNat']
  omega
theorem str_cut (r : List Int) (k : Nat) : (strOfNums r).extract k (strOfNums r).size = strOfNums (r.drop k) := by
  apply ByteArray.ext
  rw [ByteArray.data_extract]
  unfold strOfNums
  simp [ByteArray.size]
  exact List.take_of_length_le (by simp)
theorem nat_or {a b : Nat} (hb : b < 256) : (256 * a) ||| b = 256 * a + b := by
  have := Nat.shiftLeft_add_eq_or_of_lt (i := 8) (b := b) (by simpa using hb) a
  rw [Nat.shiftLeft_eq] at this
  rw [Nat.mul_comm 256 a]
  simpa using this.symm
set_option maxHeartbeats 1000000 in
theorem number_short {b : Nat} {w : World} {s : ByteArray} (hc : w.cell? ⟨b, 0, none⟩ = some (.string s)) {many : Nat} (hm : s.size < many) :
    Calls Tryz.prog 95 #[.pointer (some ⟨b, 0, none⟩), .int .i64 many] w fun e w' => e = .panicked [{ v := .iface 25 (.int .i64 1), recovered := false }] ∧ w' = w := by
  have hI : (s.size : Int) < (many : Int) := by omega
  go_enter Tryz.func95, Tryz.ntmps95
  go_wp2
  exact ⟨rfl, rfl, rfl⟩
end Go.Proofs.YtaenpgdmiaekcaaGreatDoor
/-
  WIRERD2: wire.reader's number.
-/
namespace Go.Proofs.YtaenpgdmiaekcaaGreatDoor
set_option maxRecDepth 100000
open Go.RowKit Im

theorem or256 (a b : Nat) (ha : a < 16777216) (hb : b < 256) : bits .or .i64 ((256 * a : Nat) : Int) (b : Int) = ((256 * a + b : Nat) : Int) := by
  show IntKind.i64.wrap ((BitVec.ofInt 64 ((256 * a : Nat) : Int) ||| BitVec.ofInt 64 (b : Int)).toNat : Int) = _
  rw [BitVec.toNat_or, ofInt_u64 (256 * a) (by omega), ofInt_u64 b (by omega), nat_or hb, IntKind.wrap_i64]
  omega
/-- The number that k bytes are. -/
def numI (r : List Int) : Nat → Int
  | 0 => 0
  | k + 1 => 256 * numI r k + r.getD k 0
theorem numI_bd {r : List Int} (h : Bytes r) : ∀ k, 0 ≤ numI r k ∧ numI r k < 256 ^ k
  | 0 => by simp [numI]
  | k + 1 => by
    have ih := numI_bd h k
    have hb := h.at k
    have e : (256 : Int) ^ (k + 1) = 256 ^ k * 256 := by rw [Int.pow_succ]
    unfold numI
    omega
set_option maxHeartbeats 2000000 in
theorem number_ok {b : Nat} {w : World} {r : List Int} (hr : Bytes r) (hrl : r.length ≤ 4096) (hc : w.cell? ⟨b, 0, none⟩ = some (.string (strOfNums r))) (hf : w.frozen? ⟨b, 0, none⟩ = false) {many : Nat} (hm : many ≤ r.length) (hm3 : many ≤ 3) :
    Calls Tryz.prog 95 #[.pointer (some ⟨b, 0, none⟩), .int .i64 many] w fun e w' => e = .returned (.int .i64 (numI r many)) ∧ w' = w.setCell ⟨b, 0, none⟩ (.string (strOfNums (r.drop many))) := by
  have hs : (strOfNums r).size = r.length := strOfNums_size r
  have hI : ¬ (r.length : Int) < (many : Int) := by omega
  have HCUT : Hid (_) := str_cut r many
  have HAT : Hid (∀ i (hi : i < (strOfNums r).size), (((strOfNums r)[i]'hi).toNat : Int) = r.getD i 0) := fun i hi => str_at hr hi
  have HBD : Hid (_) := fun k => numI_bd hr k
  go_enter Tryz.func95, Tryz.ntmps95
  go_wp2
  go_loopw [5, 16] (fun x i wr => ∃ k : Nat, k ≤ many ∧ i = .int .i64 k ∧ x = .int .i64 (numI r k) ∧ wr = w) (fun _ i _ => many - (intOf i).toNat)
  case atStart => exact ⟨0, Nat.zero_le _, rfl, rfl, rfl⟩
  case round =>
    obtain ⟨k, hk, rfl, rfl, rfl⟩ := hrel
    by_cases hlt : k < many
    · have hbd := HBD.out k
      have hkI : (k : Int) < (many : Int) := by omega
      have hk0 : (0 : Int) ≤ (k : Int) := by omega
      have hks : (k : Int) < (r.length : Int) := by omega
      have hks2 : k < (strOfNums r).size := by omega
      have hsm : numI r k < 65536 := by
        have hk2 : k = 0 ∨ k = 1 ∨ k = 2 := by omega
        rcases hk2 with rfl | rfl | rfl
        · have := hbd.2; simp at this; omega
        · have := hbd.2; simp at this; omega
        · have := hbd.2; simp at this; omega
      have hat := HAT.out k hks2
      have hby := hr.at k
      have HE : Hid (bits BinOp.or IntKind.i64 (wrap64 (numI r k * 256)) (wrap64 (((strOfNums r)[k]'hks2).toNat : Int)) = numI r (k + 1)) := by
        show _ = _
        have e1 : wrap64 (numI r k * 256) = ((256 * (numI r k).toNat : Nat) : Int) := by unfold wrap64; omega
        have e2 : wrap64 (((strOfNums r)[k]'hks2).toNat : Int) = ((r.getD k 0).toNat : Int) := by rw [hat]; unfold wrap64; omega
        rw [e1, e2, or256 _ _ (by omega) (by omega)]
        show _ = 256 * numI r k + r.getD k 0
        omega
      clear hat hby hsm hbd
      go_wp2
      exact ⟨⟨k + 1, by omega, by go_num, by rw [HE.out], trivial⟩, by simp [intOf]; omega⟩
    · have hke : k = many := by omega
      subst hke
      go_wp2
      go_ret
      exact ⟨rfl, by rw [← HCUT.out, hs]⟩
end Go.Proofs.YtaenpgdmiaekcaaGreatDoor
/-
  WIRERD3: a reader in its box; wire.reader's number and signed, told by it.
-/
namespace Go.Proofs.YtaenpgdmiaekcaaGreatDoor
set_option maxRecDepth 100000
open Go.RowKit Im

/-- The reader in block b has the bytes r before it. -/
structure RdB (w : World) (b : Nat) (r : List Int) : Prop where
  cell : w.cell? ⟨b, 0, none⟩ = some (.string (strOfNums r))
  fz : w.frozen? ⟨b, 0, none⟩ = false
  bytes : Bytes r
  few : r.length ≤ 4096
theorem Bytes.drop {r : List Int} (h : Bytes r) (k : Nat) : Bytes (r.drop k) := fun x hx => h x (List.mem_of_mem_drop hx)
theorem RdB.put {w : World} {b : Nat} {r : List Int} (h : RdB w b r) (k : Nat) : RdB (w.setCell ⟨b, 0, none⟩ (.string (strOfNums (r.drop k)))) b (r.drop k) :=
  ⟨set_same h.cell, by simpa using h.fz, h.bytes.drop k, by rw [List.length_drop]; have := h.few; omega⟩
theorem RdB.grown {w w' : World} {b : Nat} {r : List Int} {row : Option Nat} (h : RdB w b r) (hg : w.grownBy w' row) (hne : some b ≠ row) : RdB w' b r :=
  ⟨hg.cell h.cell hne, (World.frozen?_of_block (a := ⟨b, 0, none⟩) (hg.block b (World.block_lt_of_cell? w _ h.cell) hne)).trans h.fz, h.bytes, h.few⟩
/-- What the reader panics with. -/
def rdStopped : Ending := .panicked [{ v := .iface 25 (.int .i64 1), recovered := false }]
theorem number_any {b : Nat} {w : World} {r : List Int} (h : RdB w b r) {many : Nat} (hm3 : many ≤ 3) :
    Calls Tryz.prog 95 #[.pointer (some ⟨b, 0, none⟩), .int .i64 many] w fun e w' =>
      ((many ≤ r.length ∧ e = .returned (.int .i64 (numI r many)) ∧ RdB w' b (r.drop many)) ∨ (r.length < many ∧ e = rdStopped)) ∧ w.grownBy w' (some b) := by
  by_cases hm : many ≤ r.length
  · refine (number_ok h.bytes h.few h.cell h.fz hm hm3).mono ?_
    rintro e w' ⟨rfl, rfl⟩
    exact ⟨.inl ⟨hm, rfl, h.put many⟩, grownBy_setCell' w b _⟩
  · refine (number_short h.cell (many := many) (by rw [strOfNums_size]; omega)).mono ?_
    rintro e w' ⟨rfl, rfl⟩
    exact ⟨.inr ⟨by omega, rfl⟩, World.grownBy.refl _ _⟩
theorem RdB.drew {w : World} {b : Nat} {r : List Int} (h : RdB w b r) : RdB w.drew b r := ⟨h.cell, h.fz, h.bytes, h.few⟩
theorem number_does {b : Nat} {w : World} {r : List Int} (h : RdB w b r) {many : Nat} (hm3 : many ≤ 3) (hm : many ≤ r.length) :
    Calls Tryz.prog 95 #[.pointer (some ⟨b, 0, none⟩), .int .i64 many] w fun e w' => e = .returned (.int .i64 (numI r many)) ∧ RdB w' b (r.drop many) ∧ w.grownBy w' (some b) := by
  refine (number_any h hm3).mono ?_
  rintro e w' ⟨⟨_, h1, h2⟩ | ⟨h1, _⟩, hg⟩
  · exact ⟨h1, h2, hg⟩
  · omega
theorem number_stops {b : Nat} {w : World} {r : List Int} (h : RdB w b r) {many : Nat} (hm3 : many ≤ 3) (hm : r.length < many) :
    Calls Tryz.prog 95 #[.pointer (some ⟨b, 0, none⟩), .int .i64 many] w fun e w' => e = rdStopped ∧ w.grownBy w' (some b) := by
  refine (number_any h hm3).mono ?_
  rintro e w' ⟨⟨h1, _⟩ | ⟨_, h1⟩, hg⟩
  · omega
  · exact ⟨h1, hg⟩
set_option maxHeartbeats 2000000 in
theorem signed_does {b : Nat} {w : World} {r : List Int} (h : RdB w b r) (hm : 3 ≤ r.length) :
    Calls Tryz.prog 140 #[.pointer (some ⟨b, 0, none⟩), .int .i64 3] w fun e w' => e = .returned (.int .i64 (sgn (numI r 3))) ∧ RdB w' b (r.drop 3) ∧ w.grownBy w' (some b) := by
  have hnu := number_does h.drew (many := 3) (by decide) hm
  have hbd := numI_bd h.bytes 3
  have hn : 0 ≤ numI r 3 ∧ numI r 3 < 16777216 := by have := hbd.2; simp at this; exact ⟨hbd.1, this⟩
  have HS : Hid (sgn (numI r 3) = if 8388608 ≤ numI r 3 then numI r 3 - 16777216 else numI r 3) := rfl
  have hw : IntKind.i64.wrap 24 = 24 := by decide
  have hw2 : IntKind.i64.wrap 16777216 = 16777216 := by decide
  clear hbd
  generalize numI r 3 = n at *
  go_enter Tryz.func140, Tryz.ntmps140
  go_upto_region 1 with fail
  go_region_held3 (fun _ => True) (trivial) ((go_at_call 95; refine hnu.mono ?_; rintro e w1 ⟨rfl, hR, hg⟩))
  all_goals
    by_cases h8 : 8388608 ≤ n
    · have HX : Hid (_) := HS.out.trans (if_pos h8)
      go_wp2
      go_ret
      exact ⟨by rw [HX.out]; rfl, hR, ⟨hg.os, hg.tape, hg.output, hg.size, hg.block⟩⟩
    · have HX : Hid (_) := HS.out.trans (if_neg h8)
      go_wp2
      go_ret
      exact ⟨by rw [HX.out]; rfl, hR, ⟨hg.os, hg.tape, hg.output, hg.size, hg.block⟩⟩
end Go.Proofs.YtaenpgdmiaekcaaGreatDoor
/-
  WIRERD4: wire.reader's light, where enough bytes are left.
-/
namespace Go.Proofs.YtaenpgdmiaekcaaGreatDoor
set_option maxRecDepth 100000
open Go.RowKit Im

theorem grown_alloc {w w' : World} {row : Option Nat} (h : w.grownBy w' row) (o : Obj) : w.grownBy (w'.alloc o) row :=
  ⟨h.os, h.tape, h.output, by have := h.size; simp; omega, fun k hk hr => (Below.heap_alloc _ _ _ (Nat.lt_of_lt_of_le hk h.size)).trans (h.block k hk hr)⟩
/-- Four values in a box that may be written. -/
structure WBox4 (w : World) (b : Nat) : Prop where
  lt : b < w.heap.size
  c : ∀ j, j < 4 → ∃ v, w.cell? ⟨b, j, none⟩ = some v
  fz : ∀ o, w.frozen? ⟨b, o, none⟩ = false
theorem WBox4.grown {w w' : World} {b : Nat} {row : Option Nat} (h : WBox4 w b) (hg : w.grownBy w' row) (hne : some b ≠ row) : WBox4 w' b :=
  ⟨Nat.lt_of_lt_of_le h.lt hg.size, fun j hj => by obtain ⟨v, hv⟩ := h.c j hj; exact ⟨v, hg.cell hv hne⟩, fun o => (World.frozen?_of_block (a := ⟨b, o, none⟩) (hg.block b h.lt hne)).trans (h.fz o)⟩
theorem numI_one (r : List Int) : numI r 1 = r.getD 0 0 := by show 256 * 0 + r.getD 0 0 = _; omega
theorem numI_two (r : List Int) : numI r 2 = 256 * r.getD 0 0 + r.getD 1 0 := by show 256 * (256 * 0 + r.getD 0 0) + r.getD 1 0 = _; omega
theorem drop_getD (r : List Int) (k i : Nat) : (r.drop k).getD i 0 = r.getD (k + i) 0 := by rw [List.getD_eq_getElem?_getD, List.getElem?_drop, ← List.getD_eq_getElem?_getD]
theorem RdB.alloc {w : World} {b : Nat} {r : List Int} (h : RdB w b r) (o : Obj) : RdB (w.alloc o) b r := h.grown (row := none) (grown_alloc (World.grownBy.refl w none) o) (by simp)
set_option maxHeartbeats 2000000 in
theorem light_does {b : Nat} {w : World} {r : List Int} (h : RdB w b r) (hm : 5 ≤ r.length) :
    Calls Tryz.prog 141 #[.pointer (some ⟨b, 0, none⟩)] w fun e w' => e = .returned (.agg #[.int .i64 (rdLight r 0).X, .int .i64 (rdLight r 0).Y, .int .i64 (rdLight r 0).R, .int .i64 (rdLight r 0).P]) ∧ RdB w' b (r.drop 5) ∧ w.grownBy w' (some b) := by
  have hbl : b < w.heap.size := World.block_lt_of_cell? w _ h.cell
  have hne : some w.heap.size ≠ some b := fun e => by injection e with e; omega
  have hB0 : WBox4 (w.alloc (.cells #[.int .i64 0, .int .i64 0, .int .i64 0, .int .i64 0] 106)) w.heap.size := ⟨by simp, fun j hj => by
    match j, hj with
    | 0, _ => exact ⟨_, by simp [go_sem]; rfl⟩
    | 1, _ => exact ⟨_, by simp [go_sem]; rfl⟩
    | 2, _ => exact ⟨_, by simp [go_sem]; rfl⟩
    | 3, _ => exact ⟨_, by simp [go_sem]; rfl⟩, fun o => frozen_new w _ _ o⟩
  have hg0 : w.grownBy (w.alloc (.cells #[.int .i64 0, .int .i64 0, .int .i64 0, .int .i64 0] 106)) (some b) := grown_alloc (World.grownBy.refl _ _) _
  have h0 := h.alloc (.cells #[.int .i64 0, .int .i64 0, .int .i64 0, .int .i64 0] 106)
  have n0 : numI r 1 = (rdLight r 0).X := numI_one r
  have n1 : numI (r.drop 1) 1 = (rdLight r 0).Y := by rw [numI_one, drop_getD]; rfl
  have n2 : numI ((r.drop 1).drop 1) 1 = (rdLight r 0).R := by rw [numI_one, List.drop_drop, drop_getD]; rfl
  have n3 : numI (((r.drop 1).drop 1).drop 1) 2 = (rdLight r 0).P := by rw [numI_two, List.drop_drop, List.drop_drop, drop_getD, drop_getD]; rfl
  have n4 : (((r.drop 1).drop 1).drop 1).drop 2 = r.drop 5 := by simp [List.drop_drop]
  have hn0 := number_does h0 (many := 1) (by decide) (by omega)
  rw [n0] at hn0
  go_enter Tryz.func141, Tryz.ntmps141
  go_wp2_with fail
  refine hn0.mono ?_
  rintro e w1 ⟨rfl, h1, g1⟩
  have hn1 := number_does h1 (many := 1) (by decide) (by rw [List.length_drop]; omega)
  rw [n1] at hn1
  go_wp2_with fail
  refine hn1.mono ?_
  rintro e w2 ⟨rfl, h2, g2⟩
  have hn2 := number_does h2 (many := 1) (by decide) (by rw [List.length_drop, List.length_drop]; omega)
  rw [n2] at hn2
  go_wp2_with fail
  refine hn2.mono ?_
  rintro e w3 ⟨rfl, h3, g3⟩
  have hn3 := number_does h3 (many := 2) (by decide) (by rw [List.length_drop, List.length_drop, List.length_drop]; omega)
  rw [n3] at hn3
  go_wp2_with fail
  refine hn3.mono ?_
  rintro e w4 ⟨rfl, h4, g4⟩
  have hB4 := (((hB0.grown g1 hne).grown g2 hne).grown g3 hne).grown g4 hne
  have hg4 := (((hg0.trans g1).trans g2).trans g3).trans g4
  obtain ⟨v0, k0⟩ := hB4.c 0 (by decide)
  obtain ⟨v1, k1⟩ := hB4.c 1 (by decide)
  obtain ⟨v2, k2⟩ := hB4.c 2 (by decide)
  obtain ⟨v3, k3⟩ := hB4.c 3 (by decide)
  have f0 := hB4.fz 0
  have f1 := hB4.fz 1
  have f2 := hB4.fz 2
  have f3 := hB4.fz 3
  rw [n4] at h4
  have T : ∀ (x0 x1 x2 x3 : Value), RdB ((((w4.setCell ⟨w.heap.size, 0, none⟩ x0).setCell ⟨w.heap.size, 1, none⟩ x1).setCell ⟨w.heap.size, 2, none⟩ x2).setCell ⟨w.heap.size, 3, none⟩ x3) b (r.drop 5) ∧ w.grownBy ((((w4.setCell ⟨w.heap.size, 0, none⟩ x0).setCell ⟨w.heap.size, 1, none⟩ x1).setCell ⟨w.heap.size, 2, none⟩ x2).setCell ⟨w.heap.size, 3, none⟩ x3) (some b) ∧ ((((w4.setCell ⟨w.heap.size, 0, none⟩ x0).setCell ⟨w.heap.size, 1, none⟩ x1).setCell ⟨w.heap.size, 2, none⟩ x2).setCell ⟨w.heap.size, 3, none⟩ x3).cell? ⟨w.heap.size, 0, none⟩ = some x0 ∧ ((((w4.setCell ⟨w.heap.size, 0, none⟩ x0).setCell ⟨w.heap.size, 1, none⟩ x1).setCell ⟨w.heap.size, 2, none⟩ x2).setCell ⟨w.heap.size, 3, none⟩ x3).cell? ⟨w.heap.size, 1, none⟩ = some x1 ∧ ((((w4.setCell ⟨w.heap.size, 0, none⟩ x0).setCell ⟨w.heap.size, 1, none⟩ x1).setCell ⟨w.heap.size, 2, none⟩ x2).setCell ⟨w.heap.size, 3, none⟩ x3).cell? ⟨w.heap.size, 2, none⟩ = some x2 ∧ ((((w4.setCell ⟨w.heap.size, 0, none⟩ x0).setCell ⟨w.heap.size, 1, none⟩ x1).setCell ⟨w.heap.size, 2, none⟩ x2).setCell ⟨w.heap.size, 3, none⟩ x3).cell? ⟨w.heap.size, 3, none⟩ = some x3 := by
    intro x0 x1 x2 x3
    have ht : ∀ i j : Nat, i ≠ j → (⟨w.heap.size, i, none⟩ : Addr) ≠ ⟨w.heap.size, j, none⟩ := fun i j hij e => hij (by injection e)
    have hb : ∀ i : Nat, (⟨w.heap.size, i, none⟩ : Addr) ≠ ⟨b, 0, none⟩ := fun i e => by injection e with e1 e2; omega
    refine ⟨⟨?_, by simpa using h4.fz, h4.bytes, h4.few⟩, ?_, ?_, ?_, ?_, ?_⟩
    · rw [set_other _ (hb 3), set_other _ (hb 2), set_other _ (hb 1), set_other _ (hb 0)]; exact h4.cell
    · have B := ((((Below.refl w.heap.size w4).setCell (p := ⟨w.heap.size, 0, none⟩) (Nat.le_refl _) x0).setCell (p := ⟨w.heap.size, 1, none⟩) (Nat.le_refl _) x1).setCell (p := ⟨w.heap.size, 2, none⟩) (Nat.le_refl _) x2).setCell (p := ⟨w.heap.size, 3, none⟩) (Nat.le_refl _) x3
      exact ⟨B.os.trans hg4.os, B.tape.trans hg4.tape, B.output.trans hg4.output, Nat.le_trans hg4.size B.size, fun k hk hr => (B.block k hk).trans (hg4.block k hk hr)⟩
    · rw [set_other _ (ht 3 0 (by decide)), set_other _ (ht 2 0 (by decide)), set_other _ (ht 1 0 (by decide))]; exact set_same k0
    · rw [set_other _ (ht 3 1 (by decide)), set_other _ (ht 2 1 (by decide))]; exact set_same ((set_other _ (ht 0 1 (by decide))).trans k1)
    · rw [set_other _ (ht 3 2 (by decide))]; exact set_same ((set_other _ (ht 1 2 (by decide))).trans ((set_other _ (ht 0 2 (by decide))).trans k2))
    · exact set_same ((set_other _ (ht 2 3 (by decide))).trans ((set_other _ (ht 1 3 (by decide))).trans ((set_other _ (ht 0 3 (by decide))).trans k3)))
  obtain ⟨t1, t2, d0, d1, d2, d3⟩ := T (.int .i64 (rdLight r 0).X) (.int .i64 (rdLight r 0).Y) (.int .i64 (rdLight r 0).R) (.int .i64 (rdLight r 0).P)
  have HT1 : Hid (_) := t1
  have HT2 : Hid (_) := t2
  clear T t1 t2 h4 hg4 hB4 n0 n1 n2 n3 n4
  go_wp2
  exact bodyPost_ret (v := .agg #[.int .i64 (rdLight r 0).X, .int .i64 (rdLight r 0).Y, .int .i64 (rdLight r 0).R, .int .i64 (rdLight r 0).P]) (by simp [results, Tryz.results141, go_sem, d0, d1, d2, d3]) rfl ⟨rfl, HT1.out, HT2.out⟩
set_option maxHeartbeats 2000000 in
theorem light_stops {b : Nat} {w : World} {r : List Int} (h : RdB w b r) (hm : r.length < 5) :
    Calls Tryz.prog 141 #[.pointer (some ⟨b, 0, none⟩)] w fun e w' => e = rdStopped ∧ w.grownBy w' (some b) := by
  have hg0 : w.grownBy (w.alloc (.cells #[.int .i64 0, .int .i64 0, .int .i64 0, .int .i64 0] 106)) (some b) := grown_alloc (World.grownBy.refl _ _) _
  have h0 := h.alloc (.cells #[.int .i64 0, .int .i64 0, .int .i64 0, .int .i64 0] 106)
  go_enter Tryz.func141, Tryz.ntmps141
  by_cases c0 : r.length < 1
  · have hs := number_stops h0 (many := 1) (by decide) (by omega)
    go_wp2_with fail
    refine hs.mono ?_
    rintro e wS ⟨rfl, gS⟩
    exact ⟨rfl, rfl, hg0.trans gS⟩
  have hn0 := number_does h0 (many := 1) (by decide) (by omega)
  generalize numI r 1 = x0 at hn0
  go_wp2_with fail
  refine hn0.mono ?_
  rintro e w1 ⟨rfl, h1, g1⟩
  by_cases c1 : r.length < 2
  · have hs := number_stops h1 (many := 1) (by decide) (by rw [List.length_drop]; omega)
    go_wp2_with fail
    refine hs.mono ?_
    rintro e wS ⟨rfl, gS⟩
    exact ⟨rfl, rfl, (hg0.trans g1).trans gS⟩
  have hn1 := number_does h1 (many := 1) (by decide) (by rw [List.length_drop]; omega)
  generalize numI (r.drop 1) 1 = x1 at hn1
  go_wp2_with fail
  refine hn1.mono ?_
  rintro e w2 ⟨rfl, h2, g2⟩
  by_cases c2 : r.length < 3
  · have hs := number_stops h2 (many := 1) (by decide) (by rw [List.length_drop, List.length_drop]; omega)
    go_wp2_with fail
    refine hs.mono ?_
    rintro e wS ⟨rfl, gS⟩
    exact ⟨rfl, rfl, ((hg0.trans g1).trans g2).trans gS⟩
  have hn2 := number_does h2 (many := 1) (by decide) (by rw [List.length_drop, List.length_drop]; omega)
  generalize numI ((r.drop 1).drop 1) 1 = x2 at hn2
  go_wp2_with fail
  refine hn2.mono ?_
  rintro e w3 ⟨rfl, h3, g3⟩
  · have hs := number_stops h3 (many := 2) (by decide) (by rw [List.length_drop, List.length_drop, List.length_drop]; omega)
    go_wp2_with fail
    refine hs.mono ?_
    rintro e wS ⟨rfl, gS⟩
    exact ⟨rfl, rfl, (((hg0.trans g1).trans g2).trans g3).trans gS⟩
end Go.Proofs.YtaenpgdmiaekcaaGreatDoor
/-
  WIRERD5: wire.reader's signed, where too few bytes are left.
-/
namespace Go.Proofs.YtaenpgdmiaekcaaGreatDoor
set_option maxRecDepth 100000
open Go.RowKit Im

set_option maxHeartbeats 2000000 in
theorem signed_stops {b : Nat} {w : World} {r : List Int} (h : RdB w b r) (hm : r.length < 3) :
    Calls Tryz.prog 140 #[.pointer (some ⟨b, 0, none⟩), .int .i64 3] w fun e w' => e = rdStopped ∧ w.grownBy w' (some b) := by
  have hnu := number_stops h.drew (many := 3) (by decide) hm
  have hw : IntKind.i64.wrap 24 = 24 := by decide
  have hw2 : IntKind.i64.wrap 16777216 = 16777216 := by decide
  go_enter Tryz.func140, Tryz.ntmps140
  go_upto_region 1 with fail
  go_region_dies
  all_goals
    refine hnu.mono ?_
    rintro e w1 ⟨rfl, hg⟩
    exact ⟨rfl, rfl, ⟨hg.os, hg.tape, hg.output, hg.size, hg.block⟩⟩
end Go.Proofs.YtaenpgdmiaekcaaGreatDoor
/-
  WIRERD6: what the reader's pass and frame are told by: numbers and memory.
-/
namespace Go.Proofs.YtaenpgdmiaekcaaGreatDoor
set_option maxRecDepth 100000
open Go.RowKit Im

theorem rdLight_drop (r : List Int) (p i : Nat) : rdLight (r.drop p) i = rdLight r (p + i) := by
  unfold rdLight
  simp only [drop_getD, Nat.add_assoc]
theorem rdLights_drop (r : List Int) (p i : Nat) : ∀ n, rdLights (r.drop p) i n = rdLights r (p + i) n
  | 0 => rfl
  | n + 1 => by
    unfold rdLights
    rw [rdLights_drop r p i n, rdLight_drop, Nat.add_assoc]
theorem rdPass_drop (r : List Int) (p : Nat) : rdPass (r.drop p) 0 = rdPass r p := by
  unfold rdPass
  simp only [drop_getD, rdLights_drop, Nat.zero_add, Nat.add_zero]
theorem rdStop_drop (r : List Int) (p : Nat) : p + rdStop (r.drop p) 0 = rdStop r p := by
  unfold rdStop
  simp only [drop_getD, Nat.zero_add]
  omega
theorem rdPos_le (r : List Int) {k n : Nat} (h : k ≤ n) : rdPos r k ≤ rdPos r n := by
  induction n with
  | zero => rw [Nat.le_zero.1 h]; exact Nat.le_refl _
  | succ n ih =>
    by_cases e : k = n + 1
    · rw [e]; exact Nat.le_refl _
    · refine Nat.le_trans (ih (by omega)) ?_
      show _ ≤ rdStop r (rdPos r n)
      unfold rdStop
      omega
theorem rdStop_ge (r : List Int) (p : Nat) : p + 8 ≤ rdStop r p := by unfold rdStop; omega
theorem numI_three (r : List Int) : numI r 3 = 65536 * r.getD 0 0 + 256 * r.getD 1 0 + r.getD 2 0 := by
  show 256 * (256 * (256 * 0 + r.getD 0 0) + r.getD 1 0) + r.getD 2 0 = _
  omega
/-- The box of a pass whose lights grow. -/
structure QBox (w : World) (b : Nat) (Op To A B K : Int) (v : Value) : Prop where
  lt : b < w.heap.size
  c0 : w.cell? ⟨b, 0, none⟩ = some (.int .i64 Op)
  c1 : w.cell? ⟨b, 1, none⟩ = some (.int .i64 To)
  c2 : w.cell? ⟨b, 2, none⟩ = some (.int .i64 A)
  c3 : w.cell? ⟨b, 3, none⟩ = some (.int .i64 B)
  c4 : w.cell? ⟨b, 4, none⟩ = some (.int .i64 K)
  c5 : w.cell? ⟨b, 5, none⟩ = some v
  fz : ∀ o, w.frozen? ⟨b, o, none⟩ = false
theorem QBox.grown {w w' : World} {b : Nat} {Op To A B K : Int} {v : Value} {row : Option Nat} (h : QBox w b Op To A B K v) (hg : w.grownBy w' row) (hne : some b ≠ row) : QBox w' b Op To A B K v :=
  ⟨Nat.lt_of_lt_of_le h.lt hg.size, (grown_cell hg h.lt hne 0).1.trans h.c0, (grown_cell hg h.lt hne 1).1.trans h.c1, (grown_cell hg h.lt hne 2).1.trans h.c2, (grown_cell hg h.lt hne 3).1.trans h.c3, (grown_cell hg h.lt hne 4).1.trans h.c4, (grown_cell hg h.lt hne 5).1.trans h.c5, fun o => (grown_cell hg h.lt hne o).2.trans (h.fz o)⟩
theorem QBox.put {w : World} {b : Nat} {Op To A B K : Int} {v : Value} (h : QBox w b Op To A B K v) (v' : Value) : QBox (w.setCell ⟨b, 5, none⟩ v') b Op To A B K v' :=
  ⟨by simpa using h.lt, (set_other _ (by simp)).trans h.c0, (set_other _ (by simp)).trans h.c1, (set_other _ (by simp)).trans h.c2, (set_other _ (by simp)).trans h.c3, (set_other _ (by simp)).trans h.c4, set_same h.c5, fun o => by simpa using h.fz o⟩
/-- Six values in a box that may be written. -/
structure WBox6 (w : World) (b : Nat) : Prop where
  lt : b < w.heap.size
  c : ∀ j, j < 6 → ∃ v, w.cell? ⟨b, j, none⟩ = some v
  fz : ∀ o, w.frozen? ⟨b, o, none⟩ = false
theorem WBox6.grown {w w' : World} {b : Nat} {row : Option Nat} (h : WBox6 w b) (hg : w.grownBy w' row) (hne : some b ≠ row) : WBox6 w' b :=
  ⟨Nat.lt_of_lt_of_le h.lt hg.size, fun j hj => by obtain ⟨v, hv⟩ := h.c j hj; exact ⟨v, hg.cell hv hne⟩, fun o => (World.frozen?_of_block (a := ⟨b, o, none⟩) (hg.block b h.lt hne)).trans (h.fz o)⟩
theorem WBox6.new (w : World) (v0 v1 v2 v3 v4 v5 : Value) (t : TypeId) : WBox6 (w.alloc (.cells #[v0, v1, v2, v3, v4, v5] t)) w.heap.size := ⟨by simp, fun j hj => by
    match j, hj with
    | 0, _ => exact ⟨_, by simp [go_sem]; rfl⟩
    | 1, _ => exact ⟨_, by simp [go_sem]; rfl⟩
    | 2, _ => exact ⟨_, by simp [go_sem]; rfl⟩
    | 3, _ => exact ⟨_, by simp [go_sem]; rfl⟩
    | 4, _ => exact ⟨_, by simp [go_sem]; rfl⟩
    | 5, _ => exact ⟨_, by simp [go_sem]; rfl⟩, fun o => frozen_new w _ _ o⟩
/-- Only the block b, and blocks from n on, changed. -/
theorem grown_set {w w' : World} {row : Option Nat} (h : w.grownBy w' row) {p : Addr} (hp : w.heap.size ≤ p.block) (v : Value) : w.grownBy (w'.setCell p v) row := by
  have B := (Below.refl w.heap.size w').setCell hp v
  exact ⟨B.os.trans h.os, B.tape.trans h.tape, B.output.trans h.output, Nat.le_trans h.size B.size, fun k hk hr => (B.block k hk).trans (h.block k hk hr)⟩
theorem grown_own {w w' w'' : World} {row own : Option Nat} (h : w.grownBy w' row) (hg : w'.grownBy w'' own) (ho : ∀ k, own = some k → w.heap.size ≤ k) : w.grownBy w'' row :=
  ⟨hg.os.trans h.os, hg.tape.trans h.tape, hg.output.trans h.output, Nat.le_trans h.size hg.size, fun k hk hr => (hg.block k (Nat.lt_of_lt_of_le hk h.size) (fun e => by have := ho k e.symm; omega)).trans (h.block k hk hr)⟩
/-- What the reader's pass is told by. -/
def ToldRP (w : World) (b : Nat) (r : List Int) (e : Ending) (w' : World) : Prop :=
  w.grownBy w' (some b) ∧ ((rdStop r 0 ≤ r.length ∧ (∃ la lc, e = .returned (.agg #[.int .i64 (rdPass r 0).Op, .int .i64 (rdPass r 0).To, .int .i64 (rdPass r 0).A, .int .i64 (rdPass r 0).B, .int .i64 (rdPass r 0).K, .slice la (rdPass r 0).ls.length lc]) ∧ OwnsL (w.heap.size + 1) w' (.slice la (rdPass r 0).ls.length lc) (rdPass r 0).ls) ∧ RdB w' b (r.drop (rdStop r 0))) ∨ (r.length < rdStop r 0 ∧ e = rdStopped))
/-- What the reader's frame is told by. -/
def ToldRF (w : World) (b : Nat) (r : List Int) (e : Ending) (w' : World) : Prop :=
  w.grownBy w' (some b) ∧ ((rdEnd r ≤ r.length ∧ (∃ a c L, e = .returned (.agg #[.int .i64 (rdFrame r).W, .int .i64 (rdFrame r).H, .int .i64 (rdFrame r).S, .int .i64 (rdFrame r).O, .slice a (rdFrame r).ps.length c]) ∧ RowP (w.heap.size + 1) w' (.slice a (rdFrame r).ps.length c) L ∧ L.map Prod.fst = (rdFrame r).ps) ∧ RdB w' b (r.drop (rdEnd r))) ∨ (r.length < rdEnd r ∧ e = rdStopped))
/-- Lights of the call's own, as a pass's: many. -/
theorem OwnsL.lights' {base : Nat} {w : World} {v : Value} {ls : List Lt} (h : OwnsL base w v ls) : ls = [] ∨ ∃ g cap, v = .slice (some ⟨g, 0, none⟩) ls.length cap ∧ base ≤ g ∧ g < w.heap.size ∧ ∀ j, j < ls.length → w.cell? ⟨g, 0 + j * 4, none⟩ = some (.int .i64 (ls.getD j Lt.zero).X) ∧ w.cell? ⟨g, 0 + j * 4 + 1, none⟩ = some (.int .i64 (ls.getD j Lt.zero).Y) ∧ w.cell? ⟨g, 0 + j * 4 + 2, none⟩ = some (.int .i64 (ls.getD j Lt.zero).R) ∧ w.cell? ⟨g, 0 + j * 4 + 3, none⟩ = some (.int .i64 (ls.getD j Lt.zero).P) := by
  obtain ⟨h1, h2⟩ := h
  rcases h2 with ⟨rfl, h0⟩ | ⟨g, cap, cur, rfl, hg, hh, hc, hm, hs, ht⟩
  · left; simpa using h0
  · right
    refine ⟨g, cap, rfl, hg, ?_, fun j hj => ?_⟩
    · rcases Nat.lt_or_ge g w.heap.size with h | h
      · exact h
      · rw [Array.getElem?_eq_none h] at hh; cases hh
    · obtain ⟨g0, g1, g2, g3⟩ := lcells_get ls j hj
      have this := fun i hi => World.ownsRow.cellAt (base := base) (e := 106) (size := 4) ⟨h1, .inr ⟨g, cap, cur, rfl, hg, hh, hc, hm, hs, ht⟩⟩ i hi
      refine ⟨?_, ?_, ?_, ?_⟩
      all_goals rw [Nat.zero_add, this _ (by omega)]
      · exact g0
      · exact g1
      · exact g2
      · exact g3
theorem Lx.of' {base B : Nat} {w : World} {v u : Value} {p : Ps} {la : Option Addr} {lc : Nat} (h : OwnsL B w u p.ls) (hu : u = .slice la p.ls.length lc) (h8 : p.ls.length ≤ 4096) (hB : base ≤ B) (hv : ∀ j, v.ownBlock = some j → j < B) : Lx base w v (p, la, lc) := by
  refine ⟨by dsimp only; omega, ?_⟩
  rcases h.lights' with h | ⟨g, cap, e, hg, hl, hc⟩
  · exact .inl h
  · rw [hu] at e
    injection e with e1 e2 e3
    subst e1
    exact .inr ⟨g, 0, rfl, Nat.le_trans hB hg, hl, fun e => by have := hv _ e; omega, hc⟩
theorem RowP.passes' {base : Nat} {w : World} {v : Value} {L : Lp} {ps : List Ps} (h : RowP base w v L) (he : L.map Prod.fst = ps) (hb : L.length ≤ 4096) : ∃ a cap, v = .slice a ps.length cap ∧ Passes w a ps.length ps := by
  have hrl : ps.length = L.length := by rw [← he]; simp
  obtain ⟨⟨h1, h2⟩, hx⟩ := h
  rcases h2 with ⟨rfl, h0⟩ | ⟨g, cap, cur, rfl, hg, hh, hc, hm, hs, ht⟩
  · have : L = [] := by simpa using h0
    subst this
    subst he
    exact ⟨none, 0, rfl, rfl, by simp, .inl rfl⟩
  · rw [← hrl]
    refine ⟨_, cap, rfl, rfl, by omega, .inr ⟨g, 0, rfl, ?_, fun j hj => ?_⟩⟩
    · rcases Nat.lt_or_ge g w.heap.size with h | h
      · exact h
      · rw [Array.getElem?_eq_none h] at hh; cases hh
    · have hl := pcells_len L
      rw [hrl] at hj
      obtain ⟨k0, k1, k2, k3, k4, k5⟩ := pcells_get L j hj
      have this := fun i hi => World.ownsRow.cellAt (base := base) (e := 72) (size := 6) ⟨h1, .inr ⟨g, cap, cur, rfl, hg, hh, hc, hm, hs, ht⟩⟩ i hi
      have hL := (hx _ (getD_mem hj lp0)).lights
      rw [mapP_getD he j]
      refine ⟨(L.getD j lp0).2.1, (L.getD j lp0).1.ls.length, (L.getD j lp0).2.2, ?_, ?_, ?_, ?_, ?_, ?_, hL⟩
      all_goals rw [Nat.zero_add, this _ (by omega)]
      · exact k0
      · exact k1
      · exact k2
      · exact k3
      · exact k4
      · exact k5
theorem Lx.grownO {base : Nat} {w w' : World} {v : Value} {x : Ps × Option Addr × Nat} {row : Option Nat} (h : Lx base w v x) (hg : w.grownBy w' row) (hr : ∀ k, row = some k → k < base) : Lx base w' v x := by
  obtain ⟨h0, h1⟩ := h
  refine ⟨h0, ?_⟩
  rcases h1 with h1 | ⟨b, off, ha, hB, hl, hv, hc⟩
  · exact .inl h1
  · have hk := fun o => (grown_cell hg hl (fun e => by have := hr b e.symm; omega) o).1
    refine .inr ⟨b, off, ha, hB, Nat.lt_of_lt_of_le hl hg.size, hv, fun j hj => ?_⟩
    obtain ⟨c0, c1, c2, c3⟩ := hc j hj
    exact ⟨(hk _).trans c0, (hk _).trans c1, (hk _).trans c2, (hk _).trans c3⟩
theorem RowP.grownO {base : Nat} {w w' : World} {v : Value} {L : Lp} {row : Option Nat} (h : RowP base w v L) (hg : w.grownBy w' row) (hr : ∀ k, row = some k → k < base) : RowP base w' v L :=
  ⟨World.ownsRow.kept h.1 hg (by
    cases hv : v.ownBlock with
    | none => exact .inl rfl
    | some j => exact .inr (fun e => by have h1 := (World.ownsRow.lt (w := w) h.1 j hv).1; have h2 := hr j e.symm; omega)), fun x hx => (h.2 x hx).grownO hg hr⟩
theorem OwnsL.grownO {base : Nat} {w w' : World} {v : Value} {ls : List Lt} {row : Option Nat} (h : OwnsL base w v ls) (hg : w.grownBy w' row) (hr : ∀ k, row = some k → k < base) : OwnsL base w' v ls :=
  World.ownsRow.kept h hg (by
    cases hv : v.ownBlock with
    | none => exact .inl rfl
    | some j => exact .inr (fun e => by have h1 := (World.ownsRow.lt (w := w) h j hv).1; have h2 := hr j e.symm; omega))
end Go.Proofs.YtaenpgdmiaekcaaGreatDoor
/-
  WIRERD7: wire.reader's pass.
-/
namespace Go.Proofs.YtaenpgdmiaekcaaGreatDoor
set_option maxRecDepth 100000
open Go.RowKit Im

abbrev set6 (w : World) (b : Nat) (x0 x1 x2 x3 x4 x5 : Value) : World := (((((w.setCell ⟨b, 0, none⟩ x0).setCell ⟨b, 1, none⟩ x1).setCell ⟨b, 2, none⟩ x2).setCell ⟨b, 3, none⟩ x3).setCell ⟨b, 4, none⟩ x4).setCell ⟨b, 5, none⟩ x5
theorem WBox6.sets {w : World} {b : Nat} (h : WBox6 w b) (x0 x1 x2 x3 x4 x5 : Value) :
    (set6 w b x0 x1 x2 x3 x4 x5).cell? ⟨b, 0, none⟩ = some x0 ∧ (set6 w b x0 x1 x2 x3 x4 x5).cell? ⟨b, 1, none⟩ = some x1 ∧ (set6 w b x0 x1 x2 x3 x4 x5).cell? ⟨b, 2, none⟩ = some x2 ∧ (set6 w b x0 x1 x2 x3 x4 x5).cell? ⟨b, 3, none⟩ = some x3 ∧ (set6 w b x0 x1 x2 x3 x4 x5).cell? ⟨b, 4, none⟩ = some x4 ∧ (set6 w b x0 x1 x2 x3 x4 x5).cell? ⟨b, 5, none⟩ = some x5 := by
  obtain ⟨v0, k0⟩ := h.c 0 (by decide)
  obtain ⟨v1, k1⟩ := h.c 1 (by decide)
  obtain ⟨v2, k2⟩ := h.c 2 (by decide)
  obtain ⟨v3, k3⟩ := h.c 3 (by decide)
  obtain ⟨v4, k4⟩ := h.c 4 (by decide)
  obtain ⟨v5, k5⟩ := h.c 5 (by decide)
  have ht : ∀ i j : Nat, i ≠ j → (⟨b, i, none⟩ : Addr) ≠ ⟨b, j, none⟩ := fun i j hij e => hij (by injection e)
  have A := fun (w : World) (u : Value) (i j : Nat) (hij : i ≠ j) => set_other (w := w) u (ht i j hij)
  unfold set6
  refine ⟨?_, ?_, ?_, ?_, ?_, ?_⟩
  · rw [A _ _ 5 0 (by decide), A _ _ 4 0 (by decide), A _ _ 3 0 (by decide), A _ _ 2 0 (by decide), A _ _ 1 0 (by decide)]; exact set_same k0
  · rw [A _ _ 5 1 (by decide), A _ _ 4 1 (by decide), A _ _ 3 1 (by decide), A _ _ 2 1 (by decide)]; exact set_same ((A _ _ 0 1 (by decide)).trans k1)
  · rw [A _ _ 5 2 (by decide), A _ _ 4 2 (by decide), A _ _ 3 2 (by decide)]; exact set_same ((A _ _ 1 2 (by decide)).trans ((A _ _ 0 2 (by decide)).trans k2))
  · rw [A _ _ 5 3 (by decide), A _ _ 4 3 (by decide)]; exact set_same ((A _ _ 2 3 (by decide)).trans ((A _ _ 1 3 (by decide)).trans ((A _ _ 0 3 (by decide)).trans k3)))
  · rw [A _ _ 5 4 (by decide)]; exact set_same ((A _ _ 3 4 (by decide)).trans ((A _ _ 2 4 (by decide)).trans ((A _ _ 1 4 (by decide)).trans ((A _ _ 0 4 (by decide)).trans k4))))
  · exact set_same ((A _ _ 4 5 (by decide)).trans ((A _ _ 3 5 (by decide)).trans ((A _ _ 2 5 (by decide)).trans ((A _ _ 1 5 (by decide)).trans ((A _ _ 0 5 (by decide)).trans k5)))))
/-- A pass that is being read: k of its lights are. -/
structure RPs (w wr : World) (b pb : Nat) (r : List Int) (q : Ps) (k : Nat) (LS : List Lt) (v : Value) : Prop where
  rd : RdB wr b (r.drop (8 + 5 * k))
  grew : w.grownBy wr (some b)
  box : QBox wr pb q.Op q.To q.A q.B q.K v
  own : OwnsL (pb + 1) wr v LS
  all : LS = rdLights r 8 k
  lt : w.heap.size ≤ pb
  bl : b < w.heap.size
theorem RPs.mid {w wr w1 : World} {b pb : Nat} {r : List Int} {q : Ps} {k : Nat} {LS : List Lt} {v : Value} (h : RPs w wr b pb r q k LS v) (g : wr.grownBy w1 (some b)) : QBox w1 pb q.Op q.To q.A q.B q.K v ∧ OwnsL (pb + 1) w1 v LS :=
  ⟨h.box.grown g (fun e => by injection e with e; have := h.lt; have := h.bl; omega), h.own.grownO g (fun k hk => by injection hk with hk; have := h.lt; have := h.bl; omega)⟩
theorem RPs.step {w wr w1 w9 : World} {b pb : Nat} {r : List Int} {q : Ps} {k : Nat} {LS : List Lt} {v v' : Value} {o : Obj} (h : RPs w wr b pb r q k LS v) (g : wr.grownBy w1 (some b)) (h1 : RdB w1 b ((r.drop (8 + 5 * k)).drop 5))
    (hown : w9.ownsRow (pb + 1) 106 4 v' (LS.length + 1) (lcells LS ++ [.int .i64 (rdLight (r.drop (8 + 5 * k)) 0).X, .int .i64 (rdLight (r.drop (8 + 5 * k)) 0).Y, .int .i64 (rdLight (r.drop (8 + 5 * k)) 0).R, .int .i64 (rdLight (r.drop (8 + 5 * k)) 0).P])) (hg : (w1.alloc o).grownBy w9 v.ownBlock) :
    RPs w (w9.setCell ⟨pb, 5, none⟩ v') b pb r q (k + 1) (rdLights r 8 (k + 1)) v' := by
  have hlt := h.lt
  have hbl := h.bl
  have hpl := h.box.lt
  obtain ⟨hQ, hO⟩ := h.mid g
  have hv : ∀ j, v.ownBlock = some j → pb + 1 ≤ j := fun j hj => (World.ownsRow.lt (w := wr) h.own j hj).1
  have hrow : ∀ x, x ≤ pb → some x ≠ v.ownBlock := fun x hx e => by have := hv x e.symm; omega
  have e8 : (r.drop (8 + 5 * k)).drop 5 = r.drop (8 + 5 * (k + 1)) := by rw [List.drop_drop]; congr 1
  have g9 : w.grownBy w9 (some b) := grown_own (grown_alloc (h.grew.trans g) o) hg (fun j hj => by have := hv j hj; omega)
  have hrd : RdB w9 b (r.drop (8 + 5 * (k + 1))) := by rw [← e8]; exact (h1.alloc o).grown hg (hrow b (by omega))
  have hQ9 : QBox w9 pb q.Op q.To q.A q.B q.K v := (hQ.grown (row := none) (grown_alloc (World.grownBy.refl _ _) o) (by simp)).grown hg (hrow pb (Nat.le_refl _))
  refine ⟨?_, grown_set g9 (by simpa using hlt) _, hQ9.put v', ?_, rfl, hlt, hbl⟩
  · exact ⟨(set_other _ (fun e => by injection e with e1; omega)).trans hrd.cell, by simpa using hrd.fz, hrd.bytes, hrd.few⟩
  · have hl : rdLights r 8 (k + 1) = LS ++ [rdLight (r.drop (8 + 5 * k)) 0] := by rw [h.all, rdLight_drop]; rfl
    rw [hl]
    refine ownsRow_setCell_below ?_ (a := ⟨pb, 5, none⟩) (Nat.lt_succ_self _) _
    rw [lcells_snoc]
    simpa using hown
set_option maxHeartbeats 8000000 in
theorem pass_any {b : Nat} {w : World} {r : List Int} (h : RdB w b r) :
    Calls Tryz.prog 96 #[.pointer (some ⟨b, 0, none⟩)] w (ToldRP w b r) := by
  obtain ⟨l0, li, lz0, lz1, lz2⟩ := info_parts Tryz.infoLight
  have hbl : b < w.heap.size := World.block_lt_of_cell? w _ h.cell
  have hne : some w.heap.size ≠ some b := fun e => by injection e with e; omega
  have hB0 := WBox6.new w (.int .i64 0) (.int .i64 0) (.int .i64 0) (.int .i64 0) (.int .i64 0) (.slice none 0 0) 72
  have hg0 : w.grownBy (w.alloc (.cells #[.int .i64 0, .int .i64 0, .int .i64 0, .int .i64 0, .int .i64 0, .slice none 0 0] 72)) (some b) := grown_alloc (World.grownBy.refl _ _) _
  have h0 := h.alloc (.cells #[.int .i64 0, .int .i64 0, .int .i64 0, .int .i64 0, .int .i64 0, .slice none 0 0] 72)
  have hst := rdStop_ge r 0
  have n0 : numI r 1 = (rdPass r 0).Op := numI_one r
  have n1 : numI (r.drop 1) 1 = (rdPass r 0).To := by rw [numI_one, drop_getD]; rfl
  have n2 : numI ((r.drop 1).drop 1) 1 = (rdPass r 0).A := by rw [numI_one, List.drop_drop, drop_getD]; rfl
  have n3 : numI (((r.drop 1).drop 1).drop 1) 1 = (rdPass r 0).B := by rw [numI_one, List.drop_drop, List.drop_drop, drop_getD]; rfl
  have n4 : sgn (numI ((((r.drop 1).drop 1).drop 1).drop 1) 3) = (rdPass r 0).K := by rw [numI_three, List.drop_drop, List.drop_drop, List.drop_drop, drop_getD, drop_getD, drop_getD]; rfl
  have n5 : numI (((((r.drop 1).drop 1).drop 1).drop 1).drop 3) 1 = r.getD 7 0 := by rw [numI_one, List.drop_drop, List.drop_drop, List.drop_drop, List.drop_drop, drop_getD]
  have n6 : ((((((r.drop 1).drop 1).drop 1).drop 1).drop 3).drop 1) = r.drop (8 + 5 * 0) := by simp [List.drop_drop]
  have HTS : Hid (∀ e w', r.length < 8 → w.grownBy w' (some b) → e = rdStopped → ToldRP w b r e w') := fun e w' h8 hg he => ⟨hg, .inr ⟨by omega, he⟩⟩
  have HPS : Hid (rdPass r 0 = ⟨(rdPass r 0).Op, (rdPass r 0).To, (rdPass r 0).A, (rdPass r 0).B, (rdPass r 0).K, rdLights r 8 (r.getD 7 0).toNat⟩) := by show _ = _; unfold rdPass; rfl
  have HST : Hid (rdStop r 0 = 8 + 5 * (r.getD 7 0).toNat) := by show _ = _; unfold rdStop; simp only [Nat.zero_add]
  have h7 := h.bytes.at 7
  obtain ⟨n, hn⟩ := Int.eq_ofNat_of_zero_le h7.1
  rw [hn] at n5 h7 HPS HST
  rw [Int.toNat_natCast] at HPS HST
  clear hn
  go_enter Tryz.func96, Tryz.ntmps96
  by_cases c1 : r.length < 1
  · have hs := number_stops h0 (many := 1) (by decide) (by omega)
    go_wp2_with fail
    refine hs.mono ?_
    rintro e wS ⟨rfl, gS⟩
    exact ⟨rfl, HTS.out _ _ (by omega) (hg0.trans gS) rfl⟩
  have hn1 := number_does h0 (many := 1) (by decide) (by omega)
  rw [n0] at hn1
  go_wp2_with fail
  refine hn1.mono ?_
  rintro e w1 ⟨rfl, h1, g1⟩
  have hG1 := hg0.trans g1
  clear hn1
  by_cases c2 : r.length < 2
  · have hs := number_stops h1 (many := 1) (by decide) (by rw [List.length_drop]; omega)
    go_wp2_with fail
    refine hs.mono ?_
    rintro e wS ⟨rfl, gS⟩
    exact ⟨rfl, HTS.out _ _ (by omega) (hG1.trans gS) rfl⟩
  have hn2 := number_does h1 (many := 1) (by decide) (by rw [List.length_drop]; omega)
  rw [n1] at hn2
  go_wp2_with fail
  refine hn2.mono ?_
  rintro e w2 ⟨rfl, h2, g2⟩
  have hG2 := hG1.trans g2
  clear hn2
  by_cases c3 : r.length < 3
  · have hs := number_stops h2 (many := 1) (by decide) (by rw [List.length_drop, List.length_drop]; omega)
    go_wp2_with fail
    refine hs.mono ?_
    rintro e wS ⟨rfl, gS⟩
    exact ⟨rfl, HTS.out _ _ (by omega) (hG2.trans gS) rfl⟩
  have hn3 := number_does h2 (many := 1) (by decide) (by rw [List.length_drop, List.length_drop]; omega)
  rw [n2] at hn3
  go_wp2_with fail
  refine hn3.mono ?_
  rintro e w3 ⟨rfl, h3, g3⟩
  have hG3 := hG2.trans g3
  clear hn3
  by_cases c4 : r.length < 4
  · have hs := number_stops h3 (many := 1) (by decide) (by rw [List.length_drop, List.length_drop, List.length_drop]; omega)
    go_wp2_with fail
    refine hs.mono ?_
    rintro e wS ⟨rfl, gS⟩
    exact ⟨rfl, HTS.out _ _ (by omega) (hG3.trans gS) rfl⟩
  have hn4 := number_does h3 (many := 1) (by decide) (by rw [List.length_drop, List.length_drop, List.length_drop]; omega)
  rw [n3] at hn4
  go_wp2_with fail
  refine hn4.mono ?_
  rintro e w4 ⟨rfl, h4, g4⟩
  have hG4 := hG3.trans g4
  clear hn4
  by_cases c5 : r.length < 7
  · have hs := signed_stops h4 (by rw [List.length_drop, List.length_drop, List.length_drop, List.length_drop]; omega)
    go_wp2_with fail
    refine hs.mono ?_
    rintro e wS ⟨rfl, gS⟩
    exact ⟨rfl, HTS.out _ _ (by omega) (hG4.trans gS) rfl⟩
  have hn5 := signed_does h4 (by rw [List.length_drop, List.length_drop, List.length_drop, List.length_drop]; omega)
  rw [n4] at hn5
  go_wp2_with fail
  refine hn5.mono ?_
  rintro e w5 ⟨rfl, h5, g5⟩
  have hG5 := hG4.trans g5
  clear hn5
  have hR5 := ((((hB0.grown g1 hne).grown g2 hne).grown g3 hne).grown g4 hne).grown g5 hne
  have hbl5 : w.heap.size < w5.heap.size := hR5.lt
  clear hB0 h1 h2 h3 h4 hG1 hG2 hG3 hG4 h0 hg0 g1 g2 g3 g4 g5
  have hQ5 : QBox (w5.alloc (.cells #[.int .i64 (rdPass r 0).Op, .int .i64 (rdPass r 0).To, .int .i64 (rdPass r 0).A, .int .i64 (rdPass r 0).B, .int .i64 (rdPass r 0).K, .slice none 0 0] 72)) w5.heap.size (rdPass r 0).Op (rdPass r 0).To (rdPass r 0).A (rdPass r 0).B (rdPass r 0).K (.slice none 0 0) :=
    ⟨by simp, by simp [go_sem], by simp [go_sem], by simp [go_sem], by simp [go_sem], by simp [go_sem], by simp [go_sem], fun o => frozen_new w5 _ _ o⟩
  have hG6 := grown_alloc hG5 (.cells #[.int .i64 (rdPass r 0).Op, .int .i64 (rdPass r 0).To, .int .i64 (rdPass r 0).A, .int .i64 (rdPass r 0).B, .int .i64 (rdPass r 0).K, .slice none 0 0] 72)
  have h6 := h5.alloc (.cells #[.int .i64 (rdPass r 0).Op, .int .i64 (rdPass r 0).To, .int .i64 (rdPass r 0).A, .int .i64 (rdPass r 0).B, .int .i64 (rdPass r 0).K, .slice none 0 0] 72)
  have hneP : some w5.heap.size ≠ some b := fun e => by injection e with e; omega
  by_cases c6 : r.length < 8
  · have hs := number_stops h6 (many := 1) (by decide) (by rw [List.length_drop, List.length_drop, List.length_drop, List.length_drop, List.length_drop]; omega)
    go_wp2_with fail
    refine hs.mono ?_
    rintro e wS ⟨rfl, gS⟩
    exact ⟨rfl, HTS.out _ _ (by omega) (hG6.trans gS) rfl⟩
  have hn6 := number_does h6 (many := 1) (by decide) (by rw [List.length_drop, List.length_drop, List.length_drop, List.length_drop, List.length_drop]; omega)
  rw [n5, n6] at hn6
  go_wp2_with fail
  refine hn6.mono ?_
  rintro e w7 ⟨rfl, h7', g7⟩
  have hS0 : RPs w5 w7 b w5.heap.size r (rdPass r 0) 0 [] (.slice none 0 0) := ⟨h7', (grown_alloc (World.grownBy.refl _ _) _).trans g7, hQ5.grown g7 hneP, World.ownsRow_nil _ _ _ _, rfl, Nat.le_refl _, by omega⟩
  clear hn6 h7' g7 hG6 hQ5 h6 h5 hneP n0 n1 n2 n3 n4 n5 n6 c1 c2 c3 c4 c5 HTS hst
  obtain ⟨pb, hpb⟩ : ∃ pb, pb = w5.heap.size := ⟨_, rfl⟩
  rw [← hpb] at hS0 ⊢
  have HPB : Hid (w.heap.size < pb) := by show _ < _; omega
  have HG5 : Hid (_) := hG5
  clear hpb hbl5 hG5
  have hq7 : (rdPass r 0).ls = rdLights r 8 n := congrArg Ps.ls HPS.out
  clear HPS
  generalize hq : rdPass r 0 = q at *
  have HQ : Hid (_) := hq
  have HQ7 : Hid (_) := hq7
  clear hq hq7
  go_wp2_with fail
  go_loopw [17] (fun i wr => ∃ (k : Nat) (LS : List Lt) (la : Option Addr) (lc : Nat), k ≤ n ∧ 8 + 5 * k ≤ r.length ∧ i = .int .i64 k ∧ RPs w5 wr b pb r q k LS (.slice la LS.length lc)) (fun i _ => n - (intOf i).toNat)
  case atStart => exact ⟨0, [], none, 0, Nat.zero_le _, by omega, rfl, hS0⟩
  case round =>
    obtain ⟨k, LS, la, lc, hk, hfew, rfl, hS⟩ := hrel
    clear hS0
    have hLSk : LS.length = k := by rw [hS.all, rdLights_len]
    have HLL : Hid (_) := hLSk
    clear hLSk
    by_cases hlt : k < n
    · have hkI : (k : Int) < (n : Int) := by omega
      by_cases c9 : r.length < 8 + 5 * (k + 1)
      · have hs := light_stops hS.rd.drew (by rw [List.length_drop]; omega)
        have HG : Hid (_) := HG5.out.trans hS.grew
        have HX : Hid (r.length < rdStop r 0) := by show _ < _; rw [HST.out]; omega
        have d5 := hS.box.c5
        clear hS
        go_upto_region 4 with fail
        go_region_dies
        all_goals
          refine hs.mono ?_
          rintro e wS ⟨rfl, gS⟩
          exact ⟨rfl, HG.out.trans ⟨gS.os, gS.tape, gS.output, gS.size, gS.block⟩, .inr ⟨HX.out, rfl⟩⟩
      · have hl := light_does hS.rd.drew (by rw [List.length_drop]; omega)
        have HSTEP : Hid (∀ (w1 w9 : World) (v' : Value) (o : Obj), wr.drew.grownBy w1 (some b) → RdB w1 b ((r.drop (8 + 5 * k)).drop 5) → w9.ownsRow (pb + 1) 106 4 v' (LS.length + 1) (lcells LS ++ [.int .i64 (rdLight (r.drop (8 + 5 * k)) 0).X, .int .i64 (rdLight (r.drop (8 + 5 * k)) 0).Y, .int .i64 (rdLight (r.drop (8 + 5 * k)) 0).R, .int .i64 (rdLight (r.drop (8 + 5 * k)) 0).P]) → (w1.alloc o).grownBy w9 (Value.slice la LS.length lc).ownBlock → RPs w5 (w9.setCell ⟨pb, 5, none⟩ v') b pb r q (k + 1) (rdLights r 8 (k + 1)) v') := fun _ _ _ _ g h1 ho hg => hS.step ⟨g.os, g.tape, g.output, g.size, g.block⟩ h1 ho hg
        have HMID : Hid (∀ w1 : World, wr.drew.grownBy w1 (some b) → QBox w1 pb q.Op q.To q.A q.B q.K (.slice la LS.length lc) ∧ OwnsL (pb + 1) w1 (.slice la LS.length lc) LS) := fun w1 g => hS.mid ⟨g.os, g.tape, g.output, g.size, g.block⟩
        have HVL : Hid (∀ j, (Value.slice la LS.length lc).ownBlock = some j → pb + 1 ≤ j) := fun j hj => (World.ownsRow.lt (w := wr) hS.own j hj).1
        have d5 := hS.box.c5
        have HLS : Hid ((rdLights r 8 (k + 1)).length = LS.length + 1) := by show _ = _; rw [rdLights_len, HLL.out]
        have hrl : k ≤ 4096 := by have := hS.rd.few; have := h.few; omega
        generalize rdLight (r.drop (8 + 5 * k)) 0 = L at *
        clear hS
        go_upto_region 4 with fail
        go_region_law (first
          | (go_simp; go_at_call 141; refine hl.mono ?_; rintro e w1 ⟨rfl, hr1, g1⟩; obtain ⟨hQ1, hO1⟩ := HMID.out w1 g1; have d5' := hQ1.c5; have hl1 := hQ1.lt; go_wp2_with fail)
          | (refine step_append_at rfl _ _ 70 rfl (pb + 1) 106 l0 _ 4 32 Tryz.underlying70 li lz0 lz1 lz2 rfl (by decide) (.slice la LS.length lc) LS.length (lcells LS) rfl (World.ownsRow.alloc hO1 _) ⟨w1.heap.size, 0, none⟩ 1 1 [.int .i64 L.X, .int .i64 L.Y, .int .i64 L.R, .int .i64 L.P] rfl rfl (cell_four_new _ _ _ _ _ _) (by intro u hu; simp at hu; rcases hu with rfl | rfl | rfl | rfl <;> rfl) (by have := HLL.out; unfold maxLen; omega) (by have := HLL.out; omega) (by simp; omega) ?_; intro v' w9 hown9 hgrow9 hloc9; obtain ⟨a9, cap9, hv9⟩ := owns_slice hown9; subst hv9; have hQ9 := (hQ1.grown (row := none) (grown_alloc (World.grownBy.refl _ _) (.cells #[.int .i64 L.X, .int .i64 L.Y, .int .i64 L.R, .int .i64 L.P] 106)) (by simp)).grown hgrow9 (fun e => by have := HVL.out _ e.symm; omega); have e5 := hQ9.c5; have ez := hQ9.fz 5))
        all_goals
          have HR : Hid (_) := HSTEP.out w1 w9 _ _ g1 hr1 hown9 hgrow9
          clear hown9 hgrow9 hloc9 hQ1 hO1 hr1 g1 hQ9 hl
          go_wp2
          go_roundw
          case rel => exact ⟨k + 1, rdLights r 8 (k + 1), a9, cap9, by omega, by omega, by go_num, by rw [HLS.out]; exact HR.out⟩
          case measure => simp [intOf]; omega
    · have hke : k = n := by omega
      subst hke
      have hkI : ¬ (k : Int) < (k : Int) := by omega
      have hres := hR5.grown hS.grew hne
      obtain ⟨t0, t1, t2, t3, t4, t5⟩ := hres.sets (.int .i64 q.Op) (.int .i64 q.To) (.int .i64 q.A) (.int .i64 q.B) (.int .i64 q.K) (.slice la LS.length lc)
      have HFIN : Hid (ToldRP w b r (.returned (.agg #[.int .i64 q.Op, .int .i64 q.To, .int .i64 q.A, .int .i64 q.B, .int .i64 q.K, .slice la LS.length lc])) (set6 wr w.heap.size (.int .i64 q.Op) (.int .i64 q.To) (.int .i64 q.A) (.int .i64 q.B) (.int .i64 q.K) (.slice la LS.length lc))) := by
        show ToldRP _ _ _ _ _
        have hlq : q.ls = LS := HQ7.out.trans hS.all.symm
        have hlt5 := HPB.out
        have hL : w.heap.size < pb + 1 := by omega
        unfold ToldRP
        rw [HQ.out, hlq]
        refine ⟨grown_set (grown_set (grown_set (grown_set (grown_set (grown_set (HG5.out.trans hS.grew) (Nat.le_refl _) _) (Nat.le_refl _) _) (Nat.le_refl _) _) (Nat.le_refl _) _) (Nat.le_refl _) _) (Nat.le_refl _) _, .inl ⟨by rw [HST.out]; exact hfew, ⟨la, lc, rfl, ?_⟩, ?_⟩⟩
        · exact World.ownsRow.mono (ownsRow_setCell_below (ownsRow_setCell_below (ownsRow_setCell_below (ownsRow_setCell_below (ownsRow_setCell_below (ownsRow_setCell_below hS.own hL _) hL _) hL _) hL _) hL _) hL _) (by omega)
        · rw [HST.out]
          have hb : ∀ i : Nat, (⟨w.heap.size, i, none⟩ : Addr) ≠ ⟨b, 0, none⟩ := fun i e => by injection e with e1 e2; omega
          refine ⟨?_, by simpa using hS.rd.fz, hS.rd.bytes, hS.rd.few⟩
          unfold set6
          rw [set_other _ (hb 5), set_other _ (hb 4), set_other _ (hb 3), set_other _ (hb 2), set_other _ (hb 1), set_other _ (hb 0)]
          exact hS.rd.cell
      obtain ⟨v0, k0⟩ := hres.c 0 (by decide)
      obtain ⟨v1, k1⟩ := hres.c 1 (by decide)
      obtain ⟨v2, k2⟩ := hres.c 2 (by decide)
      obtain ⟨v3, k3⟩ := hres.c 3 (by decide)
      obtain ⟨v4, k4⟩ := hres.c 4 (by decide)
      obtain ⟨v5, k5⟩ := hres.c 5 (by decide)
      have f0 := hres.fz 0
      have f1 := hres.fz 1
      have f2 := hres.fz 2
      have f3 := hres.fz 3
      have f4 := hres.fz 4
      have f5 := hres.fz 5
      obtain ⟨_, c0, c1, c2, c3, c4, c5, _⟩ := hS.box
      clear hS
      go_wp2
      exact bodyPost_ret (v := .agg #[.int .i64 q.Op, .int .i64 q.To, .int .i64 q.A, .int .i64 q.B, .int .i64 q.K, .slice la LS.length lc]) (by simp [results, Tryz.results96, go_sem, t0, t1, t2, t3, t4, t5]) rfl HFIN.out
end Go.Proofs.YtaenpgdmiaekcaaGreatDoor
