/- WireRef, WireRd, WireRd2, WireRd3, Given, At, Near, Tile, Pan: joined, in this order. -/
import Derived.Test.YtaenpgdmiaekcaaGreatDoorS07
import Derived.Laws.BitsAllLaws
import Derived.RangeFuncBox
import Derived.Deep.RegionHeld3
import Derived.Test.YtaenpgdmiaekcaaGreatDoorS01
import Derived.Test.YtaenpgdmiaekcaaGreatDoorS02
/-
  WIREREF: the reference's FrameBytes.
-/
namespace Go.Proofs.YtaenpgdmiaekcaaGreatDoor
set_option maxRecDepth 100000
open Go.RowKit Im

set_option maxHeartbeats 8000000 in
theorem frameBytes_any (W H S O : Int) (a : Option Addr) (len cap : Nat) (ps : List Ps) (w : World) (hp : Passes w a len ps) (h12 : len ≤ 12) (hls : ∀ p ∈ ps, p.ls.length ≤ 16) :
    Calls Tryz.prog 51 #[.agg #[.int .i64 W, .int .i64 H, .int .i64 S, .int .i64 O, .slice a len cap]] w fun e w' =>
      e = .returned (.string (strOfNums (frameBytes ⟨W, H, S, O, ps⟩))) ∧ Below w.heap.size w w' := by
  obtain rfl := hp.leng
  obtain ⟨i0, hi, hz0, hz1, hz2⟩ := info_parts Tryz.infoByte
  have hb0 := below_box (Below.refl w.heap.size w) (.cells #[.int .i64 W, .int .i64 H, .int .i64 S, .int .i64 O, .slice a ps.length cap] 35)
  have hF0 := FBox.new w W H S O a ps.length cap
  have hp1 := hp.below hb0
  have hs1 : w.heap.size + 1 ≤ (w.alloc (.cells #[.int .i64 W, .int .i64 H, .int .i64 S, .int .i64 O, .slice a ps.length cap] 35)).heap.size := by simp
  have HLS : Hid (_) := hls
  have HPL : Hid (∀ k, ((ps.take k).flatMap passBytes).length ≤ 88 * 12) := fun k => by
    have h1 := passes_len (ps := ps.take k) (fun p hp => hls p (List.mem_of_mem_take hp))
    have h2 : (ps.take k).length ≤ 12 := Nat.le_trans (List.length_take_le' k ps) h12
    omega
  clear hls hp
  go_enter Tryz.func51, Tryz.ntmps51
  go_upto_region 1 with fail
  generalize w.alloc (.cells #[.int .i64 W, .int .i64 H, .int .i64 S, .int .i64 O, .slice a ps.length cap] 35) = w1 at *
  obtain ⟨_, g0, g1, g2, g3, g4⟩ := id hF0
  have hrow0 : BRow (w.heap.size + 1) none w1 (w1.alloc (.cells #[.int .u8 (W % 256), .int .u8 (H % 256), .int .u8 (S % 256), .int .u8 (O % 256), .int .u8 (ps.length : Int)] 5)) (.slice (some ⟨w1.heap.size, 0, none⟩) 5 5) [b8 W, b8 H, b8 S, b8 O, (ps.length : Int)] :=
    ⟨⟨rfl, .inr ⟨w1.heap.size, 5, _, rfl, hs1, heap_alloc_new w1 _, Nat.le_refl _, by unfold maxLen; omega, rfl, rfl⟩⟩, ⟨rfl, rfl, rfl, by simp, fun k hk _ => Below.heap_alloc _ _ _ hk⟩, .inr ⟨w1.heap.size, rfl, Nat.le_refl _⟩⟩
  have hb8 : b8 ps.length = (ps.length : Int) := by unfold b8; omega
  have HFB : Hid (frameBytes ⟨W, H, S, O, ps⟩ = [b8 W, b8 H, b8 S, b8 O, (ps.length : Int)] ++ (ps.take ps.length).flatMap passBytes) := by
    show _ = _
    rw [List.take_length]
    unfold frameBytes
    dsimp only
    rw [hb8]
  have HFS : Hid (∀ k, k < ps.length → (ps.take (k + 1)).flatMap passBytes = (ps.take k).flatMap passBytes ++ passBytes (ps.getD k Ps.zero)) := fun k hk => flat_succ passBytes ps Ps.zero hk
  have HF0 : Hid (BRow (w.heap.size + 1) none w1 (w1.alloc (.cells #[.int .u8 (W % 256), .int .u8 (H % 256), .int .u8 (S % 256), .int .u8 (O % 256), .int .u8 (ps.length : Int)] 5)) (.slice (some ⟨w1.heap.size, 0, none⟩) 5 5) ([b8 W, b8 H, b8 S, b8 O, (ps.length : Int)] ++ (ps.take 0).flatMap passBytes)) := by
    show BRow _ _ _ _ _ _
    simpa using hrow0
  clear hrow0 hb8
  have hHD : [b8 W, b8 H, b8 S, b8 O, (ps.length : Int)].length = 5 := rfl
  generalize [b8 W, b8 H, b8 S, b8 O, (ps.length : Int)] = hd at *
  go_wp2
  clear g0 g1 g2 g3 g4
  go_loopw [3, 4] (fun u i wr => ∃ k : Nat, k ≤ ps.length ∧ i = .int .i64 k ∧ BRow (w.heap.size + 1) none w1 wr u (hd ++ (ps.take k).flatMap passBytes)) (fun _ i _ => ps.length - (intOf i).toNat)
  case atStart => exact ⟨0, Nat.zero_le _, rfl, HF0.out⟩
  case round =>
    obtain ⟨k, hk, rfl, hrow⟩ := hrel
    clear HF0
    obtain ⟨wO, e0⟩ : ∃ z, z = wr := ⟨_, rfl⟩
    subst e0
    have hbl := HPL.out k
    obtain ⟨ua, uc, rfl⟩ := owns_slice hrow.own
    have hbel := hrow.below (Nat.le_refl _) (fun k hk => by cases hk)
    have hsz := Nat.le_trans hs1 hbel.size
    obtain ⟨_, g0, g1, g2, g3, g4⟩ := hF0.below hbel
    by_cases hlt : k < ps.length
    · have HK1 : Hid (_) := HFS.out k hlt
      have hkI : (k : Int) < (ps.length : Int) := by omega
      have hk0 : (0 : Int) ≤ (k : Int) := by omega
      obtain ⟨b, off, la, ll, lc, rfl, p0, p1, p2, p3, p4, p5, hLi⟩ := hp1.nth hlt
      have hblt : b < w1.heap.size := World.block_lt_of_cell? w1 _ p0
      replace p0 := (hbel.cell (p := ⟨b, off + k * 6, none⟩) hblt).trans p0
      replace p1 := (hbel.cell (p := ⟨b, off + k * 6 + 1, none⟩) hblt).trans p1
      replace p2 := (hbel.cell (p := ⟨b, off + k * 6 + 2, none⟩) hblt).trans p2
      replace p3 := (hbel.cell (p := ⟨b, off + k * 6 + 3, none⟩) hblt).trans p3
      replace p4 := (hbel.cell (p := ⟨b, off + k * 6 + 4, none⟩) hblt).trans p4
      replace p5 := (hbel.cell (p := ⟨b, off + k * 6 + 5, none⟩) hblt).trans p5
      have hl16 := HLS.out _ (getD_mem hlt Ps.zero)
      generalize ps.getD k Ps.zero = p at *
      obtain ⟨Op, To, A, B, K, ls⟩ := p
      dsimp only at p0 p1 p2 p3 p4 p5 hLi hl16
      obtain rfl := hLi.leng
      have HPB : Hid (passBytes ⟨Op, To, A, B, K, ls⟩ = [b8 Op, b8 To, b8 A, b8 B, b8 (K / 65536), b8 (K / 256), b8 K, (ls.length : Int)] ++ (ls.take ls.length).flatMap lightBytes) := by
        show _ = _
        have e8 : b8 ls.length = (ls.length : Int) := by unfold b8; omega
        rw [List.take_length]
        unfold passBytes
        dsimp only
        rw [e8]
      have hB0 := PBox.new wO Op To A B K la ls.length lc
      have hst := BRow.start (World.ownsRow.alloc hrow.own (.cells #[.int .i64 Op, .int .i64 To, .int .i64 A, .int .i64 B, .int .i64 K, .slice la ls.length lc] 72))
      have hg1 := (hrow.alloc (.cells #[.int .i64 Op, .int .i64 To, .int .i64 A, .int .i64 B, .int .i64 K, .slice la ls.length lc] 72)).grew
      have hub : some wO.heap.size ≠ (Value.slice ua (hd ++ (ps.take k).flatMap passBytes).length uc).ownBlock := fun e => by
        have := (World.ownsRow.lt (w := wO) hrow.own _ e.symm).2
        omega
      have hll : (hd ++ (ps.take k).flatMap passBytes).length ≤ 5 + 88 * 12 := by rw [List.length_append]; omega
      generalize hLe : (hd ++ (ps.take k).flatMap passBytes) = L at *
      have HLe : Hid (_) := hLe
      clear hLe
      go_upto_region 6 with fail
      clear p0 p1 p2 p3 p4 p5 g0 g1 g2 g3 g4
      have hszB : w.heap.size + 1 ≤ (wO.alloc (.cells #[.int .i64 Op, .int .i64 To, .int .i64 A, .int .i64 B, .int .i64 K, .slice la ls.length lc] 72)).heap.size := by simp; omega
      generalize wO.alloc (.cells #[.int .i64 Op, .int .i64 To, .int .i64 A, .int .i64 B, .int .i64 K, .slice la ls.length lc] 72) = wB at *
      generalize hube : (Value.slice ua L.length uc).ownBlock = rb at *
      obtain ⟨_, p0, p1, p2, p3, p4, p5⟩ := id hB0
      go_upto_region 7 with (at_builtin; refine wpList_append_own_at _ rfl _ _ 42 rfl (w.heap.size + 1) 5 i0 (.int .u8 0) 1 1 Tryz.underlying42 hi hz0 hz1 hz2 rfl (by decide) _ _ _ rfl (hst.alloc _).own ⟨wB.heap.size, 0, none⟩ 8 8 [.int .u8 (Op % 256), .int .u8 (To % 256), .int .u8 (A % 256), .int .u8 (B % 256), .int .u8 (K / 65536 % 256), .int .u8 (K / 256 % 256), .int .u8 (K % 256), .int .u8 ((ls.length : Int))] rfl rfl (cells_new _ _ _) (by intro u hu; simp at hu; rcases hu with rfl | rfl | rfl | rfl | rfl | rfl | rfl | rfl <;> rfl) (by unfold maxLen; omega) (by omega) (by simp; omega) ?_; intro v5 w5 hown5 hgrow5 _ hat5; obtain ⟨a5, c5, hv5⟩ := owns_slice hown5; subst hv5; have R5 := (hst.alloc _).push (news := [b8 Op, b8 To, b8 A, b8 B, b8 (K / 65536), b8 (K / 256), b8 K, (ls.length : Int)]) rfl hown5 hgrow5 hat5)
      clear p0 p1 p2 p3 p4
      have hM7 : (L ++ [b8 Op, b8 To, b8 A, b8 B, b8 (K / 65536), b8 (K / 256), b8 K, (ls.length : Int)]).length ≤ 5 + 88 * 12 + 8 := by simp; omega
      have HM7 : Hid (∀ l : List Int, (L ++ [b8 Op, b8 To, b8 A, b8 B, b8 (K / 65536), b8 (K / 256), b8 K, (ls.length : Int)]) ++ l = L ++ ([b8 Op, b8 To, b8 A, b8 B, b8 (K / 65536), b8 (K / 256), b8 K, (ls.length : Int)] ++ l)) := fun l => List.append_assoc _ _ _
      have HLS2 : Hid (∀ m, m < ls.length → (ls.take (m + 1)).flatMap lightBytes = (ls.take m).flatMap lightBytes ++ lightBytes (ls.getD m Lt.zero)) := fun m hm => flat_succ lightBytes ls Lt.zero hm
      have HLL : Hid (∀ m, ((ls.take m).flatMap lightBytes).length ≤ 5 * 16) := fun m => by
        rw [flat_lights]
        have : (ls.take m).length ≤ ls.length := List.length_take_le' m ls
        omega
      have HR7 : Hid (BRow (w.heap.size + 1) rb wB w5 (.slice a5 (L.length + 8) c5) ((L ++ [b8 Op, b8 To, b8 A, b8 B, b8 (K / 65536), b8 (K / 256), b8 K, (ls.length : Int)]) ++ (ls.take 0).flatMap lightBytes)) := by
        show BRow _ _ _ _ _ _
        rw [List.take_zero, List.flatMap_nil, List.append_nil]
        exact R5
      generalize (L ++ [b8 Op, b8 To, b8 A, b8 B, b8 (K / 65536), b8 (K / 256), b8 K, (ls.length : Int)]) = M7 at *
      have hjo := fun (wx : World) (u : Value) (l : List Int) (h : BRow (w.heap.size + 1) rb wB wx u l) => hrow.join (by rw [hube]; exact h) hg1
      clear R5 hown5 hgrow5 hat5
      go_wp2
      go_loopw [3, 6] (fun u i wr => ∃ m : Nat, m ≤ ls.length ∧ i = .int .i64 m ∧ BRow (w.heap.size + 1) rb wB wr u (M7 ++ (ls.take m).flatMap lightBytes)) (fun _ i _ => ls.length - (intOf i).toNat)
      case atStart => exact ⟨0, Nat.zero_le _, rfl, HR7.out⟩
      case round =>
        obtain ⟨m, hm, rfl, hin⟩ := hrel
        clear HR7
        have hml := HLL.out m
        obtain ⟨ma, mc, rfl⟩ := owns_slice hin.own
        have hJ := hjo _ _ _ hin
        have hbi := hJ.below (Nat.le_refl _) (fun k hk => by cases hk)
        have hsi1 := Nat.le_trans hs1 hbi.size
        have q5 := hin.grew.cell p5 hub
        by_cases hmt : m < ls.length
        · have HL1 : Hid (_) := HLS2.out m hmt
          have hmI : (m : Int) < (ls.length : Int) := by omega
          have hm0 : (0 : Int) ≤ (m : Int) := by omega
          obtain ⟨lb, lo, rfl, _, l0, l1, l2, l3⟩ := (hLi.below hbi).nthL hmt
          generalize ls.getD m Lt.zero = lt at *
          obtain ⟨X, Y, Rr, Pw⟩ := lt
          dsimp only at l0 l1 l2 l3
          have hMl : (M7 ++ (ls.take m).flatMap lightBytes).length ≤ 2000 := by rw [List.length_append]; omega
          have HLB : Hid (lightBytes ⟨X, Y, Rr, Pw⟩ = [b8 X, b8 Y, b8 Rr, b8 (Pw / 256), b8 Pw]) := rfl
          have hsi := BRow.start (World.ownsRow.alloc hin.own (.cells #[.int .i64 X, .int .i64 Y, .int .i64 Rr, .int .i64 Pw] 106))
          have hg2 := (hin.alloc (.cells #[.int .i64 X, .int .i64 Y, .int .i64 Rr, .int .i64 Pw] 106)).grew
          have c0 : (wr.alloc (.cells #[.int .i64 X, .int .i64 Y, .int .i64 Rr, .int .i64 Pw] 106)).cell? ⟨wr.heap.size, 0, none⟩ = some (.int .i64 X) := by simp [go_sem]
          have c1 : (wr.alloc (.cells #[.int .i64 X, .int .i64 Y, .int .i64 Rr, .int .i64 Pw] 106)).cell? ⟨wr.heap.size, 1, none⟩ = some (.int .i64 Y) := by simp [go_sem]
          have c2 : (wr.alloc (.cells #[.int .i64 X, .int .i64 Y, .int .i64 Rr, .int .i64 Pw] 106)).cell? ⟨wr.heap.size, 2, none⟩ = some (.int .i64 Rr) := by simp [go_sem]
          have c3 : (wr.alloc (.cells #[.int .i64 X, .int .i64 Y, .int .i64 Rr, .int .i64 Pw] 106)).cell? ⟨wr.heap.size, 3, none⟩ = some (.int .i64 Pw) := by simp [go_sem]
          have hszI : w.heap.size + 1 ≤ (wr.alloc (.cells #[.int .i64 X, .int .i64 Y, .int .i64 Rr, .int .i64 Pw] 106)).heap.size := by simp; omega
          have HJ2 : Hid (∀ (wx : World) (u : Value) (l : List Int), BRow (w.heap.size + 1) (Value.slice ma (M7 ++ (ls.take m).flatMap lightBytes).length mc).ownBlock (wr.alloc (.cells #[.int .i64 X, .int .i64 Y, .int .i64 Rr, .int .i64 Pw] 106)) wx u l → BRow (w.heap.size + 1) rb wB wx u l) := fun wx u l h => hin.join h hg2
          go_upto_region 11 with fail
          clear l0 l1 l2 l3 hJ hbi q5
          generalize hMe : M7 ++ (ls.take m).flatMap lightBytes = M8 at *
          generalize wr.alloc (.cells #[.int .i64 X, .int .i64 Y, .int .i64 Rr, .int .i64 Pw] 106) = wL at *
          generalize hmb : (Value.slice ma M8.length mc).ownBlock = rm at *
          have HMe : Hid (_) := hMe
          clear hMe hmb hin
          go_wp2_with (at_builtin; refine wpList_append_own_at _ rfl _ _ 42 rfl (w.heap.size + 1) 5 i0 (.int .u8 0) 1 1 Tryz.underlying42 hi hz0 hz1 hz2 rfl (by decide) _ _ _ rfl (hsi.alloc _).own ⟨wL.heap.size, 0, none⟩ 5 5 [.int .u8 (X % 256), .int .u8 (Y % 256), .int .u8 (Rr % 256), .int .u8 (Pw / 256 % 256), .int .u8 (Pw % 256)] rfl rfl (cells_new _ _ _) (by intro u hu; simp at hu; rcases hu with rfl | rfl | rfl | rfl | rfl <;> rfl) (by unfold maxLen; omega) (by omega) (by simp; omega) ?_; intro v11 w11 hown11 hgrow11 _ hat11; obtain ⟨a11, c11, hv11⟩ := owns_slice hown11; subst hv11; have R11 := (hsi.alloc _).push (news := [b8 X, b8 Y, b8 Rr, b8 (Pw / 256), b8 Pw]) rfl hown11 hgrow11 hat11)
          have HR : Hid (BRow (w.heap.size + 1) rb wB w11 (.slice a11 (M8.length + 5) c11) (M7 ++ (ls.take (m + 1)).flatMap lightBytes)) := by
            show BRow _ _ _ _ _ _
            rw [HL1.out, HLB.out, ← List.append_assoc, HMe.out]
            exact HJ2.out _ _ _ R11
          clear R11 HJ2 hsi hown11 hgrow11 hat11
          go_roundw
          case rel => exact ⟨m + 1, by omega, by go_num, HR.out⟩
          case measure => simp [intOf]; omega
        · have hme : m = ls.length := by omega
          subst hme
          have HR : Hid (BRow (w.heap.size + 1) none w1 wr (.slice ma (M7 ++ (ls.take ls.length).flatMap lightBytes).length mc) (hd ++ (ps.take (k + 1)).flatMap passBytes)) := by
            show BRow _ _ _ _ _ _
            rw [HK1.out, ← List.append_assoc, HLe.out, HPB.out, ← HM7.out]
            exact hJ
          generalize (M7 ++ (ls.take ls.length).flatMap lightBytes).length = n9 at *
          clear hJ hjo
          go_wp2
          go_roundw
          case rel => exact ⟨k + 1, by omega, by go_num, HR.out⟩
          case measure => simp [intOf]; omega
    · have hke : k = ps.length := by omega
      subst hke
      have hne : hd ++ (ps.take ps.length).flatMap passBytes ≠ [] := fun e => by rw [List.append_eq_nil_iff] at e; rw [e.1] at hHD; cases hHD
      obtain ⟨rb, rc, hve, hcell⟩ := row_bytes hrow.own hne
      injection hve with e1 _ e2
      subst e1 e2
      rw [← HFB.out] at hcell ⊢
      have hcv := run_convert_bytes_arg (P := Tryz.prog) wO 42 5 Tryz.underlying42 Tryz.underlying5 rb 0 _ uc (frameBytes ⟨W, H, S, O, ps⟩) rfl hcell 9 Tryz.underlying9
      have HB : Hid (_) := below_step hb0 hbel
      clear hrow hcell hne HFB
      go_wp2
      go_ret
      exact ⟨rfl, HB.out⟩
end Go.Proofs.YtaenpgdmiaekcaaGreatDoor
/-
  WIRERD: strings of bytes; wire.reader's number where too few are left.
-/
namespace Go.Proofs.YtaenpgdmiaekcaaGreatDoor
set_option maxRecDepth 100000
open Go.RowKit Im

theorem str_at {r : List Int} (h : Bytes r) {i : Nat} (hi : i < (strOfNums r).size) : (((strOfNums r)[i]'hi).toNat : Int) = r.getD i 0 := by
  have hl : i < r.length := by rw [strOfNums_size] at hi; exact hi
  have hb := h _ (List.getElem_mem hl)
  have e : (strOfNums r)[i]'hi = UInt8.ofNat (r[i]).toNat := by
    have hd : (strOfNums r).data[i]? = some (UInt8.ofNat (r[i]).toNat) := by
      rw [← Array.getElem?_toList, strOfNums_data]
      simp [hl]
    show (strOfNums r).data[i]'hi = _
    exact Option.some.inj ((Array.getElem?_eq_getElem (xs := (strOfNums r).data) hi).symm.trans hd)
  rw [e, List.getD_eq_getElem?_getD, List.getElem?_eq_getElem hl]
  simp only [Option.getD_some, UInt8.toNat_ofNat']
  omega
theorem str_cut (r : List Int) (k : Nat) : (strOfNums r).extract k (strOfNums r).size = strOfNums (r.drop k) := by
  apply ByteArray.ext
  rw [ByteArray.data_extract]
  unfold strOfNums
  simp [ByteArray.size]
  exact List.take_of_length_le (by simp)
theorem nat_or {a b : Nat} (hb : b < 256) : (256 * a) ||| b = 256 * a + b := by
  have := Nat.shiftLeft_add_eq_or_of_lt (i := 8) (b := b) (by simpa using hb) a
  rw [Nat.shiftLeft_eq] at this
  rw [Nat.mul_comm 256 a]
  simpa using this.symm
set_option maxHeartbeats 1000000 in
theorem number_short {b : Nat} {w : World} {s : ByteArray} (hc : w.cell? ⟨b, 0, none⟩ = some (.string s)) {many : Nat} (hm : s.size < many) :
    Calls Tryz.prog 95 #[.pointer (some ⟨b, 0, none⟩), .int .i64 many] w fun e w' => e = .panicked [{ v := .iface 25 (.int .i64 1), recovered := false }] ∧ w' = w := by
  have hI : (s.size : Int) < (many : Int) := by omega
  go_enter Tryz.func95, Tryz.ntmps95
  go_wp2
  exact ⟨rfl, rfl, rfl⟩
end Go.Proofs.YtaenpgdmiaekcaaGreatDoor
/-
  WIRERD2: wire.reader's number.
-/
namespace Go.Proofs.YtaenpgdmiaekcaaGreatDoor
set_option maxRecDepth 100000
open Go.RowKit Im

theorem or256 (a b : Nat) (ha : a < 16777216) (hb : b < 256) : bits .or .i64 ((256 * a : Nat) : Int) (b : Int) = ((256 * a + b : Nat) : Int) := by
  show IntKind.i64.wrap ((BitVec.ofInt 64 ((256 * a : Nat) : Int) ||| BitVec.ofInt 64 (b : Int)).toNat : Int) = _
  rw [BitVec.toNat_or, ofInt_u64 (256 * a) (by omega), ofInt_u64 b (by omega), nat_or hb, IntKind.wrap_i64]
  omega
/-- The number that k bytes are. -/
def numI (r : List Int) : Nat → Int
  | 0 => 0
  | k + 1 => 256 * numI r k + r.getD k 0
theorem numI_bd {r : List Int} (h : Bytes r) : ∀ k, 0 ≤ numI r k ∧ numI r k < 256 ^ k
  | 0 => by simp [numI]
  | k + 1 => by
    have ih := numI_bd h k
    have hb := h.at k
    have e : (256 : Int) ^ (k + 1) = 256 ^ k * 256 := by rw [Int.pow_succ]
    unfold numI
    omega
set_option maxHeartbeats 2000000 in
theorem number_ok {b : Nat} {w : World} {r : List Int} (hr : Bytes r) (hrl : r.length ≤ 4096) (hc : w.cell? ⟨b, 0, none⟩ = some (.string (strOfNums r))) (hf : w.frozen? ⟨b, 0, none⟩ = false) {many : Nat} (hm : many ≤ r.length) (hm3 : many ≤ 3) :
    Calls Tryz.prog 95 #[.pointer (some ⟨b, 0, none⟩), .int .i64 many] w fun e w' => e = .returned (.int .i64 (numI r many)) ∧ w' = w.setCell ⟨b, 0, none⟩ (.string (strOfNums (r.drop many))) := by
  have hs : (strOfNums r).size = r.length := strOfNums_size r
  have hI : ¬ (r.length : Int) < (many : Int) := by omega
  have HCUT : Hid (_) := str_cut r many
  have HAT : Hid (∀ i (hi : i < (strOfNums r).size), (((strOfNums r)[i]'hi).toNat : Int) = r.getD i 0) := fun i hi => str_at hr hi
  have HBD : Hid (_) := fun k => numI_bd hr k
  go_enter Tryz.func95, Tryz.ntmps95
  go_wp2
  go_loopw [5, 16] (fun x i wr => ∃ k : Nat, k ≤ many ∧ i = .int .i64 k ∧ x = .int .i64 (numI r k) ∧ wr = w) (fun _ i _ => many - (intOf i).toNat)
  case atStart => exact ⟨0, Nat.zero_le _, rfl, rfl, rfl⟩
  case round =>
    obtain ⟨k, hk, rfl, rfl, rfl⟩ := hrel
    by_cases hlt : k < many
    · have hbd := HBD.out k
      have hkI : (k : Int) < (many : Int) := by omega
      have hk0 : (0 : Int) ≤ (k : Int) := by omega
      have hks : (k : Int) < (r.length : Int) := by omega
      have hks2 : k < (strOfNums r).size := by omega
      have hsm : numI r k < 65536 := by
        have hk2 : k = 0 ∨ k = 1 ∨ k = 2 := by omega
        rcases hk2 with rfl | rfl | rfl
        · have := hbd.2; simp at this; omega
        · have := hbd.2; simp at this; omega
        · have := hbd.2; simp at this; omega
      have hat := HAT.out k hks2
      have hby := hr.at k
      have HE : Hid (bits BinOp.or IntKind.i64 (wrap64 (numI r k * 256)) (wrap64 (((strOfNums r)[k]'hks2).toNat : Int)) = numI r (k + 1)) := by
        show _ = _
        have e1 : wrap64 (numI r k * 256) = ((256 * (numI r k).toNat : Nat) : Int) := by unfold wrap64; omega
        have e2 : wrap64 (((strOfNums r)[k]'hks2).toNat : Int) = ((r.getD k 0).toNat : Int) := by rw [hat]; unfold wrap64; omega
        rw [e1, e2, or256 _ _ (by omega) (by omega)]
        show _ = 256 * numI r k + r.getD k 0
        omega
      clear hat hby hsm hbd
      go_wp2
      exact ⟨⟨k + 1, by omega, by go_num, by rw [HE.out], trivial⟩, by simp [intOf]; omega⟩
    · have hke : k = many := by omega
      subst hke
      go_wp2
      go_ret
      exact ⟨rfl, by rw [← HCUT.out, hs]⟩
end Go.Proofs.YtaenpgdmiaekcaaGreatDoor
/-
  WIRERD3: a reader in its box; wire.reader's number and signed, told by it.
-/
namespace Go.Proofs.YtaenpgdmiaekcaaGreatDoor
set_option maxRecDepth 100000
open Go.RowKit Im

/-- The reader in block b has the bytes r before it. -/
structure RdB (w : World) (b : Nat) (r : List Int) : Prop where
  cell : w.cell? ⟨b, 0, none⟩ = some (.string (strOfNums r))
  fz : w.frozen? ⟨b, 0, none⟩ = false
  bytes : Bytes r
  few : r.length ≤ 4096
theorem Bytes.drop {r : List Int} (h : Bytes r) (k : Nat) : Bytes (r.drop k) := fun x hx => h x (List.mem_of_mem_drop hx)
theorem RdB.put {w : World} {b : Nat} {r : List Int} (h : RdB w b r) (k : Nat) : RdB (w.setCell ⟨b, 0, none⟩ (.string (strOfNums (r.drop k)))) b (r.drop k) :=
  ⟨set_same h.cell, by simpa using h.fz, h.bytes.drop k, by rw [List.length_drop]; have := h.few; omega⟩
theorem RdB.grown {w w' : World} {b : Nat} {r : List Int} {row : Option Nat} (h : RdB w b r) (hg : w.grownBy w' row) (hne : some b ≠ row) : RdB w' b r :=
  ⟨hg.cell h.cell hne, (World.frozen?_of_block (a := ⟨b, 0, none⟩) (hg.block b (World.block_lt_of_cell? w _ h.cell) hne)).trans h.fz, h.bytes, h.few⟩
/-- What the reader panics with. -/
def rdStopped : Ending := .panicked [{ v := .iface 25 (.int .i64 1), recovered := false }]
theorem number_any {b : Nat} {w : World} {r : List Int} (h : RdB w b r) {many : Nat} (hm3 : many ≤ 3) :
    Calls Tryz.prog 95 #[.pointer (some ⟨b, 0, none⟩), .int .i64 many] w fun e w' =>
      ((many ≤ r.length ∧ e = .returned (.int .i64 (numI r many)) ∧ RdB w' b (r.drop many)) ∨ (r.length < many ∧ e = rdStopped)) ∧ w.grownBy w' (some b) := by
  by_cases hm : many ≤ r.length
  · refine (number_ok h.bytes h.few h.cell h.fz hm hm3).mono ?_
    rintro e w' ⟨rfl, rfl⟩
    exact ⟨.inl ⟨hm, rfl, h.put many⟩, grownBy_setCell' w b _⟩
  · refine (number_short h.cell (many := many) (by rw [strOfNums_size]; omega)).mono ?_
    rintro e w' ⟨rfl, rfl⟩
    exact ⟨.inr ⟨by omega, rfl⟩, World.grownBy.refl _ _⟩
theorem RdB.drew {w : World} {b : Nat} {r : List Int} (h : RdB w b r) : RdB w.drew b r := ⟨h.cell, h.fz, h.bytes, h.few⟩
theorem number_does {b : Nat} {w : World} {r : List Int} (h : RdB w b r) {many : Nat} (hm3 : many ≤ 3) (hm : many ≤ r.length) :
    Calls Tryz.prog 95 #[.pointer (some ⟨b, 0, none⟩), .int .i64 many] w fun e w' => e = .returned (.int .i64 (numI r many)) ∧ RdB w' b (r.drop many) ∧ w.grownBy w' (some b) := by
  refine (number_any h hm3).mono ?_
  rintro e w' ⟨⟨_, h1, h2⟩ | ⟨h1, _⟩, hg⟩
  · exact ⟨h1, h2, hg⟩
  · omega
theorem number_stops {b : Nat} {w : World} {r : List Int} (h : RdB w b r) {many : Nat} (hm3 : many ≤ 3) (hm : r.length < many) :
    Calls Tryz.prog 95 #[.pointer (some ⟨b, 0, none⟩), .int .i64 many] w fun e w' => e = rdStopped ∧ w.grownBy w' (some b) := by
  refine (number_any h hm3).mono ?_
  rintro e w' ⟨⟨h1, _⟩ | ⟨_, h1⟩, hg⟩
  · omega
  · exact ⟨h1, hg⟩
set_option maxHeartbeats 2000000 in
theorem signed_does {b : Nat} {w : World} {r : List Int} (h : RdB w b r) (hm : 3 ≤ r.length) :
    Calls Tryz.prog 140 #[.pointer (some ⟨b, 0, none⟩), .int .i64 3] w fun e w' => e = .returned (.int .i64 (sgn (numI r 3))) ∧ RdB w' b (r.drop 3) ∧ w.grownBy w' (some b) := by
  have hnu := number_does h.drew (many := 3) (by decide) hm
  have hbd := numI_bd h.bytes 3
  have hn : 0 ≤ numI r 3 ∧ numI r 3 < 16777216 := by have := hbd.2; simp at this; exact ⟨hbd.1, this⟩
  have HS : Hid (sgn (numI r 3) = if 8388608 ≤ numI r 3 then numI r 3 - 16777216 else numI r 3) := rfl
  have hw : IntKind.i64.wrap 24 = 24 := by decide
  have hw2 : IntKind.i64.wrap 16777216 = 16777216 := by decide
  clear hbd
  generalize numI r 3 = n at *
  go_enter Tryz.func140, Tryz.ntmps140
  go_upto_region 1 with fail
  go_region_held3 (fun _ => True) (trivial) ((go_at_call 95; refine hnu.mono ?_; rintro e w1 ⟨rfl, hR, hg⟩))
  all_goals
    by_cases h8 : 8388608 ≤ n
    · have HX : Hid (_) := HS.out.trans (if_pos h8)
      go_wp2
      go_ret
      exact ⟨by rw [HX.out]; rfl, hR, ⟨hg.os, hg.tape, hg.output, hg.size, hg.block⟩⟩
    · have HX : Hid (_) := HS.out.trans (if_neg h8)
      go_wp2
      go_ret
      exact ⟨by rw [HX.out]; rfl, hR, ⟨hg.os, hg.tape, hg.output, hg.size, hg.block⟩⟩
end Go.Proofs.YtaenpgdmiaekcaaGreatDoor
/-
  GIVEN: what a light gives to a place; how far it is from a part.
-/
namespace Go.Proofs.YtaenpgdmiaekcaaGreatDoor
set_option maxRecDepth 100000
open Go.RowKit Im

/-- How far c is from the nearest of n columns (or rows) from f on. -/
def awayP (c f n : Int) : Int := max (max (f - c) (c - (f + n - 1))) 0
theorem away_any (c f n : Int) (w : World) (hc : 0 ≤ c ∧ c < 16) (hf : 0 ≤ f ∧ f < 16) (hn : 1 ≤ n ∧ n ≤ 16) : Calls Tryz.prog 149 #[.int .i64 c, .int .i64 f, .int .i64 n] w fun e w' => e = .returned (.int .i64 (awayP c f n)) ∧ w' = w := by
  obtain ⟨m, hm⟩ : ∃ m, m = awayP c f n := ⟨_, rfl⟩
  rw [← hm]
  by_cases h1 : f - c < c - (f + n - 1)
  · by_cases h2 : c - (f + n - 1) < 0
    · have e : m = 0 := by rw [hm]; unfold awayP; omega
      subst e
      clear hm
      go_enter Tryz.func149, Tryz.ntmps149
      go_wp2
      go_ret
      exact ⟨rfl, rfl⟩
    · have e : m = c - (f + n - 1) := by rw [hm]; unfold awayP; omega
      subst e
      clear hm
      go_enter Tryz.func149, Tryz.ntmps149
      go_wp2
      go_ret
      exact ⟨rfl, rfl⟩
  · by_cases h2 : f - c < 0
    · have e : m = 0 := by rw [hm]; unfold awayP; omega
      subst e
      clear hm
      go_enter Tryz.func149, Tryz.ntmps149
      go_wp2
      go_ret
      exact ⟨rfl, rfl⟩
    · have e : m = f - c := by rw [hm]; unfold awayP; omega
      subst e
      clear hm
      go_enter Tryz.func149, Tryz.ntmps149
      go_wp2
      go_ret
      exact ⟨rfl, rfl⟩
theorem away_bd (c f n : Int) (hc : 0 ≤ c ∧ c < 16) (hf : 0 ≤ f ∧ f < 16) (hn : 1 ≤ n ∧ n ≤ 16) : 0 ≤ awayP c f n ∧ awayP c f n ≤ 15 := by unfold awayP; omega
/-- What a light gives to a place. -/
def givenP (l : Lt) (x y : Int) : Int := l.P * max (l.R - (awayP l.X x 1 + awayP l.Y y 1)) 0 / l.R
theorem given_bd {l : Lt} (hl : rightB l = true) (x y : Int) (hx : 0 ≤ x ∧ x < 16) (hy : 0 ≤ y ∧ y < 16) : 0 ≤ givenP l x y ∧ givenP l x y ≤ 65535 := by
  obtain ⟨hX, hY, hR, hP⟩ := (right_iff l).1 hl
  have a1 := away_bd l.X x 1 hX hx (by omega)
  have a2 := away_bd l.Y y 1 hY hy (by omega)
  unfold givenP
  have hd : 0 ≤ awayP l.X x 1 + awayP l.Y y 1 := by omega
  generalize awayP l.X x 1 + awayP l.Y y 1 = d at hd ⊢
  have h1 : 0 ≤ max (l.R - d) 0 ∧ max (l.R - d) 0 ≤ l.R := by omega
  · have m1 : 0 ≤ l.P * max (l.R - d) 0 := Int.mul_nonneg hP.1 h1.1
    have m2 : l.P * max (l.R - d) 0 ≤ 65535 * l.R := Int.mul_le_mul hP.2 h1.2 h1.1 (by omega)
    refine ⟨Int.ediv_nonneg m1 (by omega), ?_⟩
    have : l.P * max (l.R - d) 0 / l.R < 65536 := Int.ediv_lt_of_lt_mul (by omega) (by omega)
    omega
theorem given_any (l : Lt) (x y : Int) (w : World) (hl : rightB l = true) (hx : 0 ≤ x ∧ x < 16) (hy : 0 ≤ y ∧ y < 16) :
    Calls Tryz.prog 117 #[.agg #[.int .i64 l.X, .int .i64 l.Y, .int .i64 l.R, .int .i64 l.P], .int .i64 x, .int .i64 y] w fun e w' => e = .returned (.int .i64 (givenP l x y)) ∧ Below w.heap.size w w' := by
  obtain ⟨hX, hY, hR, hP⟩ := (right_iff l).1 hl
  have c1 := fun wx => away_any l.X x 1 wx hX hx (by omega)
  have c2 := fun wx => away_any l.Y y 1 wx hY hy (by omega)
  have a1 := away_bd l.X x 1 hX hx (by omega)
  have a2 := away_bd l.Y y 1 hY hy (by omega)
  have hg : givenP l x y = l.P * max (l.R - (awayP l.X x 1 + awayP l.Y y 1)) 0 / l.R := rfl
  generalize awayP l.X x 1 = d1 at *
  generalize awayP l.Y y 1 = d2 at *
  obtain ⟨X, Y, R, P⟩ := l
  dsimp only at *
  obtain ⟨m, hm⟩ : ∃ m, (if R - (d1 + d2) < 0 then 0 else R - (d1 + d2)) = m := ⟨_, rfl⟩
  have hm' : max (R - (d1 + d2)) 0 = m := by rw [← hm]; split <;> omega
  rw [hg, hm']
  have b1 : 0 ≤ m ∧ m ≤ 32 := by omega
  have m1 : 0 ≤ P * m := Int.mul_nonneg hP.1 b1.1
  have m2 : P * m ≤ 65535 * 32 := Int.mul_le_mul hP.2 b1.2 b1.1 (by omega)
  clear hg hm' hl
  go_enter Tryz.func117, Tryz.ntmps117
  go_wp2
  go_quiet ((first | (go_at_call 149; with_reducible exact Calls.quiet_of_same (c1 _)) | (go_at_call 149; with_reducible exact Calls.quiet_of_same (c2 _))))
  clear c1 c2
  go_wp2
  go_ret
  exact ⟨rfl, below_drewN ((Below.refl _ _).alloc (Nat.le_refl _) _) _⟩
theorem given_pos {l : Lt} {x y d : Int} (hd : awayP l.X x 1 + awayP l.Y y 1 = d) (h : d < l.R) : givenP l x y = l.P * (l.R - d) / l.R := by
  unfold givenP; rw [hd, show max (l.R - d) 0 = l.R - d by omega]
theorem given_zero {l : Lt} {x y d : Int} (hd : awayP l.X x 1 + awayP l.Y y 1 = d) (h : ¬ d < l.R) : givenP l x y = 0 := by
  unfold givenP; rw [hd, show max (l.R - d) 0 = 0 by omega]; simp
def stretchB (f n : Int) : Bool := placeB f && decide (1 ≤ n) && decide (n ≤ 16 - f)
theorem isStretch_any (f n : Int) (w : World) : Calls Tryz.prog 148 #[.int .i64 f, .int .i64 n] w fun e w' => e = .returned (.bool (stretchB f n)) ∧ w = w' := by
  by_cases h1 : placeB f = true
  · have hf := (place_iff f).1 h1
    by_cases h2 : 1 ≤ n
    · by_cases h3 : n ≤ 16 - f
      · rw [show stretchB f n = true by simp [stretchB, h1, h2, h3]]
        go_enter Tryz.func148, Tryz.ntmps148
        go_wp2_with (go_at_call 174; refine (isPlace_any _ _).mono ?_; rintro e w' ⟨rfl, rfl⟩)
        go_ret
        exact ⟨by first | rfl | simp [h3], rfl⟩
      · rw [show stretchB f n = false by simp [stretchB, h3]]
        have h3' : decide (n ≤ 16 - f) = false := by simpa using h3
        go_enter Tryz.func148, Tryz.ntmps148
        go_wp2_with (go_at_call 174; refine (isPlace_any _ _).mono ?_; rintro e w' ⟨rfl, rfl⟩)
        go_ret
        exact ⟨by first | rfl | simp [h3], rfl⟩
    · rw [show stretchB f n = false by simp [stretchB, h2]]
      go_enter Tryz.func148, Tryz.ntmps148
      go_wp2_with (go_at_call 174; refine (isPlace_any _ _).mono ?_; rintro e w' ⟨rfl, rfl⟩)
      go_ret
      exact ⟨rfl, rfl⟩
  · have h1' := eq_false_of_ne_true h1
    rw [show stretchB f n = false by simp [stretchB, h1']]
    go_enter Tryz.func148, Tryz.ntmps148
    go_wp2_with (go_at_call 174; refine (isPlace_any _ _).mono ?_; rintro e w' ⟨rfl, rfl⟩)
    go_ret
    exact ⟨rfl, rfl⟩
end Go.Proofs.YtaenpgdmiaekcaaGreatDoor
/-
  AT: light.At.
-/
namespace Go.Proofs.YtaenpgdmiaekcaaGreatDoor
set_option maxRecDepth 100000
open Go.RowKit Im

/-- What all lights give to a place, added. -/
def sumG (x y : Int) : List Lt → Int
  | [] => 0
  | l :: r => givenP l x y + sumG x y r
theorem sumG_snoc (x y : Int) (l : Lt) : ∀ ls, sumG x y (ls ++ [l]) = sumG x y ls + givenP l x y
  | [] => by simp [sumG]
  | m :: r => by simp [sumG, sumG_snoc x y l r, Int.add_assoc]
theorem sumG_bd (x y : Int) (hx : 0 ≤ x ∧ x < 16) (hy : 0 ≤ y ∧ y < 16) : ∀ ls : List Lt, ls.all rightB = true → 0 ≤ sumG x y ls ∧ sumG x y ls ≤ 65535 * ls.length
  | [], _ => by simp [sumG]
  | l :: r, h => by
    simp only [List.all_cons, Bool.and_eq_true] at h
    have h1 := sumG_bd x y hx hy r h.2
    have h2 := given_bd h.1 x y hx hy
    simp only [sumG, List.length_cons]
    omega
theorem take_snocL (ls : List Lt) (k : Nat) (hk : k < ls.length) : ls.take (k + 1) = ls.take k ++ [ls.getD k Lt.zero] := by
  rw [List.take_succ_eq_append_getElem hk, List.getD_eq_getElem?_getD, List.getElem?_eq_getElem hk]; rfl
theorem all_take (ls : List Lt) (k : Nat) (h : ls.all rightB = true) : (ls.take k).all rightB = true := by
  rw [List.all_eq_true] at h ⊢
  exact fun x hx => h x (List.mem_of_mem_take hx)
theorem all_getD (ls : List Lt) (k : Nat) (hk : k < ls.length) (h : ls.all rightB = true) : rightB (ls.getD k Lt.zero) = true := by
  rw [List.getD_eq_getElem?_getD, List.getElem?_eq_getElem hk]
  exact List.all_eq_true.1 h _ (List.getElem_mem hk)

theorem lightsErr_zero {ls : List Lt} (h : lightsErr ls = 0) : ls.length ≤ 8 ∧ ls.all rightB = true := by
  unfold lightsErr at h
  by_cases h8 : ls.length ≤ 8
  · rw [if_pos h8] at h
    refine ⟨h8, ?_⟩
    cases hr : ls.all rightB
    · rw [hr] at h; cases h
    · rfl
  · rw [if_neg h8] at h; cases h
end Go.Proofs.YtaenpgdmiaekcaaGreatDoor
/-
  NEAR: light.Near.
-/
namespace Go.Proofs.YtaenpgdmiaekcaaGreatDoor
set_option maxRecDepth 100000
open Go.RowKit Im

/-- Is the light near the part? -/
def nearB (x y pw ph : Int) (l : Lt) : Bool := decide (awayP l.X x pw + awayP l.Y y ph < l.R)
/-- The numbers, below k, of the lights for which f holds. -/
def pickL (f : Lt → Bool) (ls : List Lt) (k : Nat) : List Int := ((List.range k).filter fun i => f (ls.getD i Lt.zero)).map (fun i : Nat => (i : Int))
theorem pickL_yes (f : Lt → Bool) (ls : List Lt) (k : Nat) (h : f (ls.getD k Lt.zero) = true) : pickL f ls (k + 1) = pickL f ls k ++ [(k : Int)] := by
  unfold pickL; rw [List.range_succ, List.filter_append, List.filter_cons, if_pos h]; simp
theorem pickL_no (f : Lt → Bool) (ls : List Lt) (k : Nat) (h : f (ls.getD k Lt.zero) = false) : pickL f ls (k + 1) = pickL f ls k := by
  unfold pickL; rw [List.range_succ, List.filter_append, List.filter_cons, if_neg (by rw [h]; simp)]; simp
theorem pickL_len (f : Lt → Bool) (ls : List Lt) (k : Nat) : (pickL f ls k).length ≤ k := by
  unfold pickL; rw [List.length_map]; exact Nat.le_trans (List.length_filter_le _ _) (by simp)

/-- The call's end tells a list of numbers and an error's number. -/
def ToldL (w : World) (ps : List Int) (E : Int) (e : Ending) (w' : World) : Prop :=
  ∃ a cap, e = .returned (.tuple #[.slice a ps.length cap, .int .i64 E]) ∧ Ints w.heap.size w' a ps.length ps ∧ Below w.heap.size w w'
theorem stretch_iff (f n : Int) : stretchB f n = true ↔ (0 ≤ f ∧ f < 16) ∧ 1 ≤ n ∧ n ≤ 16 - f := by simp [stretchB, place_iff, and_assoc]
set_option maxHeartbeats 1000000 in
theorem near_ok {a : Option Addr} {len : Nat} (cap : Nat) {ls : List Lt} (x y pw ph : Int) {w : World} (h : Lights w a len ls) (h8 : ls.length ≤ 8) (hr : ls.all rightB = true) (hx : stretchB x pw = true) (hy : stretchB y ph = true) :
    Calls Tryz.prog 114 #[.slice a len cap, .int .i64 x, .int .i64 y, .int .i64 pw, .int .i64 ph] w (ToldL w (pickL (nearB x y pw ph) ls len) 0) := by
  obtain ⟨i0, hi, hz0, hz1, hz2⟩ := info_parts Tryz.info3
  have hc := checkL_any cap h
  rw [show lightsErr ls = 0 by simp [lightsErr, h8, hr, okIf]] at hc
  have bx := (stretch_iff x pw).1 hx
  have by' := (stretch_iff y ph).1 hy
  have hl := h.leng
  rcases h.cells with e | ⟨b, off, rfl, hb, hcl⟩
  · subst e
    have : len = 0 := by simpa using hl.symm
    subst this
    go_enter Tryz.func114, Tryz.ntmps114
    go_wp2_with (first | (go_at_call 102; refine hc.mono ?_; rintro e wA ⟨rfl, bA⟩) | (go_at_call 148; refine (isStretch_any _ _ _).mono ?_; rintro e w' ⟨rfl, rfl⟩))
    go_loop [13, 33] (fun s i => s = .slice none 0 0 ∧ i = .int .i64 0) (fun _ _ => 0)
    case atStart => exact ⟨rfl, rfl⟩
    case round =>
      obtain ⟨rfl, rfl⟩ := hrel
      go_wp2
      go_ret2
      exact ⟨none, 0, rfl, Ints.nil _ _, bA⟩
  · go_enter Tryz.func114, Tryz.ntmps114
    go_wp2_with (first | (go_at_call 102; refine hc.mono ?_; rintro e wA ⟨rfl, bA⟩) | (go_at_call 148; refine (isStretch_any _ _ _).mono ?_; rintro e w' ⟨rfl, rfl⟩))
    go_loopw [13, 33] (fun s i wr => ∃ k : Nat, k ≤ len ∧ i = .int .i64 k ∧ Owns w.heap.size wr s (pickL (nearB x y pw ph) ls k) ∧ Below w.heap.size w wr) (fun _ i _ => len - (intOf i).toNat)
    case atStart => exact ⟨0, Nat.zero_le _, rfl, World.ownsRow_nil _ _ _ _, bA⟩
    case round =>
      obtain ⟨k, hk, rfl, hown, hbr⟩ := hrel
      have hlen := pickL_len (nearB x y pw ph) ls k
      by_cases hlt : k < len
      · obtain ⟨c0, c1, c2, c3⟩ := hcl k hlt
        replace c0 := (hbr.cell (p := ⟨b, off + k * 4, none⟩) hb).trans c0
        replace c1 := (hbr.cell (p := ⟨b, off + k * 4 + 1, none⟩) hb).trans c1
        replace c2 := (hbr.cell (p := ⟨b, off + k * 4 + 2, none⟩) hb).trans c2
        replace c3 := (hbr.cell (p := ⟨b, off + k * 4 + 3, none⟩) hb).trans c3
        obtain ⟨hX, hY, hR, _⟩ := (right_iff _).1 (all_getD ls k (by omega) hr)
        have y1 := pickL_yes (nearB x y pw ph) ls k
        have y2 := pickL_no (nearB x y pw ph) ls k
        have d1 := fun wx => away_any (ls.getD k Lt.zero).X x pw wx hX bx.1 (by omega)
        have d2 := fun wx => away_any (ls.getD k Lt.zero).Y y ph wx hY by'.1 (by omega)
        have e1 := away_bd (ls.getD k Lt.zero).X x pw hX bx.1 (by omega)
        have e2 := away_bd (ls.getD k Lt.zero).Y y ph hY by'.1 (by omega)
        have hnb : nearB x y pw ph (ls.getD k Lt.zero) = decide (awayP (ls.getD k Lt.zero).X x pw + awayP (ls.getD k Lt.zero).Y y ph < (ls.getD k Lt.zero).R) := rfl
        rw [hnb] at y1 y2
        clear hnb
        generalize awayP (ls.getD k Lt.zero).X x pw = f1 at d1 e1 y1 y2
        generalize awayP (ls.getD k Lt.zero).Y y ph = f2 at d2 e2 y1 y2
        generalize ls.getD k Lt.zero = l at c0 c1 c2 c3 d1 d2 hX hY hR y1 y2
        obtain ⟨X, Y, R, P⟩ := l
        dsimp only at c0 c1 c2 c3 d1 d2 hX hY hR y1 y2
        clear hcl hc
        have hsz := hbr.size
        by_cases hd : f1 + f2 < R
        · have HS : Hid (pickL (nearB x y pw ph) ls (k + 1) = pickL (nearB x y pw ph) ls k ++ [(k : Int)]) := y1 (by simpa using hd)
          clear y1 y2
          go_wp2
          go_quiet ((first | (go_at_call 149; with_reducible exact Calls.quiet_of_same (d1 _)) | (go_at_call 149; with_reducible exact Calls.quiet_of_same (d2 _))))
          have hown2 := hown.below (below_drewN ((Below.refl _ _).alloc (Nat.le_refl _) (.cells #[.int .i64 X, .int .i64 Y, .int .i64 R, .int .i64 P] 106)) nq) (Nat.le_refl _)
          have hb2 := below_drewN (hbr.alloc hbr.size (.cells #[.int .i64 X, .int .i64 Y, .int .i64 R, .int .i64 P] 106)) nq
          have hs2 := hb2.size
          generalize (wr.alloc (.cells #[.int .i64 X, .int .i64 Y, .int .i64 R, .int .i64 P] 106)).drewN nq = wq at hown2 hb2 hs2 ⊢
          go_wp2_with (at_builtin; refine wpList_append_own _ rfl _ _ 22 rfl w.heap.size 3 i0 (.int .i64 0) 1 8 Tryz.underlying22 hi hz0 hz1 hz2 rfl (by decide) _ _ _ rfl (World.ownsRow.alloc hown2 _) ⟨_, 0, none⟩ 1 1 [.int .i64 k] rfl rfl (cell_one_new _ _ _) (by intro u hu; simp at hu; subst hu; rfl) (by unfold maxLen; omega) (by omega) (by simp; omega) ?_; intro v' w9 hown9 hgrow9 _)
          have R := Owns.push hown2 hb2 hs2 hown9 rfl hgrow9
          go_roundw
          case rel => exact ⟨k + 1, by omega, by go_num, by rw [HS.out]; exact R.1, R.2⟩
          case measure => simp [intOf]; omega
        · have HS : Hid (pickL (nearB x y pw ph) ls (k + 1) = pickL (nearB x y pw ph) ls k) := y2 (by simpa using hd)
          clear y1 y2
          go_wp2
          go_quiet ((first | (go_at_call 149; with_reducible exact Calls.quiet_of_same (d1 _)) | (go_at_call 149; with_reducible exact Calls.quiet_of_same (d2 _))))
          have hown2 := hown.below (below_drewN ((Below.refl _ _).alloc (Nat.le_refl _) (.cells #[.int .i64 X, .int .i64 Y, .int .i64 R, .int .i64 P] 106)) nq) (Nat.le_refl _)
          have hb2 := below_drewN (hbr.alloc hbr.size (.cells #[.int .i64 X, .int .i64 Y, .int .i64 R, .int .i64 P] 106)) nq
          go_wp2
          go_roundw
          case rel => exact ⟨k + 1, by omega, by go_num, by rw [HS.out]; exact hown2, hb2⟩
          case measure => simp [intOf]; omega
      · have e : k = len := by omega
        subst e
        obtain ⟨a', cap', rfl, hints⟩ := hown.ints (by omega)
        go_wp2
        go_ret2
        exact ⟨a', cap', rfl, hints, hbr⟩
end Go.Proofs.YtaenpgdmiaekcaaGreatDoor
/-
  TILE: light.eachPlace and light.eachTile go through all places, and all tiles.
-/
namespace Go.Proofs.YtaenpgdmiaekcaaGreatDoor
set_option maxRecDepth 100000
open Go.RowKit Im

/-- A function value does its work at each place of a part: what I says of the places that are done holds behind it of one more. -/
structure DoesP (n : Nat) (caps : Array Value) (I : (Nat → Prop) → World → Prop) (W x0 y0 pw ph : Nat) : Prop where
  enters : ∀ args w, (callFunc n args).run Tryz.prog w = .ok (.enter n args) w
  does : ∀ (x y : Nat) (D : Nat → Prop) (w1 : World), x0 ≤ x → x < x0 + pw → y0 ≤ y → y < y0 + ph → I D w1 → Calls Tryz.prog n (#[.int .i64 x, .int .i64 y] ++ caps) w1 fun e w2 => e = .returned (.tuple #[]) ∧ I (fun i => D i ∨ (i / W = y ∧ i % W = x)) w2

theorem DoesP.doesI {n : Nat} {caps : Array Value} {I : (Nat → Prop) → World → Prop} {W x0 y0 pw ph : Nat} (h : DoesP n caps I W x0 y0 pw ph) (x y : Nat) (X Y : Int) (hX : X = x) (hY : Y = y) (D : Nat → Prop) (w1 : World) (h1 : x0 ≤ x) (h2 : x < x0 + pw) (h3 : y0 ≤ y) (h4 : y < y0 + ph) (hI : I D w1) :
    Calls Tryz.prog n (#[.int .i64 X, .int .i64 Y] ++ caps) w1 fun e w2 => e = .returned (.tuple #[]) ∧ I (fun i => D i ∨ (i / W = y ∧ i % W = x)) w2 := by
  subst hX hY; exact h.does x y D w1 h1 h2 h3 h4 hI

set_option maxHeartbeats 1000000 in
theorem eachPlace_any (n : Nat) (caps : Array Value) (I : (Nat → Prop) → World → Prop) (W x0 y0 pw ph : Nat) (D : Nat → Prop) (w : World) (hb : x0 ≤ 16 ∧ y0 ≤ 16 ∧ pw ≤ 16 ∧ ph ≤ 16)
    (mono : ∀ (A B : Nat → Prop) (v : World), (∀ i, B i → A i) → I A v → I B v) (hd : DoesP n caps I W x0 y0 pw ph) (hI : I D w) :
    Calls Tryz.prog 115 #[.int .i64 x0, .int .i64 y0, .int .i64 pw, .int .i64 ph, .func (.func n) #[] caps] w fun e w' => e = .returned (.tuple #[]) ∧ I (fun i => D i ∨ (y0 ≤ i / W ∧ i / W < y0 + ph ∧ x0 ≤ i % W ∧ i % W < x0 + pw)) w' := by
  have hent := hd.enters
  obtain ⟨hb1, hb2, hb3, hb4⟩ := hb
  go_enter Tryz.func115, Tryz.ntmps115
  go_wp2
  go_loopw [13] (fun i wr => ∃ j : Nat, j ≤ ph ∧ i = .int .i64 j ∧ I (fun i => D i ∨ (y0 ≤ i / W ∧ i / W < y0 + j ∧ x0 ≤ i % W ∧ i % W < x0 + pw)) wr) (fun i _ => ph - (intOf i).toNat)
  case atStart => exact ⟨0, Nat.zero_le _, rfl, mono _ _ _ (fun i h => by rcases h with h | h; · exact h
                                                                          · omega) hI⟩
  case round =>
    obtain ⟨j, hj, rfl, hIr⟩ := hrel
    by_cases hlt : j < ph
    · go_wp2
      go_loopw [17] (fun i wr => ∃ c : Nat, c ≤ pw ∧ i = .int .i64 c ∧ I (fun i => (D i ∨ (y0 ≤ i / W ∧ i / W < y0 + j ∧ x0 ≤ i % W ∧ i % W < x0 + pw)) ∨ (i / W = y0 + j ∧ x0 ≤ i % W ∧ i % W < x0 + c)) wr) (fun i _ => pw - (intOf i).toNat)
      case atStart => exact ⟨0, Nat.zero_le _, rfl, mono _ _ _ (fun i h => by rcases h with h | h; · exact h
                                                                              · omega) hIr⟩
      case round =>
        obtain ⟨c, hcc, rfl, hIs⟩ := hrel
        by_cases hlc : c < pw
        · go_wp2_with (refine (hd.doesI (x0 + c) (y0 + j) _ _ (by omega) (by omega) _ _ (by omega) (by omega) (by omega) (by omega) hIs).mono ?_; rintro e w2 ⟨rfl, hI2⟩)
          go_roundw
          case rel => exact ⟨c + 1, by omega, by go_num, mono _ _ _ (fun i h => by
            rcases h with h | h
            · exact .inl (.inl h)
            · by_cases e : i % W = x0 + c
              · exact .inr ⟨h.1, e⟩
              · exact .inl (.inr ⟨h.1, h.2.1, by omega⟩)) hI2⟩
          case measure => simp [intOf]; omega
        · have hce : c = pw := by omega
          subst hce
          go_wp2
          go_roundw
          case rel => exact ⟨j + 1, by omega, by go_num, mono _ _ _ (fun i h => by
            rcases h with h | h
            · exact .inl (.inl h)
            · by_cases e : i / W = y0 + j
              · exact .inr ⟨e, h.2.2⟩
              · exact .inl (.inr ⟨h.1, by omega, h.2.2⟩)) hIs⟩
          case measure => simp [intOf]; omega
    · have hje : j = ph := by omega
      subst hje
      go_wp2
      go_end0
      exact ⟨rfl, hIr⟩

/-- A function value does its work on each tile. -/
structure DoesT (n : Nat) (caps : Array Value) (I : (Nat → Prop) → World → Prop) (W H : Nat) : Prop where
  enters : ∀ args w, (callFunc n args).run Tryz.prog w = .ok (.enter n args) w
  does : ∀ (x y pw ph : Nat) (D : Nat → Prop) (w1 : World), 1 ≤ pw → x + pw ≤ W → 1 ≤ ph → y + ph ≤ H → I D w1 → Calls Tryz.prog n (#[.int .i64 x, .int .i64 y, .int .i64 pw, .int .i64 ph] ++ caps) w1 fun e w2 => e = .returned (.tuple #[]) ∧ I (fun i => D i ∨ (y ≤ i / W ∧ i / W < y + ph ∧ x ≤ i % W ∧ i % W < x + pw)) w2
theorem DoesT.doesI {n : Nat} {caps : Array Value} {I : (Nat → Prop) → World → Prop} {W H : Nat} (h : DoesT n caps I W H) (x y pw ph : Nat) (PW PH : Int) (e1 : PW = pw) (e2 : PH = ph) (D : Nat → Prop) (w1 : World) (h1 : 1 ≤ pw) (h2 : x + pw ≤ W) (h3 : 1 ≤ ph) (h4 : y + ph ≤ H) (hI : I D w1) :
    Calls Tryz.prog n (#[.int .i64 x, .int .i64 y, .int .i64 PW, .int .i64 PH] ++ caps) w1 fun e w2 => e = .returned (.tuple #[]) ∧ I (fun i => D i ∨ (y ≤ i / W ∧ i / W < y + ph ∧ x ≤ i % W ∧ i % W < x + pw)) w2 := by
  subst e1 e2; exact h.does x y pw ph D w1 h1 h2 h3 h4 hI

set_option maxHeartbeats 1000000 in
theorem eachTile_any (n : Nat) (caps : Array Value) (I : (Nat → Prop) → World → Prop) (W H tile : Nat) (w : World) (hW : 1 ≤ W ∧ W ≤ 16) (hH : 1 ≤ H ∧ H ≤ 16) (ht : 1 ≤ tile ∧ tile ≤ 16)
    (mono : ∀ (A B : Nat → Prop) (v : World), (∀ i, B i → A i) → I A v → I B v) (hd : DoesT n caps I W H) (hI : I (fun _ => False) w) :
    Calls Tryz.prog 112 #[.int .i64 W, .int .i64 H, .int .i64 tile, .func (.func n) #[] caps] w fun e w' => e = .returned (.tuple #[]) ∧ I (fun i => i / W < H) w' := by
  have hent := hd.enters
  obtain ⟨hW1, hW2⟩ := hW
  obtain ⟨hH1, hH2⟩ := hH
  obtain ⟨ht1, ht2⟩ := ht
  have hmod : ∀ i, i % W < W := fun i => Nat.mod_lt _ (by omega)
  go_enter Tryz.func112, Tryz.ntmps112
  go_wp2
  go_loopw [8] (fun i wr => ∃ y : Nat, y ≤ H + 16 ∧ i = .int .i64 y ∧ I (fun i => i / W < y ∧ i / W < H) wr) (fun i _ => H + 16 - (intOf i).toNat)
  case atStart => exact ⟨0, by omega, rfl, mono _ _ _ (fun i h => absurd h.1 (Nat.not_lt_zero _)) hI⟩
  case round =>
    obtain ⟨y, hy, rfl, hIr⟩ := hrel
    by_cases hlt : y < H
    · obtain ⟨ph, hph⟩ : ∃ ph, ph = min tile (H - y) := ⟨_, rfl⟩
      have p1 : 1 ≤ ph ∧ y + ph ≤ H ∧ ph ≤ tile := by omega
      have P1 : Hid (y + tile ≤ y + ph ∨ H ≤ y + ph) := by show _ ∨ _; omega
      have hmn : (if (H : Int) - (y : Int) < (tile : Int) then (H : Int) - (y : Int) else (tile : Int)) = (ph : Int) := by rw [hph]; split <;> omega
      clear hph
      go_wp2
      go_loopw [9] (fun i wr => ∃ x : Nat, x ≤ W + 16 ∧ i = .int .i64 x ∧ I (fun i => (i / W < y ∧ i / W < H) ∨ (y ≤ i / W ∧ i / W < y + ph ∧ i % W < x)) wr) (fun i _ => W + 16 - (intOf i).toNat)
      case atStart => exact ⟨0, by omega, rfl, mono _ _ _ (fun i h => by rcases h with h | h; · exact h
                                                                         · exact absurd h.2.2 (Nat.not_lt_zero _)) hIr⟩
      case round =>
        obtain ⟨x, hx, rfl, hIs⟩ := hrel
        by_cases hlx : x < W
        · obtain ⟨pw, hpw⟩ : ∃ pw, pw = min tile (W - x) := ⟨_, rfl⟩
          have p2 : 1 ≤ pw ∧ x + pw ≤ W := by omega
          have P2 : Hid (x + tile ≤ x + pw ∨ W ≤ x + pw) := by show _ ∨ _; omega
          have hmx : (if (W : Int) - (x : Int) < (tile : Int) then (W : Int) - (x : Int) else (tile : Int)) = (pw : Int) := by rw [hpw]; split <;> omega
          clear hpw
          go_wp2_with (refine (hd.doesI x y pw ph _ _ rfl rfl _ _ p2.1 p2.2 p1.1 p1.2.1 hIs).mono ?_; rintro e w2 ⟨rfl, hI2⟩)
          go_roundw
          case rel => exact ⟨x + tile, by omega, by go_num, mono _ _ _ (fun i h => by
            have h2 := P2.out
            have h3 := hmod i
            rcases h with h | h
            · exact .inl (.inl h)
            · by_cases e : i % W < x
              · exact .inl (.inr ⟨h.1, h.2.1, e⟩)
              · exact .inr ⟨h.1, h.2.1, by omega, by omega⟩) hI2⟩
          case measure => simp [intOf]; omega
        · go_wp2
          go_roundw
          case rel => exact ⟨y + tile, by omega, by go_num, mono _ _ _ (fun i h => by
            have h1 := P1.out
            have h3 := hmod i
            by_cases e : i / W < y
            · exact .inl ⟨e, h.2⟩
            · exact .inr ⟨by omega, by omega, by omega⟩) hIs⟩
          case measure => simp [intOf]; omega
    · go_wp2
      go_end0
      exact ⟨rfl, mono _ _ _ (fun i h => ⟨by omega, h⟩) hIr⟩
end Go.Proofs.YtaenpgdmiaekcaaGreatDoor
/-
  PAN: the row of numbers that light.Lit fills, place by place; what one place gets.
-/
namespace Go.Proofs.YtaenpgdmiaekcaaGreatDoor
set_option maxRecDepth 100000
open Go.RowKit Im

/-- Behind all that lay in wB: a row of L numbers, q of them, and the box of the slice that tells it. -/
structure Pan (wB w' : World) (L pb : Nat) (q : Nat → Int) : Prop where
  bel : Below wB.heap.size wB w'
  lo : wB.heap.size < pb
  siz : pb < w'.heap.size
  row : ∃ arr : Array Value, w'.heap[wB.heap.size]? = some (.cells arr 3 (0, 0)) ∧ arr.size = L ∧ ∀ j, j < L → arr[j]? = some (.int .i64 (q j))
  box : w'.cell? ⟨pb, 0, none⟩ = some (.slice (some ⟨wB.heap.size, 0, none⟩) L L)
theorem Pan.below {wB w' w2 : World} {L pb : Nat} {q : Nat → Int} (h : Pan wB w' L pb q) (hb : Below w'.heap.size w' w2) : Pan wB w2 L pb q := by
  have hs := h.siz
  have hlo := h.lo
  obtain ⟨arr, h1, h2, h3⟩ := h.row
  refine ⟨h.bel.trans (hb.mono (by omega)), hlo, Nat.lt_of_lt_of_le hs hb.size, ⟨arr, ?_, h2, h3⟩, (hb.cell (p := ⟨pb, 0, none⟩) hs).trans h.box⟩
  rw [hb.block _ (by omega)]; exact h1
theorem Pan.cell {wB w' : World} {L pb : Nat} {q : Nat → Int} (h : Pan wB w' L pb q) (j : Nat) (hj : j < L) : w'.cell? ⟨wB.heap.size, j, none⟩ = some (.int .i64 (q j)) ∧ w'.frozen? ⟨wB.heap.size, j, none⟩ = false := by
  obtain ⟨arr, h1, h2, h3⟩ := h.row
  unfold World.cell? World.frozen?
  rw [h1]
  simp [h3 j hj]
theorem Pan.store {wB w' : World} {L pb : Nat} {q : Nat → Int} (h : Pan wB w' L pb q) (j : Nat) (v : Int) (hj : j < L) : Pan wB (w'.setCell ⟨wB.heap.size, j, none⟩ (.int .i64 v)) L pb (fun i => if i = j then v else q i) := by
  obtain ⟨arr, h1, h2, h3⟩ := h.row
  have hlo := h.lo
  refine ⟨h.bel.setCell (Nat.le_refl _) _, hlo, by simpa [World.setCell] using h.siz, ⟨arr.setIfInBounds j (.int .i64 v), ?_, by simpa using h2, fun i hi => ?_⟩, ?_⟩
  · simp [World.setCell, Array.getElem?_modify, h1]
  · rw [Array.getElem?_setIfInBounds]
    by_cases e : j = i
    · subst e; simp [h2, hj]
    · rw [if_neg e, if_neg (fun h => e h.symm)]; exact h3 i hi
  · rw [World.cell?_of_block (w := w') (Below.heap_setCell w' _ _ _ (by show pb ≠ wB.heap.size; omega))]; exact h.box
/-- Of the places in D the numbers are those of G. -/
def Done (wB : World) (L pb : Nat) (G : Nat → Int) (D : Nat → Prop) (w' : World) : Prop := ∃ q, Pan wB w' L pb q ∧ ∀ i, i < L → D i → q i = G i

/-- What the lights of a list of numbers give to a place. -/
def sumN (x y : Int) (ls : List Lt) : List Int → Int
  | [] => 0
  | i :: r => givenP (ls.getD i.toNat Lt.zero) x y + sumN x y ls r
theorem sumN_snoc (x y : Int) (ls : List Lt) (i : Int) : ∀ l, sumN x y ls (l ++ [i]) = sumN x y ls l + givenP (ls.getD i.toNat Lt.zero) x y
  | [] => by simp [sumN]
  | m :: r => by simp [sumN, sumN_snoc x y ls i r, Int.add_assoc]
theorem sumN_pick (x y : Int) (f : Lt → Bool) (ls : List Lt) : ∀ n, n ≤ ls.length → (∀ k, k < n → f (ls.getD k Lt.zero) = false → givenP (ls.getD k Lt.zero) x y = 0) → sumN x y ls (pickL f ls n) = sumG x y (ls.take n)
  | 0, _, _ => by simp [pickL, sumN, sumG]
  | n + 1, hn, h => by
    have ih := sumN_pick x y f ls n (by omega) (fun k hk => h k (by omega))
    rw [take_snocL ls n (by omega), sumG_snoc]
    cases hf : f (ls.getD n Lt.zero) with
    | true => rw [pickL_yes f ls n hf, sumN_snoc, ih]; simp
    | false => rw [pickL_no f ls n hf, ih, h n (by omega) hf, Int.add_zero]
theorem pickL_get (f : Lt → Bool) (ls : List Lt) (n t : Nat) (ht : t < (pickL f ls n).length) : ∃ m : Nat, m < n ∧ (pickL f ls n).getD t 0 = m := by
  have hm : (pickL f ls n).getD t 0 ∈ pickL f ls n := by
    rw [List.getD_eq_getElem?_getD, List.getElem?_eq_getElem ht]; exact List.getElem_mem ht
  unfold pickL at hm
  simp only [List.mem_map, List.mem_filter, List.mem_range] at hm
  obtain ⟨m, ⟨h1, _⟩, h2⟩ := hm
  exact ⟨m, h1, h2.symm⟩
/-- Who is not near a part gives its places nothing. -/
theorem not_near {l : Lt} (x0 y0 : Int) (pw ph : Nat) (x y : Nat) (hx : x < pw) (hy : y < ph) (h : nearB x0 y0 pw ph l = false) : givenP l (x0 + x) (y0 + y) = 0 := by
  unfold nearB at h
  simp only [decide_eq_false_iff_not] at h
  refine given_zero rfl (fun hd => h ?_)
  have h1 : awayP l.X x0 pw ≤ awayP l.X (x0 + x) 1 := by unfold awayP; omega
  have h2 : awayP l.Y y0 ph ≤ awayP l.Y (y0 + y) 1 := by unfold awayP; omega
  omega
end Go.Proofs.YtaenpgdmiaekcaaGreatDoor
