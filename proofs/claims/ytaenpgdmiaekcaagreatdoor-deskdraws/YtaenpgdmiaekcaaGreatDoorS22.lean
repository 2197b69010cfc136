/- WireFrm, WireWrite, WireRef, WireRd, WireRd2, WireRd3, WireRd4, WireRd5: joined, in this order. -/
import Derived.Test.YtaenpgdmiaekcaaGreatDoorS21
import Derived.Test.YtaenpgdmiaekcaaGreatDoorS10
import Derived.Test.YtaenpgdmiaekcaaGreatDoorS15
import Derived.Test.YtaenpgdmiaekcaaGreatDoorS11
import Derived.Laws.BytesArg
import Derived.Laws.BitsAllLaws
import Derived.RangeFuncBox
import Derived.Deep.RegionHeld3
import Derived.Test.YtaenpgdmiaekcaaGreatDoorS16
import Derived.RegionDies
/-
  WIREFRM: wire.appendFrame.
-/
namespace Go.Proofs.YtaenpgdmiaekcaaGreatDoor
set_option maxRecDepth 100000
open Go.RowKit Im

theorem flat_succ {α : Type} (g : α → List Int) (l : List α) (z : α) {k : Nat} (hk : k < l.length) : (l.take (k + 1)).flatMap g = (l.take k).flatMap g ++ g (l.getD k z) := by
  rw [List.take_succ_eq_append_getElem hk, List.flatMap_append, List.getD_eq_getElem?_getD, List.getElem?_eq_getElem hk]
  simp
theorem light_len (l : Lt) : (lightBytes l).length = 5 := rfl
theorem flat_lights (ls : List Lt) : (ls.flatMap lightBytes).length = 5 * ls.length := by
  induction ls with
  | nil => rfl
  | cons l ls ih => rw [List.flatMap_cons, List.length_append, ih, light_len, List.length_cons]; omega
theorem passes_len {ps : List Ps} (h : ∀ p ∈ ps, p.ls.length ≤ 16) : (ps.flatMap passBytes).length ≤ 88 * ps.length := by
  induction ps with
  | nil => exact Nat.le_refl _
  | cons p ps ih =>
    have h1 := ih (fun q hq => h q (List.mem_cons_of_mem _ hq))
    have h2 := h p (List.mem_cons_self ..)
    have h3 : (passBytes p).length = 8 + 5 * p.ls.length := by unfold passBytes; rw [List.length_append, flat_lights]; rfl
    rw [List.flatMap_cons, List.length_append, List.length_cons]
    omega
set_option maxHeartbeats 8000000 in
theorem appendFrame_any (W H S O : Int) (a : Option Addr) (len cap : Nat) (ps : List Ps) (w : World) (hp : Passes w a len ps) (h12 : len ≤ 12) (hls : ∀ p ∈ ps, p.ls.length ≤ 16) :
    Calls Tryz.prog 59 #[.slice none 0 0, .agg #[.int .i64 W, .int .i64 H, .int .i64 S, .int .i64 O, .slice a len cap]] w fun e w' =>
      (∃ v', e = .returned v' ∧ w'.ownsRow w.heap.size 5 1 v' (frameBytes ⟨W, H, S, O, ps⟩).length ((frameBytes ⟨W, H, S, O, ps⟩).map (Value.int .u8))) ∧ Below w.heap.size w w' := by
  obtain rfl := hp.leng
  obtain ⟨i0, hi, hz0, hz1, hz2⟩ := info_parts Tryz.infoByte
  have hb0 := below_box (Below.refl w.heap.size w) (.cells #[.int .i64 W, .int .i64 H, .int .i64 S, .int .i64 O, .slice a ps.length cap] 35)
  have hF0 := FBox.new w W H S O a ps.length cap
  have hp1 := hp.below hb0
  have hs1 : w.heap.size + 1 ≤ (w.alloc (.cells #[.int .i64 W, .int .i64 H, .int .i64 S, .int .i64 O, .slice a ps.length cap] 35)).heap.size := by simp
  have HLS : Hid (_) := hls
  have HPL : Hid (∀ k, ((ps.take k).flatMap passBytes).length ≤ 88 * 12) := fun k => by
    have h1 := passes_len (ps := ps.take k) (fun p hp => hls p (List.mem_of_mem_take hp))
    have h2 : (ps.take k).length ≤ 12 := Nat.le_trans (List.length_take_le' k ps) h12
    omega
  clear hls hp
  go_enter Tryz.func59, Tryz.ntmps59
  go_upto_region 1 with fail
  generalize w.alloc (.cells #[.int .i64 W, .int .i64 H, .int .i64 S, .int .i64 O, .slice a ps.length cap] 35) = w1 at *
  obtain ⟨_, g0, g1, g2, g3, g4⟩ := id hF0
  have hst : BRow (w.heap.size + 1) none w1 w1 (.slice none 0 0) [] := BRow.start (v := .slice none 0 0) (World.ownsRow_nil _ _ _ _)
  go_upto_region 2 with (at_builtin; refine wpList_append_own_at _ rfl _ _ 42 rfl (w.heap.size + 1) 5 i0 (.int .u8 0) 1 1 Tryz.underlying42 hi hz0 hz1 hz2 rfl (by decide) _ _ _ rfl (hst.alloc _).own ⟨w1.heap.size, 0, none⟩ 5 5 [.int .u8 (W % 256), .int .u8 (H % 256), .int .u8 (S % 256), .int .u8 (O % 256), .int .u8 (ps.length : Int)] rfl rfl (cells_new _ _ _) (by intro u hu; simp at hu; rcases hu with rfl | rfl | rfl | rfl | rfl <;> rfl) (by unfold maxLen; simp) (by simp) (by simp; omega) ?_; intro v' w9 hown9 hgrow9 _ hat9; obtain ⟨a9, c9, hv9⟩ := owns_slice hown9; subst hv9; have RR := (hst.alloc _).push (news := [b8 W, b8 H, b8 S, b8 O, (ps.length : Int)]) rfl hown9 hgrow9 hat9)
  have hb8 : b8 ps.length = (ps.length : Int) := by unfold b8; omega
  have HFB : Hid (frameBytes ⟨W, H, S, O, ps⟩ = [b8 W, b8 H, b8 S, b8 O, (ps.length : Int)] ++ (ps.take ps.length).flatMap passBytes) := by
    show _ = _
    rw [List.take_length]
    unfold frameBytes
    dsimp only
    rw [hb8]
  have HFS : Hid (∀ k, k < ps.length → (ps.take (k + 1)).flatMap passBytes = (ps.take k).flatMap passBytes ++ passBytes (ps.getD k Ps.zero)) := fun k hk => flat_succ passBytes ps Ps.zero hk
  have HF0 : Hid (BRow (w.heap.size + 1) none w1 w9 (.slice a9 (List.length ([] : List Int) + 5) c9) ([b8 W, b8 H, b8 S, b8 O, (ps.length : Int)] ++ (ps.take 0).flatMap passBytes)) := by
    show BRow _ _ _ _ _ _
    simpa using RR
  have hbel := RR.below hs1 (fun k hk => by cases hk)
  have hF9 := hF0.below (RR.below (Nat.le_refl _) (fun k hk => by cases hk))
  clear hst g0 g1 g2 g3 g4 RR hbel hb8 hF0
  generalize (ps.length : Int) = zl at HFB HF0
  have hHD : [b8 W, b8 H, b8 S, b8 O, zl].length = 5 := rfl
  generalize [b8 W, b8 H, b8 S, b8 O, zl] = hd at *
  obtain ⟨_, g0, g1, g2, g3, g4⟩ := id hF9
  go_wp2
  clear g0 g1 g2 g3 g4 hF9
  go_loopw [0, 31] (fun u i wr => ∃ k : Nat, k ≤ ps.length ∧ i = .int .i64 k ∧ BRow (w.heap.size + 1) none w1 wr u (hd ++ (ps.take k).flatMap passBytes)) (fun _ i _ => ps.length - (intOf i).toNat)
  case atStart => exact ⟨0, Nat.zero_le _, rfl, HF0.out⟩
  case round =>
    obtain ⟨k, hk, rfl, hrow⟩ := hrel
    obtain ⟨wO, e0⟩ : ∃ z, z = wr := ⟨_, rfl⟩
    subst e0
    have hbl := HPL.out k
    obtain ⟨ua, uc, rfl⟩ := owns_slice hrow.own
    have hbel := hrow.below (Nat.le_refl _) (fun k hk => by cases hk)
    have hsz := Nat.le_trans hs1 hbel.size
    by_cases hlt : k < ps.length
    · have HK1 : Hid (_) := HFS.out k hlt
      have hkI : (k : Int) < (ps.length : Int) := by omega
      have hk0 : (0 : Int) ≤ (k : Int) := by omega
      obtain ⟨b, off, la, ll, lc, rfl, p0, p1, p2, p3, p4, p5, hLi⟩ := hp1.nth hlt
      have hblt : b < w1.heap.size := World.block_lt_of_cell? w1 _ p0
      replace p0 := (hbel.cell (p := ⟨b, off + k * 6, none⟩) hblt).trans p0
      replace p1 := (hbel.cell (p := ⟨b, off + k * 6 + 1, none⟩) hblt).trans p1
      replace p2 := (hbel.cell (p := ⟨b, off + k * 6 + 2, none⟩) hblt).trans p2
      replace p3 := (hbel.cell (p := ⟨b, off + k * 6 + 3, none⟩) hblt).trans p3
      replace p4 := (hbel.cell (p := ⟨b, off + k * 6 + 4, none⟩) hblt).trans p4
      replace p5 := (hbel.cell (p := ⟨b, off + k * 6 + 5, none⟩) hblt).trans p5
      have hl16 := HLS.out _ (getD_mem hlt Ps.zero)
      generalize ps.getD k Ps.zero = p at *
      obtain ⟨Op, To, A, B, K, ls⟩ := p
      dsimp only at p0 p1 p2 p3 p4 p5 hLi hl16
      obtain rfl := hLi.leng
      have HPB : Hid (passBytes ⟨Op, To, A, B, K, ls⟩ = [b8 Op, b8 To, b8 A, b8 B] ++ (numBy K 3 ++ ([(ls.length : Int)] ++ (ls.take ls.length).flatMap lightBytes))) := by
        show _ = _
        have e8 : b8 ls.length = (ls.length : Int) := by unfold b8; omega
        rw [numB_three, List.take_length]
        unfold passBytes
        dsimp only
        rw [e8]
        rfl
      have hB0 := PBox.new wO Op To A B K la ls.length lc
      have hst := BRow.start (World.ownsRow.alloc hrow.own (.cells #[.int .i64 Op, .int .i64 To, .int .i64 A, .int .i64 B, .int .i64 K, .slice la ls.length lc] 72))
      have hg1 := (hrow.alloc (.cells #[.int .i64 Op, .int .i64 To, .int .i64 A, .int .i64 B, .int .i64 K, .slice la ls.length lc] 72)).grew
      have hub : some wO.heap.size ≠ (Value.slice ua (hd ++ (ps.take k).flatMap passBytes).length uc).ownBlock := fun e => by
        have := (World.ownsRow.lt (w := wO) hrow.own _ e.symm).2
        omega
      have hll : (hd ++ (ps.take k).flatMap passBytes).length ≤ 5 + 88 * 12 := by rw [List.length_append]; omega
      generalize hLe : (hd ++ (ps.take k).flatMap passBytes) = L at *
      have HLe : Hid (_) := hLe
      clear hLe
      go_upto_region 5 with fail
      clear p0 p1 p2 p3 p4 p5
      have hszB : w.heap.size + 1 ≤ (wO.alloc (.cells #[.int .i64 Op, .int .i64 To, .int .i64 A, .int .i64 B, .int .i64 K, .slice la ls.length lc] 72)).heap.size := by simp; omega
      have hbB : Below w1.heap.size w1 (wO.alloc (.cells #[.int .i64 Op, .int .i64 To, .int .i64 A, .int .i64 B, .int .i64 K, .slice la ls.length lc] 72)) := below_box hbel _
      generalize wO.alloc (.cells #[.int .i64 Op, .int .i64 To, .int .i64 A, .int .i64 B, .int .i64 K, .slice la ls.length lc] 72) = wB at *
      generalize hube : (Value.slice ua L.length uc).ownBlock = rb at *
      obtain ⟨_, p0, p1, p2, p3, p4, p5⟩ := id hB0
      go_upto_region 6 with (at_builtin; refine wpList_append_own_at _ rfl _ _ 42 rfl (w.heap.size + 1) 5 i0 (.int .u8 0) 1 1 Tryz.underlying42 hi hz0 hz1 hz2 rfl (by decide) _ _ _ rfl (hst.alloc _).own ⟨wB.heap.size, 0, none⟩ 4 4 [.int .u8 (Op % 256), .int .u8 (To % 256), .int .u8 (A % 256), .int .u8 (B % 256)] rfl rfl (cells_new _ _ _) (by intro u hu; simp at hu; rcases hu with rfl | rfl | rfl | rfl <;> rfl) (by unfold maxLen; omega) (by omega) (by simp; omega) ?_; intro v5 w5 hown5 hgrow5 _ hat5; obtain ⟨a5, c5, hv5⟩ := owns_slice hown5; subst hv5; have R5 := (hst.alloc _).push (news := [b8 Op, b8 To, b8 A, b8 B]) rfl hown5 hgrow5 hat5)
      have q4 := R5.grew.cell p4 hub
      have q5 := R5.grew.cell p5 hub
      have hcn := fun v wx hr => appendNumber_any (v := v) (w := wx) (l := L ++ [b8 Op, b8 To, b8 A, b8 B]) (base := w.heap.size + 1) (r := rb) (w0 := wB) hr hszB K (many := 3) (by decide) (by simp; omega)
      clear p0 p1 p2 p3
      go_wp2_with fail
      refine (hcn _ _ R5).mono ?_
      clear hcn
      rintro e w6 ⟨v6, rfl, R6⟩
      have hM6 : ((L ++ [b8 Op, b8 To, b8 A, b8 B]) ++ numBy K 3).length ≤ 5 + 88 * 12 + 7 := by rw [numB_three]; simp; omega
      have HM6 : Hid (∀ x : Int, ((L ++ [b8 Op, b8 To, b8 A, b8 B]) ++ numBy K 3) ++ [x] = L ++ ([b8 Op, b8 To, b8 A, b8 B] ++ (numBy K 3 ++ [x]))) := fun x => by simp
      generalize ((L ++ [b8 Op, b8 To, b8 A, b8 B]) ++ numBy K 3) = M6 at *
      obtain ⟨a6, c6, rfl⟩ := owns_slice R6.own
      have s6 := Nat.le_trans hszB R6.grew.size
      have q5' := R6.grew.cell p5 hub
      clear q4 q5 R5 hown5 hgrow5 hat5
      dsimp only
      go_upto_region 8 with (at_builtin; refine wpList_append_own_at _ rfl _ _ 42 rfl (w.heap.size + 1) 5 i0 (.int .u8 0) 1 1 Tryz.underlying42 hi hz0 hz1 hz2 rfl (by decide) _ _ _ rfl (R6.alloc _).own ⟨w6.heap.size, 0, none⟩ 1 1 [.int .u8 ((ls.length : Int))] rfl rfl (cells_new _ _ _) (by intro u hu; simp at hu; rcases hu with rfl <;> rfl) (by unfold maxLen; omega) (by omega) (by simp; omega) ?_; intro v7 w7 hown7 hgrow7 _ hat7; obtain ⟨a7, c7, hv7⟩ := owns_slice hown7; subst hv7; have R7 := (R6.alloc _).push (news := [(ls.length : Int)]) rfl hown7 hgrow7 hat7)
      have q5 := R7.grew.cell p5 hub
      have hM7 : (M6 ++ [(ls.length : Int)]).length ≤ 5 + 88 * 12 + 8 := by simp; omega
      clear q5' R6 hown7 hgrow7 hat7 s6
      have HM7 : Hid (_) := HM6.out (ls.length : Int)
      clear HM6
      generalize hM7e : M6 ++ [(ls.length : Int)] = M7 at *
      clear hM7e
      have HLS2 : Hid (∀ m, m < ls.length → (ls.take (m + 1)).flatMap lightBytes = (ls.take m).flatMap lightBytes ++ lightBytes (ls.getD m Lt.zero)) := fun m hm => flat_succ lightBytes ls Lt.zero hm
      have HLL : Hid (∀ m, ((ls.take m).flatMap lightBytes).length ≤ 5 * 16) := fun m => by
        rw [flat_lights]
        have : (ls.take m).length ≤ ls.length := List.length_take_le' m ls
        omega
      have HR7 : Hid (BRow (w.heap.size + 1) rb wB w7 (.slice a7 (M6.length + 1) c7) (M7 ++ (ls.take 0).flatMap lightBytes)) := by
        show BRow _ _ _ _ _ _
        simpa using R7
      have hjo := fun (wx : World) (u : Value) (l : List Int) (h : BRow (w.heap.size + 1) rb wB wx u l) => hrow.join (by rw [hube]; exact h) hg1
      clear R7
      go_wp2
      clear q5
      go_loopw [0, 64] (fun u i wr => ∃ m : Nat, m ≤ ls.length ∧ i = .int .i64 m ∧ BRow (w.heap.size + 1) rb wB wr u (M7 ++ (ls.take m).flatMap lightBytes)) (fun _ i _ => ls.length - (intOf i).toNat)
      case atStart => exact ⟨0, Nat.zero_le _, rfl, HR7.out⟩
      case round =>
        obtain ⟨m, hm, rfl, hin⟩ := hrel
        clear HR7
        have hml := HLL.out m
        obtain ⟨ma, mc, rfl⟩ := owns_slice hin.own
        have hJ := hjo _ _ _ hin
        have hbi := hJ.below (Nat.le_refl _) (fun k hk => by cases hk)
        have hsi1 := Nat.le_trans hs1 hbi.size
        by_cases hmt : m < ls.length
        · have HL1 : Hid (_) := HLS2.out m hmt
          have hmI : (m : Int) < (ls.length : Int) := by omega
          have hm0 : (0 : Int) ≤ (m : Int) := by omega
          obtain ⟨lb, lo, rfl, _, l0, l1, l2, l3⟩ := (hLi.below hbi).nthL hmt
          generalize ls.getD m Lt.zero = lt at *
          obtain ⟨X, Y, Rr, Pw⟩ := lt
          dsimp only at l0 l1 l2 l3
          have hMl : (M7 ++ (ls.take m).flatMap lightBytes).length ≤ 2000 := by rw [List.length_append]; omega
          have HLB : Hid (lightBytes ⟨X, Y, Rr, Pw⟩ = [b8 X, b8 Y, b8 Rr] ++ numBy Pw 2) := by show _ = _; rw [numB_two]; rfl
          have hsi := BRow.start (World.ownsRow.alloc hin.own (.cells #[.int .i64 X, .int .i64 Y, .int .i64 Rr, .int .i64 Pw] 106))
          have hg2 := (hin.alloc (.cells #[.int .i64 X, .int .i64 Y, .int .i64 Rr, .int .i64 Pw] 106)).grew
          have hub2 : some wr.heap.size ≠ (Value.slice ma (M7 ++ (ls.take m).flatMap lightBytes).length mc).ownBlock := fun e => by
            have := (World.ownsRow.lt (w := wr) hin.own _ e.symm).2
            omega
          have hszI : w.heap.size + 1 ≤ (wr.alloc (.cells #[.int .i64 X, .int .i64 Y, .int .i64 Rr, .int .i64 Pw] 106)).heap.size := by simp; omega
          have c0 : (wr.alloc (.cells #[.int .i64 X, .int .i64 Y, .int .i64 Rr, .int .i64 Pw] 106)).cell? ⟨wr.heap.size, 0, none⟩ = some (.int .i64 X) := by simp [go_sem]
          have c1 : (wr.alloc (.cells #[.int .i64 X, .int .i64 Y, .int .i64 Rr, .int .i64 Pw] 106)).cell? ⟨wr.heap.size, 1, none⟩ = some (.int .i64 Y) := by simp [go_sem]
          have c2 : (wr.alloc (.cells #[.int .i64 X, .int .i64 Y, .int .i64 Rr, .int .i64 Pw] 106)).cell? ⟨wr.heap.size, 2, none⟩ = some (.int .i64 Rr) := by simp [go_sem]
          have c3 : (wr.alloc (.cells #[.int .i64 X, .int .i64 Y, .int .i64 Rr, .int .i64 Pw] 106)).cell? ⟨wr.heap.size, 3, none⟩ = some (.int .i64 Pw) := by simp [go_sem]
          have HJ2 : Hid (∀ (wx : World) (u : Value) (l : List Int), BRow (w.heap.size + 1) (Value.slice ma (M7 ++ (ls.take m).flatMap lightBytes).length mc).ownBlock (wr.alloc (.cells #[.int .i64 X, .int .i64 Y, .int .i64 Rr, .int .i64 Pw] 106)) wx u l → BRow (w.heap.size + 1) rb wB wx u l) := fun wx u l h => hin.join h hg2
          go_upto_region 11 with fail
          clear l0 l1 l2 l3 hJ hbi
          generalize hMe : M7 ++ (ls.take m).flatMap lightBytes = M8 at *
          generalize wr.alloc (.cells #[.int .i64 X, .int .i64 Y, .int .i64 Rr, .int .i64 Pw] 106) = wL at *
          generalize hmb : (Value.slice ma M8.length mc).ownBlock = rm at *
          have HMe : Hid (_) := hMe
          clear hMe hmb hin
          go_upto_region 12 with (at_builtin; refine wpList_append_own_at _ rfl _ _ 42 rfl (w.heap.size + 1) 5 i0 (.int .u8 0) 1 1 Tryz.underlying42 hi hz0 hz1 hz2 rfl (by decide) _ _ _ rfl (hsi.alloc _).own ⟨wL.heap.size, 0, none⟩ 3 3 [.int .u8 (X % 256), .int .u8 (Y % 256), .int .u8 (Rr % 256)] rfl rfl (cells_new _ _ _) (by intro u hu; simp at hu; rcases hu with rfl | rfl | rfl <;> rfl) (by unfold maxLen; omega) (by omega) (by simp; omega) ?_; intro v11 w11 hown11 hgrow11 _ hat11; obtain ⟨a11, c11, hv11⟩ := owns_slice hown11; subst hv11; have R11 := (hsi.alloc _).push (news := [b8 X, b8 Y, b8 Rr]) rfl hown11 hgrow11 hat11)
          have d3 := R11.grew.cell c3 hub2
          have hcn := fun v wx hr => appendNumber_any (v := v) (w := wx) (l := M8 ++ [b8 X, b8 Y, b8 Rr]) (base := w.heap.size + 1) (r := rm) (w0 := wL) hr hszI Pw (many := 2) (by decide) (by simp; omega)
          go_wp2_with fail
          refine (hcn _ _ R11).mono ?_
          rintro e w12 ⟨v12, rfl, R12⟩
          obtain ⟨a12, c12, rfl⟩ := owns_slice R12.own
          have HR : Hid (BRow (w.heap.size + 1) rb wB w12 (.slice a12 (M8 ++ [b8 X, b8 Y, b8 Rr] ++ numBy Pw 2).length c12) (M7 ++ (ls.take (m + 1)).flatMap lightBytes)) := by
            show BRow _ _ _ _ _ _
            rw [HL1.out, HLB.out, ← List.append_assoc, HMe.out, ← List.append_assoc]
            exact HJ2.out _ _ _ R12
          clear R11 R12 hcn HJ2 hsi hown11 hgrow11 hat11
          generalize (M8 ++ [b8 X, b8 Y, b8 Rr] ++ numBy Pw 2).length = n12 at *
          go_wp2
          go_roundw
          case rel => exact ⟨m + 1, by omega, by go_num, HR.out⟩
          case measure => simp [intOf]; omega
        · have hme : m = ls.length := by omega
          subst hme
          have HR : Hid (BRow (w.heap.size + 1) none w1 wr (.slice ma (M7 ++ (ls.take ls.length).flatMap lightBytes).length mc) (hd ++ (ps.take (k + 1)).flatMap passBytes)) := by
            show BRow _ _ _ _ _ _
            rw [HK1.out, ← List.append_assoc, HLe.out, HPB.out]
            have e : M7 ++ (ls.take ls.length).flatMap lightBytes = L ++ ([b8 Op, b8 To, b8 A, b8 B] ++ (numBy K 3 ++ ([(ls.length : Int)] ++ (ls.take ls.length).flatMap lightBytes))) := by rw [HM7.out]; simp
            rw [← e]
            exact hJ
          generalize (M7 ++ (ls.take ls.length).flatMap lightBytes).length = n9 at *
          clear hJ hjo
          go_wp2
          go_roundw
          case rel => exact ⟨k + 1, by omega, by go_num, HR.out⟩
          case measure => simp [intOf]; omega
    · have hke : k = ps.length := by omega
      subst hke
      have HF : Hid (wO.ownsRow w.heap.size 5 1 (.slice ua (hd ++ (ps.take ps.length).flatMap passBytes).length uc) (frameBytes ⟨W, H, S, O, ps⟩).length ((frameBytes ⟨W, H, S, O, ps⟩).map (Value.int .u8))) := by
        show World.ownsRow _ _ _ _ _ _ _
        rw [HFB.out]
        exact row_mono hrow.own (Nat.le_succ _)
      have hbw := below_step hb0 hbel
      generalize (hd ++ (ps.take ps.length).flatMap passBytes).length = nn at *
      go_wp2
      go_ret
      exact ⟨⟨_, rfl, HF.out⟩, hbw⟩
end Go.Proofs.YtaenpgdmiaekcaaGreatDoor
/-
  WIREWRITE: wire.Write.
-/
namespace Go.Proofs.YtaenpgdmiaekcaaGreatDoor
set_option maxRecDepth 100000
open Go.RowKit Im

theorem lights16 {f : Fr} (hE : frameE f = 0) : ∀ p ∈ f.ps, p.ls.length ≤ 16 := by
  intro p hp
  obtain ⟨k, hk, e⟩ := List.mem_iff_getElem.1 hp
  have e' : f.ps.getD k Ps.zero = p := by rw [List.getD_eq_getElem?_getD, List.getElem?_eq_getElem hk, e]; rfl
  obtain ⟨_, hfirst, _⟩ := frameE_zero hE
  have hfk := firstE_down f hfirst (k := k) (by omega)
  have hpE : passE f k = 0 := (firstE_at f hfk).symm.trans (firstE_down f hfirst (k := k + 1) (by omega))
  obtain ⟨o1, _⟩ := passE_zero hpE
  obtain ⟨_, _, _, hl, hbare, _⟩ := ownE_zero o1
  rw [e'] at hl hbare
  by_cases h : hasL p.Op = true
  · have h2 := hl h
    unfold lightsErr at h2
    by_cases h8 : p.ls.length ≤ 8
    · omega
    · rw [if_neg h8] at h2; cases h2
  · unfold bareB at hbare
    rw [eq_false_of_ne_true h] at hbare
    simp only [Bool.and_eq_true, Bool.false_or, decide_eq_true_eq] at hbare
    omega
def wireS (f : Fr) : ByteArray := if frameE f = 0 then strOfNums (frameBytes f) else ByteArray.empty
theorem row_bytes {base : Nat} {w : World} {v : Value} {l : List Int} (h : w.ownsRow base 5 1 v l.length (l.map (Value.int .u8))) (hl : l ≠ []) : ∃ b c, v = .slice (some ⟨b, 0, none⟩) l.length c ∧ ∀ i, i < l.length → w.cell? ⟨b, 0 + i, none⟩ = some (.int .u8 (l.getD i 0)) := by
  obtain ⟨h1, h2⟩ := h
  rcases h2 with ⟨rfl, h0⟩ | ⟨g, cap, cur, rfl, hg, hh, hc, hm, hs, ht⟩
  · exact absurd (List.length_eq_zero_iff.1 h0) hl
  · refine ⟨g, cap, rfl, fun j hj => ?_⟩
    have := World.ownsRow.cellAt (base := base) (e := 5) (size := 1) ⟨h1, .inr ⟨g, cap, cur, rfl, hg, hh, hc, hm, hs, ht⟩⟩ j (by simpa using hj)
    rw [Nat.zero_add, this]
    simp [hj]
set_option maxHeartbeats 2000000 in
theorem write_any (W H S O : Int) (a : Option Addr) (len cap : Nat) (ps : List Ps) (w : World) (hp : Passes w a len ps) :
    Calls Tryz.prog 25 #[.agg #[.int .i64 W, .int .i64 H, .int .i64 S, .int .i64 O, .slice a len cap]] w fun e w' =>
      e = .returned (.tuple #[.string (wireS ⟨W, H, S, O, ps⟩), .int .i64 (frameE ⟨W, H, S, O, ps⟩)]) ∧ Below w.heap.size w w' := by
  obtain rfl := hp.leng
  have hb0 := below_box (Below.refl w.heap.size w) (.cells #[.int .i64 W, .int .i64 H, .int .i64 S, .int .i64 O, .slice a ps.length cap] 35)
  have hF0 := FBox.new w W H S O a ps.length cap
  have hck := frameCheck_any W H S O a ps.length cap ps _ (hp.below hb0)
  go_enter Tryz.func25, Tryz.ntmps25
  go_wp2_with fail
  refine hck.mono ?_
  clear hck
  rintro e w1 ⟨rfl, b1⟩
  have hb1 := below_step hb0 b1
  by_cases hE : frameE ⟨W, H, S, O, ps⟩ = 0
  · have h12 : ps.length ≤ 12 := by
      obtain ⟨hb, _, _⟩ := frameE_zero hE
      exact (boundsE_zero hb).2.2.2.2.2
    have haf := appendFrame_any W H S O a ps.length cap ps w1 (hp.below hb1) h12 (lights16 hE)
    have HW : Hid (wireS ⟨W, H, S, O, ps⟩ = strOfNums (frameBytes ⟨W, H, S, O, ps⟩)) := by show _ = _; unfold wireS; rw [if_pos hE]
    have hne : frameBytes ⟨W, H, S, O, ps⟩ ≠ [] := by unfold frameBytes; simp
    obtain ⟨_, g0, g1, g2, g3, g4⟩ := hF0.below b1
    have HE : Hid (_) := hE
    rw [hE]
    generalize frameBytes ⟨W, H, S, O, ps⟩ = bs at *
    go_wp2_with fail
    refine haf.mono ?_
    rintro e w2 ⟨⟨v2, rfl, hown⟩, b2⟩
    obtain ⟨rb, rc, rfl, hcell⟩ := row_bytes hown hne
    have hcv := run_convert_bytes_arg (P := Tryz.prog) w2 42 5 Tryz.underlying42 Tryz.underlying5 rb 0 bs.length rc bs rfl hcell 9 Tryz.underlying9
    have HB : Hid (_) := below_step hb1 b2
    clear hown hcell haf
    go_wp2
    go_ret2
    exact ⟨by rw [HW.out, HE.out]; rfl, HB.out⟩
  · have HW : Hid (wireS ⟨W, H, S, O, ps⟩ = ByteArray.empty) := by show _ = _; unfold wireS; rw [if_neg hE]
    go_wp2
    go_ret2
    exact ⟨by rw [HW.out]; rfl, hb1⟩
end Go.Proofs.YtaenpgdmiaekcaaGreatDoor
/-
  WIREREF: the reference's FrameBytes.
-/
namespace Go.Proofs.YtaenpgdmiaekcaaGreatDoor
set_option maxRecDepth 100000
open Go.RowKit Im

set_option maxHeartbeats 8000000 in
theorem frameBytes_any (W H S O : Int) (a : Option Addr) (len cap : Nat) (ps : List Ps) (w : World) (hp : Passes w a len ps) (h12 : len ≤ 12) (hls : ∀ p ∈ ps, p.ls.length ≤ 16) :
    Calls Tryz.prog 51 #[.agg #[.int .i64 W, .int .i64 H, .int .i64 S, .int .i64 O, .slice a len cap]] w fun e w' =>
      e = .returned (.string (strOfNums (frameBytes ⟨W, H, S, O, ps⟩))) ∧ Below w.heap.size w w' := by
  obtain rfl := hp.leng
  obtain ⟨i0, hi, hz0, hz1, hz2⟩ := info_parts Tryz.infoByte
  have hb0 := below_box (Below.refl w.heap.size w) (.cells #[.int .i64 W, .int .i64 H, .int .i64 S, .int .i64 O, .slice a ps.length cap] 35)
  have hF0 := FBox.new w W H S O a ps.length cap
  have hp1 := hp.below hb0
  have hs1 : w.heap.size + 1 ≤ (w.alloc (.cells #[.int .i64 W, .int .i64 H, .int .i64 S, .int .i64 O, .slice a ps.length cap] 35)).heap.size := by simp
  have HLS : Hid (_) := hls
  have HPL : Hid (∀ k, ((ps.take k).flatMap passBytes).length ≤ 88 * 12) := fun k => by
    have h1 := passes_len (ps := ps.take k) (fun p hp => hls p (List.mem_of_mem_take hp))
    have h2 : (ps.take k).length ≤ 12 := Nat.le_trans (List.length_take_le' k ps) h12
    omega
  clear hls hp
  go_enter Tryz.func51, Tryz.ntmps51
  go_upto_region 1 with fail
  generalize w.alloc (.cells #[.int .i64 W, .int .i64 H, .int .i64 S, .int .i64 O, .slice a ps.length cap] 35) = w1 at *
  obtain ⟨_, g0, g1, g2, g3, g4⟩ := id hF0
  have hrow0 : BRow (w.heap.size + 1) none w1 (w1.alloc (.cells #[.int .u8 (W % 256), .int .u8 (H % 256), .int .u8 (S % 256), .int .u8 (O % 256), .int .u8 (ps.length : Int)] 5)) (.slice (some ⟨w1.heap.size, 0, none⟩) 5 5) [b8 W, b8 H, b8 S, b8 O, (ps.length : Int)] :=
    ⟨⟨rfl, .inr ⟨w1.heap.size, 5, _, rfl, hs1, heap_alloc_new w1 _, Nat.le_refl _, by unfold maxLen; omega, rfl, rfl⟩⟩, ⟨rfl, rfl, rfl, by simp, fun k hk _ => Below.heap_alloc _ _ _ hk⟩, .inr ⟨w1.heap.size, rfl, Nat.le_refl _⟩⟩
  have hb8 : b8 ps.length = (ps.length : Int) := by unfold b8; omega
  have HFB : Hid (frameBytes ⟨W, H, S, O, ps⟩ = [b8 W, b8 H, b8 S, b8 O, (ps.length : Int)] ++ (ps.take ps.length).flatMap passBytes) := by
    show _ = _
    rw [List.take_length]
    unfold frameBytes
    dsimp only
    rw [hb8]
  have HFS : Hid (∀ k, k < ps.length → (ps.take (k + 1)).flatMap passBytes = (ps.take k).flatMap passBytes ++ passBytes (ps.getD k Ps.zero)) := fun k hk => flat_succ passBytes ps Ps.zero hk
  have HF0 : Hid (BRow (w.heap.size + 1) none w1 (w1.alloc (.cells #[.int .u8 (W % 256), .int .u8 (H % 256), .int .u8 (S % 256), .int .u8 (O % 256), .int .u8 (ps.length : Int)] 5)) (.slice (some ⟨w1.heap.size, 0, none⟩) 5 5) ([b8 W, b8 H, b8 S, b8 O, (ps.length : Int)] ++ (ps.take 0).flatMap passBytes)) := by
    show BRow _ _ _ _ _ _
    simpa using hrow0
  clear hrow0 hb8
  have hHD : [b8 W, b8 H, b8 S, b8 O, (ps.length : Int)].length = 5 := rfl
  generalize [b8 W, b8 H, b8 S, b8 O, (ps.length : Int)] = hd at *
  go_wp2
  clear g0 g1 g2 g3 g4
  go_loopw [3, 4] (fun u i wr => ∃ k : Nat, k ≤ ps.length ∧ i = .int .i64 k ∧ BRow (w.heap.size + 1) none w1 wr u (hd ++ (ps.take k).flatMap passBytes)) (fun _ i _ => ps.length - (intOf i).toNat)
  case atStart => exact ⟨0, Nat.zero_le _, rfl, HF0.out⟩
  case round =>
    obtain ⟨k, hk, rfl, hrow⟩ := hrel
    clear HF0
    obtain ⟨wO, e0⟩ : ∃ z, z = wr := ⟨_, rfl⟩
    subst e0
    have hbl := HPL.out k
    obtain ⟨ua, uc, rfl⟩ := owns_slice hrow.own
    have hbel := hrow.below (Nat.le_refl _) (fun k hk => by cases hk)
    have hsz := Nat.le_trans hs1 hbel.size
    obtain ⟨_, g0, g1, g2, g3, g4⟩ := hF0.below hbel
    by_cases hlt : k < ps.length
    · have HK1 : Hid (_) := HFS.out k hlt
      have hkI : (k : Int) < (ps.length : Int) := by omega
      have hk0 : (0 : Int) ≤ (k : Int) := by omega
      obtain ⟨b, off, la, ll, lc, rfl, p0, p1, p2, p3, p4, p5, hLi⟩ := hp1.nth hlt
      have hblt : b < w1.heap.size := World.block_lt_of_cell? w1 _ p0
      replace p0 := (hbel.cell (p := ⟨b, off + k * 6, none⟩) hblt).trans p0
      replace p1 := (hbel.cell (p := ⟨b, off + k * 6 + 1, none⟩) hblt).trans p1
      replace p2 := (hbel.cell (p := ⟨b, off + k * 6 + 2, none⟩) hblt).trans p2
      replace p3 := (hbel.cell (p := ⟨b, off + k * 6 + 3, none⟩) hblt).trans p3
      replace p4 := (hbel.cell (p := ⟨b, off + k * 6 + 4, none⟩) hblt).trans p4
      replace p5 := (hbel.cell (p := ⟨b, off + k * 6 + 5, none⟩) hblt).trans p5
      have hl16 := HLS.out _ (getD_mem hlt Ps.zero)
      generalize ps.getD k Ps.zero = p at *
      obtain ⟨Op, To, A, B, K, ls⟩ := p
      dsimp only at p0 p1 p2 p3 p4 p5 hLi hl16
      obtain rfl := hLi.leng
      have HPB : Hid (passBytes ⟨Op, To, A, B, K, ls⟩ = [b8 Op, b8 To, b8 A, b8 B, b8 (K / 65536), b8 (K / 256), b8 K, (ls.length : Int)] ++ (ls.take ls.length).flatMap lightBytes) := by
        show _ = _
        have e8 : b8 ls.length = (ls.length : Int) := by unfold b8; omega
        rw [List.take_length]
        unfold passBytes
        dsimp only
        rw [e8]
      have hB0 := PBox.new wO Op To A B K la ls.length lc
      have hst := BRow.start (World.ownsRow.alloc hrow.own (.cells #[.int .i64 Op, .int .i64 To, .int .i64 A, .int .i64 B, .int .i64 K, .slice la ls.length lc] 72))
      have hg1 := (hrow.alloc (.cells #[.int .i64 Op, .int .i64 To, .int .i64 A, .int .i64 B, .int .i64 K, .slice la ls.length lc] 72)).grew
      have hub : some wO.heap.size ≠ (Value.slice ua (hd ++ (ps.take k).flatMap passBytes).length uc).ownBlock := fun e => by
        have := (World.ownsRow.lt (w := wO) hrow.own _ e.symm).2
        omega
      have hll : (hd ++ (ps.take k).flatMap passBytes).length ≤ 5 + 88 * 12 := by rw [List.length_append]; omega
      generalize hLe : (hd ++ (ps.take k).flatMap passBytes) = L at *
      have HLe : Hid (_) := hLe
      clear hLe
      go_upto_region 6 with fail
      clear p0 p1 p2 p3 p4 p5 g0 g1 g2 g3 g4
      have hszB : w.heap.size + 1 ≤ (wO.alloc (.cells #[.int .i64 Op, .int .i64 To, .int .i64 A, .int .i64 B, .int .i64 K, .slice la ls.length lc] 72)).heap.size := by simp; omega
      generalize wO.alloc (.cells #[.int .i64 Op, .int .i64 To, .int .i64 A, .int .i64 B, .int .i64 K, .slice la ls.length lc] 72) = wB at *
      generalize hube : (Value.slice ua L.length uc).ownBlock = rb at *
      obtain ⟨_, p0, p1, p2, p3, p4, p5⟩ := id hB0
      go_upto_region 7 with (at_builtin; refine wpList_append_own_at _ rfl _ _ 42 rfl (w.heap.size + 1) 5 i0 (.int .u8 0) 1 1 Tryz.underlying42 hi hz0 hz1 hz2 rfl (by decide) _ _ _ rfl (hst.alloc _).own ⟨wB.heap.size, 0, none⟩ 8 8 [.int .u8 (Op % 256), .int .u8 (To % 256), .int .u8 (A % 256), .int .u8 (B % 256), .int .u8 (K / 65536 % 256), .int .u8 (K / 256 % 256), .int .u8 (K % 256), .int .u8 ((ls.length : Int))] rfl rfl (cells_new _ _ _) (by intro u hu; simp at hu; rcases hu with rfl | rfl | rfl | rfl | rfl | rfl | rfl | rfl <;> rfl) (by unfold maxLen; omega) (by omega) (by simp; omega) ?_; intro v5 w5 hown5 hgrow5 _ hat5; obtain ⟨a5, c5, hv5⟩ := owns_slice hown5; subst hv5; have R5 := (hst.alloc _).push (news := [b8 Op, b8 To, b8 A, b8 B, b8 (K / 65536), b8 (K / 256), b8 K, (ls.length : Int)]) rfl hown5 hgrow5 hat5)
      clear p0 p1 p2 p3 p4
      have hM7 : (L ++ [b8 Op, b8 To, b8 A, b8 B, b8 (K / 65536), b8 (K / 256), b8 K, (ls.length : Int)]).length ≤ 5 + 88 * 12 + 8 := by simp; omega
      have HM7 : Hid (∀ l : List Int, (L ++ [b8 Op, b8 To, b8 A, b8 B, b8 (K / 65536), b8 (K / 256), b8 K, (ls.length : Int)]) ++ l = L ++ ([b8 Op, b8 To, b8 A, b8 B, b8 (K / 65536), b8 (K / 256), b8 K, (ls.length : Int)] ++ l)) := fun l => List.append_assoc _ _ _
      have HLS2 : Hid (∀ m, m < ls.length → (ls.take (m + 1)).flatMap lightBytes = (ls.take m).flatMap lightBytes ++ lightBytes (ls.getD m Lt.zero)) := fun m hm => flat_succ lightBytes ls Lt.zero hm
      have HLL : Hid (∀ m, ((ls.take m).flatMap lightBytes).length ≤ 5 * 16) := fun m => by
        rw [flat_lights]
        have : (ls.take m).length ≤ ls.length := List.length_take_le' m ls
        omega
      have HR7 : Hid (BRow (w.heap.size + 1) rb wB w5 (.slice a5 (L.length + 8) c5) ((L ++ [b8 Op, b8 To, b8 A, b8 B, b8 (K / 65536), b8 (K / 256), b8 K, (ls.length : Int)]) ++ (ls.take 0).flatMap lightBytes)) := by
        show BRow _ _ _ _ _ _
        rw [List.take_zero, List.flatMap_nil, List.append_nil]
        exact R5
      generalize (L ++ [b8 Op, b8 To, b8 A, b8 B, b8 (K / 65536), b8 (K / 256), b8 K, (ls.length : Int)]) = M7 at *
      have hjo := fun (wx : World) (u : Value) (l : List Int) (h : BRow (w.heap.size + 1) rb wB wx u l) => hrow.join (by rw [hube]; exact h) hg1
      clear R5 hown5 hgrow5 hat5
      go_wp2
      go_loopw [3, 6] (fun u i wr => ∃ m : Nat, m ≤ ls.length ∧ i = .int .i64 m ∧ BRow (w.heap.size + 1) rb wB wr u (M7 ++ (ls.take m).flatMap lightBytes)) (fun _ i _ => ls.length - (intOf i).toNat)
      case atStart => exact ⟨0, Nat.zero_le _, rfl, HR7.out⟩
      case round =>
        obtain ⟨m, hm, rfl, hin⟩ := hrel
        clear HR7
        have hml := HLL.out m
        obtain ⟨ma, mc, rfl⟩ := owns_slice hin.own
        have hJ := hjo _ _ _ hin
        have hbi := hJ.below (Nat.le_refl _) (fun k hk => by cases hk)
        have hsi1 := Nat.le_trans hs1 hbi.size
        have q5 := hin.grew.cell p5 hub
        by_cases hmt : m < ls.length
        · have HL1 : Hid (_) := HLS2.out m hmt
          have hmI : (m : Int) < (ls.length : Int) := by omega
          have hm0 : (0 : Int) ≤ (m : Int) := by omega
          obtain ⟨lb, lo, rfl, _, l0, l1, l2, l3⟩ := (hLi.below hbi).nthL hmt
          generalize ls.getD m Lt.zero = lt at *
          obtain ⟨X, Y, Rr, Pw⟩ := lt
          dsimp only at l0 l1 l2 l3
          have hMl : (M7 ++ (ls.take m).flatMap lightBytes).length ≤ 2000 := by rw [List.length_append]; omega
          have HLB : Hid (lightBytes ⟨X, Y, Rr, Pw⟩ = [b8 X, b8 Y, b8 Rr, b8 (Pw / 256), b8 Pw]) := rfl
          have hsi := BRow.start (World.ownsRow.alloc hin.own (.cells #[.int .i64 X, .int .i64 Y, .int .i64 Rr, .int .i64 Pw] 106))
          have hg2 := (hin.alloc (.cells #[.int .i64 X, .int .i64 Y, .int .i64 Rr, .int .i64 Pw] 106)).grew
          have c0 : (wr.alloc (.cells #[.int .i64 X, .int .i64 Y, .int .i64 Rr, .int .i64 Pw] 106)).cell? ⟨wr.heap.size, 0, none⟩ = some (.int .i64 X) := by simp [go_sem]
          have c1 : (wr.alloc (.cells #[.int .i64 X, .int .i64 Y, .int .i64 Rr, .int .i64 Pw] 106)).cell? ⟨wr.heap.size, 1, none⟩ = some (.int .i64 Y) := by simp [go_sem]
          have c2 : (wr.alloc (.cells #[.int .i64 X, .int .i64 Y, .int .i64 Rr, .int .i64 Pw] 106)).cell? ⟨wr.heap.size, 2, none⟩ = some (.int .i64 Rr) := by simp [go_sem]
          have c3 : (wr.alloc (.cells #[.int .i64 X, .int .i64 Y, .int .i64 Rr, .int .i64 Pw] 106)).cell? ⟨wr.heap.size, 3, none⟩ = some (.int .i64 Pw) := by simp [go_sem]
          have hszI : w.heap.size + 1 ≤ (wr.alloc (.cells #[.int .i64 X, .int .i64 Y, .int .i64 Rr, .int .i64 Pw] 106)).heap.size := by simp; omega
          have HJ2 : Hid (∀ (wx : World) (u : Value) (l : List Int), BRow (w.heap.size + 1) (Value.slice ma (M7 ++ (ls.take m).flatMap lightBytes).length mc).ownBlock (wr.alloc (.cells #[.int .i64 X, .int .i64 Y, .int .i64 Rr, .int .i64 Pw] 106)) wx u l → BRow (w.heap.size + 1) rb wB wx u l) := fun wx u l h => hin.join h hg2
          go_upto_region 11 with fail
          clear l0 l1 l2 l3 hJ hbi q5
          generalize hMe : M7 ++ (ls.take m).flatMap lightBytes = M8 at *
          generalize wr.alloc (.cells #[.int .i64 X, .int .i64 Y, .int .i64 Rr, .int .i64 Pw] 106) = wL at *
          generalize hmb : (Value.slice ma M8.length mc).ownBlock = rm at *
          have HMe : Hid (_) := hMe
          clear hMe hmb hin
          go_wp2_with (at_builtin; refine wpList_append_own_at _ rfl _ _ 42 rfl (w.heap.size + 1) 5 i0 (.int .u8 0) 1 1 Tryz.underlying42 hi hz0 hz1 hz2 rfl (by decide) _ _ _ rfl (hsi.alloc _).own ⟨wL.heap.size, 0, none⟩ 5 5 [.int .u8 (X % 256), .int .u8 (Y % 256), .int .u8 (Rr % 256), .int .u8 (Pw / 256 % 256), .int .u8 (Pw % 256)] rfl rfl (cells_new _ _ _) (by intro u hu; simp at hu; rcases hu with rfl | rfl | rfl | rfl | rfl <;> rfl) (by unfold maxLen; omega) (by omega) (by simp; omega) ?_; intro v11 w11 hown11 hgrow11 _ hat11; obtain ⟨a11, c11, hv11⟩ := owns_slice hown11; subst hv11; have R11 := (hsi.alloc _).push (news := [b8 X, b8 Y, b8 Rr, b8 (Pw / 256), b8 Pw]) rfl hown11 hgrow11 hat11)
          have HR : Hid (BRow (w.heap.size + 1) rb wB w11 (.slice a11 (M8.length + 5) c11) (M7 ++ (ls.take (m + 1)).flatMap lightBytes)) := by
            show BRow _ _ _ _ _ _
            rw [HL1.out, HLB.out, ← List.append_assoc, HMe.out]
            exact HJ2.out _ _ _ R11
          clear R11 HJ2 hsi hown11 hgrow11 hat11
          go_roundw
          case rel => exact ⟨m + 1, by omega, by go_num, HR.out⟩
          case measure => simp [intOf]; omega
        · have hme : m = ls.length := by omega
          subst hme
          have HR : Hid (BRow (w.heap.size + 1) none w1 wr (.slice ma (M7 ++ (ls.take ls.length).flatMap lightBytes).length mc) (hd ++ (ps.take (k + 1)).flatMap passBytes)) := by
            show BRow _ _ _ _ _ _
            rw [HK1.out, ← List.append_assoc, HLe.out, HPB.out, ← HM7.out]
            exact hJ
          generalize (M7 ++ (ls.take ls.length).flatMap lightBytes).length = n9 at *
          clear hJ hjo
          go_wp2
          go_roundw
          case rel => exact ⟨k + 1, by omega, by go_num, HR.out⟩
          case measure => simp [intOf]; omega
    · have hke : k = ps.length := by omega
      subst hke
      have hne : hd ++ (ps.take ps.length).flatMap passBytes ≠ [] := fun e => by rw [List.append_eq_nil_iff] at e; rw [e.1] at hHD; cases hHD
      obtain ⟨rb, rc, hve, hcell⟩ := row_bytes hrow.own hne
      injection hve with e1 _ e2
      subst e1 e2
      rw [← HFB.out] at hcell ⊢
      have hcv := run_convert_bytes_arg (P := Tryz.prog) wO 42 5 Tryz.underlying42 Tryz.underlying5 rb 0 _ uc (frameBytes ⟨W, H, S, O, ps⟩) rfl hcell 9 Tryz.underlying9
      have HB : Hid (_) := below_step hb0 hbel
      clear hrow hcell hne HFB
      go_wp2
      go_ret
      exact ⟨rfl, HB.out⟩
end Go.Proofs.YtaenpgdmiaekcaaGreatDoor
/-
  WIRERD: strings of bytes; wire.reader's number where too few are left.
-/
namespace Go.Proofs.YtaenpgdmiaekcaaGreatDoor
set_option maxRecDepth 100000
open Go.RowKit Im

theorem str_at {r : List Int} (h : Bytes r) {i : Nat} (hi : i < (strOfNums r).size) : (((strOfNums r)[i]'hi).toNat : Int) = r.getD i 0 := by
  have hl : i < r.length := by rw [strOfNums_size] at hi; exact hi
  have hb := h _ (List.getElem_mem hl)
  have e : (strOfNums r)[i]'hi = UInt8.ofNat (r[i]).toNat := by
    have hd : (strOfNums r).data[i]? = some (UInt8.ofNat (r[i]).toNat) := by
      rw [← Array.getElem?_toList, strOfNums_data]
      simp [hl]
    show (strOfNums r).data[i]'hi = _
    exact Option.some.inj ((Array.getElem?_eq_getElem (xs := (strOfNums r).data) hi).symm.trans hd)
  rw [e, List.getD_eq_getElem?_getD, List.getElem?_eq_getElem hl]
  simp only [Option.getD_some, UInt8.toNat_ofNat']
  omega
theorem str_cut (r : List Int) (k : Nat) : (strOfNums r).extract k (strOfNums r).size = strOfNums (r.drop k) := by
  apply ByteArray.ext
  rw [ByteArray.data_extract]
  unfold strOfNums
  simp [ByteArray.size]
  exact List.take_of_length_le (by simp)
theorem nat_or {a b : Nat} (hb : b < 256) : (256 * a) ||| b = 256 * a + b := by
  have := Nat.shiftLeft_add_eq_or_of_lt (i := 8) (b := b) (by simpa using hb) a
  rw [Nat.shiftLeft_eq] at this
  rw [Nat.mul_comm 256 a]
  simpa using this.symm
set_option maxHeartbeats 1000000 in
theorem number_short {b : Nat} {w : World} {s : ByteArray} (hc : w.cell? ⟨b, 0, none⟩ = some (.string s)) {many : Nat} (hm : s.size < many) :
    Calls Tryz.prog 95 #[.pointer (some ⟨b, 0, none⟩), .int .i64 many] w fun e w' => e = .panicked [{ v := .iface 25 (.int .i64 1), recovered := false }] ∧ w' = w := by
  have hI : (s.size : Int) < (many : Int) := by omega
  go_enter Tryz.func95, Tryz.ntmps95
  go_wp2
  exact ⟨rfl, rfl, rfl⟩
end Go.Proofs.YtaenpgdmiaekcaaGreatDoor
/-
  WIRERD2: wire.reader's number.
-/
namespace Go.Proofs.YtaenpgdmiaekcaaGreatDoor
set_option maxRecDepth 100000
open Go.RowKit Im

theorem or256 (a b : Nat) (ha : a < 16777216) (hb : b < 256) : bits .or .i64 ((256 * a : Nat) : Int) (b : Int) = ((256 * a + b : Nat) : Int) := by
  show IntKind.i64.wrap ((BitVec.ofInt 64 ((256 * a : Nat) : Int) ||| BitVec.ofInt 64 (b : Int)).toNat : Int) = _
  rw [BitVec.toNat_or, ofInt_u64 (256 * a) (by omega), ofInt_u64 b (by omega), nat_or hb, IntKind.wrap_i64]
  omega
/-- The number that k bytes are. -/
def numI (r : List Int) : Nat → Int
  | 0 => 0
  | k + 1 => 256 * numI r k + r.getD k 0
theorem numI_bd {r : List Int} (h : Bytes r) : ∀ k, 0 ≤ numI r k ∧ numI r k < 256 ^ k
  | 0 => by simp [numI]
  | k + 1 => by
    have ih := numI_bd h k
    have hb := h.at k
    have e : (256 : Int) ^ (k + 1) = 256 ^ k * 256 := by rw [Int.pow_succ]
    unfold numI
    omega
set_option maxHeartbeats 2000000 in
theorem number_ok {b : Nat} {w : World} {r : List Int} (hr : Bytes r) (hrl : r.length ≤ 4096) (hc : w.cell? ⟨b, 0, none⟩ = some (.string (strOfNums r))) (hf : w.frozen? ⟨b, 0, none⟩ = false) {many : Nat} (hm : many ≤ r.length) (hm3 : many ≤ 3) :
    Calls Tryz.prog 95 #[.pointer (some ⟨b, 0, none⟩), .int .i64 many] w fun e w' => e = .returned (.int .i64 (numI r many)) ∧ w' = w.setCell ⟨b, 0, none⟩ (.string (strOfNums (r.drop many))) := by
  have hs : (strOfNums r).size = r.length := strOfNums_size r
  have hI : ¬ (r.length : Int) < (many : Int) := by omega
  have HCUT : Hid (_) := str_cut r many
  have HAT : Hid (∀ i (hi : i < (strOfNums r).size), (((strOfNums r)[i]'hi).toNat : Int) = r.getD i 0) := fun i hi => str_at hr hi
  have HBD : Hid (_) := fun k => numI_bd hr k
  go_enter Tryz.func95, Tryz.ntmps95
  go_wp2
  go_loopw [5, 16] (fun x i wr => ∃ k : Nat, k ≤ many ∧ i = .int .i64 k ∧ x = .int .i64 (numI r k) ∧ wr = w) (fun _ i _ => many - (intOf i).toNat)
  case atStart => exact ⟨0, Nat.zero_le _, rfl, rfl, rfl⟩
  case round =>
    obtain ⟨k, hk, rfl, rfl, rfl⟩ := hrel
    by_cases hlt : k < many
    · have hbd := HBD.out k
      have hkI : (k : Int) < (many : Int) := by omega
      have hk0 : (0 : Int) ≤ (k : Int) := by omega
      have hks : (k : Int) < (r.length : Int) := by omega
      have hks2 : k < (strOfNums r).size := by omega
      have hsm : numI r k < 65536 := by
        have hk2 : k = 0 ∨ k = 1 ∨ k = 2 := by omega
        rcases hk2 with rfl | rfl | rfl
        · have := hbd.2; simp at this; omega
        · have := hbd.2; simp at this; omega
        · have := hbd.2; simp at this; omega
      have hat := HAT.out k hks2
      have hby := hr.at k
      have HE : Hid (bits BinOp.or IntKind.i64 (wrap64 (numI r k * 256)) (wrap64 (((strOfNums r)[k]'hks2).toNat : Int)) = numI r (k + 1)) := by
        show _ = _
        have e1 : wrap64 (numI r k * 256) = ((256 * (numI r k).toNat : Nat) : Int) := by unfold wrap64; omega
        have e2 : wrap64 (((strOfNums r)[k]'hks2).toNat : Int) = ((r.getD k 0).toNat : Int) := by rw [hat]; unfold wrap64; omega
        rw [e1, e2, or256 _ _ (by omega) (by omega)]
        show _ = 256 * numI r k + r.getD k 0
        omega
      clear hat hby hsm hbd
      go_wp2
      exact ⟨⟨k + 1, by omega, by go_num, by rw [HE.out], trivial⟩, by simp [intOf]; omega⟩
    · have hke : k = many := by omega
      subst hke
      go_wp2
      go_ret
      exact ⟨rfl, by rw [← HCUT.out, hs]⟩
end Go.Proofs.YtaenpgdmiaekcaaGreatDoor
/-
  WIRERD3: a reader in its box; wire.reader's number and signed, told by it.
-/
namespace Go.Proofs.YtaenpgdmiaekcaaGreatDoor
set_option maxRecDepth 100000
open Go.RowKit Im

/-- The reader in block b has the bytes r before it. -/
structure RdB (w : World) (b : Nat) (r : List Int) : Prop where
  cell : w.cell? ⟨b, 0, none⟩ = some (.string (strOfNums r))
  fz : w.frozen? ⟨b, 0, none⟩ = false
  bytes : Bytes r
  few : r.length ≤ 4096
theorem Bytes.drop {r : List Int} (h : Bytes r) (k : Nat) : Bytes (r.drop k) := fun x hx => h x (List.mem_of_mem_drop hx)
theorem RdB.put {w : World} {b : Nat} {r : List Int} (h : RdB w b r) (k : Nat) : RdB (w.setCell ⟨b, 0, none⟩ (.string (strOfNums (r.drop k)))) b (r.drop k) :=
  ⟨set_same h.cell, by simpa using h.fz, h.bytes.drop k, by rw [List.length_drop]; have := h.few; omega⟩
theorem RdB.grown {w w' : World} {b : Nat} {r : List Int} {row : Option Nat} (h : RdB w b r) (hg : w.grownBy w' row) (hne : some b ≠ row) : RdB w' b r :=
  ⟨hg.cell h.cell hne, (World.frozen?_of_block (a := ⟨b, 0, none⟩) (hg.block b (World.block_lt_of_cell? w _ h.cell) hne)).trans h.fz, h.bytes, h.few⟩
/-- What the reader panics with. -/
def rdStopped : Ending := .panicked [{ v := .iface 25 (.int .i64 1), recovered := false }]
theorem number_any {b : Nat} {w : World} {r : List Int} (h : RdB w b r) {many : Nat} (hm3 : many ≤ 3) :
    Calls Tryz.prog 95 #[.pointer (some ⟨b, 0, none⟩), .int .i64 many] w fun e w' =>
      ((many ≤ r.length ∧ e = .returned (.int .i64 (numI r many)) ∧ RdB w' b (r.drop many)) ∨ (r.length < many ∧ e = rdStopped)) ∧ w.grownBy w' (some b) := by
  by_cases hm : many ≤ r.length
  · refine (number_ok h.bytes h.few h.cell h.fz hm hm3).mono ?_
    rintro e w' ⟨rfl, rfl⟩
    exact ⟨.inl ⟨hm, rfl, h.put many⟩, grownBy_setCell' w b _⟩
  · refine (number_short h.cell (many := many) (by rw [strOfNums_size]; omega)).mono ?_
    rintro e w' ⟨rfl, rfl⟩
    exact ⟨.inr ⟨by omega, rfl⟩, World.grownBy.refl _ _⟩
theorem RdB.drew {w : World} {b : Nat} {r : List Int} (h : RdB w b r) : RdB w.drew b r := ⟨h.cell, h.fz, h.bytes, h.few⟩
theorem number_does {b : Nat} {w : World} {r : List Int} (h : RdB w b r) {many : Nat} (hm3 : many ≤ 3) (hm : many ≤ r.length) :
    Calls Tryz.prog 95 #[.pointer (some ⟨b, 0, none⟩), .int .i64 many] w fun e w' => e = .returned (.int .i64 (numI r many)) ∧ RdB w' b (r.drop many) ∧ w.grownBy w' (some b) := by
  refine (number_any h hm3).mono ?_
  rintro e w' ⟨⟨_, h1, h2⟩ | ⟨h1, _⟩, hg⟩
  · exact ⟨h1, h2, hg⟩
  · omega
theorem number_stops {b : Nat} {w : World} {r : List Int} (h : RdB w b r) {many : Nat} (hm3 : many ≤ 3) (hm : r.length < many) :
    Calls Tryz.prog 95 #[.pointer (some ⟨b, 0, none⟩), .int .i64 many] w fun e w' => e = rdStopped ∧ w.grownBy w' (some b) := by
  refine (number_any h hm3).mono ?_
  rintro e w' ⟨⟨h1, _⟩ | ⟨_, h1⟩, hg⟩
  · omega
  · exact ⟨h1, hg⟩
set_option maxHeartbeats 2000000 in
theorem signed_does {b : Nat} {w : World} {r : List Int} (h : RdB w b r) (hm : 3 ≤ r.length) :
    Calls Tryz.prog 140 #[.pointer (some ⟨b, 0, none⟩), .int .i64 3] w fun e w' => e = .returned (.int .i64 (sgn (numI r 3))) ∧ RdB w' b (r.drop 3) ∧ w.grownBy w' (some b) := by
  have hnu := number_does h.drew (many := 3) (by decide) hm
  have hbd := numI_bd h.bytes 3
  have hn : 0 ≤ numI r 3 ∧ numI r 3 < 16777216 := by have := hbd.2; simp at this; exact ⟨hbd.1, this⟩
  have HS : Hid (sgn (numI r 3) = if 8388608 ≤ numI r 3 then numI r 3 - 16777216 else numI r 3) := rfl
  have hw : IntKind.i64.wrap 24 = 24 := by decide
  have hw2 : IntKind.i64.wrap 16777216 = 16777216 := by decide
  clear hbd
  generalize numI r 3 = n at *
  go_enter Tryz.func140, Tryz.ntmps140
  go_upto_region 1 with fail
  go_region_held3 (fun _ => True) (trivial) ((go_at_call 95; refine hnu.mono ?_; rintro e w1 ⟨rfl, hR, hg⟩))
  all_goals
    by_cases h8 : 8388608 ≤ n
    · have HX : Hid (_) := HS.out.trans (if_pos h8)
      go_wp2
      go_ret
      exact ⟨by rw [HX.out]; rfl, hR, ⟨hg.os, hg.tape, hg.output, hg.size, hg.block⟩⟩
    · have HX : Hid (_) := HS.out.trans (if_neg h8)
      go_wp2
      go_ret
      exact ⟨by rw [HX.out]; rfl, hR, ⟨hg.os, hg.tape, hg.output, hg.size, hg.block⟩⟩
end Go.Proofs.YtaenpgdmiaekcaaGreatDoor
/-
  WIRERD4: wire.reader's light, where enough bytes are left.
-/
namespace Go.Proofs.YtaenpgdmiaekcaaGreatDoor
set_option maxRecDepth 100000
open Go.RowKit Im

theorem grown_alloc {w w' : World} {row : Option Nat} (h : w.grownBy w' row) (o : Obj) : w.grownBy (w'.alloc o) row :=
  ⟨h.os, h.tape, h.output, by have := h.size; simp; omega, fun k hk hr => (Below.heap_alloc _ _ _ (Nat.lt_of_lt_of_le hk h.size)).trans (h.block k hk hr)⟩
/-- Four values in a box that may be written. -/
structure WBox4 (w : World) (b : Nat) : Prop where
  lt : b < w.heap.size
  c : ∀ j, j < 4 → ∃ v, w.cell? ⟨b, j, none⟩ = some v
  fz : ∀ o, w.frozen? ⟨b, o, none⟩ = false
theorem WBox4.grown {w w' : World} {b : Nat} {row : Option Nat} (h : WBox4 w b) (hg : w.grownBy w' row) (hne : some b ≠ row) : WBox4 w' b :=
  ⟨Nat.lt_of_lt_of_le h.lt hg.size, fun j hj => by obtain ⟨v, hv⟩ := h.c j hj; exact ⟨v, hg.cell hv hne⟩, fun o => (World.frozen?_of_block (a := ⟨b, o, none⟩) (hg.block b h.lt hne)).trans (h.fz o)⟩
theorem numI_one (r : List Int) : numI r 1 = r.getD 0 0 := by show 256 * 0 + r.getD 0 0 = _; omega
theorem numI_two (r : List Int) : numI r 2 = 256 * r.getD 0 0 + r.getD 1 0 := by show 256 * (256 * 0 + r.getD 0 0) + r.getD 1 0 = _; omega
theorem drop_getD (r : List Int) (k i : Nat) : (r.drop k).getD i 0 = r.getD (k + i) 0 := by rw [List.getD_eq_getElem?_getD, List.getElem?_drop, ← List.getD_eq_getElem?_getD]
theorem RdB.alloc {w : World} {b : Nat} {r : List Int} (h : RdB w b r) (o : Obj) : RdB (w.alloc o) b r := h.grown (row := none) (grown_alloc (World.grownBy.refl w none) o) (by simp)
set_option maxHeartbeats 2000000 in
theorem light_does {b : Nat} {w : World} {r : List Int} (h : RdB w b r) (hm : 5 ≤ r.length) :
    Calls Tryz.prog 141 #[.pointer (some ⟨b, 0, none⟩)] w fun e w' => e = .returned (.agg #[.int .i64 (rdLight r 0).X, .int .i64 (rdLight r 0).Y, .int .i64 (rdLight r 0).R, .int .i64 (rdLight r 0).P]) ∧ RdB w' b (r.drop 5) ∧ w.grownBy w' (some b) := by
  have hbl : b < w.heap.size := World.block_lt_of_cell? w _ h.cell
  have hne : some w.heap.size ≠ some b := fun e => by injection e with e; omega
  have hB0 : WBox4 (w.alloc (.cells #[.int .i64 0, .int .i64 0, .int .i64 0, .int .i64 0] 106)) w.heap.size := ⟨by simp, fun j hj => by
    match j, hj with
    | 0, _ => exact ⟨_, by simp [go_sem]; rfl⟩
    | 1, _ => exact ⟨_, by simp [go_sem]; rfl⟩
    | 2, _ => exact ⟨_, by simp [go_sem]; rfl⟩
    | 3, _ => exact ⟨_, by simp [go_sem]; rfl⟩, fun o => frozen_new w _ _ o⟩
  have hg0 : w.grownBy (w.alloc (.cells #[.int .i64 0, .int .i64 0, .int .i64 0, .int .i64 0] 106)) (some b) := grown_alloc (World.grownBy.refl _ _) _
  have h0 := h.alloc (.cells #[.int .i64 0, .int .i64 0, .int .i64 0, .int .i64 0] 106)
  have n0 : numI r 1 = (rdLight r 0).X := numI_one r
  have n1 : numI (r.drop 1) 1 = (rdLight r 0).Y := by rw [numI_one, drop_getD]; rfl
  have n2 : numI ((r.drop 1).drop 1) 1 = (rdLight r 0).R := by rw [numI_one, List.drop_drop, drop_getD]; rfl
  have n3 : numI (((r.drop 1).drop 1).drop 1) 2 = (rdLight r 0).P := by rw [numI_two, List.drop_drop, List.drop_drop, drop_getD, drop_getD]; rfl
  have n4 : (((r.drop 1).drop 1).drop 1).drop 2 = r.drop 5 := by simp [List.drop_drop]
  have hn0 := number_does h0 (many := 1) (by decide) (by omega)
  rw [n0] at hn0
  go_enter Tryz.func141, Tryz.ntmps141
  go_wp2_with fail
  refine hn0.mono ?_
  rintro e w1 ⟨rfl, h1, g1⟩
  have hn1 := number_does h1 (many := 1) (by decide) (by rw [List.length_drop]; omega)
  rw [n1] at hn1
  go_wp2_with fail
  refine hn1.mono ?_
  rintro e w2 ⟨rfl, h2, g2⟩
  have hn2 := number_does h2 (many := 1) (by decide) (by rw [List.length_drop, List.length_drop]; omega)
  rw [n2] at hn2
  go_wp2_with fail
  refine hn2.mono ?_
  rintro e w3 ⟨rfl, h3, g3⟩
  have hn3 := number_does h3 (many := 2) (by decide) (by rw [List.length_drop, List.length_drop, List.length_drop]; omega)
  rw [n3] at hn3
  go_wp2_with fail
  refine hn3.mono ?_
  rintro e w4 ⟨rfl, h4, g4⟩
  have hB4 := (((hB0.grown g1 hne).grown g2 hne).grown g3 hne).grown g4 hne
  have hg4 := (((hg0.trans g1).trans g2).trans g3).trans g4
  obtain ⟨v0, k0⟩ := hB4.c 0 (by decide)
  obtain ⟨v1, k1⟩ := hB4.c 1 (by decide)
  obtain ⟨v2, k2⟩ := hB4.c 2 (by decide)
  obtain ⟨v3, k3⟩ := hB4.c 3 (by decide)
  have f0 := hB4.fz 0
  have f1 := hB4.fz 1
  have f2 := hB4.fz 2
  have f3 := hB4.fz 3
  rw [n4] at h4
  have T : ∀ (x0 x1 x2 x3 : Value), RdB ((((w4.setCell ⟨w.heap.size, 0, none⟩ x0).setCell ⟨w.heap.size, 1, none⟩ x1).setCell ⟨w.heap.size, 2, none⟩ x2).setCell ⟨w.heap.size, 3, none⟩ x3) b (r.drop 5) ∧ w.grownBy ((((w4.setCell ⟨w.heap.size, 0, none⟩ x0).setCell ⟨w.heap.size, 1, none⟩ x1).setCell ⟨w.heap.size, 2, none⟩ x2).setCell ⟨w.heap.size, 3, none⟩ x3) (some b) ∧ ((((w4.setCell ⟨w.heap.size, 0, none⟩ x0).setCell ⟨w.heap.size, 1, none⟩ x1).setCell ⟨w.heap.size, 2, none⟩ x2).setCell ⟨w.heap.size, 3, none⟩ x3).cell? ⟨w.heap.size, 0, none⟩ = some x0 ∧ ((((w4.setCell ⟨w.heap.size, 0, none⟩ x0).setCell ⟨w.heap.size, 1, none⟩ x1).setCell ⟨w.heap.size, 2, none⟩ x2).setCell ⟨w.heap.size, 3, none⟩ x3).cell? ⟨w.heap.size, 1, none⟩ = some x1 ∧ ((((w4.setCell ⟨w.heap.size, 0, none⟩ x0).setCell ⟨w.heap.size, 1, none⟩ x1).setCell ⟨w.heap.size, 2, none⟩ x2).setCell ⟨w.heap.size, 3, none⟩ x3).cell? ⟨w.heap.size, 2, none⟩ = some x2 ∧ ((((w4.setCell ⟨w.heap.size, 0, none⟩ x0).setCell ⟨w.heap.size, 1, none⟩ x1).setCell ⟨w.heap.size, 2, none⟩ x2).setCell ⟨w.heap.size, 3, none⟩ x3).cell? ⟨w.heap.size, 3, none⟩ = some x3 := by
    intro x0 x1 x2 x3
    have ht : ∀ i j : Nat, i ≠ j → (⟨w.heap.size, i, none⟩ : Addr) ≠ ⟨w.heap.size, j, none⟩ := fun i j hij e => hij (by injection e)
    have hb : ∀ i : Nat, (⟨w.heap.size, i, none⟩ : Addr) ≠ ⟨b, 0, none⟩ := fun i e => by injection e with e1 e2; omega
    refine ⟨⟨?_, by simpa using h4.fz, h4.bytes, h4.few⟩, ?_, ?_, ?_, ?_, ?_⟩
    · rw [set_other _ (hb 3), set_other _ (hb 2), set_other _ (hb 1), set_other _ (hb 0)]; exact h4.cell
    · have B := ((((Below.refl w.heap.size w4).setCell (p := ⟨w.heap.size, 0, none⟩) (Nat.le_refl _) x0).setCell (p := ⟨w.heap.size, 1, none⟩) (Nat.le_refl _) x1).setCell (p := ⟨w.heap.size, 2, none⟩) (Nat.le_refl _) x2).setCell (p := ⟨w.heap.size, 3, none⟩) (Nat.le_refl _) x3
      exact ⟨B.os.trans hg4.os, B.tape.trans hg4.tape, B.output.trans hg4.output, Nat.le_trans hg4.size B.size, fun k hk hr => (B.block k hk).trans (hg4.block k hk hr)⟩
    · rw [set_other _ (ht 3 0 (by decide)), set_other _ (ht 2 0 (by decide)), set_other _ (ht 1 0 (by decide))]; exact set_same k0
    · rw [set_other _ (ht 3 1 (by decide)), set_other _ (ht 2 1 (by decide))]; exact set_same ((set_other _ (ht 0 1 (by decide))).trans k1)
    · rw [set_other _ (ht 3 2 (by decide))]; exact set_same ((set_other _ (ht 1 2 (by decide))).trans ((set_other _ (ht 0 2 (by decide))).trans k2))
    · exact set_same ((set_other _ (ht 2 3 (by decide))).trans ((set_other _ (ht 1 3 (by decide))).trans ((set_other _ (ht 0 3 (by decide))).trans k3)))
  obtain ⟨t1, t2, d0, d1, d2, d3⟩ := T (.int .i64 (rdLight r 0).X) (.int .i64 (rdLight r 0).Y) (.int .i64 (rdLight r 0).R) (.int .i64 (rdLight r 0).P)
  have HT1 : Hid (_) := t1
  have HT2 : Hid (_) := t2
  clear T t1 t2 h4 hg4 hB4 n0 n1 n2 n3 n4
  go_wp2
  exact bodyPost_ret (v := .agg #[.int .i64 (rdLight r 0).X, .int .i64 (rdLight r 0).Y, .int .i64 (rdLight r 0).R, .int .i64 (rdLight r 0).P]) (by simp [results, Tryz.results141, go_sem, d0, d1, d2, d3]) rfl ⟨rfl, HT1.out, HT2.out⟩
set_option maxHeartbeats 2000000 in
theorem light_stops {b : Nat} {w : World} {r : List Int} (h : RdB w b r) (hm : r.length < 5) :
    Calls Tryz.prog 141 #[.pointer (some ⟨b, 0, none⟩)] w fun e w' => e = rdStopped ∧ w.grownBy w' (some b) := by
  have hg0 : w.grownBy (w.alloc (.cells #[.int .i64 0, .int .i64 0, .int .i64 0, .int .i64 0] 106)) (some b) := grown_alloc (World.grownBy.refl _ _) _
  have h0 := h.alloc (.cells #[.int .i64 0, .int .i64 0, .int .i64 0, .int .i64 0] 106)
  go_enter Tryz.func141, Tryz.ntmps141
  by_cases c0 : r.length < 1
  · have hs := number_stops h0 (many := 1) (by decide) (by omega)
    go_wp2_with fail
    refine hs.mono ?_
    rintro e wS ⟨rfl, gS⟩
    exact ⟨rfl, rfl, hg0.trans gS⟩
  have hn0 := number_does h0 (many := 1) (by decide) (by omega)
  generalize numI r 1 = x0 at hn0
  go_wp2_with fail
  refine hn0.mono ?_
  rintro e w1 ⟨rfl, h1, g1⟩
  by_cases c1 : r.length < 2
  · have hs := number_stops h1 (many := 1) (by decide) (by rw [List.length_drop]; omega)
    go_wp2_with fail
    refine hs.mono ?_
    rintro e wS ⟨rfl, gS⟩
    exact ⟨rfl, rfl, (hg0.trans g1).trans gS⟩
  have hn1 := number_does h1 (many := 1) (by decide) (by rw [List.length_drop]; omega)
  generalize numI (r.drop 1) 1 = x1 at hn1
  go_wp2_with fail
  refine hn1.mono ?_
  rintro e w2 ⟨rfl, h2, g2⟩
  by_cases c2 : r.length < 3
  · have hs := number_stops h2 (many := 1) (by decide) (by rw [List.length_drop, List.length_drop]; omega)
    go_wp2_with fail
    refine hs.mono ?_
    rintro e wS ⟨rfl, gS⟩
    exact ⟨rfl, rfl, ((hg0.trans g1).trans g2).trans gS⟩
  have hn2 := number_does h2 (many := 1) (by decide) (by rw [List.length_drop, List.length_drop]; omega)
  generalize numI ((r.drop 1).drop 1) 1 = x2 at hn2
  go_wp2_with fail
  refine hn2.mono ?_
  rintro e w3 ⟨rfl, h3, g3⟩
  · have hs := number_stops h3 (many := 2) (by decide) (by rw [List.length_drop, List.length_drop, List.length_drop]; omega)
    go_wp2_with fail
    refine hs.mono ?_
    rintro e wS ⟨rfl, gS⟩
    exact ⟨rfl, rfl, (((hg0.trans g1).trans g2).trans g3).trans gS⟩
end Go.Proofs.YtaenpgdmiaekcaaGreatDoor
/-
  WIRERD5: wire.reader's signed, where too few bytes are left.
-/
namespace Go.Proofs.YtaenpgdmiaekcaaGreatDoor
set_option maxRecDepth 100000
open Go.RowKit Im

set_option maxHeartbeats 2000000 in
theorem signed_stops {b : Nat} {w : World} {r : List Int} (h : RdB w b r) (hm : r.length < 3) :
    Calls Tryz.prog 140 #[.pointer (some ⟨b, 0, none⟩), .int .i64 3] w fun e w' => e = rdStopped ∧ w.grownBy w' (some b) := by
  have hnu := number_stops h.drew (many := 3) (by decide) hm
  have hw : IntKind.i64.wrap 24 = 24 := by decide
  have hw2 : IntKind.i64.wrap 16777216 = 16777216 := by decide
  go_enter Tryz.func140, Tryz.ntmps140
  go_upto_region 1 with fail
  go_region_dies
  all_goals
    refine hnu.mono ?_
    rintro e w1 ⟨rfl, hg⟩
    exact ⟨rfl, rfl, ⟨hg.os, hg.tape, hg.output, hg.size, hg.block⟩⟩
end Go.Proofs.YtaenpgdmiaekcaaGreatDoor
