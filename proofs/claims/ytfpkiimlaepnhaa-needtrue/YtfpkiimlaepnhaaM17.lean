/- OwnF, CullRef, Glow, FrameBegun, NeedBegun: joined, in this order. -/
import Derived.Test.YtfpkiimlaepnhaaM16
import Derived.Test.YtfpkiimlaepnhaaM14
import Derived.Test.YtfpkiimlaepnhaaM04
import Derived.Test.YtfpkiimlaepnhaaM01
/-
  OWNF: the reference's OwnFrame, of a right frame.
-/
namespace Go.Proofs.Ytfpkiimlaepnhaa
set_option maxRecDepth 100000
open Go.RowKit Im

/-- The call's end tells the frame with the passes ps, in memory of its own. -/
def ToldF (w : World) (W H S O : Int) (ps : List Ps) (e : Ending) (w' : World) : Prop :=
  (∃ a cap L, e = .returned (.agg #[.int .i64 W, .int .i64 H, .int .i64 S, .int .i64 O, .slice a ps.length cap]) ∧ RowP w.heap.size w' (.slice a ps.length cap) L ∧ L.map Prod.fst = ps) ∧ Below w.heap.size w w'
theorem RowP.mono {base base' : Nat} {w : World} {v : Value} {L : Lp} (h : RowP base w v L) (hb : base' ≤ base) : RowP base' w v L := ⟨row_mono h.1 hb, fun x hx => (h.2 x hx).mono hb⟩
theorem take_snoc {ps : List Ps} {k : Nat} (hk : k < ps.length) : ps.take (k + 1) = ps.take k ++ [ps.getD k Ps.zero] := by
  rw [List.take_succ_eq_append_getElem hk, List.getD_eq_getElem?_getD, List.getElem?_eq_getElem hk]; rfl
set_option maxHeartbeats 4000000 in
theorem ownFrame_any (W H S O : Int) (a : Option Addr) (len cap : Nat) (ps : List Ps) (w : World) (hp : Passes w a len ps) (hE : frameE ⟨W, H, S, O, ps⟩ = 0) :
    Calls Try.prog 55 #[.agg #[.int .i64 W, .int .i64 H, .int .i64 S, .int .i64 O, .slice a len cap]] w (ToldF w W H S O ps) := by
  obtain rfl := hp.leng
  obtain ⟨hbnd, _, _⟩ := frameE_zero hE
  obtain ⟨_, _, _, _, hL⟩ := boundsE_zero hbnd
  dsimp only at hL
  obtain ⟨i0, hi, hz0, hz1, hz2⟩ := info_parts Try.infoPass
  obtain ⟨l0, li, lz0, lz1, lz2⟩ := info_parts Try.infoLight
  have hb1 := below_box (below_box (Below.refl w.heap.size w) (.cells #[.int .i64 W, .int .i64 H, .int .i64 S, .int .i64 O, .slice a ps.length cap] 63)) (.cells #[.int .i64 0, .int .i64 0, .int .i64 0, .int .i64 0, .slice none 0 0] 63)
  have hzz1 := ZBox.new (w.alloc (.cells #[.int .i64 W, .int .i64 H, .int .i64 S, .int .i64 O, .slice a ps.length cap] 63))
  rw [World.size_alloc] at hzz1
  have hB1 := (FBox.new w W H S O a ps.length cap).alloc (.cells #[.int .i64 0, .int .i64 0, .int .i64 0, .int .i64 0, .slice none 0 0] 63)
  have hfew : ∀ k, k < ps.length → (ps.getD k Ps.zero).ls.length ≤ 8 := fun k hk => few_lights (f := ⟨W, H, S, O, ps⟩) hE hk
  have HFEW : Hid (_) := hfew
  have hp1 := hp.below hb1
  have hG0 := GBox.new ((w.alloc (.cells #[.int .i64 W, .int .i64 H, .int .i64 S, .int .i64 O, .slice a ps.length cap] 63)).alloc (.cells #[.int .i64 0, .int .i64 0, .int .i64 0, .int .i64 0, .slice none 0 0] 63)) W H S O (.slice none 0 0)
  have hbA : Below ((w.alloc (.cells #[.int .i64 W, .int .i64 H, .int .i64 S, .int .i64 O, .slice a ps.length cap] 63)).alloc (.cells #[.int .i64 0, .int .i64 0, .int .i64 0, .int .i64 0, .slice none 0 0] 63)).heap.size ((w.alloc (.cells #[.int .i64 W, .int .i64 H, .int .i64 S, .int .i64 O, .slice a ps.length cap] 63)).alloc (.cells #[.int .i64 0, .int .i64 0, .int .i64 0, .int .i64 0, .slice none 0 0] 63)) (((w.alloc (.cells #[.int .i64 W, .int .i64 H, .int .i64 S, .int .i64 O, .slice a ps.length cap] 63)).alloc (.cells #[.int .i64 0, .int .i64 0, .int .i64 0, .int .i64 0, .slice none 0 0] 63)).alloc (.cells #[.int .i64 W, .int .i64 H, .int .i64 S, .int .i64 O, .slice none 0 0] 63)) := (Below.refl _ _).alloc (Nat.le_refl _) _
  have hs1 : ((w.alloc (.cells #[.int .i64 W, .int .i64 H, .int .i64 S, .int .i64 O, .slice a ps.length cap] 63)).alloc (.cells #[.int .i64 0, .int .i64 0, .int .i64 0, .int .i64 0, .slice none 0 0] 63)).heap.size = w.heap.size + 1 + 1 := by simp
  clear hfew hbnd hp
  go_enter Try.func55, Try.ntmps55
  go_wp2_with fail
  generalize ((w.alloc (.cells #[.int .i64 W, .int .i64 H, .int .i64 S, .int .i64 O, .slice a ps.length cap] 63)).alloc (.cells #[.int .i64 0, .int .i64 0, .int .i64 0, .int .i64 0, .slice none 0 0] 63)).alloc (.cells #[.int .i64 W, .int .i64 H, .int .i64 S, .int .i64 O, .slice none 0 0] 63) = w2 at *
  generalize (w.alloc (.cells #[.int .i64 W, .int .i64 H, .int .i64 S, .int .i64 O, .slice a ps.length cap] 63)).alloc (.cells #[.int .i64 0, .int .i64 0, .int .i64 0, .int .i64 0, .slice none 0 0] 63) = w1 at *
  rw [hs1] at hG0 hbA
  obtain ⟨B6, hB6⟩ : ∃ B6, B6 = w.heap.size + 1 + 1 := ⟨_, rfl⟩
  rw [← hB6] at hG0 hbA hs1 ⊢
  have HB6 : Hid (B6 = w.heap.size + 1 + 1) := hB6
  have HS1 : Hid (w1.heap.size = B6) := hs1
  clear hB6 hs1
  go_loopw [4] (fun i wr => ∃ (k : Nat) (v : Value) (L : Lp), k ≤ ps.length ∧ i = .int .i64 k ∧ RowP (B6 + 1) wr v L ∧ L.map Prod.fst = ps.take k ∧ GBox wr B6 W H S O v ∧ Below B6 w1 wr) (fun i _ => ps.length - (intOf i).toNat)
  case atStart => exact ⟨0, _, [], Nat.zero_le _, rfl, RowP.nil _ _, rfl, hG0, hbA⟩
  case round =>
    obtain ⟨k, v, L, hk, rfl, hRr, hmap, hGr, hbr⟩ := hrel
    have hbr' : Below w1.heap.size w1 wr := by rw [HS1.out]; exact hbr
    obtain ⟨_, g0, g1, g2, g3, g4⟩ := id (hB1.below hbr')
    have hlL : L.length = k := by have h1 := congrArg List.length hmap; simp at h1; omega
    by_cases hlt : k < ps.length
    · obtain ⟨b, off, la, ll, lc, rfl, p0, p1, p2, p3, p4, p5, hLi⟩ := (hp1.below hbr').nth hlt
      have hll := hLi.leng
      have hl8 := HFEW.out k hlt
      have HCU : Hid (ps.take (k + 1) = ps.take k ++ [ps.getD k Ps.zero]) := take_snoc hlt
      generalize ps.getD k Ps.zero = p at p0 p1 p2 p3 p4 p5 hLi HCU hll hl8
      obtain ⟨Op, To, A, B, K, ls⟩ := p
      dsimp only at p0 p1 p2 p3 p4 p5 hLi hll hl8
      subst hll
      have HLL : Hid (L.length ≤ 12) := by show _ ≤ _; omega
      clear hlL
      have hbP := (Below.refl wr.heap.size wr).alloc (Nat.le_refl _) (.cells #[.int .i64 Op, .int .i64 To, .int .i64 A, .int .i64 B, .int .i64 K, .slice la ls.length lc] 88)
      obtain ⟨va, vc, rfl⟩ := owns_slice hRr.1
      have hPP := PBox.new wr Op To A B K la ls.length lc
      by_cases hls : ls = []
      · subst hls
        simp only [List.length_nil] at p5 hbP hPP
        have hPP2 := hPP.alloc (.cells #[] 59)
        obtain ⟨_, r0, r1, r2, r3, r4, r5⟩ := id hPP2
        go_upto_region 8 with (at_builtin; refine list_append_nothing rfl _ _ 45 rfl 59 l0 Try.underlying45 li (some ⟨wr.heap.size + 1, 0, none⟩) 0 0 (Nat.le_refl _) rfl la lc rfl ?_)
        have hPQ := (PBox.new wr Op To A B K (some ⟨wr.heap.size + 1, 0, none⟩) 0 0).alloc (.cells #[] 59)
        have hbX := below_box (below_box (Below.refl wr.heap.size wr) (.cells #[.int .i64 Op, .int .i64 To, .int .i64 A, .int .i64 B, .int .i64 K, .slice (some ⟨wr.heap.size + 1, 0, none⟩) 0 0] 88)) (.cells #[] 59)
        have hRQ := hRr.below hbX
        have hGQ := hGr.below hbX hGr.lt hbX.size
        have hbQ : Below B6 w1 _ := hbr.trans (hbX.mono (by have := hbr.size; have := HS1.out; omega))
        have hXQ : Lx (B6 + 1) ((wr.alloc (.cells #[.int .i64 Op, .int .i64 To, .int .i64 A, .int .i64 B, .int .i64 K, .slice (some ⟨wr.heap.size + 1, 0, none⟩) 0 0] 88)).alloc (.cells #[] 59)) (.slice va L.length vc) (⟨Op, To, A, B, K, []⟩, (some ⟨wr.heap.size + 1, 0, none⟩), 0) := ⟨by simp, .inl rfl⟩
        clear r0 r1 r2 r3 r4 r5 hPP hPP2 hbX hbP hRr hGr g0 g1 g2 g3 g4 p0 p1 p2 p3 p4 p5
        generalize ((wr.alloc (.cells #[.int .i64 Op, .int .i64 To, .int .i64 A, .int .i64 B, .int .i64 K, .slice (some ⟨wr.heap.size + 1, 0, none⟩) 0 0] 88)).alloc (.cells #[] 59)) = wQ at *
        obtain ⟨_, p0, p1, p2, p3, p4, p5⟩ := id hPQ
        have d4 := hGQ.c4
        have dz := hGQ.fz 4
        have hsQ : B6 + 1 ≤ wQ.heap.size := hGQ.lt
        have hRA := hRQ.below ((Below.refl wQ.heap.size wQ).alloc (Nat.le_refl _) (.cells #[.int .i64 Op, .int .i64 To, .int .i64 A, .int .i64 B, .int .i64 K, .slice (some ⟨wr.heap.size + 1, 0, none⟩) 0 0] 88))
        have hXA := hXQ.below ((Below.refl wQ.heap.size wQ).alloc (Nat.le_refl _) (.cells #[.int .i64 Op, .int .i64 To, .int .i64 A, .int .i64 B, .int .i64 K, .slice (some ⟨wr.heap.size + 1, 0, none⟩) 0 0] 88))
        have hGA := hGQ.below ((Below.refl wQ.heap.size wQ).alloc (Nat.le_refl _) (.cells #[.int .i64 Op, .int .i64 To, .int .i64 A, .int .i64 B, .int .i64 K, .slice (some ⟨wr.heap.size + 1, 0, none⟩) 0 0] 88)) hGQ.lt (by simp)
        have HRL : Hid (_) := hRQ.lt
        have HMAP : Hid (_) := hmap
        clear hmap hRQ hXQ hGQ hPQ
        go_upto_region 5 with (at_builtin; refine wpList_append_own_at _ rfl _ _ 61 rfl (B6 + 1) 88 i0 _ 6 64 Try.underlying61 hi hz0 hz1 hz2 rfl (by decide) (.slice va L.length vc) L.length (pcells L) rfl hRA.1 ⟨wQ.heap.size, 0, none⟩ 1 1 [.int .i64 Op, .int .i64 To, .int .i64 A, .int .i64 B, .int .i64 K, .slice (some ⟨wr.heap.size + 1, 0, none⟩) 0 0] rfl rfl (cell_six_new _ _ _ _ _ _ _ _) (by intro u hu; simp at hu; rcases hu with rfl | rfl | rfl | rfl | rfl | rfl <;> rfl) (by have := HLL.out; unfold maxLen; omega) (by have := HLL.out; omega) (by simp; omega) ?_; intro v' w9 hown9 hgrow9 _ hloc9; have hR9 := hRA.push (x := (⟨Op, To, A, B, K, []⟩, some ⟨wr.heap.size + 1, 0, none⟩, 0)) hXA hown9 hgrow9 hloc9; have hG9 := hGA.grown hgrow9 (fun e => by have := (HRL.out _ e.symm).1; omega); obtain ⟨a9, cap9, hv9⟩ := owns_slice hown9; subst hv9; have e4 := hG9.c4; have ez := hG9.fz 4)
        have hGZ := hG9.put (.slice a9 (L.length + 1) cap9)
        have hRZ := hR9.setBelow (p := ⟨B6, 4, none⟩) (show B6 < B6 + 1 by omega) (.slice a9 (L.length + 1) cap9)
        have hbZ : Below B6 w1 (w9.setCell ⟨B6, 4, none⟩ (.slice a9 (L.length + 1) cap9)) := (((hbQ.alloc (Nat.le_of_succ_le hsQ) (.cells #[.int .i64 Op, .int .i64 To, .int .i64 A, .int .i64 B, .int .i64 K, .slice (some ⟨wr.heap.size + 1, 0, none⟩) 0 0] 88)).grown hgrow9 (by simp; omega) (fun j hj => by have := (HRL.out j hj).1; omega))).setCell (p := ⟨B6, 4, none⟩) (Nat.le_refl _) _
        clear p0 p1 p2 p3 p4 p5 d4 dz e4 ez hR9 hG9 hRA hXA hGA hown9 hgrow9
        go_wp2
        go_roundw
        case rel => exact ⟨k + 1, _, _, by omega, by go_num, hRZ, by rw [HCU.out, List.map_append, HMAP.out]; rfl, hGZ, hbZ⟩
        case measure => simp [intOf]; omega
      · obtain ⟨lb, lo, rfl, hlb, hlc⟩ : ∃ lb lo, la = some ⟨lb, lo, none⟩ ∧ lb < wr.heap.size ∧ ∀ j, j < ls.length → wr.cell? ⟨lb, lo + j * 4, none⟩ = some (.int .i64 (ls.getD j Lt.zero).X) ∧ wr.cell? ⟨lb, lo + j * 4 + 1, none⟩ = some (.int .i64 (ls.getD j Lt.zero).Y) ∧ wr.cell? ⟨lb, lo + j * 4 + 2, none⟩ = some (.int .i64 (ls.getD j Lt.zero).R) ∧ wr.cell? ⟨lb, lo + j * 4 + 3, none⟩ = some (.int .i64 (ls.getD j Lt.zero).P) := by
          rcases hLi.cells with e | ⟨lb, lo, ha, hl, hc⟩
          · exact absurd e hls
          · exact ⟨lb, lo, ha, hl, hc⟩
        have hbP2 := below_box hbP (.cells #[] 59)
        have hlcP := lights_cells (w := ((wr.alloc (.cells #[.int .i64 Op, .int .i64 To, .int .i64 A, .int .i64 B, .int .i64 K, .slice (some ⟨lb, lo, none⟩) ls.length lc] 88)).alloc (.cells #[] 59))) (b := lb) (off := lo) (ls := ls) (fun j hj => by
          obtain ⟨c0, c1, c2, c3⟩ := hlc j hj
          exact ⟨(hbP2.cell (p := ⟨lb, lo + j * 4, none⟩) hlb).trans c0, (hbP2.cell (p := ⟨lb, lo + j * 4 + 1, none⟩) hlb).trans c1, (hbP2.cell (p := ⟨lb, lo + j * 4 + 2, none⟩) hlb).trans c2, (hbP2.cell (p := ⟨lb, lo + j * 4 + 3, none⟩) hlb).trans c3⟩)
        have HLS : Hid (ls.length ≤ 8) := hl8
        have HLC : Hid ((lcells ls).length = ls.length * 4) := lcells_len ls
        have HNE : Hid (_) := hls
        have hsP : (wr.alloc (.cells #[.int .i64 Op, .int .i64 To, .int .i64 A, .int .i64 B, .int .i64 K, .slice (some ⟨lb, lo, none⟩) ls.length lc] 88)).heap.size = wr.heap.size + 1 := by simp
        have hlit := World.ownsRow_lit (base := wr.heap.size + 1) (e := 59) (size := 4) (wr.alloc (.cells #[.int .i64 Op, .int .i64 To, .int .i64 A, .int .i64 B, .int .i64 K, .slice (some ⟨lb, lo, none⟩) ls.length lc] 88)) #[] 0 (by rw [hsP]; exact Nat.le_refl _) (by unfold maxLen; omega) rfl
        rw [hsP] at hlit
        have hPP2 := hPP.alloc (.cells #[] 59)
        have fP := (((Below.refl (wr.alloc (.cells #[.int .i64 Op, .int .i64 To, .int .i64 A, .int .i64 B, .int .i64 K, .slice (some ⟨lb, lo, none⟩) ls.length lc] 88)).heap.size (wr.alloc (.cells #[.int .i64 Op, .int .i64 To, .int .i64 A, .int .i64 B, .int .i64 K, .slice (some ⟨lb, lo, none⟩) ls.length lc] 88))).alloc (Nat.le_refl _) (.cells #[] 59)).frozen (p := ⟨wr.heap.size, 5, none⟩) (show wr.heap.size < (wr.alloc (.cells #[.int .i64 Op, .int .i64 To, .int .i64 A, .int .i64 B, .int .i64 K, .slice (some ⟨lb, lo, none⟩) ls.length lc] 88)).heap.size by rw [hsP]; exact Nat.lt_succ_self _)).trans (frozen_new wr #[.int .i64 Op, .int .i64 To, .int .i64 A, .int .i64 B, .int .i64 K, .slice (some ⟨lb, lo, none⟩) ls.length lc] 88 5)
        have hs2 : ((wr.alloc (.cells #[.int .i64 Op, .int .i64 To, .int .i64 A, .int .i64 B, .int .i64 K, .slice (some ⟨lb, lo, none⟩) ls.length lc] 88)).alloc (.cells #[] 59)).heap.size = wr.heap.size + 1 + 1 := by simp
        obtain ⟨_, r0, r1, r2, r3, r4, r5⟩ := id hPP2
        clear hls hlc hLi hl8
        go_upto_region 8 with (at_builtin; refine wpList_append_own _ rfl _ _ 45 rfl (wr.heap.size + 1) 59 l0 _ 4 32 Try.underlying45 li lz0 lz1 lz2 rfl (by decide) (.slice (some ⟨wr.heap.size + 1, 0, none⟩) 0 0) 0 [] rfl hlit ⟨lb, lo, none⟩ ls.length lc (lcells ls) rfl (by rw [HLC.out]) hlcP (lcells_one ls) (by have := HLS.out; unfold maxLen; omega) (by have := HLS.out; omega) (by simp) ?_; intro vL wL hownL hgrowL _; obtain ⟨aL, cL, hvL⟩ := owns_slice hownL; subst hvL; have bL := (Below.refl (wr.heap.size + 1) ((wr.alloc (.cells #[.int .i64 Op, .int .i64 To, .int .i64 A, .int .i64 B, .int .i64 K, .slice (some ⟨lb, lo, none⟩) ls.length lc] 88)).alloc (.cells #[] 59))).grown hgrowL (by simp) (fun k hk => by cases hk; exact Nat.le_refl _); have fL := (bL.frozen (p := ⟨wr.heap.size, 5, none⟩) (Nat.lt_succ_self _)).trans fP; have s5 := (bL.cell (p := ⟨wr.heap.size, 5, none⟩) (Nat.lt_succ_self _)).trans r5)
        have bQ : Below wr.heap.size wr (wL.setCell ⟨wr.heap.size, 5, none⟩ (.slice aL ls.length cL)) := (hbP2.trans (bL.mono (by omega))).setCell (p := ⟨wr.heap.size, 5, none⟩) (Nat.le_refl _) _
        have hRQ := hRr.below bQ
        have hGQ := hGr.below bQ hGr.lt bQ.size
        have hbQ : Below B6 w1 _ := hbr.trans (bQ.mono (by have := hbr.size; have := HS1.out; omega))
        have hcl := fun o => bL.cell (p := ⟨wr.heap.size, o, none⟩) (Nat.lt_succ_self _)
        have hPQ : PBox (wL.setCell ⟨wr.heap.size, 5, none⟩ (.slice aL ls.length cL)) wr.heap.size Op To A B K aL ls.length cL := ⟨by have := bL.size; rw [hs2] at this; simp; omega, (set_other _ (by simp)).trans ((hcl 0).trans r0), (set_other _ (by simp)).trans ((hcl 1).trans r1), (set_other _ (by simp)).trans ((hcl 2).trans r2), (set_other _ (by simp)).trans ((hcl 3).trans r3), (set_other _ (by simp)).trans ((hcl 4).trans r4), set_same s5⟩
        rw [Nat.zero_add, List.nil_append] at hownL
        have hOL : OwnsL (wr.heap.size + 1) (wL.setCell ⟨wr.heap.size, 5, none⟩ (.slice aL ls.length cL)) (.slice aL ls.length cL) ls := ownsRow_setCell_below hownL (a := ⟨wr.heap.size, 5, none⟩) (Nat.lt_succ_self _) _
        have hXQ := Lx.of (base := B6 + 1) (p := ⟨Op, To, A, B, K, ls⟩) (v := .slice va L.length vc) (la := aL) (lc := cL) hOL rfl HLS.out (by have := hGr.lt; omega) (fun j hj => by have := (hRr.lt j hj).2; omega)
        clear r0 r1 r2 r3 r4 r5 fP hPP hPP2 hbP hbP2 hRr hGr hownL hgrowL bL fL s5 hlcP hOL bQ hlit hcl g0 g1 g2 g3 g4 p0 p1 p2 p3 p4 p5
        generalize wL.setCell ⟨wr.heap.size, 5, none⟩ (.slice aL ls.length cL) = wQ at *
        obtain ⟨_, p0, p1, p2, p3, p4, p5⟩ := id hPQ
        have d4 := hGQ.c4
        have dz := hGQ.fz 4
        have hsQ : B6 + 1 ≤ wQ.heap.size := hGQ.lt
        have hRA := hRQ.below ((Below.refl wQ.heap.size wQ).alloc (Nat.le_refl _) (.cells #[.int .i64 Op, .int .i64 To, .int .i64 A, .int .i64 B, .int .i64 K, .slice aL ls.length cL] 88))
        have hXA := hXQ.below ((Below.refl wQ.heap.size wQ).alloc (Nat.le_refl _) (.cells #[.int .i64 Op, .int .i64 To, .int .i64 A, .int .i64 B, .int .i64 K, .slice aL ls.length cL] 88))
        have hGA := hGQ.below ((Below.refl wQ.heap.size wQ).alloc (Nat.le_refl _) (.cells #[.int .i64 Op, .int .i64 To, .int .i64 A, .int .i64 B, .int .i64 K, .slice aL ls.length cL] 88)) hGQ.lt (by simp)
        have HRL : Hid (_) := hRQ.lt
        have HMAP : Hid (_) := hmap
        clear hmap hRQ hXQ hGQ hPQ
        go_upto_region 5 with (at_builtin; refine wpList_append_own_at _ rfl _ _ 61 rfl (B6 + 1) 88 i0 _ 6 64 Try.underlying61 hi hz0 hz1 hz2 rfl (by decide) (.slice va L.length vc) L.length (pcells L) rfl hRA.1 ⟨wQ.heap.size, 0, none⟩ 1 1 [.int .i64 Op, .int .i64 To, .int .i64 A, .int .i64 B, .int .i64 K, .slice aL ls.length cL] rfl rfl (cell_six_new _ _ _ _ _ _ _ _) (by intro u hu; simp at hu; rcases hu with rfl | rfl | rfl | rfl | rfl | rfl <;> rfl) (by have := HLL.out; unfold maxLen; omega) (by have := HLL.out; omega) (by simp; omega) ?_; intro v' w9 hown9 hgrow9 _ hloc9; have hR9 := hRA.push (x := (⟨Op, To, A, B, K, ls⟩, aL, cL)) hXA hown9 hgrow9 hloc9; have hG9 := hGA.grown hgrow9 (fun e => by have := (HRL.out _ e.symm).1; omega); obtain ⟨a9, cap9, hv9⟩ := owns_slice hown9; subst hv9; have e4 := hG9.c4; have ez := hG9.fz 4)
        have hGZ := hG9.put (.slice a9 (L.length + 1) cap9)
        have hRZ := hR9.setBelow (p := ⟨B6, 4, none⟩) (show B6 < B6 + 1 by omega) (.slice a9 (L.length + 1) cap9)
        have hbZ : Below B6 w1 (w9.setCell ⟨B6, 4, none⟩ (.slice a9 (L.length + 1) cap9)) := (((hbQ.alloc (Nat.le_of_succ_le hsQ) (.cells #[.int .i64 Op, .int .i64 To, .int .i64 A, .int .i64 B, .int .i64 K, .slice aL ls.length cL] 88)).grown hgrow9 (by simp; omega) (fun j hj => by have := (HRL.out j hj).1; omega))).setCell (p := ⟨B6, 4, none⟩) (Nat.le_refl _) _
        clear p0 p1 p2 p3 p4 p5 d4 dz e4 ez hR9 hG9 hRA hXA hGA hown9 hgrow9
        go_wp2
        go_roundw
        case rel => exact ⟨k + 1, _, _, by omega, by go_num, hRZ, by rw [HCU.out, List.map_append, HMAP.out]; rfl, hGZ, hbZ⟩
        case measure => simp [intOf]; omega
    · have hke : k = ps.length := by omega
      subst hke
      rw [List.take_length] at hmap
      obtain ⟨pa, pc, rfl, hPas⟩ := hRr.passes hmap (by omega)
      have hz9 := hzz1.below hbr' hzz1.lt hbr.size
      obtain ⟨_, c0, c1, c2, c3, c4, fz⟩ := id hz9
      have f0 := fz 0
      have f1 := fz 1
      have f2 := fz 2
      have f3 := fz 3
      have f4 := fz 4
      obtain ⟨_, d0, d1, d2, d3, d4, dz⟩ := id hGr
      have hb9 := below_step hb1 hbr'
      have hlq : w.heap.size + 1 < B6 + 1 := by have := HB6.out; omega
      have hR5 := (((((hRr.setBelow (p := ⟨w.heap.size + 1, 0, none⟩) hlq (.int .i64 W)).setBelow (p := ⟨w.heap.size + 1, 1, none⟩) hlq (.int .i64 H)).setBelow (p := ⟨w.heap.size + 1, 2, none⟩) hlq (.int .i64 S)).setBelow (p := ⟨w.heap.size + 1, 3, none⟩) hlq (.int .i64 O)).setBelow (p := ⟨w.heap.size + 1, 4, none⟩) hlq (.slice pa ps.length pc))
      have hb5 := (((((hb9.setCell (p := ⟨w.heap.size + 1, 0, none⟩) (show w.heap.size ≤ w.heap.size + 1 by omega) (.int .i64 W)).setCell (p := ⟨w.heap.size + 1, 1, none⟩) (show w.heap.size ≤ w.heap.size + 1 by omega) (.int .i64 H)).setCell (p := ⟨w.heap.size + 1, 2, none⟩) (show w.heap.size ≤ w.heap.size + 1 by omega) (.int .i64 S)).setCell (p := ⟨w.heap.size + 1, 3, none⟩) (show w.heap.size ≤ w.heap.size + 1 by omega) (.int .i64 O)).setCell (p := ⟨w.heap.size + 1, 4, none⟩) (show w.heap.size ≤ w.heap.size + 1 by omega) (.slice pa ps.length pc))
      have HP5 : Hid (_) := hR5.mono (show w.heap.size ≤ B6 + 1 by omega)
      have HB5 : Hid (_) := hb5
      have HMM : Hid (_) := hmap
      clear fz dz hPas hmap hp1 hB1 hR5 hb5 hRr
      go_wp2
      refine bodyPost_ret (v := .agg #[.int .i64 W, .int .i64 H, .int .i64 S, .int .i64 O, .slice pa ps.length pc]) (by simp [results, Try.results55, go_sem, c0, c1, c2, c3, c4]) rfl ?_
      exact ⟨⟨pa, pc, L, rfl, HP5.out, HMM.out⟩, HB5.out⟩
end Go.Proofs.Ytfpkiimlaepnhaa
/-
  CULLREF: the reference's CullOf, of a right frame.
-/
namespace Go.Proofs.Ytfpkiimlaepnhaa
set_option maxRecDepth 100000
open Go.RowKit Im

theorem Lx.toV {bl : Nat} {w3 wr : World} {v : Value} {x : Ps × Option Addr × Nat} (h : Lx bl w3 (.slice none 0 0) x) (hb : Below w3.heap.size w3 wr) (hv : ∀ j, v.ownBlock = some j → w3.heap.size ≤ j) : Lx bl wr v x := by
  obtain ⟨h0, h1⟩ := h
  refine ⟨h0, ?_⟩
  rcases h1 with h1 | ⟨b, off, ha, hB, hl, _, hc⟩
  · exact .inl h1
  · refine .inr ⟨b, off, ha, hB, Nat.lt_of_lt_of_le hl hb.size, fun e => by have := hv b e; omega, fun j hj => ?_⟩
    obtain ⟨c0, c1, c2, c3⟩ := hc j hj
    exact ⟨(hb.cell (p := ⟨b, off + j * 4, none⟩) hl).trans c0, (hb.cell (p := ⟨b, off + j * 4 + 1, none⟩) hl).trans c1, (hb.cell (p := ⟨b, off + j * 4 + 2, none⟩) hl).trans c2, (hb.cell (p := ⟨b, off + j * 4 + 3, none⟩) hl).trans c3⟩
theorem Lx.nilV {bl : Nat} {w : World} {v : Value} {x : Ps × Option Addr × Nat} (h : Lx bl w v x) : Lx bl w (.slice none 0 0) x := by
  obtain ⟨h0, h1⟩ := h
  refine ⟨h0, ?_⟩
  rcases h1 with h1 | ⟨b, off, ha, hB, hl, _, hc⟩
  · exact .inl h1
  · exact .inr ⟨b, off, ha, hB, hl, (fun e => by cases e), hc⟩
/-- The cells of a row's element. -/
theorem RowP.nth {base : Nat} {w : World} {v : Value} {L : Lp} (h : RowP base w v L) {k : Nat} (hk : k < L.length) : ∃ b cap, v = .slice (some ⟨b, 0, none⟩) L.length cap ∧ base ≤ b ∧ b < w.heap.size ∧ w.cell? ⟨b, k * 6, none⟩ = some (.int .i64 (L.getD k lp0).1.Op) ∧ w.cell? ⟨b, k * 6 + 1, none⟩ = some (.int .i64 (L.getD k lp0).1.To) ∧ w.cell? ⟨b, k * 6 + 2, none⟩ = some (.int .i64 (L.getD k lp0).1.A) ∧ w.cell? ⟨b, k * 6 + 3, none⟩ = some (.int .i64 (L.getD k lp0).1.B) ∧ w.cell? ⟨b, k * 6 + 4, none⟩ = some (.int .i64 (L.getD k lp0).1.K) ∧ w.cell? ⟨b, k * 6 + 5, none⟩ = some (.slice (L.getD k lp0).2.1 (L.getD k lp0).1.ls.length (L.getD k lp0).2.2) := by
  obtain ⟨⟨h1, h2⟩, hx⟩ := h
  rcases h2 with ⟨rfl, h0⟩ | ⟨g, cap, cur, rfl, hg, hh, hc, hm, hs, ht⟩
  · have : L = [] := by simpa using h0
    subst this
    simp at hk
  · have hl := pcells_len L
    obtain ⟨k0, k1, k2, k3, k4, k5⟩ := pcells_get L k hk
    have this := fun i hi => World.ownsRow.cellAt (base := base) (e := 88) (size := 6) ⟨h1, .inr ⟨g, cap, cur, rfl, hg, hh, hc, hm, hs, ht⟩⟩ i hi
    refine ⟨g, cap, rfl, hg, ?_, ?_, ?_, ?_, ?_, ?_, ?_⟩
    · rcases Nat.lt_or_ge g w.heap.size with h | h
      · exact h
      · rw [Array.getElem?_eq_none h] at hh; cases hh
    all_goals rw [this _ (by omega)]
    · exact k0
    · exact k1
    · exact k2
    · exact k3
    · exact k4
    · exact k5
set_option maxHeartbeats 4000000 in
theorem cullOf_any (W H S O : Int) (a : Option Addr) (len cap : Nat) (ps : List Ps) (w : World) (hp : Passes w a len ps) (hE : frameE ⟨W, H, S, O, ps⟩ = 0) :
    Calls Try.prog 52 #[.agg #[.int .i64 W, .int .i64 H, .int .i64 S, .int .i64 O, .slice a len cap]] w fun e w' => (∃ pa pc L, e = .returned (.agg #[.int .i64 W, .int .i64 H, .int .i64 S, .int .i64 O, .slice pa (culled ⟨W, H, S, O, ps⟩).length pc]) ∧ RowP w.heap.size w' (.slice pa (culled ⟨W, H, S, O, ps⟩).length pc) L ∧ L.map Prod.fst = culled ⟨W, H, S, O, ps⟩) ∧ Below w.heap.size w w' := by
  obtain rfl := hp.leng
  obtain ⟨hbnd, _, _⟩ := frameE_zero hE
  obtain ⟨_, _, _, _, hL⟩ := boundsE_zero hbnd
  dsimp only at hL
  obtain ⟨i0, hi, hz0, hz1, hz2⟩ := info_parts Try.infoPass
  have hb1 := below_box (below_box (Below.refl w.heap.size w) (.cells #[.int .i64 W, .int .i64 H, .int .i64 S, .int .i64 O, .slice a ps.length cap] 63)) (.cells #[.int .i64 0, .int .i64 0, .int .i64 0, .int .i64 0, .slice none 0 0] 63)
  have hzz1 := ZBox.new (w.alloc (.cells #[.int .i64 W, .int .i64 H, .int .i64 S, .int .i64 O, .slice a ps.length cap] 63))
  rw [World.size_alloc] at hzz1
  have hB1 := (FBox.new w W H S O a ps.length cap).alloc (.cells #[.int .i64 0, .int .i64 0, .int .i64 0, .int .i64 0, .slice none 0 0] 63)
  have hke := keptOf_any W H S O a ps.length cap ps _ (hp.below hb1) hE
  have how := fun wx hp => ownFrame_any W H S O a ps.length cap ps wx hp hE
  have hp1 := hp.below hb1
  have hs1 : w.heap.size + 1 < ((w.alloc (.cells #[.int .i64 W, .int .i64 H, .int .i64 S, .int .i64 O, .slice a ps.length cap] 63)).alloc (.cells #[.int .i64 0, .int .i64 0, .int .i64 0, .int .i64 0, .slice none 0 0] 63)).heap.size := by simp
  go_enter Try.func52, Try.ntmps52
  go_wp2_with fail
  generalize (w.alloc (.cells #[.int .i64 W, .int .i64 H, .int .i64 S, .int .i64 O, .slice a ps.length cap] 63)).alloc (.cells #[.int .i64 0, .int .i64 0, .int .i64 0, .int .i64 0, .slice none 0 0] 63) = w1 at *
  refine hke.mono ?_
  clear hke
  rintro e w2 ⟨⟨bK, rfl, hbK, hK2⟩, b2⟩
  have hB2 := hB1.below b2
  obtain ⟨_, g0, g1, g2, g3, g4⟩ := id hB2
  go_wp2_with fail
  refine (how _ (hp1.below b2)).mono ?_
  clear how
  rintro e w3 ⟨⟨oa, oc, LO, rfl, hRO, hmO⟩, b3⟩
  have HCD : Hid (culled ⟨W, H, S, O, ps⟩ = cullP ps (keptG ps ps.length (shownP ⟨W, H, S, O, ps⟩) ps.length) ps.length) := rfl
  have hK3 := hK2.below b3 hK2.lt b3.size
  have hbl : w.heap.size + 1 < w2.heap.size := Nat.lt_of_lt_of_le hs1 b2.size
  have b13 := below_step b2 b3
  have hz3 := hzz1.below b13 hzz1.lt b13.size
  have hb3 := below_step hb1 b13
  generalize keptG ps ps.length (shownP ⟨W, H, S, O, ps⟩) ps.length = g at hK2 hK3 HCD
  have hG4 := (GBox.new w3 W H S O (.slice oa ps.length oc)).below ((Below.refl (w3.alloc (.cells #[.int .i64 W, .int .i64 H, .int .i64 S, .int .i64 O, .slice oa ps.length oc] 63)).heap.size (w3.alloc (.cells #[.int .i64 W, .int .i64 H, .int .i64 S, .int .i64 O, .slice oa ps.length oc] 63))).alloc (Nat.le_refl _) (.cells #[.int .i64 W, .int .i64 H, .int .i64 S, .int .i64 O, .slice none 0 0] 63)) (by simp) (by simp)
  have hG5 := GBox.new (w3.alloc (.cells #[.int .i64 W, .int .i64 H, .int .i64 S, .int .i64 O, .slice oa ps.length oc] 63)) W H S O (.slice none 0 0)
  rw [World.size_alloc] at hG5
  have hbA : Below w3.heap.size w3 ((w3.alloc (.cells #[.int .i64 W, .int .i64 H, .int .i64 S, .int .i64 O, .slice oa ps.length oc] 63)).alloc (.cells #[.int .i64 W, .int .i64 H, .int .i64 S, .int .i64 O, .slice none 0 0] 63)) := below_box (below_box (Below.refl _ _) _) _
  clear g0 g1 g2 g3 g4 hzz1 hB1 hB2 hp1 hb1 b2 hp hbnd b13
  go_wp2_with fail
  generalize (w3.alloc (.cells #[.int .i64 W, .int .i64 H, .int .i64 S, .int .i64 O, .slice oa ps.length oc] 63)).alloc (.cells #[.int .i64 W, .int .i64 H, .int .i64 S, .int .i64 O, .slice none 0 0] 63) = w4 at *
  go_loopw [6] (fun i wr => ∃ (k : Nat) (v : Value) (L : Lp), k ≤ ps.length ∧ i = .int .i64 k ∧ OwnsP (w3.heap.size + 2) wr v L ∧ (∀ x ∈ L, Lx w2.heap.size w3 (.slice none 0 0) x) ∧ L.map Prod.fst = cullP ps g k ∧ GBox wr w3.heap.size W H S O (.slice oa ps.length oc) ∧ GBox wr (w3.heap.size + 1) W H S O v ∧ Below w3.heap.size w3 wr) (fun i _ => ps.length - (intOf i).toNat)
  case atStart => exact ⟨0, _, [], Nat.zero_le _, rfl, World.ownsRow_nil _ _ _ _, (fun x hx => by cases hx), rfl, hG4, hG5, hbA⟩
  case round =>
    obtain ⟨k, v, L, hk, rfl, hRr, hLx, hmap, hGo, hGr, hbr⟩ := hrel
    clear hG4 hG5 hbA
    have hlL : L.length ≤ k := by have h1 := congrArg List.length hmap; have h2 := cullP_le ps g k; simp at h1; omega
    by_cases hlt : k < ps.length
    · have hlO : LO.length = ps.length := by rw [← hmO]; simp
      have kk := (hbr.cell (p := ⟨bK, k, none⟩) hK3.lt).trans (hK3.cells k hlt)
      have HCU : Hid (cullP ps g (k + 1) = cullP ps g k ++ (if g k = true then [ps.getD k Ps.zero] else [])) := rfl
      have HM : Hid (_) := hmap
      obtain ⟨va, vc, rfl⟩ := owns_slice hRr
      generalize g k = gk at kk HCU
      cases gk with
      | false =>
        have HX : Hid (_) := hRr
        have HY : Hid (_) := hLx
        clear hRr hLx hmap
        go_wp2
        go_roundw
        case rel => exact ⟨k + 1, _, L, by omega, by go_num, HX.out, HY.out, by rw [HCU.out, if_neg (by decide), List.append_nil]; exact HM.out, hGo, hGr, hbr⟩
        case measure => simp [intOf]; omega
      | true =>
        obtain ⟨ob, oc', eo, hob1, hob, p0, p1, p2, p3, p4, p5⟩ := hRO.nth (k := k) (by omega)
        injection eo with eo1 eo2 eo3
        subst eo1 eo3
        clear eo2
        have hxk := mapP_getD hmO k
        have hLk : Lx w2.heap.size w3 (.slice none 0 0) (LO.getD k lp0) := (hRO.2 _ (getD_mem (by omega) lp0)).nilV
        generalize LO.getD k lp0 = x at p0 p1 p2 p3 p4 p5 hxk hLk
        rw [hxk] at HCU
        obtain ⟨⟨Op, To, A, B, K, ls⟩, la, lc⟩ := x
        dsimp only at p0 p1 p2 p3 p4 p5 HCU
        replace p0 := (hbr.cell (p := ⟨ob, k * 6, none⟩) hob).trans p0
        replace p1 := (hbr.cell (p := ⟨ob, k * 6 + 1, none⟩) hob).trans p1
        replace p2 := (hbr.cell (p := ⟨ob, k * 6 + 2, none⟩) hob).trans p2
        replace p3 := (hbr.cell (p := ⟨ob, k * 6 + 3, none⟩) hob).trans p3
        replace p4 := (hbr.cell (p := ⟨ob, k * 6 + 4, none⟩) hob).trans p4
        replace p5 := (hbr.cell (p := ⟨ob, k * 6 + 5, none⟩) hob).trans p5
        have o4 := hGo.c4
        have d4 := hGr.c4
        have HLL : Hid (L.length ≤ 12) := by show _ ≤ _; omega
        have HLX : Hid (_) := hLx
        have HLK : Hid (_) := hLk
        have HRL : Hid (_) := fun j hj => World.ownsRow.lt (w := wr) hRr j hj
        have hsR := hGr.lt
        have bD := (Below.refl wr.heap.size wr).drew
        have hRd : OwnsP (w3.heap.size + 2) (wr.drew.alloc (.cells #[.int .i64 Op, .int .i64 To, .int .i64 A, .int .i64 B, .int .i64 K, .slice la ls.length lc] 88)) (.slice va L.length vc) L := World.ownsRow.alloc (ownsRow_below hRr bD (Nat.le_refl _)) _
        have bE : Below wr.heap.size wr (wr.drew.alloc (.cells #[.int .i64 Op, .int .i64 To, .int .i64 A, .int .i64 B, .int .i64 K, .slice la ls.length lc] 88)) := below_box bD _
        have hGoE := hGo.below bE hGo.lt bE.size
        have hGrE := hGr.below bE hGr.lt bE.size
        have hki : (k : Int) < (ps.length : Int) := by omega
        clear hmap hLx hLk hxk hRO hmO hlO
        go_wp2_with fail
        go_region_law (refine step_append_at rfl _ _ 61 rfl (w3.heap.size + 2) 88 i0 _ 6 64 Try.underlying61 hi hz0 hz1 hz2 rfl (by decide) (.slice va L.length vc) L.length (pcells L) rfl hRd ⟨wr.heap.size, 0, none⟩ 1 1 [.int .i64 Op, .int .i64 To, .int .i64 A, .int .i64 B, .int .i64 K, .slice la ls.length lc] rfl rfl (cell_six_new _ _ _ _ _ _ _ _) (by intro u hu; simp at hu; rcases hu with rfl | rfl | rfl | rfl | rfl | rfl <;> rfl) (by have := HLL.out; unfold maxLen; omega) (by have := HLL.out; omega) (by simp; omega) ?_; intro v' w9 hown9 hgrow9 hloc9; have hGo9 := hGoE.grown hgrow9 (fun e => by have := (HRL.out _ e.symm).1; omega); have hGr9 := hGrE.grown hgrow9 (fun e => by have := (HRL.out _ e.symm).1; omega); obtain ⟨a9, cap9, hv9⟩ := owns_slice hown9; subst hv9; have e4 := hGr9.c4; have ez := hGr9.fz 4)
        all_goals
          have hR9 : OwnsP (w3.heap.size + 2) w9 (.slice a9 (L.length + 1) cap9) (L ++ [(⟨Op, To, A, B, K, ls⟩, la, lc)]) := by unfold OwnsP; rw [pcells_snoc]; simpa using hown9
          have hRZ : OwnsP _ _ _ _ := ownsRow_setCell_below hR9 (a := ⟨w3.heap.size + 1, 4, none⟩) (show w3.heap.size + 1 < w3.heap.size + 2 by omega) (.slice a9 (L.length + 1) cap9)
          have hGZ := hGr9.put (.slice a9 (L.length + 1) cap9)
          have hGY := hGo9.set (p := ⟨w3.heap.size + 1, 4, none⟩) (by simp) (.slice a9 (L.length + 1) cap9)
          have hb9 : Below w3.heap.size w3 (w9.setCell ⟨w3.heap.size + 1, 4, none⟩ (.slice a9 (L.length + 1) cap9)) := ((hbr.trans (bE.mono hbr.size)).grown hgrow9 (by simp; omega) (fun j hj => by have := (HRL.out j hj).1; omega)).setCell (p := ⟨w3.heap.size + 1, 4, none⟩) (by simp) _
          clear hR9 hown9 hgrow9 hRd hGoE hGrE hGo9 hGr9
          go_wp2
          go_roundw
          case rel => exact ⟨k + 1, _, L ++ [(⟨Op, To, A, B, K, ls⟩, la, lc)], by omega, by go_num, hRZ, (fun x hx => by rcases List.mem_append.1 hx with h | h; exact HLX.out x h; rw [List.mem_singleton] at h; subst h; exact HLK.out), by rw [HCU.out, if_pos (by trivial), List.map_append, HM.out]; rfl, hGY, hGZ, hb9⟩
          case measure => simp [intOf]; omega
    · have hke : k = ps.length := by omega
      subst hke
      rw [← HCD.out] at hmap
      have hRw : RowP w2.heap.size wr v L := ⟨row_mono hRr (by have := b3.size; omega), fun x hx => (hLx x hx).toV hbr (fun j hj => by have := (World.ownsRow.lt (w := wr) hRr j hj).1; omega)⟩
      obtain ⟨pa, pc, rfl, hPas⟩ := hRw.passes hmap (by omega)
      obtain ⟨_, c0, c1, c2, c3, c4, fz⟩ := id (hz3.below hbr hz3.lt hbr.size)
      have f0 := fz 0
      have f1 := fz 1
      have f2 := fz 2
      have f3 := fz 3
      have f4 := fz 4
      obtain ⟨_, d0, d1, d2, d3, d4, dz⟩ := id hGr
      have hb9 := below_step hb3 hbr
      have hlq : w.heap.size + 1 < w2.heap.size := hbl
      have hR5 := (((((hRw.setBelow (p := ⟨w.heap.size + 1, 0, none⟩) hlq (.int .i64 W)).setBelow (p := ⟨w.heap.size + 1, 1, none⟩) hlq (.int .i64 H)).setBelow (p := ⟨w.heap.size + 1, 2, none⟩) hlq (.int .i64 S)).setBelow (p := ⟨w.heap.size + 1, 3, none⟩) hlq (.int .i64 O)).setBelow (p := ⟨w.heap.size + 1, 4, none⟩) hlq (.slice pa (culled ⟨W, H, S, O, ps⟩).length pc))
      have hb5 := (((((hb9.setCell (p := ⟨w.heap.size + 1, 0, none⟩) (show w.heap.size ≤ w.heap.size + 1 by omega) (.int .i64 W)).setCell (p := ⟨w.heap.size + 1, 1, none⟩) (show w.heap.size ≤ w.heap.size + 1 by omega) (.int .i64 H)).setCell (p := ⟨w.heap.size + 1, 2, none⟩) (show w.heap.size ≤ w.heap.size + 1 by omega) (.int .i64 S)).setCell (p := ⟨w.heap.size + 1, 3, none⟩) (show w.heap.size ≤ w.heap.size + 1 by omega) (.int .i64 O)).setCell (p := ⟨w.heap.size + 1, 4, none⟩) (show w.heap.size ≤ w.heap.size + 1 by omega) (.slice pa (culled ⟨W, H, S, O, ps⟩).length pc))
      have HP5 : Hid (_) := hR5.mono (show w.heap.size ≤ w2.heap.size by omega)
      have HMM : Hid (_) := hmap
      have HB5 : Hid (_) := hb5
      clear fz dz hPas hmap hR5 hb5 hRr hRw hLx hGo hK2 hK3 hRO
      go_wp2
      refine bodyPost_ret (v := .agg #[.int .i64 W, .int .i64 H, .int .i64 S, .int .i64 O, .slice pa (culled ⟨W, H, S, O, ps⟩).length pc]) (by simp [results, Try.results52, go_sem, c0, c1, c2, c3, c4]) rfl ?_
      exact ⟨⟨pa, pc, L, rfl, HP5.out, HMM.out⟩, HB5.out⟩
end Go.Proofs.Ytfpkiimlaepnhaa
/-
  GLOW: the frame of five passes that the laws begin with.
-/
namespace Go.Proofs.Ytfpkiimlaepnhaa
set_option maxRecDepth 100000
open Go.RowKit Im

def glowP : List Ps := [⟨2, 0, 0, 0, 100, []⟩, ⟨1, 2, 0, 0, 7, []⟩, ⟨10, 1, 0, 0, 0, []⟩, ⟨1, 2, 0, 0, 9, []⟩, ⟨4, 1, 0, 2, 0, []⟩]
def glowF : Fr := ⟨4, 2, 3, 1, glowP⟩
theorem glow_ok : frameE glowF = 0 := by decide
theorem glow_szs : szs glowF 5 = [(4, 2), (4, 2), (4, 2), (4, 2), (4, 2)] := by decide
theorem glow_srcs : srcs glowP 5 = [[], [], [0], [], [0, 3]] := by decide
theorem glow_shown : shownP glowF = 4 := by decide
theorem glow_pic : (pics glowF 5).getD 4 (noRes 0) = ⟨0, 4, 2, [9, 109, 209, 309, 10, 110, 210, 310]⟩ := by rfl
def glowC : Array Value := #[.int .i64 2, .int .i64 0, .int .i64 0, .int .i64 0, .int .i64 100, .slice none 0 0, .int .i64 1, .int .i64 2, .int .i64 0, .int .i64 0, .int .i64 7, .slice none 0 0, .int .i64 10, .int .i64 1, .int .i64 0, .int .i64 0, .int .i64 0, .slice none 0 0, .int .i64 1, .int .i64 2, .int .i64 0, .int .i64 0, .int .i64 9, .slice none 0 0, .int .i64 4, .int .i64 1, .int .i64 0, .int .i64 2, .int .i64 0, .slice none 0 0]
/-- The call's end tells the frame of five passes. -/
def ToldG (w : World) (e : Ending) (w' : World) : Prop :=
  ∃ b, e = .returned (.agg #[.int .i64 4, .int .i64 2, .int .i64 3, .int .i64 1, .slice (some ⟨b, 0, none⟩) 5 5]) ∧ Passes w' (some ⟨b, 0, none⟩) 5 glowP ∧ Below w.heap.size w w'
theorem Lights.nil (w : World) : Lights w none 0 [] := ⟨rfl, by omega, .inl rfl⟩
theorem glow_passes (w : World) : Passes (w.alloc (.cells glowC 88)) (some ⟨w.heap.size, 0, none⟩) 5 glowP := by
  have hc : ∀ o, (w.alloc (.cells glowC 88)).cell? ⟨w.heap.size, o, none⟩ = glowC[o]? := fun o => World.cell?_alloc_new w glowC 88 o
  refine ⟨rfl, by decide, .inr ⟨w.heap.size, 0, rfl, by simp, fun j hj => ⟨none, 0, 0, ?_⟩⟩⟩
  simp only [hc]
  match j, hj with
  | 0, _ => exact ⟨rfl, rfl, rfl, rfl, rfl, rfl, Lights.nil _⟩
  | 1, _ => exact ⟨rfl, rfl, rfl, rfl, rfl, rfl, Lights.nil _⟩
  | 2, _ => exact ⟨rfl, rfl, rfl, rfl, rfl, rfl, Lights.nil _⟩
  | 3, _ => exact ⟨rfl, rfl, rfl, rfl, rfl, rfl, Lights.nil _⟩
  | 4, _ => exact ⟨rfl, rfl, rfl, rfl, rfl, rfl, Lights.nil _⟩
theorem glow_any (w : World) : Calls Try.prog 88 #[] w (ToldG w) := by
  go_enter Try.func88, Try.ntmps88
  go_wp2
  refine bodyPost_ret (v := .agg #[.int .i64 4, .int .i64 2, .int .i64 3, .int .i64 1, .slice (some ⟨w.heap.size + 1, 0, none⟩) 5 5]) (by simp [results, Try.results88, go_sem]) rfl ?_
  have hg := glow_passes (w.alloc (.cells #[.int .i64 4, .int .i64 2, .int .i64 3, .int .i64 1, .slice (some ⟨w.heap.size + 1, 0, none⟩) 5 5] 63))
  rw [World.size_alloc] at hg
  exact ⟨_, rfl, hg, below_box (below_box (Below.refl _ _) _) _⟩
end Go.Proofs.Ytfpkiimlaepnhaa
/-
  FRAMEBEGUN: what the laws of frames begin with comes out true.
-/
namespace Go.Proofs.Ytfpkiimlaepnhaa
set_option maxRecDepth 100000
open Go.RowKit Im

theorem Passes.nil (w : World) : Passes w none 0 [] := ⟨rfl, by omega, .inl rfl⟩
theorem zero_frame : frameE ⟨0, 0, 0, 0, []⟩ = 3 := by decide
theorem glow_render : renderP glowF = ⟨0, 4, 2, [9, 109, 209, 309, 10, 110, 210, 310]⟩ := by
  unfold renderP
  rw [if_pos glow_ok, glow_shown]
  exact glow_pic
set_option maxHeartbeats 4000000 in
theorem frameBegun_any (w : World) : Calls Try.prog 43 #[] w fun e w' => e = .returned (.bool true) ∧ Below w.heap.size w w' := by
  have hzs := fun a cap wx hp => sizes_any 4 2 3 1 a 5 cap glowP wx hp
  have hso := fun a cap wx hp => sources_any 4 2 3 1 a 5 cap glowP wx hp
  have hre := fun a cap wx hp => render_any 4 2 3 1 a 5 cap glowP wx hp
  have hch := fun a cap wx hp => frameCheck_any 4 2 3 1 a 5 cap glowP wx hp
  have hc0 := fun wx => frameCheck_any 0 0 0 0 none 0 0 [] wx (Passes.nil wx)
  have hok : frameE ⟨4, 2, 3, 1, glowP⟩ = 0 := glow_ok
  have hlen : glowP.length = 5 := rfl
  rw [hok] at hch
  rw [zero_frame] at hc0
  have hrr : renderP ⟨4, 2, 3, 1, glowP⟩ = _ := glow_render
  rw [hrr] at hre
  go_enter Try.func43, Try.ntmps43
  go_wp2_with fail
  refine (glow_any _).mono ?_
  rintro e w1 ⟨b1, rfl, hp1, bel1⟩
  go_wp2_with fail
  refine (hzs _ _ _ hp1).mono ?_
  rintro e w2 ⟨⟨v2, rfl, hZ⟩, bel2⟩
  rw [hok, if_pos rfl] at hZ
  rw [hok]
  have hZ' : OwnsZ w1.heap.size w2 v2 [(4, 2), (4, 2), (4, 2), (4, 2), (4, 2)] := by
    have e : szs ⟨4, 2, 3, 1, glowP⟩ glowP.length = _ := glow_szs
    rw [← e]; exact hZ
  obtain ⟨za, zc, rfl, hZs⟩ := hZ'.zs (by decide)
  have hb2 := below_step bel1 bel2
  clear hZ hZ' hp1 bel1 bel2 hzs
  go_wp2_with fail
  refine (glow_any _).mono ?_
  rintro e w3 ⟨b3, rfl, hp3, bel3⟩
  replace hZs := hZs.below bel3
  replace hb2 := below_step hb2 bel3
  go_wp2_with fail
  refine (hso _ _ _ hp3).mono ?_
  rintro e w4 ⟨⟨v4, rfl, hS⟩, bel4⟩
  rw [hok, if_pos rfl] at hS
  rw [hok]
  have hS' : OwnsLL w3.heap.size w4 v4 [[], [], [0], [], [0, 3]] := by
    have e : srcs glowP glowP.length = _ := glow_srcs
    rw [← e]; exact hS
  obtain ⟨sa, sc, rfl, hSs⟩ := hS'.lls (by decide)
  replace hZs := hZs.below bel4
  replace hb2 := below_step hb2 bel4
  clear hS hS' hp3 bel3 bel4 hso
  go_wp2_with fail
  refine (glow_any _).mono ?_
  rintro e w5 ⟨b5, rfl, hp5, bel5⟩
  replace hZs := hZs.below bel5
  replace hSs := hSs.below bel5
  replace hb2 := below_step hb2 bel5
  go_wp2_with fail
  refine (hre _ _ _ hp5).mono ?_
  rintro e w6 ⟨ra, rc, rfl, hri, bel6⟩
  replace hZs := hZs.below bel6
  replace hSs := hSs.below bel6
  replace hb2 := below_step hb2 bel6
  clear hp5 bel5 bel6 hre hrr
  dsimp only at hri ⊢
  have bB := (Below.refl w6.heap.size w6).alloc (Nat.le_refl _) (.cells #[.int .i64 4, .int .i64 2, .slice ra 8 rc] 24)
  have c2 : (w6.alloc (.cells #[.int .i64 4, .int .i64 2, .slice ra 8 rc] 24)).cell? ⟨w6.heap.size, 2, none⟩ = some (.slice ra 8 rc) := by simp [go_sem]
  have hl : w6.heap.size < (w6.alloc (.cells #[.int .i64 4, .int .i64 2, .slice ra 8 rc] 24)).heap.size := by simp
  replace hZs := hZs.below bB
  replace hSs := hSs.below bB
  replace hb2 := below_step hb2 bB
  replace hri : Ints 0 _ ra 8 [9, 109, 209, 309, 10, 110, 210, 310] := (hri.below (Nat.le_refl _) bB).mono (Nat.zero_le _)
  clear bB
  go_wp2_with fail
  generalize w6.alloc (.cells #[.int .i64 4, .int .i64 2, .slice ra 8 rc] 24) = w7 at *
  refine (glow_any _).mono ?_
  rintro e w8 ⟨b8, rfl, hp8, bel8⟩
  replace hZs := hZs.below bel8
  replace hSs := hSs.below bel8
  replace hb2 := below_step hb2 bel8
  replace hri := hri.below (Nat.le_refl _) bel8
  replace c2 := (bel8.cell (p := ⟨w6.heap.size, 2, none⟩) hl).trans c2
  replace hl := Nat.lt_of_lt_of_le hl bel8.size
  go_wp2_with fail
  refine (hch _ _ _ hp8).mono ?_
  rintro e w9 ⟨rfl, bel9⟩
  replace hZs := hZs.below bel9
  replace hSs := hSs.below bel9
  replace hb2 := below_step hb2 bel9
  replace hri := hri.below (Nat.le_refl _) bel9
  replace c2 := (bel9.cell (p := ⟨w6.heap.size, 2, none⟩) hl).trans c2
  replace hl := Nat.lt_of_lt_of_le hl bel9.size
  clear hp8 bel8 bel9 hch
  go_wp2_with fail
  refine (hc0 _).mono ?_
  rintro e w10 ⟨rfl, bel10⟩
  replace hZs := hZs.below bel10
  replace hSs := hSs.below bel10
  replace hb2 := below_step hb2 bel10
  replace hri := hri.below (Nat.le_refl _) bel10
  replace c2 := (bel10.cell (p := ⟨w6.heap.size, 2, none⟩) hl).trans c2
  replace hl := Nat.lt_of_lt_of_le hl bel10.size
  clear bel10 hc0
  obtain ⟨zb, zo, rfl, _, d0, d1⟩ := hZs.nth (k := 4) (by decide)
  obtain ⟨sb, so, ua, uc, rfl, _, q0, hUI⟩ := hSs.nth (k := 4) (by decide)
  have d0' : w10.cell? ⟨zb, zo + 8, none⟩ = some (.int .i64 4) := d0
  have d1' : w10.cell? ⟨zb, zo + 8 + 1, none⟩ = some (.int .i64 2) := d1
  have q0' : w10.cell? ⟨sb, so + 4, none⟩ = some (.slice ua 2 uc) := q0
  have hUI' : Ints 0 w10 ua 2 [0, 3] := hUI
  clear d0 d1 q0 hUI hSs hZs
  go_wp2_with fail
  have bC := (Below.refl w10.heap.size w10).alloc (Nat.le_refl _) (.cells #[.int .i64 0, .int .i64 3] 3)
  have L1 := ints_lit w10 [0, 3] (by simp)
  refine (sameInts_any _ _ (hUI'.below (Nat.le_refl _) bC) L1).mono ?_
  rintro e w11 ⟨rfl, bel11⟩
  replace bC := below_step bC bel11
  replace hb2 := below_step hb2 bC
  replace hri := hri.below (Nat.le_refl _) bC
  replace c2 := (bC.cell (p := ⟨w6.heap.size, 2, none⟩) hl).trans c2
  replace hl := Nat.lt_of_lt_of_le hl bC.size
  clear L1 bel11 bC hUI' d0' d1' q0'
  go_wp2_with fail
  have bD := (Below.refl w11.heap.size w11).alloc (Nat.le_refl _) (.cells #[.int .i64 9, .int .i64 109, .int .i64 209, .int .i64 309, .int .i64 10, .int .i64 110, .int .i64 210, .int .i64 310] 3)
  have L2 := ints_lit w11 [9, 109, 209, 309, 10, 110, 210, 310] (by simp)
  refine (sameInts_any _ _ (hri.below (Nat.le_refl _) bD) L2).mono ?_
  rintro e w12 ⟨rfl, bel12⟩
  replace bD := below_step bD bel12
  replace hb2 := below_step hb2 bD
  clear L2 bel12 bD
  go_wp2
  go_ret
  exact ⟨rfl, hb2⟩
end Go.Proofs.Ytfpkiimlaepnhaa
/-
  NEEDBEGUN: what the laws of what is needed begin with comes out true.
-/
namespace Go.Proofs.Ytfpkiimlaepnhaa
set_option maxRecDepth 100000
open Go.RowKit Im

theorem glow_kept : keptG glowP 5 4 5 0 = true ∧ keptG glowP 5 4 5 1 = false ∧ keptG glowP 5 4 5 2 = false ∧ keptG glowP 5 4 5 3 = true ∧ keptG glowP 5 4 5 4 = true := by decide
theorem glow_culled : culled glowF = [⟨2, 0, 0, 0, 100, []⟩, ⟨1, 2, 0, 0, 9, []⟩, ⟨4, 1, 0, 2, 0, []⟩] := by rfl
set_option maxHeartbeats 4000000 in
theorem needBegun_any (w : World) : Calls Try.prog 53 #[] w fun e w' => e = .returned (.bool true) ∧ Below w.heap.size w w' := by
  have hla := fun a cap wx hp => last_any 4 2 3 1 a 5 cap glowP wx hp
  have hke := fun a cap wx hp => kept_any 4 2 3 1 a 5 cap glowP wx hp
  have hcu := fun a cap wx hp => cull_any 4 2 3 1 a 5 cap glowP wx hp
  have hok : frameE ⟨4, 2, 3, 1, glowP⟩ = 0 := glow_ok
  have hsh : shownP ⟨4, 2, 3, 1, glowP⟩ = 4 := glow_shown
  have hcl : culled ⟨4, 2, 3, 1, glowP⟩ = _ := glow_culled
  unfold ToldLast at hla
  rw [hok, if_pos rfl, hsh] at hla
  go_enter Try.func53, Try.ntmps53
  go_wp2_with fail
  refine (glow_any _).mono ?_
  rintro e w1 ⟨b1, rfl, hp1, bel1⟩
  go_wp2_with fail
  refine (hla _ _ _ hp1).mono ?_
  rintro e w2 ⟨rfl, bel2⟩
  have hb2 := below_step bel1 bel2
  clear hp1 bel1 bel2 hla
  go_wp2_with fail
  refine (glow_any _).mono ?_
  rintro e w3 ⟨b3, rfl, hp3, bel3⟩
  replace hb2 := below_step hb2 bel3
  go_wp2_with fail
  refine (hke _ _ _ hp3).mono ?_
  rintro e w4 ⟨⟨_, bK, rfl, hbK, hK⟩ | ⟨h0, _⟩, bel4⟩
  · dsimp only at hK ⊢
    rw [hsh] at hK
    have hK' : Bl w4 bK 5 (keptG glowP 5 4 5) := hK
    replace hb2 := below_step hb2 bel4
    have hlen : glowP.length = 5 := rfl
    rw [hlen]
    clear hp3 bel3 bel4 hke hK hlen
    go_wp2_with fail
    refine (glow_any _).mono ?_
    rintro e w5 ⟨b5, rfl, hp5, bel5⟩
    replace hb2 := below_step hb2 bel5
    replace hK' := hK'.below bel5 hK'.lt bel5.size
    go_wp2_with fail
    refine (hcu _ _ _ hp5).mono ?_
    rintro e w6 ⟨⟨_, ca, cc, rfl, hpc⟩ | ⟨h0, _⟩, bel6⟩
    · rw [hcl] at hpc ⊢
      dsimp only at hpc ⊢
      replace hb2 := below_step hb2 bel6
      replace hK' := hK'.below bel6 hK'.lt bel6.size
      have bB := (Below.refl w6.heap.size w6).alloc (Nat.le_refl _) (.cells #[.int .i64 4, .int .i64 2, .int .i64 3, .int .i64 1, .slice ca 3 cc] 63)
      replace hb2 := below_step hb2 bB
      replace hK' := hK'.below bB hK'.lt bB.size
      replace hpc := hpc.below bB
      obtain ⟨k0, k1, k2, k3, k4⟩ := glow_kept
      have c0 : _ = some (Value.bool (keptG glowP 5 4 5 0)) := hK'.cells 0 (by decide)
      have c1 : _ = some (Value.bool (keptG glowP 5 4 5 1)) := hK'.cells 1 (by decide)
      have c2 : _ = some (Value.bool (keptG glowP 5 4 5 2)) := hK'.cells 2 (by decide)
      have c3 : _ = some (Value.bool (keptG glowP 5 4 5 3)) := hK'.cells 3 (by decide)
      have c4 : _ = some (Value.bool (keptG glowP 5 4 5 4)) := hK'.cells 4 (by decide)
      rw [k0] at c0
      rw [k1] at c1
      rw [k2] at c2
      rw [k3] at c3
      rw [k4] at c4
      obtain ⟨cb, co, la, ll, lc, rfl, p0, p1, p2, p3, p4, p5, _⟩ := hpc.nth (k := 1) (by decide)
      have p4' : (w6.alloc (.cells #[.int .i64 4, .int .i64 2, .int .i64 3, .int .i64 1, .slice (some ⟨cb, co, none⟩) 3 cc] 63)).cell? ⟨cb, co + 6 + 4, none⟩ = some (.int .i64 9) := p4
      have h3 : ([⟨2, 0, 0, 0, 100, []⟩, ⟨1, 2, 0, 0, 9, []⟩, ⟨4, 1, 0, 2, 0, []⟩] : List Ps).length = 3 := rfl
      rw [h3]
      clear p0 p1 p2 p3 p4 p5 hpc hK' hp5 bel5 bel6 bB hcu hcl k0 k1 k2 k3 k4 h3 hok hsh
      go_wp2
      go_ret
      exact ⟨rfl, hb2⟩
    · exact absurd hok h0
  · exact absurd hok h0
end Go.Proofs.Ytfpkiimlaepnhaa
