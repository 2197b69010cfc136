/-
  OWNF: the reference's OwnFrame, of a right frame.
-/
import Derived.Test.YtfpkiimlaepnhaaM41
namespace Go.Proofs.Ytfpkiimlaepnhaa
set_option maxRecDepth 100000
open Go.RowKit Im

/-- The call's end tells the frame with the passes ps, in memory of its own. -/
def ToldF (w : World) (W H S O : Int) (ps : List Ps) (e : Ending) (w' : World) : Prop :=
  (∃ a cap L, e = .returned (.agg #[.int .i64 W, .int .i64 H, .int .i64 S, .int .i64 O, .slice a ps.length cap]) ∧ RowP w.heap.size w' (.slice a ps.length cap) L ∧ L.map Prod.fst = ps) ∧ Below w.heap.size w w'
theorem RowP.mono {base base' : Nat} {w : World} {v : Value} {L : Lp} (h : RowP base w v L) (hb : base' ≤ base) : RowP base' w v L := ⟨row_mono h.1 hb, fun x hx => (h.2 x hx).mono hb⟩
theorem take_snoc {ps : List Ps} {k : Nat} (hk : k < ps.length) : ps.take (k + 1) = ps.take k ++ [ps.getD k Ps.zero] := by
  rw [List.take_succ_eq_append_getElem hk, List.getD_eq_getElem?_getD, List.getElem?_eq_getElem hk]; rfl
set_option maxHeartbeats 4000000 in
theorem ownFrame_any (W H S O : Int) (a : Option Addr) (len cap : Nat) (ps : List Ps) (w : World) (hp : Passes w a len ps) (hE : frameE ⟨W, H, S, O, ps⟩ = 0) :
    Calls Try.prog 55 #[.agg #[.int .i64 W, .int .i64 H, .int .i64 S, .int .i64 O, .slice a len cap]] w (ToldF w W H S O ps) := by
  obtain rfl := hp.leng
  obtain ⟨hbnd, _, _⟩ := frameE_zero hE
  obtain ⟨_, _, _, _, hL⟩ := boundsE_zero hbnd
  dsimp only at hL
  obtain ⟨i0, hi, hz0, hz1, hz2⟩ := info_parts Try.infoPass
  obtain ⟨l0, li, lz0, lz1, lz2⟩ := info_parts Try.infoLight
  have hb1 := below_box (below_box (Below.refl w.heap.size w) (.cells #[.int .i64 W, .int .i64 H, .int .i64 S, .int .i64 O, .slice a ps.length cap] 63)) (.cells #[.int .i64 0, .int .i64 0, .int .i64 0, .int .i64 0, .slice none 0 0] 63)
  have hzz1 := ZBox.new (w.alloc (.cells #[.int .i64 W, .int .i64 H, .int .i64 S, .int .i64 O, .slice a ps.length cap] 63))
  rw [World.size_alloc] at hzz1
  have hB1 := (FBox.new w W H S O a ps.length cap).alloc (.cells #[.int .i64 0, .int .i64 0, .int .i64 0, .int .i64 0, .slice none 0 0] 63)
  have hfew : ∀ k, k < ps.length → (ps.getD k Ps.zero).ls.length ≤ 8 := fun k hk => few_lights (f := ⟨W, H, S, O, ps⟩) hE hk
  have HFEW : Hid (_) := hfew
  have hp1 := hp.below hb1
  have hG0 := GBox.new ((w.alloc (.cells #[.int .i64 W, .int .i64 H, .int .i64 S, .int .i64 O, .slice a ps.length cap] 63)).alloc (.cells #[.int .i64 0, .int .i64 0, .int .i64 0, .int .i64 0, .slice none 0 0] 63)) W H S O (.slice none 0 0)
  have hbA : Below ((w.alloc (.cells #[.int .i64 W, .int .i64 H, .int .i64 S, .int .i64 O, .slice a ps.length cap] 63)).alloc (.cells #[.int .i64 0, .int .i64 0, .int .i64 0, .int .i64 0, .slice none 0 0] 63)).heap.size ((w.alloc (.cells #[.int .i64 W, .int .i64 H, .int .i64 S, .int .i64 O, .slice a ps.length cap] 63)).alloc (.cells #[.int .i64 0, .int .i64 0, .int .i64 0, .int .i64 0, .slice none 0 0] 63)) (((w.alloc (.cells #[.int .i64 W, .int .i64 H, .int .i64 S, .int .i64 O, .slice a ps.length cap] 63)).alloc (.cells #[.int .i64 0, .int .i64 0, .int .i64 0, .int .i64 0, .slice none 0 0] 63)).alloc (.cells #[.int .i64 W, .int .i64 H, .int .i64 S, .int .i64 O, .slice none 0 0] 63)) := (Below.refl _ _).alloc (Nat.le_refl _) _
  have hs1 : ((w.alloc (.cells #[.int .i64 W, .int .i64 H, .int .i64 S, .int .i64 O, .slice a ps.length cap] 63)).alloc (.cells #[.int .i64 0, .int .i64 0, .int .i64 0, .int .i64 0, .slice none 0 0] 63)).heap.size = w.heap.size + 1 + 1 := by simp
  clear hfew hbnd hp
  go_enter Try.func55, Try.ntmps55
  go_wp2_with fail
  generalize ((w.alloc (.cells #[.int .i64 W, .int .i64 H, .int .i64 S, .int .i64 O, .slice a ps.length cap] 63)).alloc (.cells #[.int .i64 0, .int .i64 0, .int .i64 0, .int .i64 0, .slice none 0 0] 63)).alloc (.cells #[.int .i64 W, .int .i64 H, .int .i64 S, .int .i64 O, .slice none 0 0] 63) = w2 at *
  generalize (w.alloc (.cells #[.int .i64 W, .int .i64 H, .int .i64 S, .int .i64 O, .slice a ps.length cap] 63)).alloc (.cells #[.int .i64 0, .int .i64 0, .int .i64 0, .int .i64 0, .slice none 0 0] 63) = w1 at *
  rw [hs1] at hG0 hbA
  obtain ⟨B6, hB6⟩ : ∃ B6, B6 = w.heap.size + 1 + 1 := ⟨_, rfl⟩
  rw [← hB6] at hG0 hbA hs1 ⊢
  have HB6 : Hid (B6 = w.heap.size + 1 + 1) := hB6
  have HS1 : Hid (w1.heap.size = B6) := hs1
  clear hB6 hs1
  go_loopw [4] (fun i wr => ∃ (k : Nat) (v : Value) (L : Lp), k ≤ ps.length ∧ i = .int .i64 k ∧ RowP (B6 + 1) wr v L ∧ L.map Prod.fst = ps.take k ∧ GBox wr B6 W H S O v ∧ Below B6 w1 wr) (fun i _ => ps.length - (intOf i).toNat)
  case atStart => exact ⟨0, _, [], Nat.zero_le _, rfl, RowP.nil _ _, rfl, hG0, hbA⟩
  case round =>
    obtain ⟨k, v, L, hk, rfl, hRr, hmap, hGr, hbr⟩ := hrel
    have hbr' : Below w1.heap.size w1 wr := by rw [HS1.out]; exact hbr
    obtain ⟨_, g0, g1, g2, g3, g4⟩ := id (hB1.below hbr')
    have hlL : L.length = k := by have h1 := congrArg List.length hmap; simp at h1; omega
    by_cases hlt : k < ps.length
    · obtain ⟨b, off, la, ll, lc, rfl, p0, p1, p2, p3, p4, p5, hLi⟩ := (hp1.below hbr').nth hlt
      have hll := hLi.leng
      have hl8 := HFEW.out k hlt
      have HCU : Hid (ps.take (k + 1) = ps.take k ++ [ps.getD k Ps.zero]) := take_snoc hlt
      generalize ps.getD k Ps.zero = p at p0 p1 p2 p3 p4 p5 hLi HCU hll hl8
      obtain ⟨Op, To, A, B, K, ls⟩ := p
      dsimp only at p0 p1 p2 p3 p4 p5 hLi hll hl8
      subst hll
      have HLL : Hid (L.length ≤ 12) := by show _ ≤ _; omega
      clear hlL
      have hbP := (Below.refl wr.heap.size wr).alloc (Nat.le_refl _) (.cells #[.int .i64 Op, .int .i64 To, .int .i64 A, .int .i64 B, .int .i64 K, .slice la ls.length lc] 88)
      obtain ⟨va, vc, rfl⟩ := owns_slice hRr.1
      have hPP := PBox.new wr Op To A B K la ls.length lc
      by_cases hls : ls = []
      · subst hls
        simp only [List.length_nil] at p5 hbP hPP
        have hPP2 := hPP.alloc (.cells #[] 59)
        obtain ⟨_, r0, r1, r2, r3, r4, r5⟩ := id hPP2
        go_upto_region 8 with (at_builtin; refine list_append_nothing rfl _ _ 45 rfl 59 l0 Try.underlying45 li (some ⟨wr.heap.size + 1, 0, none⟩) 0 0 (Nat.le_refl _) rfl la lc rfl ?_)
        have hPQ := (PBox.new wr Op To A B K (some ⟨wr.heap.size + 1, 0, none⟩) 0 0).alloc (.cells #[] 59)
        have hbX := below_box (below_box (Below.refl wr.heap.size wr) (.cells #[.int .i64 Op, .int .i64 To, .int .i64 A, .int .i64 B, .int .i64 K, .slice (some ⟨wr.heap.size + 1, 0, none⟩) 0 0] 88)) (.cells #[] 59)
        have hRQ := hRr.below hbX
        have hGQ := hGr.below hbX hGr.lt hbX.size
        have hbQ : Below B6 w1 _ := hbr.trans (hbX.mono (by have := hbr.size; have := HS1.out; omega))
        have hXQ : Lx (B6 + 1) ((wr.alloc (.cells #[.int .i64 Op, .int .i64 To, .int .i64 A, .int .i64 B, .int .i64 K, .slice (some ⟨wr.heap.size + 1, 0, none⟩) 0 0] 88)).alloc (.cells #[] 59)) (.slice va L.length vc) (⟨Op, To, A, B, K, []⟩, (some ⟨wr.heap.size + 1, 0, none⟩), 0) := ⟨by simp, .inl rfl⟩
        clear r0 r1 r2 r3 r4 r5 hPP hPP2 hbX hbP hRr hGr g0 g1 g2 g3 g4 p0 p1 p2 p3 p4 p5
        generalize ((wr.alloc (.cells #[.int .i64 Op, .int .i64 To, .int .i64 A, .int .i64 B, .int .i64 K, .slice (some ⟨wr.heap.size + 1, 0, none⟩) 0 0] 88)).alloc (.cells #[] 59)) = wQ at *
        obtain ⟨_, p0, p1, p2, p3, p4, p5⟩ := id hPQ
        have d4 := hGQ.c4
        have dz := hGQ.fz 4
        have hsQ : B6 + 1 ≤ wQ.heap.size := hGQ.lt
        have hRA := hRQ.below ((Below.refl wQ.heap.size wQ).alloc (Nat.le_refl _) (.cells #[.int .i64 Op, .int .i64 To, .int .i64 A, .int .i64 B, .int .i64 K, .slice (some ⟨wr.heap.size + 1, 0, none⟩) 0 0] 88))
        have hXA := hXQ.below ((Below.refl wQ.heap.size wQ).alloc (Nat.le_refl _) (.cells #[.int .i64 Op, .int .i64 To, .int .i64 A, .int .i64 B, .int .i64 K, .slice (some ⟨wr.heap.size + 1, 0, none⟩) 0 0] 88))
        have hGA := hGQ.below ((Below.refl wQ.heap.size wQ).alloc (Nat.le_refl _) (.cells #[.int .i64 Op, .int .i64 To, .int .i64 A, .int .i64 B, .int .i64 K, .slice (some ⟨wr.heap.size + 1, 0, none⟩) 0 0] 88)) hGQ.lt (by simp)
        have HRL : Hid (_) := hRQ.lt
        have HMAP : Hid (_) := hmap
        clear hmap hRQ hXQ hGQ hPQ
        go_upto_region 5 with (at_builtin; refine wpList_append_own_at _ rfl _ _ 61 rfl (B6 + 1) 88 i0 _ 6 64 Try.underlying61 hi hz0 hz1 hz2 rfl (by decide) (.slice va L.length vc) L.length (pcells L) rfl hRA.1 ⟨wQ.heap.size, 0, none⟩ 1 1 [.int .i64 Op, .int .i64 To, .int .i64 A, .int .i64 B, .int .i64 K, .slice (some ⟨wr.heap.size + 1, 0, none⟩) 0 0] rfl rfl (cell_six_new _ _ _ _ _ _ _ _) (by intro u hu; simp at hu; rcases hu with rfl | rfl | rfl | rfl | rfl | rfl <;> rfl) (by have := HLL.out; unfold maxLen; omega) (by have := HLL.out; omega) (by simp; omega) ?_; intro v' w9 hown9 hgrow9 _ hloc9; have hR9 := hRA.push (x := (⟨Op, To, A, B, K, []⟩, some ⟨wr.heap.size + 1, 0, none⟩, 0)) hXA hown9 hgrow9 hloc9; have hG9 := hGA.grown hgrow9 (fun e => by have := (HRL.out _ e.symm).1; omega); obtain ⟨a9, cap9, hv9⟩ := owns_slice hown9; subst hv9; have e4 := hG9.c4; have ez := hG9.fz 4)
        have hGZ := hG9.put (.slice a9 (L.length + 1) cap9)
        have hRZ := hR9.setBelow (p := ⟨B6, 4, none⟩) (show B6 < B6 + 1 by omega) (.slice a9 (L.length + 1) cap9)
        have hbZ : Below B6 w1 (w9.setCell ⟨B6, 4, none⟩ (.slice a9 (L.length + 1) cap9)) := (((hbQ.alloc (Nat.le_of_succ_le hsQ) (.cells #[.int .i64 Op, .int .i64 To, .int .i64 A, .int .i64 B, .int .i64 K, .slice (some ⟨wr.heap.size + 1, 0, none⟩) 0 0] 88)).grown hgrow9 (by simp; omega) (fun j hj => by have := (HRL.out j hj).1; omega))).setCell (p := ⟨B6, 4, none⟩) (Nat.le_refl _) _
        clear p0 p1 p2 p3 p4 p5 d4 dz e4 ez hR9 hG9 hRA hXA hGA hown9 hgrow9
        go_wp2
        go_roundw
        case rel => exact ⟨k + 1, _, _, by omega, by go_num, hRZ, by rw [HCU.out, List.map_append, HMAP.out]; rfl, hGZ, hbZ⟩
        case measure => simp [intOf]; omega
      · obtain ⟨lb, lo, rfl, hlb, hlc⟩ : ∃ lb lo, la = some ⟨lb, lo, none⟩ ∧ lb < wr.heap.size ∧ ∀ j, j < ls.length → wr.cell? ⟨lb, lo + j * 4, none⟩ = some (.int .i64 (ls.getD j Lt.zero).X) ∧ wr.cell? ⟨lb, lo + j * 4 + 1, none⟩ = some (.int .i64 (ls.getD j Lt.zero).Y) ∧ wr.cell? ⟨lb, lo + j * 4 + 2, none⟩ = some (.int .i64 (ls.getD j Lt.zero).R) ∧ wr.cell? ⟨lb, lo + j * 4 + 3, none⟩ = some (.int .i64 (ls.getD j Lt.zero).P) := by
          rcases hLi.cells with e | ⟨lb, lo, ha, hl, hc⟩
          · exact absurd e hls
          · exact ⟨lb, lo, ha, hl, hc⟩
        have hbP2 := below_box hbP (.cells #[] 59)
        have hlcP := lights_cells (w := ((wr.alloc (.cells #[.int .i64 Op, .int .i64 To, .int .i64 A, .int .i64 B, .int .i64 K, .slice (some ⟨lb, lo, none⟩) ls.length lc] 88)).alloc (.cells #[] 59))) (b := lb) (off := lo) (ls := ls) (fun j hj => by
          obtain ⟨c0, c1, c2, c3⟩ := hlc j hj
          exact ⟨(hbP2.cell (p := ⟨lb, lo + j * 4, none⟩) hlb).trans c0, (hbP2.cell (p := ⟨lb, lo + j * 4 + 1, none⟩) hlb).trans c1, (hbP2.cell (p := ⟨lb, lo + j * 4 + 2, none⟩) hlb).trans c2, (hbP2.cell (p := ⟨lb, lo + j * 4 + 3, none⟩) hlb).trans c3⟩)
        have HLS : Hid (ls.length ≤ 8) := hl8
        have HLC : Hid ((lcells ls).length = ls.length * 4) := lcells_len ls
        have HNE : Hid (_) := hls
        have hsP : (wr.alloc (.cells #[.int .i64 Op, .int .i64 To, .int .i64 A, .int .i64 B, .int .i64 K, .slice (some ⟨lb, lo, none⟩) ls.length lc] 88)).heap.size = wr.heap.size + 1 := by simp
        have hlit := World.ownsRow_lit (base := wr.heap.size + 1) (e := 59) (size := 4) (wr.alloc (.cells #[.int .i64 Op, .int .i64 To, .int .i64 A, .int .i64 B, .int .i64 K, .slice (some ⟨lb, lo, none⟩) ls.length lc] 88)) #[] 0 (by rw [hsP]; exact Nat.le_refl _) (by unfold maxLen; omega) rfl
        rw [hsP] at hlit
        have hPP2 := hPP.alloc (.cells #[] 59)
        have fP := (((Below.refl (wr.alloc (.cells #[.int .i64 Op, .int .i64 To, .int .i64 A, .int .i64 B, .int .i64 K, .slice (some ⟨lb, lo, none⟩) ls.length lc] 88)).heap.size (wr.alloc (.cells #[.int .i64 Op, .int .i64 To, .int .i64 A, .int .i64 B, .int .i64 K, .slice (some ⟨lb, lo, none⟩) ls.length lc] 88))).alloc (Nat.le_refl _) (.cells #[] 59)).frozen (p := ⟨wr.heap.size, 5, none⟩) (show wr.heap.size < (wr.alloc (.cells #[.int .i64 Op, .int .i64 To, .int .i64 A, .int .i64 B, .int .i64 K, .slice (some ⟨lb, lo, none⟩) ls.length lc] 88)).heap.size by rw [hsP]; exact Nat.lt_succ_self _)).trans (frozen_new wr #[.int .i64 Op, .int .i64 To, .int .i64 A, .int .i64 B, .int .i64 K, .slice (some ⟨lb, lo, none⟩) ls.length lc] 88 5)
        have hs2 : ((wr.alloc (.cells #[.int .i64 Op, .int .i64 To, .int .i64 A, .int .i64 B, .int .i64 K, .slice (some ⟨lb, lo, none⟩) ls.length lc] 88)).alloc (.cells #[] 59)).heap.size = wr.heap.size + 1 + 1 := by simp
        obtain ⟨_, r0, r1, r2, r3, r4, r5⟩ := id hPP2
        clear hls hlc hLi hl8
        go_upto_region 8 with (at_builtin; refine wpList_append_own _ rfl _ _ 45 rfl (wr.heap.size + 1) 59 l0 _ 4 32 Try.underlying45 li lz0 lz1 lz2 rfl (by decide) (.slice (some ⟨wr.heap.size + 1, 0, none⟩) 0 0) 0 [] rfl hlit ⟨lb, lo, none⟩ ls.length lc (lcells ls) rfl (by rw [HLC.out]) hlcP (lcells_one ls) (by have := HLS.out; unfold maxLen; omega) (by have := HLS.out; omega) (by simp) ?_; intro vL wL hownL hgrowL _; obtain ⟨aL, cL, hvL⟩ := owns_slice hownL; subst hvL; have bL := (Below.refl (wr.heap.size + 1) ((wr.alloc (.cells #[.int .i64 Op, .int .i64 To, .int .i64 A, .int .i64 B, .int .i64 K, .slice (some ⟨lb, lo, none⟩) ls.length lc] 88)).alloc (.cells #[] 59))).grown hgrowL (by simp) (fun k hk => by cases hk; exact Nat.le_refl _); have fL := (bL.frozen (p := ⟨wr.heap.size, 5, none⟩) (Nat.lt_succ_self _)).trans fP; have s5 := (bL.cell (p := ⟨wr.heap.size, 5, none⟩) (Nat.lt_succ_self _)).trans r5)
        have bQ : Below wr.heap.size wr (wL.setCell ⟨wr.heap.size, 5, none⟩ (.slice aL ls.length cL)) := (hbP2.trans (bL.mono (by omega))).setCell (p := ⟨wr.heap.size, 5, none⟩) (Nat.le_refl _) _
        have hRQ := hRr.below bQ
        have hGQ := hGr.below bQ hGr.lt bQ.size
        have hbQ : Below B6 w1 _ := hbr.trans (bQ.mono (by have := hbr.size; have := HS1.out; omega))
        have hcl := fun o => bL.cell (p := ⟨wr.heap.size, o, none⟩) (Nat.lt_succ_self _)
        have hPQ : PBox (wL.setCell ⟨wr.heap.size, 5, none⟩ (.slice aL ls.length cL)) wr.heap.size Op To A B K aL ls.length cL := ⟨by have := bL.size; rw [hs2] at this; simp; omega, (set_other _ (by simp)).trans ((hcl 0).trans r0), (set_other _ (by simp)).trans ((hcl 1).trans r1), (set_other _ (by simp)).trans ((hcl 2).trans r2), (set_other _ (by simp)).trans ((hcl 3).trans r3), (set_other _ (by simp)).trans ((hcl 4).trans r4), set_same s5⟩
        rw [Nat.zero_add, List.nil_append] at hownL
        have hOL : OwnsL (wr.heap.size + 1) (wL.setCell ⟨wr.heap.size, 5, none⟩ (.slice aL ls.length cL)) (.slice aL ls.length cL) ls := ownsRow_setCell_below hownL (a := ⟨wr.heap.size, 5, none⟩) (Nat.lt_succ_self _) _
        have hXQ := Lx.of (base := B6 + 1) (p := ⟨Op, To, A, B, K, ls⟩) (v := .slice va L.length vc) (la := aL) (lc := cL) hOL rfl HLS.out (by have := hGr.lt; omega) (fun j hj => by have := (hRr.lt j hj).2; omega)
        clear r0 r1 r2 r3 r4 r5 fP hPP hPP2 hbP hbP2 hRr hGr hownL hgrowL bL fL s5 hlcP hOL bQ hlit hcl g0 g1 g2 g3 g4 p0 p1 p2 p3 p4 p5
        generalize wL.setCell ⟨wr.heap.size, 5, none⟩ (.slice aL ls.length cL) = wQ at *
        obtain ⟨_, p0, p1, p2, p3, p4, p5⟩ := id hPQ
        have d4 := hGQ.c4
        have dz := hGQ.fz 4
        have hsQ : B6 + 1 ≤ wQ.heap.size := hGQ.lt
        have hRA := hRQ.below ((Below.refl wQ.heap.size wQ).alloc (Nat.le_refl _) (.cells #[.int .i64 Op, .int .i64 To, .int .i64 A, .int .i64 B, .int .i64 K, .slice aL ls.length cL] 88))
        have hXA := hXQ.below ((Below.refl wQ.heap.size wQ).alloc (Nat.le_refl _) (.cells #[.int .i64 Op, .int .i64 To, .int .i64 A, .int .i64 B, .int .i64 K, .slice aL ls.length cL] 88))
        have hGA := hGQ.below ((Below.refl wQ.heap.size wQ).alloc (Nat.le_refl _) (.cells #[.int .i64 Op, .int .i64 To, .int .i64 A, .int .i64 B, .int .i64 K, .slice aL ls.length cL] 88)) hGQ.lt (by simp)
        have HRL : Hid (_) := hRQ.lt
        have HMAP : Hid (_) := hmap
        clear hmap hRQ hXQ hGQ hPQ
        go_upto_region 5 with (at_builtin; refine wpList_append_own_at _ rfl _ _ 61 rfl (B6 + 1) 88 i0 _ 6 64 Try.underlying61 hi hz0 hz1 hz2 rfl (by decide) (.slice va L.length vc) L.length (pcells L) rfl hRA.1 ⟨wQ.heap.size, 0, none⟩ 1 1 [.int .i64 Op, .int .i64 To, .int .i64 A, .int .i64 B, .int .i64 K, .slice aL ls.length cL] rfl rfl (cell_six_new _ _ _ _ _ _ _ _) (by intro u hu; simp at hu; rcases hu with rfl | rfl | rfl | rfl | rfl | rfl <;> rfl) (by have := HLL.out; unfold maxLen; omega) (by have := HLL.out; omega) (by simp; omega) ?_; intro v' w9 hown9 hgrow9 _ hloc9; have hR9 := hRA.push (x := (⟨Op, To, A, B, K, ls⟩, aL, cL)) hXA hown9 hgrow9 hloc9; have hG9 := hGA.grown hgrow9 (fun e => by have := (HRL.out _ e.symm).1; omega); obtain ⟨a9, cap9, hv9⟩ := owns_slice hown9; subst hv9; have e4 := hG9.c4; have ez := hG9.fz 4)
        have hGZ := hG9.put (.slice a9 (L.length + 1) cap9)
        have hRZ := hR9.setBelow (p := ⟨B6, 4, none⟩) (show B6 < B6 + 1 by omega) (.slice a9 (L.length + 1) cap9)
        have hbZ : Below B6 w1 (w9.setCell ⟨B6, 4, none⟩ (.slice a9 (L.length + 1) cap9)) := (((hbQ.alloc (Nat.le_of_succ_le hsQ) (.cells #[.int .i64 Op, .int .i64 To, .int .i64 A, .int .i64 B, .int .i64 K, .slice aL ls.length cL] 88)).grown hgrow9 (by simp; omega) (fun j hj => by have := (HRL.out j hj).1; omega))).setCell (p := ⟨B6, 4, none⟩) (Nat.le_refl _) _
        clear p0 p1 p2 p3 p4 p5 d4 dz e4 ez hR9 hG9 hRA hXA hGA hown9 hgrow9
        go_wp2
        go_roundw
        case rel => exact ⟨k + 1, _, _, by omega, by go_num, hRZ, by rw [HCU.out, List.map_append, HMAP.out]; rfl, hGZ, hbZ⟩
        case measure => simp [intOf]; omega
    · have hke : k = ps.length := by omega
      subst hke
      rw [List.take_length] at hmap
      obtain ⟨pa, pc, rfl, hPas⟩ := hRr.passes hmap (by omega)
      have hz9 := hzz1.below hbr' hzz1.lt hbr.size
      obtain ⟨_, c0, c1, c2, c3, c4, fz⟩ := id hz9
      have f0 := fz 0
      have f1 := fz 1
      have f2 := fz 2
      have f3 := fz 3
      have f4 := fz 4
      obtain ⟨_, d0, d1, d2, d3, d4, dz⟩ := id hGr
      have hb9 := below_step hb1 hbr'
      have hlq : w.heap.size + 1 < B6 + 1 := by have := HB6.out; omega
      have hR5 := (((((hRr.setBelow (p := ⟨w.heap.size + 1, 0, none⟩) hlq (.int .i64 W)).setBelow (p := ⟨w.heap.size + 1, 1, none⟩) hlq (.int .i64 H)).setBelow (p := ⟨w.heap.size + 1, 2, none⟩) hlq (.int .i64 S)).setBelow (p := ⟨w.heap.size + 1, 3, none⟩) hlq (.int .i64 O)).setBelow (p := ⟨w.heap.size + 1, 4, none⟩) hlq (.slice pa ps.length pc))
      have hb5 := (((((hb9.setCell (p := ⟨w.heap.size + 1, 0, none⟩) (show w.heap.size ≤ w.heap.size + 1 by omega) (.int .i64 W)).setCell (p := ⟨w.heap.size + 1, 1, none⟩) (show w.heap.size ≤ w.heap.size + 1 by omega) (.int .i64 H)).setCell (p := ⟨w.heap.size + 1, 2, none⟩) (show w.heap.size ≤ w.heap.size + 1 by omega) (.int .i64 S)).setCell (p := ⟨w.heap.size + 1, 3, none⟩) (show w.heap.size ≤ w.heap.size + 1 by omega) (.int .i64 O)).setCell (p := ⟨w.heap.size + 1, 4, none⟩) (show w.heap.size ≤ w.heap.size + 1 by omega) (.slice pa ps.length pc))
      have HP5 : Hid (_) := hR5.mono (show w.heap.size ≤ B6 + 1 by omega)
      have HB5 : Hid (_) := hb5
      have HMM : Hid (_) := hmap
      clear fz dz hPas hmap hp1 hB1 hR5 hb5 hRr
      go_wp2
      refine bodyPost_ret (v := .agg #[.int .i64 W, .int .i64 H, .int .i64 S, .int .i64 O, .slice pa ps.length pc]) (by simp [results, Try.results55, go_sem, c0, c1, c2, c3, c4]) rfl ?_
      exact ⟨⟨pa, pc, L, rfl, HP5.out, HMM.out⟩, HB5.out⟩
end Go.Proofs.Ytfpkiimlaepnhaa
