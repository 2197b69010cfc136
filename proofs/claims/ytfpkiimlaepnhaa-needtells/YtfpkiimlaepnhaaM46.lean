/-
  REFCHECK3: the reference's CheckFrame.
-/
import Derived.Test.YtfpkiimlaepnhaaM45
namespace Go.Proofs.Ytfpkiimlaepnhaa
set_option maxRecDepth 100000
open Go.RowKit Im

theorem to_slot {f : Fr} {k : Nat} {Op To A B K : Int} {ls : List Lt} (hpk : f.ps.getD k Ps.zero = ⟨Op, To, A, B, K, ls⟩) (hE : passE f k = 0) : 0 ≤ To ∧ To < f.S := by
  obtain ⟨o1, _⟩ := passE_zero hE
  rw [hpk] at o1
  obtain ⟨_, hsl, _⟩ := ownE_zero o1
  unfold slotsB at hsl
  rw [Bool.and_eq_true] at hsl
  have := hsl.2
  simp [slotB, withinB] at this
  omega
theorem FBox.set {w : World} {b : Nat} {W H S O : Int} {a : Option Addr} {len cap : Nat} (h : FBox w b W H S O a len cap) {p : Addr} (hp : p.block ≠ b) (v : Value) : FBox (w.setCell p v) b W H S O a len cap := by
  obtain ⟨h0, h1, h2, h3, h4, h5⟩ := h
  have hn : ∀ o, p ≠ (⟨b, o, none⟩ : Addr) := fun o e => hp (by rw [e])
  exact ⟨by simpa using h0, (set_other _ (hn 0)).trans h1, (set_other _ (hn 1)).trans h2, (set_other _ (hn 2)).trans h3, (set_other _ (hn 3)).trans h4, (set_other _ (hn 4)).trans h5⟩
theorem FBox.keep {w w' : World} {b B : Nat} {W H S O : Int} {a : Option Addr} {len cap : Nat} (h : FBox w b W H S O a len cap) (hb : Below B w w') (hB : b < B) (hs : w.heap.size ≤ w'.heap.size) : FBox w' b W H S O a len cap := by
  obtain ⟨h0, h1, h2, h3, h4, h5⟩ := h
  exact ⟨Nat.lt_of_lt_of_le h0 hs, (hb.cell (p := ⟨b, 0, none⟩) hB).trans h1, (hb.cell (p := ⟨b, 1, none⟩) hB).trans h2, (hb.cell (p := ⟨b, 2, none⟩) hB).trans h3, (hb.cell (p := ⟨b, 3, none⟩) hB).trans h4, (hb.cell (p := ⟨b, 4, none⟩) hB).trans h5⟩
set_option maxHeartbeats 4000000 in
theorem checkFrame_ok (W H : Int) (N : Nat) (O : Int) (a : Option Addr) (len cap : Nat) (ps : List Ps) (w : World) (hp : Passes w a len ps) (hE : boundsE ⟨W, H, N, O, ps⟩ = 0) :
    Calls Try.prog 41 #[.agg #[.int .i64 W, .int .i64 H, .int .i64 N, .int .i64 O, .slice a len cap]] w (ToldFZ w ⟨W, H, N, O, ps⟩) := by
  have hlen := hp.leng
  obtain ⟨hW, hH, hS, hO, hL⟩ := boundsE_zero hE
  dsimp only at hW hH hS hO hL
  have HE : Hid (boundsE ⟨W, H, N, O, ps⟩ = 0) := hE
  have c1 : withinB W 1 16 = true := by simp [withinB]; omega
  have c2 : withinB H 1 16 = true := by simp [withinB]; omega
  have c3 : withinB (N : Int) 1 8 = true := by simp [withinB]; omega
  have c4 : withinB O 0 ((N : Int) - 1) = true := by simp [withinB]; omega
  have c5 : withinB (len : Int) 1 12 = true := by rw [← hlen]; simp [withinB]; omega
  have hw : IntKind.i64.wrap ((N : Int) - 1) = (N : Int) - 1 := by rw [IntKind.wrap_i64]; omega
  have hB := FBox.new w W H N O a len cap
  have hb0 := below_box (Below.refl w.heap.size w) (.cells #[.int .i64 W, .int .i64 H, .int .i64 N, .int .i64 O, .slice a len cap] 63)
  have hno : Hid (∀ {E : Int} {e : Ending} {w' : World}, frameE ⟨W, H, N, O, ps⟩ = E → E ≠ 0 → e = .returned (.tuple #[.slice none 0 0, .int .i64 E]) → Below w.heap.size w w' → ToldFZ w ⟨W, H, N, O, ps⟩ e w') := by
    intro E e w' h1 h2 h3 h4
    refine ⟨⟨.slice none 0 0, by rw [h1]; exact h3, ?_⟩, h4⟩
    rw [h1, if_neg h2]
    exact World.ownsRow_nil _ _ _ _
  obtain ⟨_, g0, g1, g2, g3, g4⟩ := id hB
  obtain ⟨i0, hi, hz0, hz1, hz2⟩ := info_parts Try.infoSize
  clear hE
  go_enter Try.func41, Try.ntmps41
  go_upto_region 6 with (first
    | (go_at_call 61; refine (within_any _ _ _ _).mono ?_; rintro e w' ⟨rfl, rfl⟩)
    | (at_make; refine wpList_make_full _ rfl _ _ 64 rfl (w.heap.size + 1) 72 i0 (.agg #[.int .i64 0, .int .i64 0]) 2 Try.underlying64 hi hz0 hz1 .i64 .i64 _ _ N rfl rfl (by simp) (by simp) (by rw [hz2]; omega) (by unfold maxLen; omega) (by simp) ?_; intro wM hown hgrow))
  have hbM : Below (w.alloc (.cells #[.int .i64 W, .int .i64 H, .int .i64 N, .int .i64 O, .slice a len cap] 63)).heap.size (w.alloc (.cells #[.int .i64 W, .int .i64 H, .int .i64 N, .int .i64 O, .slice a len cap] 63)) wM := (Below.refl _ _).grown hgrow (Nat.le_refl _) (fun k hk => by cases hk)
  have hBM := hB.below hbM
  have hbW := below_step hb0 hbM
  rw [World.size_alloc] at hown
  have hlM := (World.ownsRow.lt (w := wM) hown (w.heap.size + 1) rfl).2
  have hIM := In.made hown hlM
  clear hown hgrow hbM hB hb0 g0 g1 g2 g3 g4 c1 c2 c3 c4 hw
  have g4 := hBM.c4
  go_wp2
  clear g4
  go_loopw [5, 6] (fun all i wr => ∃ (k : Nat) (v : Value), k ≤ len ∧ i = .int .i64 k ∧ all = v ∧ In wr (w.heap.size + 1) N (inP ⟨W, H, N, O, ps⟩ k) ∧ OwnsZ (w.heap.size + 2) wr v (szs ⟨W, H, N, O, ps⟩ k) ∧ Below w.heap.size w wr ∧ FBox wr w.heap.size W H N O a len cap ∧ firstE ⟨W, H, N, O, ps⟩ k = 0) (fun _ i _ => len - (intOf i).toNat)
  case atStart => exact ⟨0, _, Nat.zero_le _, rfl, rfl, hIM, World.ownsRow_nil _ _ _ _, hbW, hBM, rfl⟩
  case round =>
    obtain ⟨k, v, hk, rfl, rfl, hIr, hZr, hbr, hBr, hfirst⟩ := hrel
    clear hIM hbW hBM hlM
    by_cases hlt : k < len
    · have hpr := hp.below hbr
      have hkl : k < (Fr.mk W H N O ps).ps.length := by show k < ps.length; omega
      have H1 : Hid (∀ E : Int, passE ⟨W, H, N, O, ps⟩ k = E → E ≠ 0 → frameE ⟨W, H, N, O, ps⟩ = E) := fun E e h => (frameE_pass (f := ⟨W, H, N, O, ps⟩) HE.out hfirst hkl (by rw [e]; exact h)).trans e
      have H2 : Hid (passE ⟨W, H, N, O, ps⟩ k = 0 → firstE ⟨W, H, N, O, ps⟩ (k + 1) = 0) := fun h => (firstE_at ⟨W, H, N, O, ps⟩ hfirst).trans h
      have H3 : Hid (szs ⟨W, H, N, O, ps⟩ (k + 1) = szs ⟨W, H, N, O, ps⟩ k ++ [sizeP W H (ps.getD k Ps.zero).Op (pickZ (szs ⟨W, H, N, O, ps⟩ k) (srcOf ps k))]) := rfl
      have H4 : Hid (∀ s, inP ⟨W, H, N, O, ps⟩ (k + 1) s = if (ps.getD k Ps.zero).To = s then sizeP W H (ps.getD k Ps.zero).Op (pickZ (szs ⟨W, H, N, O, ps⟩ k) (srcOf ps k)) else inP ⟨W, H, N, O, ps⟩ k s) := fun s => inP_succ ⟨W, H, N, O, ps⟩ k s
      have H5 : Hid (refE (ps.getD k Ps.zero) N (inP ⟨W, H, N, O, ps⟩ k (ps.getD k Ps.zero).A) (inP ⟨W, H, N, O, ps⟩ k (ps.getD k Ps.zero).B) = passE ⟨W, H, N, O, ps⟩ k) := refE_eq (f := ⟨W, H, N, O, ps⟩) HE.out hfirst
      have H6 : Hid ((szs ⟨W, H, N, O, ps⟩ k).length = k) := szs_length _ _
      have hgb := fun s => inP_bd (f := ⟨W, H, N, O, ps⟩) (k := k) HE.out hfirst s
      obtain ⟨b, off, la, ll, lc, rfl, p0, p1, p2, p3, p4, p5, hLi⟩ := hpr.nth hlt
      generalize hpk : ps.getD k Ps.zero = p at p0 p1 p2 p3 p4 p5 hLi H3 H4 H5
      obtain ⟨Op, To, A, B, K, ls⟩ := p
      dsimp only at p0 p1 p2 p3 p4 p5 hLi H3 H4 H5
      have hsz := fun (hE : passE ⟨W, H, N, O, ps⟩ k = 0) (wx : World) (hI : In wx (w.heap.size + 1) N (inP ⟨W, H, N, O, ps⟩ k)) => refSize_any (f := ⟨W, H, N, O, ps⟩) (k := k) hpk HE.out hfirst hE (some ⟨b, off, none⟩) len cap la ll lc (ic := N) rfl hI
      have hto := fun (hE : passE ⟨W, H, N, O, ps⟩ k = 0) => to_slot (f := ⟨W, H, N, O, ps⟩) (k := k) hpk hE
      dsimp only at hsz hto
      have hpe := fun (wx : World) (hL : Lights wx la ll ls) (hI : In wx (w.heap.size + 1) N (inP ⟨W, H, N, O, ps⟩ k)) => passErr_any W H N O (some ⟨b, off, none⟩) len cap Op To A B K la ll lc ls (w.heap.size + 1) N N (inP ⟨W, H, N, O, ps⟩ k) wx hS rfl hL hI hgb
      rw [H5.out] at hpe
      clear hpk hgb H5 hp hpr hfirst
      generalize szs ⟨W, H, N, O, ps⟩ k = zs at hZr H3 H4 H6 hsz
      generalize sizeP W H Op (pickZ zs (srcOf ps k)) = z at H3 H4 hsz
      generalize inP ⟨W, H, N, O, ps⟩ k = g at hIr H4 hsz hpe
      generalize passE ⟨W, H, N, O, ps⟩ k = E at H1 H2 hsz hto hpe
      obtain ⟨zw, zh⟩ := z
      dsimp only at hsz
      obtain ⟨va, vcap, rfl⟩ := owns_slice hZr
      have hIp := hIr.below ((Below.refl wr.heap.size wr).alloc (Nat.le_refl _) (.cells #[.int .i64 Op, .int .i64 To, .int .i64 A, .int .i64 B, .int .i64 K, .slice la ll lc] 88)) hIr.lt (by simp)
      have hBp := hBr.alloc (.cells #[.int .i64 Op, .int .i64 To, .int .i64 A, .int .i64 B, .int .i64 K, .slice la ll lc] 88)
      have hZp : OwnsZ _ _ _ _ := World.ownsRow.alloc hZr (.cells #[.int .i64 Op, .int .i64 To, .int .i64 A, .int .i64 B, .int .i64 K, .slice la ll lc] 88)
      have hPp := PBox.new wr Op To A B K la ll lc
      have hbp := below_box hbr (.cells #[.int .i64 Op, .int .i64 To, .int .i64 A, .int .i64 B, .int .i64 K, .slice la ll lc] 88)
      obtain ⟨_, q0, q1, q2, q3, q4⟩ := id hBr
      go_wp2_with fail
      refine (hpe _ (hLi.alloc' _) hIp).mono ?_
      rintro e wA ⟨rfl, bA⟩
      have hIA := hIp.below bA hIp.lt bA.size
      have hBA := hBp.below bA
      have hPA := hPp.below bA
      have hZA : OwnsZ _ _ _ _ := ownsRow_below hZp bA (Nat.le_refl _)
      have hbA := below_step hbp bA
      clear hpe hIp hBp hPp hZp hbp bA hIr hZr hbr hBr p0 p1 p2 p3 p4 p5 hLi q0 q1 q2 q3 q4
      obtain ⟨_, q0, q1, q2, q3, q4⟩ := id hBA
      obtain ⟨_, p0, p1, p2, p3, p4, p5⟩ := id hPA
      by_cases hE0 : E = 0
      · subst hE0
        have hT := hto rfl
        obtain ⟨m, rfl⟩ := Int.eq_ofNat_of_zero_le hT.1
        have hsz' := hsz rfl
        clear hsz hto
        go_wp2_with fail
        refine (hsz' _ hIA).mono ?_
        rintro e wB ⟨rfl, bB⟩
        have hIS := (hIA.below bB hIA.lt bB.size).below ((Below.refl wB.heap.size wB).alloc (Nat.le_refl _) (.cells #[.int .i64 zw, .int .i64 zh] 72)) (Nat.lt_of_lt_of_le hIA.lt bB.size) (by simp)
        have hBS := (hBA.below bB).alloc (.cells #[.int .i64 zw, .int .i64 zh] 72)
        have hPS := (hPA.below bB).alloc (.cells #[.int .i64 zw, .int .i64 zh] 72)
        have hZS : OwnsZ _ _ _ _ := World.ownsRow.alloc (ownsRow_below hZA bB (Nat.le_refl _)) (.cells #[.int .i64 zw, .int .i64 zh] 72)
        have hbS := below_box (below_step hbA bB) (.cells #[.int .i64 zw, .int .i64 zh] 72)
        have hlS : wB.heap.size < (wB.alloc (.cells #[.int .i64 zw, .int .i64 zh] 72)).heap.size := by simp
        have s0 : (wB.alloc (.cells #[.int .i64 zw, .int .i64 zh] 72)).cell? ⟨wB.heap.size, 0, none⟩ = some (.int .i64 zw) := by simp [go_sem]
        have s1 : (wB.alloc (.cells #[.int .i64 zw, .int .i64 zh] 72)).cell? ⟨wB.heap.size, 1, none⟩ = some (.int .i64 zh) := by simp [go_sem]
        have hlB : w.heap.size + 1 < wB.heap.size := Nat.lt_of_lt_of_le hIA.lt bB.size
        clear hIA hBA hPA hZA hbA bB p0 p1 p2 p3 p4 p5 q0 q1 q2 q3 q4 hsz'
        go_upto_region 15 with fail
        generalize wB.alloc (.cells #[.int .i64 zw, .int .i64 zh] 72) = wS at hIS hBS hPS hZS hbS hlS s0 s1 ⊢
        obtain ⟨hc0, hc1⟩ := hIS.cells m (by omega)
        have hf0 := hIS.froz (0 + m * 2)
        have hf1 := hIS.froz (0 + m * 2 + 1)
        obtain ⟨_, p0, p1, p2, p3, p4, p5⟩ := id hPS
        rw [Nat.zero_add] at hc0 hc1 hf0 hf1
        have hmN : (m : Int) < (N : Int) := hT.2
        go_upto_region 16 with fail
        have hIT := hIS.put (g' := inP ⟨W, H, N, O, ps⟩ (k + 1)) m (zw, zh) (by omega) (fun j => H4.out j)
        simp only [Nat.zero_add] at hIT
        have hBT := (hBS.set (p := ⟨w.heap.size + 1, m * 2, none⟩) (by simp) (.int .i64 zw)).set (p := ⟨w.heap.size + 1, m * 2 + 1, none⟩) (by simp) (.int .i64 zh)
        have hZT : OwnsZ _ _ _ _ := ownsRow_setCell_below (ownsRow_setCell_below hZS (a := ⟨w.heap.size + 1, m * 2, none⟩) (by simp) (.int .i64 zw)) (a := ⟨w.heap.size + 1, m * 2 + 1, none⟩) (by simp) (.int .i64 zh)
        have hbT := (hbS.setCell (p := ⟨w.heap.size + 1, m * 2, none⟩) (by simp) (.int .i64 zw)).setCell (p := ⟨w.heap.size + 1, m * 2 + 1, none⟩) (by simp) (.int .i64 zh)
        have t0 := (set_other (.int .i64 zh) (a := ⟨w.heap.size + 1, m * 2 + 1, none⟩) (b := ⟨wB.heap.size, 0, none⟩) (fun e => by injection e with e1; omega)).trans ((set_other (.int .i64 zw) (a := ⟨w.heap.size + 1, m * 2, none⟩) (b := ⟨wB.heap.size, 0, none⟩) (fun e => by injection e with e1; omega)).trans s0)
        have t1 := (set_other (.int .i64 zh) (a := ⟨w.heap.size + 1, m * 2 + 1, none⟩) (b := ⟨wB.heap.size, 1, none⟩) (fun e => by injection e with e1; omega)).trans ((set_other (.int .i64 zw) (a := ⟨w.heap.size + 1, m * 2, none⟩) (b := ⟨wB.heap.size, 1, none⟩) (fun e => by injection e with e1; omega)).trans s1)
        clear hIS hBS hPS hZS hbS hlS s0 s1 hc0 hc1 hf0 hf1 p0 p1 p2 p3 p4 p5 H1 H4
        generalize (wS.setCell ⟨w.heap.size + 1, m * 2, none⟩ (.int .i64 zw)).setCell ⟨w.heap.size + 1, m * 2 + 1, none⟩ (.int .i64 zh) = wT at hIT hBT hZT hbT t0 t1 ⊢
        have hZU : OwnsZ _ _ _ _ := World.ownsRow.alloc hZT (.cells #[.int .i64 zw, .int .i64 zh] 72)
        have hlT : w.heap.size + 2 ≤ wT.heap.size := hIT.lt
        go_wp2_with (at_builtin; refine wpList_append_own _ rfl _ _ 64 rfl (w.heap.size + 2) 72 i0 _ 2 16 Try.underlying64 hi hz0 hz1 hz2 rfl (by decide) _ _ _ rfl hZU ⟨wT.heap.size, 0, none⟩ 1 1 [.int .i64 zw, .int .i64 zh] rfl rfl (cell_two_new _ _ _ _) (by intro u hu; simp at hu; rcases hu with rfl | rfl <;> rfl) (by rw [H6.out]; unfold maxLen; omega) (by rw [H6.out]; omega) (by simp; omega) ?_; intro v' w9 hown9 hgrow9 _)
        obtain ⟨hZ9, hb9⟩ := OwnsZ.push (z := (zw, zh)) hZT (Below.refl _ wT) hlT hown9 rfl hgrow9
        go_roundw
        case rel => exact ⟨k + 1, _, by omega, by go_num, rfl, hIT.below hb9 (by omega) hb9.size, by rw [H3.out]; exact hZ9, hbT.trans (hb9.mono (by omega)), hBT.keep hb9 (by omega) hb9.size, H2.out (by trivial)⟩
        case measure => simp [intOf]; omega
      · have HF := H1.out E rfl hE0
        clear hsz hto H1 H2 H3 H4 H6
        go_wp2
        go_ret2
        exact hno.out HF hE0 rfl hbA
    · have hke : k = ps.length := by omega
      obtain ⟨o, rfl⟩ := Int.eq_ofNat_of_zero_le hO.1
      have hz := inP_zero (f := ⟨W, H, N, o, ps⟩) (n := k) (s := o) HE.out hfirst
      have HF : Hid (frameE ⟨W, H, N, o, ps⟩ = if (inP ⟨W, H, N, o, ps⟩ k o).1 = 0 then 5 else 0) := by
        show _ = _
        unfold frameE
        rw [if_pos HE.out]
        have : firstE ⟨W, H, N, o, ps⟩ ps.length = 0 := by rw [← hke]; exact hfirst
        dsimp only
        rw [if_pos this]
        unfold shownP
        dsimp only at hz ⊢
        rw [hke] at hz ⊢
        by_cases h : 0 ≤ wrt ps ps.length o
        · rw [if_pos h, if_neg (fun e => (hz.1 e) h)]
        · rw [if_neg h, if_pos (hz.2 h)]
      have HZ : Hid (szs ⟨W, H, N, o, ps⟩ k = szs ⟨W, H, N, o, ps⟩ ps.length) := by show _ = _; rw [hke]
      obtain ⟨hc0, _⟩ := hIr.cells o (by omega)
      rw [Nat.zero_add] at hc0
      obtain ⟨_, q0, q1, q2, q3, q4⟩ := id hBr
      obtain ⟨va, vcap, rfl⟩ := owns_slice hZr
      have hoN : (o : Int) < (N : Int) := hO.2
      generalize (inP ⟨W, H, N, o, ps⟩ k o).1 = x at hc0 HF
      clear hz hIr hfirst hp
      by_cases hx : x = 0
      · subst hx
        have HF' := HF.out
        rw [if_pos rfl] at HF'
        have HG : Hid (_) := HF'
        clear HF' HF
        go_wp2
        go_ret2
        exact hno.out HG.out (by decide) rfl hbr
      · have HF' := HF.out
        rw [if_neg hx] at HF'
        have HG : Hid (_) := HF'
        have HZZ : Hid (_) := hZr
        clear HF' HF hZr
        go_wp2
        go_ret2
        refine ⟨⟨.slice va (szs ⟨W, H, N, o, ps⟩ k).length vcap, by rw [HG.out]; rfl, ?_⟩, hbr⟩
        rw [HG.out, if_pos rfl]
        rw [← HZ.out]
        exact row_mono HZZ.out (by omega)
/-- The reference's CheckFrame. -/
theorem checkFrame_any (W H S O : Int) (a : Option Addr) (len cap : Nat) (ps : List Ps) (w : World) (hp : Passes w a len ps) :
    Calls Try.prog 41 #[.agg #[.int .i64 W, .int .i64 H, .int .i64 S, .int .i64 O, .slice a len cap]] w (ToldFZ w ⟨W, H, S, O, ps⟩) := by
  by_cases hE : boundsE ⟨W, H, S, O, ps⟩ = 0
  · obtain ⟨_, _, hS, _⟩ := boundsE_zero hE
    dsimp only at hS
    obtain ⟨N, rfl⟩ := Int.eq_ofNat_of_zero_le (show 0 ≤ S by omega)
    exact checkFrame_ok W H N O a len cap ps w hp hE
  · exact checkFrame_bounds W H S O a len cap ps w hp hE
end Go.Proofs.Ytfpkiimlaepnhaa
