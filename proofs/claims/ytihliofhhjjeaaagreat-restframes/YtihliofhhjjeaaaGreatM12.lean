/- Follow2, FrameCalls, RenderA, FrameRef, LastRef, HasRef: joined, in this order. -/
import Derived.Test.YtihliofhhjjeaaaGreatM11
import Derived.Test.YtihliofhhjjeaaaGreatM05
import Derived.Deep.RegionHeld3
import Derived.Deep.CutRange
set_option maxRecDepth 100000
namespace Go.Proofs.YtihliofhhjjeaaaGreat
open Go.RowKit Im
theorem fol_start (w1 : World) (q : Int → Int) (hq : ∀ m : Nat, q m = -1) : Fol w1.heap.size ((w1.alloc (.cells #[.slice none 0 0, .slice none 0 0, .int .i64 0] 82)).alloc (.cells #[.int .i64 0, .int .i64 0, .int .i64 0, .int .i64 0, .int .i64 0, .int .i64 0, .int .i64 0, .int .i64 0] 120)) ((w1.alloc (.cells #[.slice none 0 0, .slice none 0 0, .int .i64 0] 82)).alloc (.cells #[.int .i64 0, .int .i64 0, .int .i64 0, .int .i64 0, .int .i64 0, .int .i64 0, .int .i64 0, .int .i64 0] 120)) (.slice none 0 0) (.slice none 0 0) [] [] q := by
  have e : (w1.alloc (.cells #[.slice none 0 0, .slice none 0 0, .int .i64 0] 82)).heap.size = w1.heap.size + 1 := by simp
  have k0 : ((w1.alloc (.cells #[.slice none 0 0, .slice none 0 0, .int .i64 0] 82)).alloc (.cells #[.int .i64 0, .int .i64 0, .int .i64 0, .int .i64 0, .int .i64 0, .int .i64 0, .int .i64 0, .int .i64 0] 120)).heap[w1.heap.size]? = some (.cells #[.slice none 0 0, .slice none 0 0, .int .i64 0] 82 (0, 0)) := (Below.heap_alloc _ _ _ (by simp)).trans (MapKept.heap_alloc w1 _).1
  have k1 : ((w1.alloc (.cells #[.slice none 0 0, .slice none 0 0, .int .i64 0] 82)).alloc (.cells #[.int .i64 0, .int .i64 0, .int .i64 0, .int .i64 0, .int .i64 0, .int .i64 0, .int .i64 0, .int .i64 0] 120)).heap[w1.heap.size + 1]? = some (.cells #[.int .i64 0, .int .i64 0, .int .i64 0, .int .i64 0, .int .i64 0, .int .i64 0, .int .i64 0, .int .i64 0] 120 (0, 0)) := by rw [← e]; exact (MapKept.heap_alloc _ _).1
  refine ⟨Below.refl _ _, by simp, by simp [go_sem], by simp [go_sem], by simp [go_sem], fun o => ?_, fun m hm => ?_, fun o => ?_, World.ownsRow_nil _ _ _ _, OwnsLL.nil _ _⟩
  · unfold World.frozen?; rw [k0]; simp
  · rw [hq m, ← e, World.cell?_alloc_new]
    match m, hm with
    | 0, _ => rfl
    | 1, _ => rfl
    | 2, _ => rfl
    | 3, _ => rfl
    | 4, _ => rfl
    | 5, _ => rfl
    | 6, _ => rfl
    | 7, _ => rfl
  · unfold World.frozen?; rw [k1]; simp
theorem slots_bd {p : Ps} {S : Int} (hS : 1 ≤ S ∧ S ≤ 8) (h : ownE p S = 0) : (∀ s ∈ takesP p, 0 ≤ s ∧ s < 8) ∧ (0 ≤ p.To ∧ p.To < 8) := by
  obtain ⟨_, h2, _⟩ := ownE_zero h
  unfold slotsB at h2
  rw [Bool.and_eq_true, List.all_eq_true] at h2
  refine ⟨fun s hs => ?_, ?_⟩
  · have := h2.1 s hs
    simp [slotB, withinB] at this
    omega
  · have := h2.2
    simp [slotB, withinB] at this
    omega
theorem frameE_pass {f : Fr} {k : Nat} (hb : boundsE f = 0) (h : firstE f k = 0) (hk : k < f.ps.length) (he : passE f k ≠ 0) : frameE f = passE f k := by
  have h1 := firstE_end f h he hk
  unfold frameE
  rw [if_pos hb, h1, if_neg he]
theorem frameE_own {f : Fr} {k : Nat} (hb : boundsE f = 0) (h : firstE f k = 0) (hk : k < f.ps.length) (he : ownE (f.ps.getD k Ps.zero) f.S ≠ 0) : frameE f = ownE (f.ps.getD k Ps.zero) f.S := by
  have e : passE f k = ownE (f.ps.getD k Ps.zero) f.S := by unfold passE; rw [if_neg he]
  rw [frameE_pass hb h hk (by rw [e]; exact he), e]
theorem frameE_none {f : Fr} {k : Nat} (hb : boundsE f = 0) (h : firstE f k = 0) (hk : k < f.ps.length) (he : ownE (f.ps.getD k Ps.zero) f.S = 0) (ht : thereB (srcOf f.ps k) = false) : frameE f = 5 := by
  have e : passE f k = 5 := by unfold passE; rw [if_pos he, if_neg (by rw [ht]; decide)]
  rw [frameE_pass hb h hk (by rw [e]; decide), e]
theorem frameE_size {f : Fr} {k : Nat} (hb : boundsE f = 0) (h : firstE f k = 0) (hk : k < f.ps.length) (he : ownE (f.ps.getD k Ps.zero) f.S = 0) (ht : thereB (srcOf f.ps k) = true) (hf : fitP (f.ps.getD k Ps.zero).Op (pickZ (szs f k) (srcOf f.ps k)) = false) : frameE f = 6 := by
  have e : passE f k = 6 := by unfold passE; rw [if_pos he, if_pos ht, if_neg (by rw [hf]; decide)]
  rw [frameE_pass hb h hk (by rw [e]; decide), e]
theorem firstE_next {f : Fr} {k : Nat} (h : firstE f k = 0) (he : ownE (f.ps.getD k Ps.zero) f.S = 0) (ht : thereB (srcOf f.ps k) = true) (hf : fitP (f.ps.getD k Ps.zero).Op (pickZ (szs f k) (srcOf f.ps k)) = true) : firstE f (k + 1) = 0 := by
  rw [firstE_at f h]; unfold passE; rw [if_pos he, if_pos ht, if_pos hf]
theorem Tryz.infoInts : (Tryz.prog.info? 25).map (fun i => (i.zero, i.size, i.bytes)) = some (some (.slice none 0 0), 1, 24) := by kernel_rfl
def Sized (wB : World) (z : Sz) (fit : Bool) (s12 s13 : Value) (wx : World) : Prop :=
  s13 = .bool fit ∧ ∃ b, s12 = .pointer (some ⟨b, 0, none⟩) ∧ wx.cell? ⟨b, 0, none⟩ = some (.int .i64 z.1) ∧ wx.cell? ⟨b, 1, none⟩ = some (.int .i64 z.2) ∧ Below wB.heap.size wB wx
theorem keepR {wB w' : World} {bf bp bc : Nat} {W H S O : Int} {a : Option Addr} {len cap : Nat} {Op To A B K : Int} {la : Option Addr} {ll lc : Nat} {v1 : Value} (hF : FBox wB bf W H S O a len cap) (hP : PBox wB bp Op To A B K la ll lc) (hc : wB.cell? ⟨bc, 0, none⟩ = some v1) (hlc : bc < wB.heap.size) (hb : Below wB.heap.size wB w') :
    Below wB.heap.size wB w' ∧ w'.cell? ⟨bf, 0, none⟩ = some (.int .i64 W) ∧ w'.cell? ⟨bf, 1, none⟩ = some (.int .i64 H) ∧ w'.cell? ⟨bf, 2, none⟩ = some (.int .i64 S) ∧ w'.cell? ⟨bf, 3, none⟩ = some (.int .i64 O) ∧ w'.cell? ⟨bf, 4, none⟩ = some (.slice a len cap) ∧ w'.cell? ⟨bp, 0, none⟩ = some (.int .i64 Op) ∧ w'.cell? ⟨bp, 1, none⟩ = some (.int .i64 To) ∧ w'.cell? ⟨bp, 2, none⟩ = some (.int .i64 A) ∧ w'.cell? ⟨bp, 3, none⟩ = some (.int .i64 B) ∧ w'.cell? ⟨bp, 4, none⟩ = some (.int .i64 K) ∧ w'.cell? ⟨bp, 5, none⟩ = some (.slice la ll lc) ∧ w'.cell? ⟨bc, 0, none⟩ = some v1 := by
  obtain ⟨_, g0, g1, g2, g3, g4⟩ := hF.below hb
  obtain ⟨_, p0, p1, p2, p3, p4, p5⟩ := hP.below hb
  exact ⟨hb, g0, g1, g2, g3, g4, p0, p1, p2, p3, p4, p5, (hb.cell (p := ⟨bc, 0, none⟩) hlc).trans hc⟩
theorem row_mono {base base' : Nat} {w : World} {e : TypeId} {z : Nat} {v : Value} {n : Nat} {xs : List Value} (h : w.ownsRow base e z v n xs) (hb : base' ≤ base) : w.ownsRow base' e z v n xs := by
  obtain ⟨h1, h2⟩ := h
  refine ⟨h1, ?_⟩
  rcases h2 with h2 | ⟨g, cap, cur, hv, hg, r⟩
  · exact .inl h2
  · exact .inr ⟨g, cap, cur, hv, Nat.le_trans hb hg, r⟩
theorem OwnsLL.mono {base base' : Nat} {w : World} {v : Value} {ss : List (List Int)} (h : OwnsLL base w v ss) (hb : base' ≤ base) : OwnsLL base' w v ss := by
  obtain ⟨us, h1, h2, h3⟩ := h
  refine ⟨us, row_mono h1 hb, h2, fun j x hj => ?_⟩
  obtain ⟨u, hu, ho⟩ := h3 j x hj
  exact ⟨u, hu, row_mono ho hb⟩
theorem takes_two {p : Ps} (h : hasB p.Op = true) : (takesP p).length = 2 := by unfold takesP; rw [if_pos h]; rfl
set_option maxHeartbeats 4000000 in
theorem follow_ok (W H S O : Int) (a : Option Addr) (len cap : Nat) (ps : List Ps) (w : World) (hp : Passes w a len ps) (hE : boundsE ⟨W, H, S, O, ps⟩ = 0) :
    Calls Tryz.prog 34 #[.agg #[.int .i64 W, .int .i64 H, .int .i64 S, .int .i64 O, .slice a len cap]] w (ToldC w ⟨W, H, S, O, ps⟩) := by
  have hlen := hp.leng
  obtain ⟨hW, hH, hS, hO, hL⟩ := boundsE_zero hE
  dsimp only at hW hH hS hO hL
  have hcb := fun wx => checkBounds_any W H S O a len cap ps wx hp.leng hp.big
  rw [hE] at hcb
  have HE : Hid (boundsE ⟨W, H, S, O, ps⟩ = 0) := hE
  clear hE
  have hB := (FBox.new w W H S O a len cap).alloc (.cells #[.slice none 0 0, .slice none 0 0, .int .i64 0] 82)
  have hC := CBox.new (w.alloc (.cells #[.int .i64 W, .int .i64 H, .int .i64 S, .int .i64 O, .slice a len cap] 24))
  have hb0 := below_box (below_box (Below.refl w.heap.size w) (.cells #[.int .i64 W, .int .i64 H, .int .i64 S, .int .i64 O, .slice a len cap] 24)) (.cells #[.slice none 0 0, .slice none 0 0, .int .i64 0] 82)
  rw [World.size_alloc] at hC
  go_enter Tryz.func34, Tryz.ntmps34
  go_wp2_with fail
  refine (hcb _).mono ?_
  rintro e w1 ⟨rfl, b1⟩
  have hC1 := hC.below b1 hC.lt (Nat.lt_of_lt_of_le hC.lt b1.size)
  have hB1 := hB.below b1
  replace hb0 := below_step hb0 b1
  clear hcb hC hB b1
  have hp1 := hp.below hb0
  have hF := fol_start w1 (wrt ps 0) (fun _ => rfl)
  have hB2 := (hB1.alloc (.cells #[.slice none 0 0, .slice none 0 0, .int .i64 0] 82)).alloc (.cells #[.int .i64 0, .int .i64 0, .int .i64 0, .int .i64 0, .int .i64 0, .int .i64 0, .int .i64 0, .int .i64 0] 120)
  obtain ⟨_, g0, g1, g2, g3, g4⟩ := id hB2
  go_wp2
  clear g0 g1 g2 g3 g4
  go_loopw [25] (fun i wr => ∃ (k : Nat) (v1 v2 : Value), k ≤ len ∧ i = .int .i64 k ∧ Fol w1.heap.size w1 wr v1 v2 (szs ⟨W, H, S, O, ps⟩ k) (srcs ps k) (wrt ps k) ∧ firstE ⟨W, H, S, O, ps⟩ k = 0) (fun i _ => len - (intOf i).toNat)
  case atStart => exact ⟨0, _, _, Nat.zero_le _, rfl, ⟨((Below.refl _ w1).alloc (Nat.le_refl _) _).alloc (by simp) _, hF.siz, hF.c0, hF.c1, hF.c2, hF.cf, hF.sl, hF.sf, hF.ownZ, hF.ownS⟩, rfl⟩
  case round =>
    obtain ⟨k, v1, v2, hk, rfl, hfol, hfirst⟩ := hrel
    have hbr := below_step hb0 (hfol.bel.mono (Nat.le_refl _))
    have hpr := hp.below hbr
    have hBr := hB1.below hfol.bel
    have hCr := hC1.below hfol.bel (Nat.lt_of_lt_of_le hC1.lt (Nat.le_refl _)) (Nat.lt_of_lt_of_le hC1.lt hfol.bel.size)
    clear hF hB2
    by_cases hlt : k < len
    · have hkl : k < (Fr.mk W H S O ps).ps.length := by show k < ps.length; omega
      have H1 : Hid (_) := fun h => frameE_own (f := ⟨W, H, S, O, ps⟩) HE.out hfirst hkl h
      have H2 : Hid (_) := fun h => frameE_none (f := ⟨W, H, S, O, ps⟩) HE.out hfirst hkl h
      have H3 : Hid (_) := fun h => frameE_size (f := ⟨W, H, S, O, ps⟩) HE.out hfirst hkl h
      have H4 : Hid (_) := fun h => firstE_next (f := ⟨W, H, S, O, ps⟩) hfirst h
      have H5 : Hid (szs ⟨W, H, S, O, ps⟩ (k + 1) = szs ⟨W, H, S, O, ps⟩ k ++ [sizeP W H (ps.getD k Ps.zero).Op (pickZ (szs ⟨W, H, S, O, ps⟩ k) (srcOf ps k))]) := rfl
      have H6 : Hid (∀ j : Nat, wrt ps (k + 1) j = if (ps.getD k Ps.zero).To = j then (k : Int) else wrt ps k j) := fun j => rfl
      have H7 : Hid (srcOf ps k = (takesP (ps.getD k Ps.zero)).map (wrt ps k)) := rfl
      have H8 : Hid (srcs ps (k + 1) = srcs ps k ++ [srcOf ps k]) := srcs_succ ps k
      have H9 : Hid (∀ z ∈ szs ⟨W, H, S, O, ps⟩ k, ZB z) := szs_bd HE.out hfirst
      have H10 : Hid (∀ s, -1 ≤ wrt ps k s ∧ wrt ps k s < 12) := fun s => by have := wrt_bd ps k s; omega
      have H11 : Hid (thereB (srcOf ps k) = true → ∀ i ∈ srcOf ps k, 0 ≤ i ∧ i < k) := src_bd
      have H12 : (szs ⟨W, H, S, O, ps⟩ k).length = k := szs_length _ _
      have H13 : (srcs ps k).length = k := srcs_length _ _
      obtain ⟨b, off, la, ll, lc, rfl, p0, p1, p2, p3, p4, p5, hLi⟩ := hpr.nth hlt
      generalize szs ⟨W, H, S, O, ps⟩ k = zs at hfol H3 H4 H5 H9 H12
      generalize srcs ps k = ss at hfol H8 H13
      generalize srcOf ps k = sr at H2 H3 H4 H5 H7 H8 H11
      generalize wrt ps k = q at hfol H6 H7 H10
      dsimp only at H1 H2 H3 H4
      generalize ps.getD k Ps.zero = p at p0 p1 p2 p3 p4 p5 hLi H1 H2 H3 H4 H5 H6 H7
      obtain ⟨Op, To, A, B, K, ls⟩ := p
      dsimp only at p0 p1 p2 p3 p4 p5 hLi H1 H2 H3 H4 H5 H6
      have hcp := fun wx hx => checkPass_any Op To A B K la ll lc ls S wx hS hx
      have hBp := hBr.alloc (.cells #[.int .i64 Op, .int .i64 To, .int .i64 A, .int .i64 B, .int .i64 K, .slice la ll lc] 62)
      obtain ⟨_, g0, g1, g2, g3, g4⟩ := id hBp
      have hfp := hfol.alloc (.cells #[.int .i64 Op, .int .i64 To, .int .i64 A, .int .i64 B, .int .i64 K, .slice la ll lc] 62)
      have hPp := PBox.new wr Op To A B K la ll lc
      have HN1 : Hid (∀ j, v1.ownBlock = some j → j < wr.heap.size) := fun j hj => (World.ownsRow.lt (w := wr) hfol.ownZ j hj).2
      have HN2 : Hid (∀ j, v2.ownBlock = some j → j < wr.heap.size) := fun j hj => by obtain ⟨us, h1, _⟩ := hfol.ownS; exact (World.ownsRow.lt (w := wr) h1 j hj).2
      have hwr := hfol.siz
      clear hp hp1 hpr hfirst hBr hB1
      go_wp2_with fail
      refine (hcp _ (hLi.alloc' _)).mono ?_
      rintro e wA ⟨rfl, bA⟩
      have hPA := hPp.below bA
      have hfA := hfp.below bA
      have hBA := hBp.below bA
      have hlA : w.heap.size + 1 < wA.heap.size := by have h1 := hC1.lt; have h2 := hfA.bel.size; omega
      have hCA := hC1.below hfA.bel hC1.lt hlA
      have hbA := below_step hb0 hfA.bel
      clear hcp hBp hfp hPp g0 g1 g2 g3 g4 p0 p1 p2 p3 p4 p5 hCr hbr hfol
      by_cases hown : ownE ⟨Op, To, A, B, K, ls⟩ S = 0
      · have hbd := slots_bd hS hown
        obtain ⟨hbd1, hbd2⟩ := hbd
        dsimp only at hbd2
        obtain ⟨m, rfl⟩ := Int.eq_ofNat_of_zero_le hbd2.1
        obtain ⟨hkn, _⟩ := ownE_zero hown
        have HO : Hid (ownE ⟨Op, (m : Int), A, B, K, ls⟩ S = 0) := hown
        rw [hown]
        have hsrc := sourcesOf_any Op (m : Int) A B K la ll lc ls (w := wA) (b := w1.heap.size + 1) q hfA.siz hbd1 H10.out hfA.sl
        rw [← H7.out] at hsrc
        have HBD : Hid (∀ s ∈ takesP ⟨Op, (m : Int), A, B, K, ls⟩, 0 ≤ s ∧ s < 8) := hbd1
        clear hbd1 hown
        obtain ⟨_, p0, p1, p2, p3, p4, p5⟩ := id hPA
        go_wp2_with fail
        refine hsrc.mono ?_
        clear hsrc
        rintro e wB (⟨ht, ⟨v, rfl, hov⟩, bB⟩ | ⟨ht, rfl, bB⟩)
        · have hfB := hfA.below bB
          have hPB := hPA.below bB
          have hFB := hBA.below bB
          have hlC : w1.heap.size + 2 ≤ wA.heap.size := hfA.siz
          have hin := H11.out ht
          have hsl : sr.length ≤ 2 := by rw [H7.out]; simpa using takesP_len ⟨Op, (m : Int), A, B, K, ls⟩
          obtain ⟨sa, scap, rfl, hI⟩ := hov.ints (by omega)
          replace hov := hov.mono hlC
          obtain ⟨za, zcap, rfl, hZs⟩ := hfB.ownZ.zs (by omega)
          have hlz : zs.length = k := H12
          have hpk := fun w' (hb : Below wB.heap.size wB w') => pickedZ_any zcap scap (hZs.below hb) (hI.below (Nat.le_refl _) hb) (by rw [hlz]; exact hin) hsl
          have hpl : (pickZ zs sr).length = sr.length := by simp [pickZ]
          have hpz := pickZ_bd hlz H9.out hin
          have hAl : hasA Op = true → 1 ≤ (pickZ zs sr).length := fun hA => by
            obtain ⟨r, hr⟩ := takes_pos (p := ⟨Op, (m : Int), A, B, K, ls⟩) hA
            rw [hpl, H7.out, hr]; simp
          have hBl : hasB Op = true → 2 ≤ (pickZ zs sr).length := fun hB => by
            have := takes_two (p := ⟨Op, (m : Int), A, B, K, ls⟩) hB
            rw [hpl, H7.out]; simp [this]
          have hso := fun w' (pa : Option Addr) (pcap : Nat) (hz : Zs w' pa (pickZ zs sr).length (pickZ zs sr)) => sizeOf_any Op W H S O (some ⟨b, off, none⟩) len cap (m : Int) A B K la ll lc pcap hz hkn hAl hBl hpz
          replace H3 := H3.out HO.out ht
          replace H4 := H4.out HO.out ht
          have H3' : Hid (_) := H3
          have H4' : Hid (_) := H4
          have HLZ : Hid (zs.length = k) := hlz
          have HLS : Hid (ss.length = k) := H13
          clear H3 H4 hpz hAl hBl hin hpl hlz H12 H13
          generalize sizeP W H Op (pickZ zs sr) = z at hso H5
          generalize fitP Op (pickZ zs sr) = fit at hso H3' H4'
          generalize pickZ zs sr = zp at hpk hso
          obtain ⟨zw, zh⟩ := z
          dsimp only at hso
          have hc0 := hfB.c0
          have hlc0 : w1.heap.size < wB.heap.size := by have := hfB.siz; omega
          clear p0 p1 p2 p3 p4 p5
          go_wp2
          go_cut [12, 13] from 46 to 55 (fun s12 s13 wx => Sized wB (zw, zh) fit s12 s13 wx)
          case first =>
            go_region_held3 (fun w' => Below wB.heap.size wB w' ∧ w'.cell? ⟨w.heap.size, 0, none⟩ = some (.int .i64 W) ∧ w'.cell? ⟨w.heap.size, 1, none⟩ = some (.int .i64 H) ∧ w'.cell? ⟨w.heap.size, 2, none⟩ = some (.int .i64 S) ∧ w'.cell? ⟨w.heap.size, 3, none⟩ = some (.int .i64 O) ∧ w'.cell? ⟨w.heap.size, 4, none⟩ = some (.slice (some ⟨b, off, none⟩) len cap) ∧ w'.cell? ⟨wr.heap.size, 0, none⟩ = some (.int .i64 Op) ∧ w'.cell? ⟨wr.heap.size, 1, none⟩ = some (.int .i64 (m : Int)) ∧ w'.cell? ⟨wr.heap.size, 2, none⟩ = some (.int .i64 A) ∧ w'.cell? ⟨wr.heap.size, 3, none⟩ = some (.int .i64 B) ∧ w'.cell? ⟨wr.heap.size, 4, none⟩ = some (.int .i64 K) ∧ w'.cell? ⟨wr.heap.size, 5, none⟩ = some (.slice la ll lc) ∧ w'.cell? ⟨w1.heap.size, 0, none⟩ = some (.slice za zs.length zcap))
              (first
                | exact keepR hFB hPB hc0 hlc0 (Below.refl _ _).drew
                | exact keepR hFB hPB hc0 hlc0 hbt
                | exact keepR hFB hPB hc0 hlc0 hbs
                | exact keepR hFB hPB hc0 hlc0 hbn
                | exact keepR hFB hPB hc0 hlc0 hbx
                | exact keepR hFB hPB hc0 hlc0 (below_box (Below.refl _ _) _).drew
                | exact keepR hFB hPB hc0 hlc0 (below_box hbn _)
                | exact keepR hFB hPB hc0 hlc0 (below_box hbs _)
                | exact keepR hFB hPB hc0 hlc0 ((hbt.setCell (p := ⟨wB.heap.size, 0, none⟩) (Nat.le_refl _) _).setCell (p := ⟨wB.heap.size, 1, none⟩) (Nat.le_refl _) _)
                | exact keepR hFB hPB hc0 hlc0 ((hbt.setCell (p := ⟨w2.heap.size, 0, none⟩) hbn.size _).setCell (p := ⟨w2.heap.size, 1, none⟩) hbn.size _))
              (first
                | (go_at_call 66; (with_reducible show Calls _ _ _ (World.drew (World.alloc wB _)) _); refine (hpk _ (below_box (Below.refl _ _) _).drew).mono ?_; rintro e w2 ⟨pa, pcap, rfl, hpz, hb2⟩; have hbx : Below wB.heap.size wB w2 := below_step (below_box (Below.refl _ _) _).drew hb2; have hl2 : wB.heap.size < w2.heap.size := Nat.lt_of_lt_of_le (by simp) hb2.size; have x0 : w2.cell? ⟨wB.heap.size, 0, none⟩ = some (.int .i64 0) := (hb2.cell (by simp)).trans (by simp [go_sem]); have x1 : w2.cell? ⟨wB.heap.size, 1, none⟩ = some (.int .i64 0) := (hb2.cell (by simp)).trans (by simp [go_sem]); have y0 : w2.frozen? ⟨wB.heap.size, 0, none⟩ = false := (hb2.frozen (by simp)).trans (by simp [go_sem]); have y1 : w2.frozen? ⟨wB.heap.size, 1, none⟩ = false := (hb2.frozen (by simp)).trans (by simp [go_sem]))
                | (go_at_call 66; (with_reducible show Calls _ _ _ (World.drew wB) _); refine (hpk _ (Below.refl _ _).drew).mono ?_; rintro e w2 ⟨pa, pcap, rfl, hpz, hb2⟩; have hbn : Below wB.heap.size wB w2 := below_step (Below.refl _ _).drew hb2)
                | (go_at_call 65; have xx := x0; clear xx; refine (hso _ _ _ hpz).mono ?_; rintro e w3 ⟨rfl, hb3⟩; have hbt : Below wB.heap.size wB w3 := below_step hbx hb3; have z0 : w3.cell? ⟨wB.heap.size, 0, none⟩ = some (.int .i64 0) := (hb3.cell (p := ⟨wB.heap.size, 0, none⟩) hl2).trans x0; have z1 : w3.cell? ⟨wB.heap.size, 1, none⟩ = some (.int .i64 0) := (hb3.cell (p := ⟨wB.heap.size, 1, none⟩) hl2).trans x1; have y2 : w3.frozen? ⟨wB.heap.size, 0, none⟩ = false := (hb3.frozen (p := ⟨wB.heap.size, 0, none⟩) hl2).trans y0; have y3 : w3.frozen? ⟨wB.heap.size, 1, none⟩ = false := (hb3.frozen (p := ⟨wB.heap.size, 1, none⟩) hl2).trans y1)
                | (go_at_call 65; (with_reducible show Calls _ _ _ (World.alloc _ _) _); refine (hso _ _ _ (hpz.below (below_box (Below.refl _ _) _))).mono ?_; rintro e w3 ⟨rfl, hb3⟩; have hbt : Below wB.heap.size wB w3 := below_step (below_box hbn _) hb3; have z0 : w3.cell? ⟨w2.heap.size, 0, none⟩ = some (.int .i64 0) := (hb3.cell (by simp)).trans (by simp [go_sem]); have z1 : w3.cell? ⟨w2.heap.size, 1, none⟩ = some (.int .i64 0) := (hb3.cell (by simp)).trans (by simp [go_sem]); have y2 : w3.frozen? ⟨w2.heap.size, 0, none⟩ = false := (hb3.frozen (by simp)).trans (by simp [go_sem]); have y3 : w3.frozen? ⟨w2.heap.size, 1, none⟩ = false := (hb3.frozen (by simp)).trans (by simp [go_sem]))
                | (go_at_call 65; refine (hso _ _ _ hpz).mono ?_; rintro e w3 ⟨rfl, hb3⟩; have hbs : Below wB.heap.size wB w3 := below_step hbn hb3))
            all_goals (go_wp2_with fail; go_meet)
            all_goals first
              | exact ⟨rfl, _, rfl, by simp [go_sem], by simp [go_sem], below_box hbs _⟩
              | exact ⟨rfl, _, rfl, (set_other _ (by simp)).trans (set_same z0), set_same ((set_other _ (by simp)).trans z1), ((hbt.setCell (p := ⟨w2.heap.size, 0, none⟩) hbn.size _).setCell (p := ⟨w2.heap.size, 1, none⟩) hbn.size _)⟩
              | exact ⟨rfl, _, rfl, (set_other _ (by simp)).trans (set_same z0), set_same ((set_other _ (by simp)).trans z1), ((hbt.setCell (p := ⟨wB.heap.size, 0, none⟩) (Nat.le_refl _) _).setCell (p := ⟨wB.heap.size, 1, none⟩) (Nat.le_refl _) _)⟩
          case rest =>
            obtain ⟨rfl, B12, rfl, e0, e1, bC⟩ := hcut
            dsimp only at e0 e1
            have hfC := hfB.below bC
            have hPC := hPB.below bC
            have hlD : w.heap.size + 1 < wc.heap.size := by have h2 := hfC.siz; have h3 := hC1.lt; omega
            have hCC := hC1.below hfC.bel hC1.lt hlD
            have hbC := below_step hb0 hfC.bel
            clear hpk hso hZs hI hfA hPA hBA hCA hbA bA bB hFB hPB hc0 hlA
            cases fit
            · have HF := H3'.out rfl
              obtain ⟨_, d0, d1, d2, f0, f1, f2⟩ := hCC
              go_wp2
              refine bodyPost_ret (v := .tuple #[.agg #[.slice none 0 0, .slice none 0 0, .int .i64 0], .int .i64 6]) (by simp [results, Tryz.results34, go_sem, d0, d1, d2]) rfl ?_
              refine .inr ⟨by rw [HF]; decide, by rw [HF], ?_⟩
              exact ((hbC.setCell (by simp) _).setCell (by simp) _).setCell (by simp) _
            · have HFN := H4'.out rfl
              have hc0 := hfC.c0
              have hlz := HLZ.out
              have hsz := hfC.siz
              have hfD := hfC.alloc (.cells #[.int .i64 zw, .int .i64 zh] 80)
              have hov2 := World.ownsRow.alloc (ownsRow_below hov bC (Nat.le_refl _)) (.cells #[.int .i64 zw, .int .i64 zh] 80)
              have hPD := hPC.alloc (.cells #[.int .i64 zw, .int .i64 zh] 80)
              obtain ⟨i0, hi, hz0, hz1, hz2⟩ := info_parts Tryz.infoSize
              obtain ⟨l0, li, lz0, lz1, lz2⟩ := info_parts Tryz.infoInts
              clear hlz
              go_upto_region 19 with (at_builtin; refine wpList_append_own _ rfl _ _ 43 rfl (w1.heap.size + 2) 80 i0 _ 2 16 Tryz.underlying43 hi hz0 hz1 hz2 rfl (by decide) _ _ _ rfl hfD.ownZ ⟨wc.heap.size, 0, none⟩ 1 1 [.int .i64 zw, .int .i64 zh] rfl rfl (cell_two_new _ _ _ _) (by intro u hu; simp at hu; rcases hu with rfl | rfl <;> rfl) (by rw [HLZ.out]; unfold maxLen; omega) (by rw [HLZ.out]; omega) (by simp; omega) ?_; intro v' w9 hown9 hgrow9 _; obtain ⟨n0, n1, hfE⟩ := hfD.pushZ (z := (zw, zh)) hgrow9 hown9; obtain ⟨a9, cap9, hv9⟩ := owns_slice hown9; subst hv9)
              have hov3 := ownsRow_setCell_below (World.ownsRow.kept hov2 hgrow9 (rows_apart hov2 hfD.ownZ (by decide))) (a := ⟨w1.heap.size, 0, none⟩) (by simp) (.slice a9 (zs.length + 1) cap9)
              have hlP : wr.heap.size < w9.heap.size := Nat.lt_of_lt_of_le hPD.lt hgrow9.size
              have q1 := (set_other (.slice a9 (zs.length + 1) cap9) (a := ⟨w1.heap.size, 0, none⟩) (b := ⟨wr.heap.size, 1, none⟩) (by simp)).trans ((grown_cell hgrow9 hPD.lt (fun e => by have := HN1.out _ e.symm; omega) 1).1.trans hPD.c1)
              have hsw : (w9.setCell ⟨w1.heap.size, 0, none⟩ (.slice a9 (zs.length + 1) cap9)).heap.size = w9.heap.size := by simp [World.setCell]
              rw [← hsw] at hlP
              clear hsw hown9 hgrow9 hfD hov2 hPD n0 n1 hfC hPC e0 e1 hc0 hov
              generalize w9.setCell ⟨w1.heap.size, 0, none⟩ (.slice a9 (zs.length + 1) cap9) = wE at hfE hov3 q1 hlP ⊢
              have hc1 := hfE.c1
              have hszE := hfE.siz
              have hfG := hfE.alloc (.cells #[.slice sa sr.length scap] 25)
              have hov4 := World.ownsRow.alloc hov3 (.cells #[.slice sa sr.length scap] 25)
              obtain ⟨us, hus, hul, hue⟩ := hfG.ownS
              go_upto_region 20 with (at_builtin; refine wpList_append_own _ rfl _ _ 63 rfl (w1.heap.size + 2) 25 l0 _ 1 24 Tryz.underlying63 li lz0 lz1 lz2 rfl (by decide) _ _ _ rfl hus ⟨wE.heap.size, 0, none⟩ 1 1 [.slice sa sr.length scap] rfl rfl (cell_one_new _ _ _) (by intro u hu; simp at hu; subst hu; rfl) (by rw [HLS.out]; unfold maxLen; omega) (by rw [HLS.out]; omega) (by simp; omega) ?_; intro v' w9b hown9 hgrow9 _; obtain ⟨n0, n1, hfH⟩ := hfG.pushS hov4 hgrow9 hus hul hue hown9; obtain ⟨a9b, cap9b, hv9⟩ := owns_slice hown9; subst hv9)
              have q2 := (set_other (.slice a9b (ss.length + 1) cap9b) (a := ⟨w1.heap.size, 1, none⟩) (b := ⟨wr.heap.size, 1, none⟩) (fun e => by injection e with e1; omega)).trans ((grown_cell hgrow9 (b := wr.heap.size) (by simp; omega) (fun e => by have := HN2.out _ e.symm; omega) 1).1.trans ((World.cell?_alloc_lt _ _ _ hlP).trans q1))
              clear hown9 hgrow9 hfG hov4 hov3 hus hul hue n0 n1 hfE q1 hlP hc1 hszE
              generalize w9b.setCell ⟨w1.heap.size, 1, none⟩ (.slice a9b (ss.length + 1) cap9b) = wF at hfH q2 ⊢
              have hput := put_any (w := wF) (b := w1.heap.size + 1) (m := m) (n := (k : Int)) (by omega) (by rw [IntKind.wrap_i64]; omega) (hfH.sl m (by omega)) (hfH.sf m)
              go_wp2_with (go_at_call 67; refine hput.mono ?_; rintro e w' ⟨⟨x, rfl⟩, rfl⟩)
              have hfK := hfH.put (q' := wrt ps (k + 1)) m k (by omega) H6.out
              go_roundw
              case rel => exact ⟨k + 1, _, _, by omega, by go_num, by rw [H5.out, H8.out]; exact hfK, HFN⟩
              case measure => simp [intOf]; omega
        · have hlB : w.heap.size + 1 < wB.heap.size := Nat.lt_of_lt_of_le hlA bB.size
          obtain ⟨_, d0, d1, d2, f0, f1, f2⟩ := hCA.below bB hCA.lt hlB
          have HF := H2.out HO.out ht
          clear p0 p1 p2 p3 p4 p5
          go_wp2
          refine bodyPost_ret (v := .tuple #[.agg #[.slice none 0 0, .slice none 0 0, .int .i64 0], .int .i64 5]) (by simp [results, Tryz.results34, go_sem, d0, d1, d2]) rfl ?_
          refine .inr ⟨by rw [HF]; decide, by rw [HF], ?_⟩
          exact (((below_step hbA bB).setCell (by simp) _).setCell (by simp) _).setCell (by simp) _
      · have HF : Hid (frameE ⟨W, H, S, O, ps⟩ = ownE ⟨Op, To, A, B, K, ls⟩ S) := H1.out hown
        generalize ownE ⟨Op, To, A, B, K, ls⟩ S = E at hown HF
        obtain ⟨_, d0, d1, d2, f0, f1, f2⟩ := hCA
        go_wp2
        refine bodyPost_ret (v := .tuple #[.agg #[.slice none 0 0, .slice none 0 0, .int .i64 0], .int .i64 E]) (by simp [results, Tryz.results34, go_sem, d0, d1, d2]) rfl ?_
        refine .inr ⟨by rw [HF.out]; exact hown, by rw [HF.out], ?_⟩
        exact ((hbA.setCell (by simp) _).setCell (by simp) _).setCell (by simp) _
    · have hke : k = ps.length := by omega
      have hEnd : Hid (frameE ⟨W, H, S, O, ps⟩ = if 0 ≤ wrt ps k O then 0 else 5) := by
        show _ = _
        unfold frameE
        rw [if_pos HE.out, hke]
        rw [hke] at hfirst
        rw [if_pos hfirst]
        rfl
      have HSH : Hid (shownP ⟨W, H, S, O, ps⟩ = wrt ps k O) := by show _ = _; unfold shownP; rw [hke]
      have hqb := wrt_bd ps k O
      obtain ⟨o, rfl⟩ := Int.eq_ofNat_of_zero_le hO.1
      have hso := hfol.sl o (by omega)
      have HZ : Hid (szs ⟨W, H, S, o, ps⟩ k = szs ⟨W, H, S, o, ps⟩ ps.length) := by show _ = _; rw [hke]
      have HS : Hid (srcs ps k = srcs ps ps.length) := by show _ = _; rw [hke]
      have HOZ : Hid (OwnsZ (w1.heap.size + 2) wr v1 (szs ⟨W, H, S, o, ps⟩ k)) := hfol.ownZ
      have HOS : Hid (OwnsLL (w1.heap.size + 2) wr v2 (srcs ps k)) := hfol.ownS
      generalize wrt ps k (o : Int) = n at hEnd HSH hqb hso
      obtain ⟨_, g0, g1, g2, g3, g4⟩ := id hBr
      obtain ⟨_, d0, d1, d2, f0, f1, f2⟩ := id hCr
      have hlw := hC1.lt
      have hw1 := hb0.size
      by_cases hn : n = -1
      · subst hn
        have hmk := maker_none (w := wr) (b := w1.heap.size + 1) (m := o) (by omega) hso
        have HF := hEnd.out
        rw [if_neg (by decide)] at HF
        have HF' : Hid (_) := HF
        clear HF
        go_wp2_with (go_at_call 68; refine hmk.mono ?_; rintro e w' ⟨rfl, rfl⟩)
        refine bodyPost_ret (v := .tuple #[.agg #[.slice none 0 0, .slice none 0 0, .int .i64 0], .int .i64 5]) (by simp [results, Tryz.results34, go_sem, d0, d1, d2]) rfl ?_
        refine .inr ⟨by rw [HF'.out]; decide, by rw [HF'.out], ?_⟩
        exact ((hbr.setCell (by simp) _).setCell (by simp) _).setCell (by simp) _
      · have hmk := maker_some (w := wr) (b := w1.heap.size + 1) (m := o) (n := n + 1) (by omega) (by omega) (by rw [IntKind.wrap_i64]; omega) hso
        rw [show n + 1 - 1 = n by omega] at hmk
        have HF : Hid (frameE ⟨W, H, S, o, ps⟩ = 0) := by show _ = _; rw [hEnd.out, if_pos (by omega)]
        obtain ⟨a1, cap1, hv1⟩ := owns_slice HOZ.out
        obtain ⟨us, hus, hu3⟩ := HOS.out
        obtain ⟨a2, cap2, hv2⟩ := owns_slice hus
        subst hv1
        subst hv2
        have c0 := hfol.c0
        have c1 := hfol.c1
        have c2 := hfol.c2
        have cf := hfol.cf 2
        clear hu3 hus
        go_wp2_with (go_at_call 68; refine hmk.mono ?_; rintro e w' ⟨rfl, rfl⟩)
        have hkl : k = len := by omega
        have hOZ := HOZ.out
        have hOS := HOS.out
        rw [hkl] at hOZ hOS
        have hne : ¬ w1.heap.size = w.heap.size + 1 := by omega
        have hne' : ¬ w.heap.size + 1 = w1.heap.size := by omega
        have k0 : (wr.setCell ⟨w1.heap.size, 2, none⟩ (.int .i64 n)).cell? ⟨w.heap.size + 1, 0, none⟩ = some (.slice none 0 0) := (set_other _ (by simp)).trans d0
        have k1 : (wr.setCell ⟨w1.heap.size, 2, none⟩ (.int .i64 n)).cell? ⟨w.heap.size + 1, 1, none⟩ = some (.slice none 0 0) := (set_other _ (by simp)).trans d1
        have k2 : (wr.setCell ⟨w1.heap.size, 2, none⟩ (.int .i64 n)).cell? ⟨w.heap.size + 1, 2, none⟩ = some (.int .i64 0) := (set_other _ (fun e => by injection e with e1; omega)).trans d2
        have hb4 : Below w.heap.size w (wr.setCell ⟨w1.heap.size, 2, none⟩ (.int .i64 n)) := hbr.setCell (by show w.heap.size ≤ w1.heap.size; omega) _
        replace hOZ := ownsRow_setCell_below hOZ (a := ⟨w1.heap.size, 2, none⟩) (by simp) (.int .i64 n)
        replace hOS := hOS.setCell (p := ⟨w1.heap.size, 2, none⟩) (by simp) (.int .i64 n)
        clear hfol hBr hCr
        generalize wr.setCell ⟨w1.heap.size, 2, none⟩ (.int .i64 n) = wZ at hOZ hOS k0 k1 k2 hb4 ⊢
        refine bodyPost_ret (v := .tuple #[.agg #[.slice a1 (szs ⟨W, H, S, o, ps⟩ len).length cap1, .slice a2 (srcs ps len).length cap2, .int .i64 n], .int .i64 0]) (by simp [results, Tryz.results34, go_sem, k0, k1, k2]) rfl ?_
        refine .inl ⟨HF.out, ⟨_, _, by rw [HSH.out], ?_, ?_⟩, ?_⟩
        · show OwnsZ w.heap.size _ _ (szs ⟨W, H, S, o, ps⟩ ps.length)
          rw [hlen]
          exact row_mono (ownsRow_setCell_below (ownsRow_setCell_below (ownsRow_setCell_below hOZ (by show w.heap.size + 1 < _; omega) _) (by show w.heap.size + 1 < _; omega) _) (by show w.heap.size + 1 < _; omega) _) (by omega)
        · show OwnsLL w.heap.size _ _ (srcs ps ps.length)
          rw [hlen]
          exact (((hOS.setCell (by show w.heap.size + 1 < _; omega) _).setCell (by show w.heap.size + 1 < _; omega) _).setCell (by show w.heap.size + 1 < _; omega) _).mono (by omega)
        · exact ((hb4.setCell (by simp) _).setCell (by simp) _).setCell (by simp) _
theorem follow_any (W H S O : Int) (a : Option Addr) (len cap : Nat) (ps : List Ps) (w : World) (hp : Passes w a len ps) :
    Calls Tryz.prog 34 #[.agg #[.int .i64 W, .int .i64 H, .int .i64 S, .int .i64 O, .slice a len cap]] w (ToldC w ⟨W, H, S, O, ps⟩) := by
  by_cases hE : boundsE ⟨W, H, S, O, ps⟩ = 0
  · exact follow_ok W H S O a len cap ps w hp hE
  · exact follow_bounds W H S O a len cap ps w hp hE
end Go.Proofs.YtihliofhhjjeaaaGreat
namespace Go.Proofs.YtihliofhhjjeaaaGreat
open Go.RowKit Im
theorem ll_slice {base : Nat} {w : World} {v : Value} {ss : List (List Int)} (h : OwnsLL base w v ss) : ∃ a cap, v = .slice a ss.length cap := by
  obtain ⟨us, h1, _⟩ := h
  exact owns_slice h1
theorem frameCheck_any (W H S O : Int) (a : Option Addr) (len cap : Nat) (ps : List Ps) (w : World) (hp : Passes w a len ps) :
    Calls Tryz.prog 59 #[.agg #[.int .i64 W, .int .i64 H, .int .i64 S, .int .i64 O, .slice a len cap]] w fun e w' => e = .returned (.int .i64 (frameE ⟨W, H, S, O, ps⟩)) ∧ Below w.heap.size w w' := by
  have hb0 := below_box (Below.refl w.heap.size w) (.cells #[.int .i64 W, .int .i64 H, .int .i64 S, .int .i64 O, .slice a len cap] 24)
  have hfo := follow_any W H S O a len cap ps _ (hp.below hb0)
  go_enter Tryz.func59, Tryz.ntmps59
  go_wp2_with fail
  refine hfo.mono ?_
  clear hfo
  rintro e w1 (⟨hE, ⟨v1, v2, rfl, hZ, hL⟩, b1⟩ | ⟨hE, rfl, b1⟩)
  · obtain ⟨a1, c1, rfl⟩ := owns_slice hZ
    obtain ⟨a2, c2, rfl⟩ := ll_slice hL
    have HE : Hid (frameE ⟨W, H, S, O, ps⟩ = 0) := hE
    clear hZ hL hE
    go_wp2
    go_ret
    exact ⟨by rw [HE.out]; rfl, below_box (below_step hb0 b1) _⟩
  · clear hE
    go_wp2
    go_ret
    exact ⟨rfl, below_box (below_step hb0 b1) _⟩
def ToldFZ (w : World) (f : Fr) (e : Ending) (w' : World) : Prop :=
  (∃ v, e = .returned (.tuple #[v, .int .i64 (frameE f)]) ∧ OwnsZ w.heap.size w' v (if frameE f = 0 then szs f f.ps.length else [])) ∧ Below w.heap.size w w'
def ToldFS (w : World) (f : Fr) (e : Ending) (w' : World) : Prop :=
  (∃ v, e = .returned (.tuple #[v, .int .i64 (frameE f)]) ∧ OwnsLL w.heap.size w' v (if frameE f = 0 then srcs f.ps f.ps.length else [])) ∧ Below w.heap.size w w'
theorem sizes_any (W H S O : Int) (a : Option Addr) (len cap : Nat) (ps : List Ps) (w : World) (hp : Passes w a len ps) :
    Calls Tryz.prog 29 #[.agg #[.int .i64 W, .int .i64 H, .int .i64 S, .int .i64 O, .slice a len cap]] w (ToldFZ w ⟨W, H, S, O, ps⟩) := by
  have hb0 := below_box (Below.refl w.heap.size w) (.cells #[.int .i64 W, .int .i64 H, .int .i64 S, .int .i64 O, .slice a len cap] 24)
  have hfo := follow_any W H S O a len cap ps _ (hp.below hb0)
  go_enter Tryz.func29, Tryz.ntmps29
  go_wp2_with fail
  refine hfo.mono ?_
  clear hfo
  rintro e w1 (⟨hE, ⟨v1, v2, rfl, hZ, hL⟩, b1⟩ | ⟨hE, rfl, b1⟩)
  · obtain ⟨a1, c1, rfl⟩ := owns_slice hZ
    obtain ⟨a2, c2, rfl⟩ := ll_slice hL
    have HE : Hid (frameE ⟨W, H, S, O, ps⟩ = 0) := hE
    clear hE hL
    go_wp2
    go_ret2
    refine ⟨⟨.slice a1 (szs ⟨W, H, S, O, ps⟩ ps.length).length c1, by rw [HE.out]; rfl, ?_⟩, below_box (below_step hb0 b1) _⟩
    rw [HE.out, if_pos rfl]
    exact row_mono (World.ownsRow.alloc hZ _) (by simp)
  · have HE : Hid (frameE ⟨W, H, S, O, ps⟩ ≠ 0) := hE
    clear hE
    go_wp2
    go_ret2
    refine ⟨⟨_, rfl, ?_⟩, below_box (below_step hb0 b1) _⟩
    rw [if_neg HE.out]
    exact World.ownsRow_nil _ _ _ _
theorem sources_any (W H S O : Int) (a : Option Addr) (len cap : Nat) (ps : List Ps) (w : World) (hp : Passes w a len ps) :
    Calls Tryz.prog 57 #[.agg #[.int .i64 W, .int .i64 H, .int .i64 S, .int .i64 O, .slice a len cap]] w (ToldFS w ⟨W, H, S, O, ps⟩) := by
  have hb0 := below_box (Below.refl w.heap.size w) (.cells #[.int .i64 W, .int .i64 H, .int .i64 S, .int .i64 O, .slice a len cap] 24)
  have hfo := follow_any W H S O a len cap ps _ (hp.below hb0)
  go_enter Tryz.func57, Tryz.ntmps57
  go_wp2_with fail
  refine hfo.mono ?_
  clear hfo
  rintro e w1 (⟨hE, ⟨v1, v2, rfl, hZ, hL⟩, b1⟩ | ⟨hE, rfl, b1⟩)
  · obtain ⟨a1, c1, rfl⟩ := owns_slice hZ
    obtain ⟨a2, c2, rfl⟩ := ll_slice hL
    have HE : Hid (frameE ⟨W, H, S, O, ps⟩ = 0) := hE
    clear hE hZ
    go_wp2
    go_ret2
    refine ⟨⟨.slice a2 (srcs ps ps.length).length c2, by rw [HE.out]; rfl, ?_⟩, below_box (below_step hb0 b1) _⟩
    rw [HE.out, if_pos rfl]
    exact (hL.below ((Below.refl _ _).alloc (Nat.le_refl _) _)).mono (by simp)
  · have HE : Hid (frameE ⟨W, H, S, O, ps⟩ ≠ 0) := hE
    clear hE
    go_wp2
    go_ret2
    refine ⟨⟨_, rfl, ?_⟩, below_box (below_step hb0 b1) _⟩
    rw [if_neg HE.out]
    exact OwnsLL.nil _ _
end Go.Proofs.YtihliofhhjjeaaaGreat
namespace Go.Proofs.YtihliofhhjjeaaaGreat
open Go.RowKit Im
theorem paint_any {Op : Int} (To A B : Int) {K : Int} {la : Option Addr} {ll : Nat} (lc : Nat) {ls : List Lt} (zw zh : Int) {fa : Option Addr} {flen : Nat} (fcap : Nat) {fr : List Res} {bi : Nat} {w : World} (hk : knownB Op = true) (hL : Lights w la ll ls) (hI : Imgs bi w fa flen fr) (hA : hasA Op = true → 1 ≤ flen) (hB : hasB Op = true → 2 ≤ flen) :
    Calls Tryz.prog 35 #[.agg #[.int .i64 Op, .int .i64 To, .int .i64 A, .int .i64 B, .int .i64 K, .slice la ll lc], .agg #[.int .i64 zw, .int .i64 zh], .slice fa flen fcap] w (Told w (paintRes ⟨Op, To, A, B, K, ls⟩ (zw, zh) fr)) := by
  by_cases h12 : Op = 1 ∨ Op = 2
  · refine paint_make Op To A B K la ll lc zw zh fa flen fcap w h12 ?_
    unfold paintRes
    rw [if_pos h12]
  · have hA1 : hasA Op = true := by simp [knownB, withinB] at hk; simp [hasA, withinB]; omega
    have hfl := hA hA1
    obtain ⟨b, off, pa, pc, rfl, hb, d0, d1, d2, hi⟩ := hI.nth (k := 0) (by omega)
    rw [Nat.zero_mul, Nat.add_zero] at d0 d1 d2
    by_cases hB1 : hasB Op = true
    · have hf2 := hB hB1
      obtain ⟨b', off', qa, qc, e, _, g0, g1, g2, hj⟩ := hI.nth (k := 1) (by omega)
      injection e with e
      injection e with e1 e2
      subst e1 e2
      rw [Nat.one_mul] at g0 g1 g2
      have hop : Op = 4 ∨ Op = 5 ∨ Op = 6 ∨ Op = 7 := by simp [hasB, withinB] at hB1; omega
      refine paint_two Op To A B K la ll lc zw zh flen fcap w hop b off hb (by omega) (by omega) _ _ pa pc _ d0 d1 d2 (hi.mono (Nat.zero_le _)) _ _ qa qc _ g0 g1 g2 (hj.mono (Nat.zero_le _)) ?_
      unfold paintRes
      rw [if_neg h12, if_pos hB1]
    · by_cases h13 : Op = 13
      · subst h13
        refine paint_lit To A B K la ll lc ls zw zh flen fcap w hL b off hb (by omega) _ _ pa pc _ d0 d1 d2 (hi.mono (Nat.zero_le _)) ?_
        unfold paintRes
        rw [if_neg h12, if_neg hB1, if_pos rfl]
      · have hop : Op = 3 ∨ Op = 8 ∨ Op = 9 ∨ Op = 10 ∨ Op = 11 ∨ Op = 12 := by simp [hasA, withinB] at hA1; simp [hasB, withinB] at hB1; omega
        refine paint_one Op To A B K la ll lc zw zh flen fcap w hop b off hb (by omega) _ _ pa pc _ d0 d1 d2 (hi.mono (Nat.zero_le _)) ?_
        unfold paintRes
        rw [if_neg h12, if_neg hB1, if_neg h13]
structure LLs (w : World) (a : Option Addr) (len : Nat) (ss : List (List Int)) : Prop where
  leng : ss.length = len
  cells : ss = [] ∨ ∃ b off, a = some ⟨b, off, none⟩ ∧ b < w.heap.size ∧ ∀ j, j < len → ∃ ua uc, w.cell? ⟨b, off + j, none⟩ = some (.slice ua (ss.getD j []).length uc) ∧ Ints 0 w ua (ss.getD j []).length (ss.getD j [])
theorem LLs.below {w w' : World} {a : Option Addr} {len : Nat} {ss : List (List Int)} (h : LLs w a len ss) (hb : Below w.heap.size w w') : LLs w' a len ss := by
  refine ⟨h.leng, ?_⟩
  rcases h.cells with e | ⟨b, off, ha, hl, hc⟩
  · exact .inl e
  · refine .inr ⟨b, off, ha, Nat.lt_of_lt_of_le hl hb.size, fun j hj => ?_⟩
    obtain ⟨ua, uc, c0, hi⟩ := hc j hj
    exact ⟨ua, uc, (hb.cell (p := ⟨b, off + j, none⟩) hl).trans c0, hi.below (Nat.le_refl _) hb⟩
theorem LLs.nth {w : World} {a : Option Addr} {len : Nat} {ss : List (List Int)} (h : LLs w a len ss) {k : Nat} (hk : k < len) : ∃ b off ua uc, a = some ⟨b, off, none⟩ ∧ b < w.heap.size ∧ w.cell? ⟨b, off + k, none⟩ = some (.slice ua (ss.getD k []).length uc) ∧ Ints 0 w ua (ss.getD k []).length (ss.getD k []) := by
  rcases h.cells with e | ⟨b, off, ha, hl, hc⟩
  · have := h.leng; subst e; simp at this; omega
  · obtain ⟨ua, uc, r⟩ := hc k hk
    exact ⟨b, off, ua, uc, ha, hl, r⟩
theorem OwnsLL.lls {base : Nat} {w : World} {v : Value} {ss : List (List Int)} (h : OwnsLL base w v ss) (hs : ∀ x ∈ ss, x.length ≤ 2) : ∃ a cap, v = .slice a ss.length cap ∧ LLs w a ss.length ss := by
  obtain ⟨us, h1, h2, h3⟩ := h
  obtain ⟨g1, g2⟩ := id h1
  rcases g2 with ⟨rfl, h0⟩ | ⟨g, cap, cur, rfl, hg, hh, hc, hm, hs', ht⟩
  · have : ss = [] := by simpa using h0
    subst this
    exact ⟨none, 0, rfl, rfl, .inl rfl⟩
  · refine ⟨_, cap, rfl, rfl, .inr ⟨g, 0, rfl, ?_, fun j hj => ?_⟩⟩
    · rcases Nat.lt_or_ge g w.heap.size with h | h
      · exact h
      · rw [Array.getElem?_eq_none h] at hh; cases hh
    · obtain ⟨u, hu, ho⟩ := h3 j (ss.getD j []) (by rw [List.getD_eq_getElem?_getD, List.getElem?_eq_getElem hj]; rfl)
      have hl := hs _ (getD_mem hj [])
      obtain ⟨ua, uc, rfl, hi⟩ := ho.ints (by omega)
      refine ⟨ua, uc, ?_, hi.mono (Nat.zero_le _)⟩
      rw [Nat.zero_add, World.ownsRow.cellAt h1 j (by omega)]
      exact hu
structure ImB (w : World) (bI n : Nat) (g : Nat → Res) : Prop where
  lt : bI < w.heap.size
  cells : ∀ j, j < n → ∃ pa cap, w.cell? ⟨bI, 0 + j * 3, none⟩ = some (.int .i64 (g j).W) ∧ w.cell? ⟨bI, 0 + j * 3 + 1, none⟩ = some (.int .i64 (g j).H) ∧ w.cell? ⟨bI, 0 + j * 3 + 2, none⟩ = some (.slice pa (g j).ps.length cap) ∧ Ints (bI + 1) w pa (g j).ps.length (g j).ps
  froz : ∀ o, w.frozen? ⟨bI, o, none⟩ = false
theorem ImB.below {w w' : World} {bI n : Nat} {g : Nat → Res} (h : ImB w bI n g) (hb : Below w.heap.size w w') : ImB w' bI n g := by
  refine ⟨Nat.lt_of_lt_of_le h.lt hb.size, fun j hj => ?_, fun o => (hb.frozen (p := ⟨bI, o, none⟩) h.lt).trans (h.froz o)⟩
  obtain ⟨pa, cap, c0, c1, c2, hi⟩ := h.cells j hj
  exact ⟨pa, cap, (hb.cell (p := ⟨bI, 0 + j * 3, none⟩) h.lt).trans c0, (hb.cell (p := ⟨bI, 0 + j * 3 + 1, none⟩) h.lt).trans c1, (hb.cell (p := ⟨bI, 0 + j * 3 + 2, none⟩) h.lt).trans c2, hi.below (Nat.le_refl _) hb⟩
theorem ImB.imgs {w : World} {bI n : Nat} {g : Nat → Res} (h : ImB w bI n g) (hn : n ≤ 12) : Imgs (bI + 1) w (some ⟨bI, 0, none⟩) n ((List.range n).map g) := by
  refine ⟨by simp, by omega, .inr ⟨bI, 0, rfl, h.lt, fun j hj => ?_⟩⟩
  have e : ((List.range n).map g).getD j (noRes 0) = g j := by simp [List.getD_eq_getElem?_getD, hj]
  rw [e]
  exact h.cells j hj
theorem ImB.put {w : World} {bI n : Nat} {g g' : Nat → Res} (h : ImB w bI n g) (m : Nat) (r : Res) (ra : Option Addr) (rc : Nat) (hm : m < n) (hi : Ints (bI + 1) w ra r.ps.length r.ps) (hg : ∀ j, j < n → g' j = if m = j then r else g j) :
    ImB (((w.setCell ⟨bI, 0 + m * 3, none⟩ (.int .i64 r.W)).setCell ⟨bI, 0 + m * 3 + 1, none⟩ (.int .i64 r.H)).setCell ⟨bI, 0 + m * 3 + 2, none⟩ (.slice ra r.ps.length rc)) bI n g' := by
  refine ⟨by simpa using h.lt, fun j hj => ?_, fun o => by simpa using h.froz o⟩
  rw [hg j hj]
  by_cases e : m = j
  · subst e
    rw [if_pos rfl]
    obtain ⟨pa, cap, c0, c1, c2, _⟩ := h.cells m hm
    refine ⟨ra, rc, ?_, ?_, ?_, ((hi.setCell (by simp) _).setCell (by simp) _).setCell (by simp) _⟩
    · rw [set_other _ (fun e => by injection e with e1 e2; omega), set_other _ (fun e => by injection e with e1 e2; omega)]; exact set_same c0
    · rw [set_other _ (fun e => by injection e with e1 e2; omega)]; exact set_same ((set_other _ (fun e => by injection e with e1 e2; omega)).trans c1)
    · exact set_same ((set_other _ (fun e => by injection e with e1 e2; omega)).trans ((set_other _ (fun e => by injection e with e1 e2; omega)).trans c2))
  · rw [if_neg e]
    obtain ⟨pa, cap, c0, c1, c2, hi'⟩ := h.cells j hj
    refine ⟨pa, cap, ?_, ?_, ?_, ((hi'.setCell (by simp) _).setCell (by simp) _).setCell (by simp) _⟩
    all_goals rw [set_other _ (fun e => by injection e with e1 e2; omega), set_other _ (fun e => by injection e with e1 e2; omega), set_other _ (fun e => by injection e with e1 e2; omega)]
    · exact c0
    · exact c1
    · exact c2
theorem ImB.made {w : World} {base b N cap : Nat} (h : w.ownsRow base 31 3 (.slice (some ⟨b, 0, none⟩) N cap) N (madeCells (Value.agg #[.int .i64 0, .int .i64 0, .slice none 0 0]).cells (N * 3)).toList) (hb : b < w.heap.size) : ImB w b N (fun _ => noRes 0) := by
  have hc : ∀ j, j < N * 3 → w.cell? ⟨b, j, none⟩ = some ((#[Value.int .i64 0, Value.int .i64 0, Value.slice none 0 0] : Array Value)[j % 3]!) := by
    intro j hj
    rw [World.ownsRow.cellAt h j hj]
    have e : (Value.agg #[.int .i64 0, .int .i64 0, .slice none 0 0]).cells = #[.int .i64 0, .int .i64 0, .slice none 0 0] := rfl
    rw [e]
    simp only [madeCells, Array.toList_map, Array.toList_range, List.getElem?_map, List.getElem?_range hj, Option.map_some]
    rfl
  refine ⟨hb, fun m hm => ⟨none, 0, ?_, ?_, ?_, Ints.nil _ _⟩, fun o => World.ownsRow.frozenAt h o⟩
  · rw [hc _ (by omega), show (0 + m * 3) % 3 = 0 by omega]; rfl
  · rw [hc _ (by omega), show (0 + m * 3 + 1) % 3 = 1 by omega]; rfl
  · rw [hc _ (by omega), show (0 + m * 3 + 2) % 3 = 2 by omega]; rfl
theorem pick_range {rs : List Res} {n : Nat} {is : List Int} (hi : ∀ i ∈ is, 0 ≤ i ∧ i < n) : pickR ((List.range n).map fun j => rs.getD j (noRes 0)) is = pickR rs is := by
  unfold pickR
  refine List.map_congr_left fun i h => ?_
  have := hi i h
  have hlt : i.toNat < n := by omega
  simp [List.getD_eq_getElem?_getD, hlt]
end Go.Proofs.YtihliofhhjjeaaaGreat
namespace Go.Proofs.YtihliofhhjjeaaaGreat
open Go.RowKit Im
theorem isTwo_any' (op : Int) (w : World) : Calls Tryz.prog 122 #[.int .i64 op] w fun e w' => e = .returned (.bool (hasB op)) ∧ w = w' := by
  go_enter Tryz.func122, Tryz.ntmps122
  go_wp2_with (go_at_call 42; refine (within_any _ _ _ _).mono ?_; rintro e w' ⟨rfl, rfl⟩)
  go_ret
  exact ⟨rfl, rfl⟩
theorem kFine_any (Op To A B K : Int) (la : Option Addr) (ll lc : Nat) (w : World) : Calls Tryz.prog 80 #[.agg #[.int .i64 Op, .int .i64 To, .int .i64 A, .int .i64 B, .int .i64 K, .slice la ll lc]] w fun e w' => e = .returned (.bool (if hasK Op = true then kB Op K else true)) ∧ Below w.heap.size w w' := by
  have hb0 := below_box (Below.refl w.heap.size w) (.cells #[.int .i64 Op, .int .i64 To, .int .i64 A, .int .i64 B, .int .i64 K, .slice la ll lc] 62)
  by_cases h1 : Op = 1 ∨ Op = 2 ∨ Op = 8
  · have e1 : hasK Op = true := by rcases h1 with rfl | rfl | rfl <;> rfl
    have e2 : kB Op K = withinB K 0 65535 := by unfold kB; rw [if_neg (by omega), if_neg (by omega)]
    rw [if_pos e1, e2]
    clear e1 e2
    rcases h1 with rfl | rfl | rfl
    all_goals
      go_enter Tryz.func80, Tryz.ntmps80
      go_wp2_with (go_at_call 42; refine (within_any _ _ _ _).mono ?_; rintro e w' ⟨rfl, rfl⟩)
      go_ret
      exact ⟨rfl, hb0⟩
  · by_cases h2 : Op = 9 ∨ Op = 13
    · rcases h2 with rfl | rfl
      all_goals
        rw [if_pos (by decide)]
        unfold kB
        go_enter Tryz.func80, Tryz.ntmps80
        go_wp2_with (go_at_call 42; refine (within_any _ _ _ _).mono ?_; rintro e w' ⟨rfl, rfl⟩)
        go_ret
        exact ⟨rfl, hb0⟩
    · have e1 : ¬ hasK Op = true := by simp [hasK]; omega
      rw [if_neg e1]
      have n1 : ¬ Op = 1 := by omega
      have n2 : ¬ Op = 2 := by omega
      have n8 : ¬ Op = 8 := by omega
      have n9 : ¬ Op = 9 := by omega
      have n13 : ¬ Op = 13 := by omega
      clear h1 h2 e1
      go_enter Tryz.func80, Tryz.ntmps80
      go_wp2
      go_ret
      exact ⟨rfl, hb0⟩
theorem writer_any (W H S O : Int) (a : Option Addr) (len cap : Nat) (ps : List Ps) (n : Nat) (s : Int) (w : World) (hp : Passes w a len ps) (hn : n ≤ len) :
    Calls Tryz.prog 77 #[.agg #[.int .i64 W, .int .i64 H, .int .i64 S, .int .i64 O, .slice a len cap], .int .i64 n, .int .i64 s] w fun e w' => e = .returned (.int .i64 (wrt ps n s)) ∧ Below w.heap.size w w' := by
  have hbig := hp.big
  have hB := FBox.new w W H S O a len cap
  have hb0 := below_box (Below.refl w.heap.size w) (.cells #[.int .i64 W, .int .i64 H, .int .i64 S, .int .i64 O, .slice a len cap] 24)
  have hp1 := hp.below hb0
  have hw0 : IntKind.i64.wrap ((n : Int) - 1) = (n : Int) - 1 := by rw [IntKind.wrap_i64]; omega
  obtain ⟨_, g0, g1, g2, g3, g4⟩ := hB
  go_enter Tryz.func77, Tryz.ntmps77
  go_wp2
  go_loop [7] (fun i => ∃ k : Nat, k ≤ n ∧ i = .int .i64 ((k : Int) - 1) ∧ wrt ps n s = wrt ps k s) (fun i => (intOf i + 1).toNat)
  case atStart => exact ⟨n, Nat.le_refl _, rfl, rfl⟩
  case round =>
    obtain ⟨k, hk, rfl, hall⟩ := hrel
    cases k with
    | zero =>
      have HA : Hid (wrt ps n s = -1) := hall
      clear hall
      go_wp2
      go_ret
      exact ⟨by rw [HA.out]; rfl, hb0⟩
    | succ k =>
      have HA : Hid (wrt ps n s = if (ps.getD k Ps.zero).To = s then (k : Int) else wrt ps k s) := hall
      clear hall
      obtain ⟨b, off, la, ll, lc, rfl, p0, p1, p2, p3, p4, p5, _⟩ := hp1.nth (k := k) (by omega)
      generalize (ps.getD k Ps.zero).To = t at p1 HA
      rw [show ((k + 1 : Nat) : Int) - 1 = (k : Int) by omega]
      have hwk : IntKind.i64.wrap ((k : Int) - 1) = (k : Int) - 1 := by rw [IntKind.wrap_i64]; omega
      have hk0 : (0 : Int) ≤ (k : Int) := by omega
      by_cases ht : t = s
      · have HB : Hid (wrt ps n s = k) := by show _ = _; rw [HA.out, if_pos ht]
        subst ht
        go_wp2
        go_ret
        exact ⟨by rw [HB.out]; rfl, hb0⟩
      · have HB : Hid (wrt ps n s = wrt ps k s) := by show _ = _; rw [HA.out, if_neg ht]
        go_wp2
        go_round
        case rel => exact ⟨k, by omega, rfl, HB.out⟩
        case measure => simp [intOf]
end Go.Proofs.YtihliofhhjjeaaaGreat
namespace Go.Proofs.YtihliofhhjjeaaaGreat
open Go.RowKit Im
theorem lastOf_any (W H S O : Int) (a : Option Addr) (len cap : Nat) (ps : List Ps) (w : World) (hp : Passes w a len ps) :
    Calls Tryz.prog 41 #[.agg #[.int .i64 W, .int .i64 H, .int .i64 S, .int .i64 O, .slice a len cap]] w fun e w' => e = .returned (.int .i64 (shownP ⟨W, H, S, O, ps⟩)) ∧ Below w.heap.size w w' := by
  have hsh : shownP ⟨W, H, S, O, ps⟩ = wrt ps len O := by unfold shownP; rw [← hp.leng]
  have hb0 := below_box (Below.refl w.heap.size w) (.cells #[.int .i64 W, .int .i64 H, .int .i64 S, .int .i64 O, .slice a len cap] 24)
  have hw := writer_any W H S O a len cap ps len O _ (hp.below hb0) (Nat.le_refl _)
  rw [hsh]
  clear hsh
  generalize wrt ps len O = n at hw
  go_enter Tryz.func41, Tryz.ntmps41
  go_wp2_with (go_at_call 77; refine hw.mono ?_; rintro e w' ⟨rfl, hb⟩)
  go_ret
  exact ⟨rfl, below_step hb0 hb⟩
end Go.Proofs.YtihliofhhjjeaaaGreat
namespace Go.Proofs.YtihliofhhjjeaaaGreat
open Go.RowKit Im
theorem has_any (op : Int) (w : World) : Calls Tryz.prog 78 #[.int .i64 op] w fun e w' => e = .returned (.tuple #[.bool (hasA op), .bool (hasB op), .bool (hasK op), .bool (hasL op)]) ∧ w = w' := by
  have hA : withinB op 3 13 = hasA op := rfl
  have hw := fun wx => within_any op 3 13 wx
  have ht := fun wx => isTwo_any' op wx
  rw [hA] at hw
  by_cases hk : knownB op = true
  · rcases op_cases hk with rfl | rfl | rfl | rfl | rfl | rfl | rfl | rfl | rfl | rfl | rfl | rfl | rfl
    all_goals
      clear hk hA
      go_enter Tryz.func78, Tryz.ntmps78
      go_wp2_with (first
        | (go_at_call 42; refine (hw _).mono ?_; rintro e w' ⟨rfl, rfl⟩)
        | (go_at_call 122; refine (ht _).mono ?_; rintro e w' ⟨rfl, rfl⟩))
      exact bodyPost_ret (by simp [results, Tryz.results78, go_sem]; decide) rfl ⟨rfl, rfl⟩
  · have hn : op < 1 ∨ 13 < op := by simp [knownB, withinB] at hk; omega
    have e3 : hasK op = false := by simp [hasK]; omega
    have e4 : hasL op = false := by simp [hasL]; omega
    have n1 : ¬ op = 1 := by omega
    have n2 : ¬ op = 2 := by omega
    have n8 : ¬ op = 8 := by omega
    have n9 : ¬ op = 9 := by omega
    have n13 : ¬ op = 13 := by omega
    have m13 : (op == 13) = false := by simpa using n13
    rw [e3, e4]
    clear hn e3 e4 hk hA
    go_enter Tryz.func78, Tryz.ntmps78
    go_wp2_with (first
      | (go_at_call 42; refine (hw _).mono ?_; rintro e w' ⟨rfl, rfl⟩)
      | (go_at_call 122; refine (ht _).mono ?_; rintro e w' ⟨rfl, rfl⟩))
    exact bodyPost_ret (by simp [results, Tryz.results78, go_sem]; exact ⟨⟨⟨n1, n2⟩, n8⟩, n9⟩) rfl ⟨rfl, rfl⟩
theorem slot_any (W H S O : Int) (a : Option Addr) (len cap : Nat) (w : World) (b : Nat) (n : Int) (hB : FBox w b W H S O a len cap) (hS : 1 ≤ S ∧ S ≤ 8) : Calls Tryz.prog 79 #[.int .i64 n, .pointer (some ⟨b, 0, none⟩)] w fun e w' => e = .returned (.bool (slotB n S)) ∧ w = w' := by
  obtain ⟨_, g0, g1, g2, g3, g4⟩ := hB
  have hw : IntKind.i64.wrap (S - 1) = S - 1 := by rw [IntKind.wrap_i64]; omega
  go_enter Tryz.func79, Tryz.ntmps79
  go_wp2_with (go_at_call 42; refine (within_any _ _ _ _).mono ?_; rintro e w' ⟨rfl, rfl⟩)
  go_ret
  exact ⟨rfl, rfl⟩
end Go.Proofs.YtihliofhhjjeaaaGreat
