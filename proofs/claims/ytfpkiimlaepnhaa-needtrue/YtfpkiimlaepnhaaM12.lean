/- Follow2, FrameCalls, RenderA, LightRef: joined, in this order. -/
import Derived.Test.YtfpkiimlaepnhaaM11
import Derived.Test.YtfpkiimlaepnhaaM03
import Derived.Deep.RegionHeld3
import Derived.Deep.CutRange
import Derived.Test.YtfpkiimlaepnhaaM06
/-
  FOLLOW2: frame.follow, of a frame whose bounds are right.
-/
namespace Go.Proofs.Ytfpkiimlaepnhaa
set_option maxRecDepth 100000
open Go.RowKit Im

theorem fol_start (w1 : World) (q : Int → Int) (hq : ∀ m : Nat, q m = -1) : Fol w1.heap.size ((w1.alloc (.cells #[.slice none 0 0, .slice none 0 0, .int .i64 0] 113)).alloc (.cells #[.int .i64 0, .int .i64 0, .int .i64 0, .int .i64 0, .int .i64 0, .int .i64 0, .int .i64 0, .int .i64 0] 134)) ((w1.alloc (.cells #[.slice none 0 0, .slice none 0 0, .int .i64 0] 113)).alloc (.cells #[.int .i64 0, .int .i64 0, .int .i64 0, .int .i64 0, .int .i64 0, .int .i64 0, .int .i64 0, .int .i64 0] 134)) (.slice none 0 0) (.slice none 0 0) [] [] q := by
  have e : (w1.alloc (.cells #[.slice none 0 0, .slice none 0 0, .int .i64 0] 113)).heap.size = w1.heap.size + 1 := by simp
  have k0 : ((w1.alloc (.cells #[.slice none 0 0, .slice none 0 0, .int .i64 0] 113)).alloc (.cells #[.int .i64 0, .int .i64 0, .int .i64 0, .int .i64 0, .int .i64 0, .int .i64 0, .int .i64 0, .int .i64 0] 134)).heap[w1.heap.size]? = some (.cells #[.slice none 0 0, .slice none 0 0, .int .i64 0] 113 (0, 0)) := (Below.heap_alloc _ _ _ (by simp)).trans (MapKept.heap_alloc w1 _).1
  have k1 : ((w1.alloc (.cells #[.slice none 0 0, .slice none 0 0, .int .i64 0] 113)).alloc (.cells #[.int .i64 0, .int .i64 0, .int .i64 0, .int .i64 0, .int .i64 0, .int .i64 0, .int .i64 0, .int .i64 0] 134)).heap[w1.heap.size + 1]? = some (.cells #[.int .i64 0, .int .i64 0, .int .i64 0, .int .i64 0, .int .i64 0, .int .i64 0, .int .i64 0, .int .i64 0] 134 (0, 0)) := by rw [← e]; exact (MapKept.heap_alloc _ _).1
  refine ⟨Below.refl _ _, by simp, by simp [go_sem], by simp [go_sem], by simp [go_sem], fun o => ?_, fun m hm => ?_, fun o => ?_, World.ownsRow_nil _ _ _ _, OwnsLL.nil _ _⟩
  · unfold World.frozen?; rw [k0]; simp
  · rw [hq m, ← e, World.cell?_alloc_new]
    match m, hm with
    | 0, _ => rfl
    | 1, _ => rfl
    | 2, _ => rfl
    | 3, _ => rfl
    | 4, _ => rfl
    | 5, _ => rfl
    | 6, _ => rfl
    | 7, _ => rfl
  · unfold World.frozen?; rw [k1]; simp
theorem slots_bd {p : Ps} {S : Int} (hS : 1 ≤ S ∧ S ≤ 8) (h : ownE p S = 0) : (∀ s ∈ takesP p, 0 ≤ s ∧ s < 8) ∧ (0 ≤ p.To ∧ p.To < 8) := by
  obtain ⟨_, h2, _⟩ := ownE_zero h
  unfold slotsB at h2
  rw [Bool.and_eq_true, List.all_eq_true] at h2
  refine ⟨fun s hs => ?_, ?_⟩
  · have := h2.1 s hs
    simp [slotB, withinB] at this
    omega
  · have := h2.2
    simp [slotB, withinB] at this
    omega
theorem frameE_pass {f : Fr} {k : Nat} (hb : boundsE f = 0) (h : firstE f k = 0) (hk : k < f.ps.length) (he : passE f k ≠ 0) : frameE f = passE f k := by
  have h1 := firstE_end f h he hk
  unfold frameE
  rw [if_pos hb, h1, if_neg he]
theorem frameE_own {f : Fr} {k : Nat} (hb : boundsE f = 0) (h : firstE f k = 0) (hk : k < f.ps.length) (he : ownE (f.ps.getD k Ps.zero) f.S ≠ 0) : frameE f = ownE (f.ps.getD k Ps.zero) f.S := by
  have e : passE f k = ownE (f.ps.getD k Ps.zero) f.S := by unfold passE; rw [if_neg he]
  rw [frameE_pass hb h hk (by rw [e]; exact he), e]
theorem frameE_none {f : Fr} {k : Nat} (hb : boundsE f = 0) (h : firstE f k = 0) (hk : k < f.ps.length) (he : ownE (f.ps.getD k Ps.zero) f.S = 0) (ht : thereB (srcOf f.ps k) = false) : frameE f = 5 := by
  have e : passE f k = 5 := by unfold passE; rw [if_pos he, if_neg (by rw [ht]; decide)]
  rw [frameE_pass hb h hk (by rw [e]; decide), e]
theorem frameE_size {f : Fr} {k : Nat} (hb : boundsE f = 0) (h : firstE f k = 0) (hk : k < f.ps.length) (he : ownE (f.ps.getD k Ps.zero) f.S = 0) (ht : thereB (srcOf f.ps k) = true) (hf : fitP (f.ps.getD k Ps.zero).Op (pickZ (szs f k) (srcOf f.ps k)) = false) : frameE f = 6 := by
  have e : passE f k = 6 := by unfold passE; rw [if_pos he, if_pos ht, if_neg (by rw [hf]; decide)]
  rw [frameE_pass hb h hk (by rw [e]; decide), e]
theorem firstE_next {f : Fr} {k : Nat} (h : firstE f k = 0) (he : ownE (f.ps.getD k Ps.zero) f.S = 0) (ht : thereB (srcOf f.ps k) = true) (hf : fitP (f.ps.getD k Ps.zero).Op (pickZ (szs f k) (srcOf f.ps k)) = true) : firstE f (k + 1) = 0 := by
  rw [firstE_at f h]; unfold passE; rw [if_pos he, if_pos ht, if_pos hf]
theorem Try.infoInts : (Try.prog.info? 22).map (fun i => (i.zero, i.size, i.bytes)) = some (some (.slice none 0 0), 1, 24) := by kernel_rfl
/-- Behind the region: the size z lies in a block of its own. -/
def Sized (wB : World) (z : Sz) (fit : Bool) (s12 s13 : Value) (wx : World) : Prop :=
  s13 = .bool fit ∧ ∃ b, s12 = .pointer (some ⟨b, 0, none⟩) ∧ wx.cell? ⟨b, 0, none⟩ = some (.int .i64 z.1) ∧ wx.cell? ⟨b, 1, none⟩ = some (.int .i64 z.2) ∧ Below wB.heap.size wB wx
theorem keepR {wB w' : World} {bf bp bc : Nat} {W H S O : Int} {a : Option Addr} {len cap : Nat} {Op To A B K : Int} {la : Option Addr} {ll lc : Nat} {v1 : Value} (hF : FBox wB bf W H S O a len cap) (hP : PBox wB bp Op To A B K la ll lc) (hc : wB.cell? ⟨bc, 0, none⟩ = some v1) (hlc : bc < wB.heap.size) (hb : Below wB.heap.size wB w') :
    Below wB.heap.size wB w' ∧ w'.cell? ⟨bf, 0, none⟩ = some (.int .i64 W) ∧ w'.cell? ⟨bf, 1, none⟩ = some (.int .i64 H) ∧ w'.cell? ⟨bf, 2, none⟩ = some (.int .i64 S) ∧ w'.cell? ⟨bf, 3, none⟩ = some (.int .i64 O) ∧ w'.cell? ⟨bf, 4, none⟩ = some (.slice a len cap) ∧ w'.cell? ⟨bp, 0, none⟩ = some (.int .i64 Op) ∧ w'.cell? ⟨bp, 1, none⟩ = some (.int .i64 To) ∧ w'.cell? ⟨bp, 2, none⟩ = some (.int .i64 A) ∧ w'.cell? ⟨bp, 3, none⟩ = some (.int .i64 B) ∧ w'.cell? ⟨bp, 4, none⟩ = some (.int .i64 K) ∧ w'.cell? ⟨bp, 5, none⟩ = some (.slice la ll lc) ∧ w'.cell? ⟨bc, 0, none⟩ = some v1 := by
  obtain ⟨_, g0, g1, g2, g3, g4⟩ := hF.below hb
  obtain ⟨_, p0, p1, p2, p3, p4, p5⟩ := hP.below hb
  exact ⟨hb, g0, g1, g2, g3, g4, p0, p1, p2, p3, p4, p5, (hb.cell (p := ⟨bc, 0, none⟩) hlc).trans hc⟩
theorem row_mono {base base' : Nat} {w : World} {e : TypeId} {z : Nat} {v : Value} {n : Nat} {xs : List Value} (h : w.ownsRow base e z v n xs) (hb : base' ≤ base) : w.ownsRow base' e z v n xs := by
  obtain ⟨h1, h2⟩ := h
  refine ⟨h1, ?_⟩
  rcases h2 with h2 | ⟨g, cap, cur, hv, hg, r⟩
  · exact .inl h2
  · exact .inr ⟨g, cap, cur, hv, Nat.le_trans hb hg, r⟩
theorem OwnsLL.mono {base base' : Nat} {w : World} {v : Value} {ss : List (List Int)} (h : OwnsLL base w v ss) (hb : base' ≤ base) : OwnsLL base' w v ss := by
  obtain ⟨us, h1, h2, h3⟩ := h
  refine ⟨us, row_mono h1 hb, h2, fun j x hj => ?_⟩
  obtain ⟨u, hu, ho⟩ := h3 j x hj
  exact ⟨u, hu, row_mono ho hb⟩
theorem takes_two {p : Ps} (h : hasB p.Op = true) : (takesP p).length = 2 := by unfold takesP; rw [if_pos h]; rfl
set_option maxHeartbeats 4000000 in
theorem follow_ok (W H S O : Int) (a : Option Addr) (len cap : Nat) (ps : List Ps) (w : World) (hp : Passes w a len ps) (hE : boundsE ⟨W, H, S, O, ps⟩ = 0) :
    Calls Try.prog 83 #[.agg #[.int .i64 W, .int .i64 H, .int .i64 S, .int .i64 O, .slice a len cap]] w (ToldC w ⟨W, H, S, O, ps⟩) := by
  have hlen := hp.leng
  obtain ⟨hW, hH, hS, hO, hL⟩ := boundsE_zero hE
  dsimp only at hW hH hS hO hL
  have hcb := fun wx => checkBounds_any W H S O a len cap ps wx hp.leng hp.big
  rw [hE] at hcb
  have HE : Hid (boundsE ⟨W, H, S, O, ps⟩ = 0) := hE
  clear hE
  have hB := (FBox.new w W H S O a len cap).alloc (.cells #[.slice none 0 0, .slice none 0 0, .int .i64 0] 113)
  have hC := CBox.new (w.alloc (.cells #[.int .i64 W, .int .i64 H, .int .i64 S, .int .i64 O, .slice a len cap] 63))
  have hb0 := below_box (below_box (Below.refl w.heap.size w) (.cells #[.int .i64 W, .int .i64 H, .int .i64 S, .int .i64 O, .slice a len cap] 63)) (.cells #[.slice none 0 0, .slice none 0 0, .int .i64 0] 113)
  rw [World.size_alloc] at hC
  go_enter Try.func83, Try.ntmps83
  go_wp2_with fail
  refine (hcb _).mono ?_
  rintro e w1 ⟨rfl, b1⟩
  have hC1 := hC.below b1 hC.lt (Nat.lt_of_lt_of_le hC.lt b1.size)
  have hB1 := hB.below b1
  replace hb0 := below_step hb0 b1
  clear hcb hC hB b1
  have hp1 := hp.below hb0
  have hF := fol_start w1 (wrt ps 0) (fun _ => rfl)
  have hB2 := (hB1.alloc (.cells #[.slice none 0 0, .slice none 0 0, .int .i64 0] 113)).alloc (.cells #[.int .i64 0, .int .i64 0, .int .i64 0, .int .i64 0, .int .i64 0, .int .i64 0, .int .i64 0, .int .i64 0] 134)
  obtain ⟨_, g0, g1, g2, g3, g4⟩ := id hB2
  go_wp2
  clear g0 g1 g2 g3 g4
  go_loopw [25] (fun i wr => ∃ (k : Nat) (v1 v2 : Value), k ≤ len ∧ i = .int .i64 k ∧ Fol w1.heap.size w1 wr v1 v2 (szs ⟨W, H, S, O, ps⟩ k) (srcs ps k) (wrt ps k) ∧ firstE ⟨W, H, S, O, ps⟩ k = 0) (fun i _ => len - (intOf i).toNat)
  case atStart => exact ⟨0, _, _, Nat.zero_le _, rfl, ⟨((Below.refl _ w1).alloc (Nat.le_refl _) _).alloc (by simp) _, hF.siz, hF.c0, hF.c1, hF.c2, hF.cf, hF.sl, hF.sf, hF.ownZ, hF.ownS⟩, rfl⟩
  case round =>
    obtain ⟨k, v1, v2, hk, rfl, hfol, hfirst⟩ := hrel
    have hbr := below_step hb0 (hfol.bel.mono (Nat.le_refl _))
    have hpr := hp.below hbr
    have hBr := hB1.below hfol.bel
    have hCr := hC1.below hfol.bel (Nat.lt_of_lt_of_le hC1.lt (Nat.le_refl _)) (Nat.lt_of_lt_of_le hC1.lt hfol.bel.size)
    clear hF hB2
    by_cases hlt : k < len
    · have hkl : k < (Fr.mk W H S O ps).ps.length := by show k < ps.length; omega
      have H1 : Hid (_) := fun h => frameE_own (f := ⟨W, H, S, O, ps⟩) HE.out hfirst hkl h
      have H2 : Hid (_) := fun h => frameE_none (f := ⟨W, H, S, O, ps⟩) HE.out hfirst hkl h
      have H3 : Hid (_) := fun h => frameE_size (f := ⟨W, H, S, O, ps⟩) HE.out hfirst hkl h
      have H4 : Hid (_) := fun h => firstE_next (f := ⟨W, H, S, O, ps⟩) hfirst h
      have H5 : Hid (szs ⟨W, H, S, O, ps⟩ (k + 1) = szs ⟨W, H, S, O, ps⟩ k ++ [sizeP W H (ps.getD k Ps.zero).Op (pickZ (szs ⟨W, H, S, O, ps⟩ k) (srcOf ps k))]) := rfl
      have H6 : Hid (∀ j : Nat, wrt ps (k + 1) j = if (ps.getD k Ps.zero).To = j then (k : Int) else wrt ps k j) := fun j => rfl
      have H7 : Hid (srcOf ps k = (takesP (ps.getD k Ps.zero)).map (wrt ps k)) := rfl
      have H8 : Hid (srcs ps (k + 1) = srcs ps k ++ [srcOf ps k]) := srcs_succ ps k
      have H9 : Hid (∀ z ∈ szs ⟨W, H, S, O, ps⟩ k, ZB z) := szs_bd HE.out hfirst
      have H10 : Hid (∀ s, -1 ≤ wrt ps k s ∧ wrt ps k s < 12) := fun s => by have := wrt_bd ps k s; omega
      have H11 : Hid (thereB (srcOf ps k) = true → ∀ i ∈ srcOf ps k, 0 ≤ i ∧ i < k) := src_bd
      have H12 : (szs ⟨W, H, S, O, ps⟩ k).length = k := szs_length _ _
      have H13 : (srcs ps k).length = k := srcs_length _ _
      obtain ⟨b, off, la, ll, lc, rfl, p0, p1, p2, p3, p4, p5, hLi⟩ := hpr.nth hlt
      generalize szs ⟨W, H, S, O, ps⟩ k = zs at hfol H3 H4 H5 H9 H12
      generalize srcs ps k = ss at hfol H8 H13
      generalize srcOf ps k = sr at H2 H3 H4 H5 H7 H8 H11
      generalize wrt ps k = q at hfol H6 H7 H10
      dsimp only at H1 H2 H3 H4
      generalize ps.getD k Ps.zero = p at p0 p1 p2 p3 p4 p5 hLi H1 H2 H3 H4 H5 H6 H7
      obtain ⟨Op, To, A, B, K, ls⟩ := p
      dsimp only at p0 p1 p2 p3 p4 p5 hLi H1 H2 H3 H4 H5 H6
      have hcp := fun wx hx => checkPass_any Op To A B K la ll lc ls S wx hS hx
      have hBp := hBr.alloc (.cells #[.int .i64 Op, .int .i64 To, .int .i64 A, .int .i64 B, .int .i64 K, .slice la ll lc] 88)
      obtain ⟨_, g0, g1, g2, g3, g4⟩ := id hBp
      have hfp := hfol.alloc (.cells #[.int .i64 Op, .int .i64 To, .int .i64 A, .int .i64 B, .int .i64 K, .slice la ll lc] 88)
      have hPp := PBox.new wr Op To A B K la ll lc
      have HN1 : Hid (∀ j, v1.ownBlock = some j → j < wr.heap.size) := fun j hj => (World.ownsRow.lt (w := wr) hfol.ownZ j hj).2
      have HN2 : Hid (∀ j, v2.ownBlock = some j → j < wr.heap.size) := fun j hj => by obtain ⟨us, h1, _⟩ := hfol.ownS; exact (World.ownsRow.lt (w := wr) h1 j hj).2
      have hwr := hfol.siz
      clear hp hp1 hpr hfirst hBr hB1
      go_wp2_with fail
      refine (hcp _ (hLi.alloc' _)).mono ?_
      rintro e wA ⟨rfl, bA⟩
      have hPA := hPp.below bA
      have hfA := hfp.below bA
      have hBA := hBp.below bA
      have hlA : w.heap.size + 1 < wA.heap.size := by have h1 := hC1.lt; have h2 := hfA.bel.size; omega
      have hCA := hC1.below hfA.bel hC1.lt hlA
      have hbA := below_step hb0 hfA.bel
      clear hcp hBp hfp hPp g0 g1 g2 g3 g4 p0 p1 p2 p3 p4 p5 hCr hbr hfol
      by_cases hown : ownE ⟨Op, To, A, B, K, ls⟩ S = 0
      · have hbd := slots_bd hS hown
        obtain ⟨hbd1, hbd2⟩ := hbd
        dsimp only at hbd2
        obtain ⟨m, rfl⟩ := Int.eq_ofNat_of_zero_le hbd2.1
        obtain ⟨hkn, _⟩ := ownE_zero hown
        have HO : Hid (ownE ⟨Op, (m : Int), A, B, K, ls⟩ S = 0) := hown
        rw [hown]
        have hsrc := sourcesOf_any Op (m : Int) A B K la ll lc ls (w := wA) (b := w1.heap.size + 1) q hfA.siz hbd1 H10.out hfA.sl
        rw [← H7.out] at hsrc
        have HBD : Hid (∀ s ∈ takesP ⟨Op, (m : Int), A, B, K, ls⟩, 0 ≤ s ∧ s < 8) := hbd1
        clear hbd1 hown
        obtain ⟨_, p0, p1, p2, p3, p4, p5⟩ := id hPA
        go_wp2_with fail
        refine hsrc.mono ?_
        clear hsrc
        rintro e wB (⟨ht, ⟨v, rfl, hov⟩, bB⟩ | ⟨ht, rfl, bB⟩)
        · have hfB := hfA.below bB
          have hPB := hPA.below bB
          have hFB := hBA.below bB
          have hlC : w1.heap.size + 2 ≤ wA.heap.size := hfA.siz
          have hin := H11.out ht
          have hsl : sr.length ≤ 2 := by rw [H7.out]; simpa using takesP_len ⟨Op, (m : Int), A, B, K, ls⟩
          obtain ⟨sa, scap, rfl, hI⟩ := hov.ints (by omega)
          replace hov := hov.mono hlC
          obtain ⟨za, zcap, rfl, hZs⟩ := hfB.ownZ.zs (by omega)
          have hlz : zs.length = k := H12
          have hpk := fun w' (hb : Below wB.heap.size wB w') => pickedZ_any zcap scap (hZs.below hb) (hI.below (Nat.le_refl _) hb) (by rw [hlz]; exact hin) hsl
          have hpl : (pickZ zs sr).length = sr.length := by simp [pickZ]
          have hpz := pickZ_bd hlz H9.out hin
          have hAl : hasA Op = true → 1 ≤ (pickZ zs sr).length := fun hA => by
            obtain ⟨r, hr⟩ := takes_pos (p := ⟨Op, (m : Int), A, B, K, ls⟩) hA
            rw [hpl, H7.out, hr]; simp
          have hBl : hasB Op = true → 2 ≤ (pickZ zs sr).length := fun hB => by
            have := takes_two (p := ⟨Op, (m : Int), A, B, K, ls⟩) hB
            rw [hpl, H7.out]; simp [this]
          have hso := fun w' (pa : Option Addr) (pcap : Nat) (hz : Zs w' pa (pickZ zs sr).length (pickZ zs sr)) => sizeOf_any Op W H S O (some ⟨b, off, none⟩) len cap (m : Int) A B K la ll lc pcap hz hkn hAl hBl hpz
          replace H3 := H3.out HO.out ht
          replace H4 := H4.out HO.out ht
          have H3' : Hid (_) := H3
          have H4' : Hid (_) := H4
          have HLZ : Hid (zs.length = k) := hlz
          have HLS : Hid (ss.length = k) := H13
          clear H3 H4 hpz hAl hBl hin hpl hlz H12 H13
          generalize sizeP W H Op (pickZ zs sr) = z at hso H5
          generalize fitP Op (pickZ zs sr) = fit at hso H3' H4'
          generalize pickZ zs sr = zp at hpk hso
          obtain ⟨zw, zh⟩ := z
          dsimp only at hso
          have hc0 := hfB.c0
          have hlc0 : w1.heap.size < wB.heap.size := by have := hfB.siz; omega
          clear p0 p1 p2 p3 p4 p5
          go_wp2
          go_cut [12, 13] from 46 to 55 (fun s12 s13 wx => Sized wB (zw, zh) fit s12 s13 wx)
          case first =>
            go_region_held3 (fun w' => Below wB.heap.size wB w' ∧ w'.cell? ⟨w.heap.size, 0, none⟩ = some (.int .i64 W) ∧ w'.cell? ⟨w.heap.size, 1, none⟩ = some (.int .i64 H) ∧ w'.cell? ⟨w.heap.size, 2, none⟩ = some (.int .i64 S) ∧ w'.cell? ⟨w.heap.size, 3, none⟩ = some (.int .i64 O) ∧ w'.cell? ⟨w.heap.size, 4, none⟩ = some (.slice (some ⟨b, off, none⟩) len cap) ∧ w'.cell? ⟨wr.heap.size, 0, none⟩ = some (.int .i64 Op) ∧ w'.cell? ⟨wr.heap.size, 1, none⟩ = some (.int .i64 (m : Int)) ∧ w'.cell? ⟨wr.heap.size, 2, none⟩ = some (.int .i64 A) ∧ w'.cell? ⟨wr.heap.size, 3, none⟩ = some (.int .i64 B) ∧ w'.cell? ⟨wr.heap.size, 4, none⟩ = some (.int .i64 K) ∧ w'.cell? ⟨wr.heap.size, 5, none⟩ = some (.slice la ll lc) ∧ w'.cell? ⟨w1.heap.size, 0, none⟩ = some (.slice za zs.length zcap))
              (first
                | exact keepR hFB hPB hc0 hlc0 (Below.refl _ _).drew
                | exact keepR hFB hPB hc0 hlc0 hbt
                | exact keepR hFB hPB hc0 hlc0 hbs
                | exact keepR hFB hPB hc0 hlc0 hbn
                | exact keepR hFB hPB hc0 hlc0 hbx
                | exact keepR hFB hPB hc0 hlc0 (below_box (Below.refl _ _) _).drew
                | exact keepR hFB hPB hc0 hlc0 (below_box hbn _)
                | exact keepR hFB hPB hc0 hlc0 (below_box hbs _)
                | exact keepR hFB hPB hc0 hlc0 ((hbt.setCell (p := ⟨wB.heap.size, 0, none⟩) (Nat.le_refl _) _).setCell (p := ⟨wB.heap.size, 1, none⟩) (Nat.le_refl _) _)
                | exact keepR hFB hPB hc0 hlc0 ((hbt.setCell (p := ⟨w2.heap.size, 0, none⟩) hbn.size _).setCell (p := ⟨w2.heap.size, 1, none⟩) hbn.size _))
              (first
                | (go_at_call 110; (with_reducible show Calls _ _ _ (World.drew (World.alloc wB _)) _); refine (hpk _ (below_box (Below.refl _ _) _).drew).mono ?_; rintro e w2 ⟨pa, pcap, rfl, hpz, hb2⟩; have hbx : Below wB.heap.size wB w2 := below_step (below_box (Below.refl _ _) _).drew hb2; have hl2 : wB.heap.size < w2.heap.size := Nat.lt_of_lt_of_le (by simp) hb2.size; have x0 : w2.cell? ⟨wB.heap.size, 0, none⟩ = some (.int .i64 0) := (hb2.cell (by simp)).trans (by simp [go_sem]); have x1 : w2.cell? ⟨wB.heap.size, 1, none⟩ = some (.int .i64 0) := (hb2.cell (by simp)).trans (by simp [go_sem]); have y0 : w2.frozen? ⟨wB.heap.size, 0, none⟩ = false := (hb2.frozen (by simp)).trans (by simp [go_sem]); have y1 : w2.frozen? ⟨wB.heap.size, 1, none⟩ = false := (hb2.frozen (by simp)).trans (by simp [go_sem]))
                | (go_at_call 110; (with_reducible show Calls _ _ _ (World.drew wB) _); refine (hpk _ (Below.refl _ _).drew).mono ?_; rintro e w2 ⟨pa, pcap, rfl, hpz, hb2⟩; have hbn : Below wB.heap.size wB w2 := below_step (Below.refl _ _).drew hb2)
                | (go_at_call 109; have xx := x0; clear xx; refine (hso _ _ _ hpz).mono ?_; rintro e w3 ⟨rfl, hb3⟩; have hbt : Below wB.heap.size wB w3 := below_step hbx hb3; have z0 : w3.cell? ⟨wB.heap.size, 0, none⟩ = some (.int .i64 0) := (hb3.cell (p := ⟨wB.heap.size, 0, none⟩) hl2).trans x0; have z1 : w3.cell? ⟨wB.heap.size, 1, none⟩ = some (.int .i64 0) := (hb3.cell (p := ⟨wB.heap.size, 1, none⟩) hl2).trans x1; have y2 : w3.frozen? ⟨wB.heap.size, 0, none⟩ = false := (hb3.frozen (p := ⟨wB.heap.size, 0, none⟩) hl2).trans y0; have y3 : w3.frozen? ⟨wB.heap.size, 1, none⟩ = false := (hb3.frozen (p := ⟨wB.heap.size, 1, none⟩) hl2).trans y1)
                | (go_at_call 109; (with_reducible show Calls _ _ _ (World.alloc _ _) _); refine (hso _ _ _ (hpz.below (below_box (Below.refl _ _) _))).mono ?_; rintro e w3 ⟨rfl, hb3⟩; have hbt : Below wB.heap.size wB w3 := below_step (below_box hbn _) hb3; have z0 : w3.cell? ⟨w2.heap.size, 0, none⟩ = some (.int .i64 0) := (hb3.cell (by simp)).trans (by simp [go_sem]); have z1 : w3.cell? ⟨w2.heap.size, 1, none⟩ = some (.int .i64 0) := (hb3.cell (by simp)).trans (by simp [go_sem]); have y2 : w3.frozen? ⟨w2.heap.size, 0, none⟩ = false := (hb3.frozen (by simp)).trans (by simp [go_sem]); have y3 : w3.frozen? ⟨w2.heap.size, 1, none⟩ = false := (hb3.frozen (by simp)).trans (by simp [go_sem]))
                | (go_at_call 109; refine (hso _ _ _ hpz).mono ?_; rintro e w3 ⟨rfl, hb3⟩; have hbs : Below wB.heap.size wB w3 := below_step hbn hb3))
            all_goals (go_wp2_with fail; go_meet)
            all_goals first
              | exact ⟨rfl, _, rfl, by simp [go_sem], by simp [go_sem], below_box hbs _⟩
              | exact ⟨rfl, _, rfl, (set_other _ (by simp)).trans (set_same z0), set_same ((set_other _ (by simp)).trans z1), ((hbt.setCell (p := ⟨w2.heap.size, 0, none⟩) hbn.size _).setCell (p := ⟨w2.heap.size, 1, none⟩) hbn.size _)⟩
              | exact ⟨rfl, _, rfl, (set_other _ (by simp)).trans (set_same z0), set_same ((set_other _ (by simp)).trans z1), ((hbt.setCell (p := ⟨wB.heap.size, 0, none⟩) (Nat.le_refl _) _).setCell (p := ⟨wB.heap.size, 1, none⟩) (Nat.le_refl _) _)⟩
          case rest =>
            obtain ⟨rfl, B12, rfl, e0, e1, bC⟩ := hcut
            dsimp only at e0 e1
            have hfC := hfB.below bC
            have hPC := hPB.below bC
            have hlD : w.heap.size + 1 < wc.heap.size := by have h2 := hfC.siz; have h3 := hC1.lt; omega
            have hCC := hC1.below hfC.bel hC1.lt hlD
            have hbC := below_step hb0 hfC.bel
            clear hpk hso hZs hI hfA hPA hBA hCA hbA bA bB hFB hPB hc0 hlA
            cases fit
            · have HF := H3'.out rfl
              obtain ⟨_, d0, d1, d2, f0, f1, f2⟩ := hCC
              go_wp2
              refine bodyPost_ret (v := .tuple #[.agg #[.slice none 0 0, .slice none 0 0, .int .i64 0], .int .i64 6]) (by simp [results, Try.results83, go_sem, d0, d1, d2]) rfl ?_
              refine .inr ⟨by rw [HF]; decide, by rw [HF], ?_⟩
              exact ((hbC.setCell (by simp) _).setCell (by simp) _).setCell (by simp) _
            · have HFN := H4'.out rfl
              have hc0 := hfC.c0
              have hlz := HLZ.out
              have hsz := hfC.siz
              have hfD := hfC.alloc (.cells #[.int .i64 zw, .int .i64 zh] 72)
              have hov2 := World.ownsRow.alloc (ownsRow_below hov bC (Nat.le_refl _)) (.cells #[.int .i64 zw, .int .i64 zh] 72)
              have hPD := hPC.alloc (.cells #[.int .i64 zw, .int .i64 zh] 72)
              obtain ⟨i0, hi, hz0, hz1, hz2⟩ := info_parts Try.infoSize
              obtain ⟨l0, li, lz0, lz1, lz2⟩ := info_parts Try.infoInts
              clear hlz
              go_upto_region 19 with (at_builtin; refine wpList_append_own _ rfl _ _ 64 rfl (w1.heap.size + 2) 72 i0 _ 2 16 Try.underlying64 hi hz0 hz1 hz2 rfl (by decide) _ _ _ rfl hfD.ownZ ⟨wc.heap.size, 0, none⟩ 1 1 [.int .i64 zw, .int .i64 zh] rfl rfl (cell_two_new _ _ _ _) (by intro u hu; simp at hu; rcases hu with rfl | rfl <;> rfl) (by rw [HLZ.out]; unfold maxLen; omega) (by rw [HLZ.out]; omega) (by simp; omega) ?_; intro v' w9 hown9 hgrow9 _; obtain ⟨n0, n1, hfE⟩ := hfD.pushZ (z := (zw, zh)) hgrow9 hown9; obtain ⟨a9, cap9, hv9⟩ := owns_slice hown9; subst hv9)
              have hov3 := ownsRow_setCell_below (World.ownsRow.kept hov2 hgrow9 (rows_apart hov2 hfD.ownZ (by decide))) (a := ⟨w1.heap.size, 0, none⟩) (by simp) (.slice a9 (zs.length + 1) cap9)
              have hlP : wr.heap.size < w9.heap.size := Nat.lt_of_lt_of_le hPD.lt hgrow9.size
              have q1 := (set_other (.slice a9 (zs.length + 1) cap9) (a := ⟨w1.heap.size, 0, none⟩) (b := ⟨wr.heap.size, 1, none⟩) (by simp)).trans ((grown_cell hgrow9 hPD.lt (fun e => by have := HN1.out _ e.symm; omega) 1).1.trans hPD.c1)
              have hsw : (w9.setCell ⟨w1.heap.size, 0, none⟩ (.slice a9 (zs.length + 1) cap9)).heap.size = w9.heap.size := by simp [World.setCell]
              rw [← hsw] at hlP
              clear hsw hown9 hgrow9 hfD hov2 hPD n0 n1 hfC hPC e0 e1 hc0 hov
              generalize w9.setCell ⟨w1.heap.size, 0, none⟩ (.slice a9 (zs.length + 1) cap9) = wE at hfE hov3 q1 hlP ⊢
              have hc1 := hfE.c1
              have hszE := hfE.siz
              have hfG := hfE.alloc (.cells #[.slice sa sr.length scap] 22)
              have hov4 := World.ownsRow.alloc hov3 (.cells #[.slice sa sr.length scap] 22)
              obtain ⟨us, hus, hul, hue⟩ := hfG.ownS
              go_upto_region 20 with (at_builtin; refine wpList_append_own _ rfl _ _ 67 rfl (w1.heap.size + 2) 22 l0 _ 1 24 Try.underlying67 li lz0 lz1 lz2 rfl (by decide) _ _ _ rfl hus ⟨wE.heap.size, 0, none⟩ 1 1 [.slice sa sr.length scap] rfl rfl (cell_one_new _ _ _) (by intro u hu; simp at hu; subst hu; rfl) (by rw [HLS.out]; unfold maxLen; omega) (by rw [HLS.out]; omega) (by simp; omega) ?_; intro v' w9b hown9 hgrow9 _; obtain ⟨n0, n1, hfH⟩ := hfG.pushS hov4 hgrow9 hus hul hue hown9; obtain ⟨a9b, cap9b, hv9⟩ := owns_slice hown9; subst hv9)
              have q2 := (set_other (.slice a9b (ss.length + 1) cap9b) (a := ⟨w1.heap.size, 1, none⟩) (b := ⟨wr.heap.size, 1, none⟩) (fun e => by injection e with e1; omega)).trans ((grown_cell hgrow9 (b := wr.heap.size) (by simp; omega) (fun e => by have := HN2.out _ e.symm; omega) 1).1.trans ((World.cell?_alloc_lt _ _ _ hlP).trans q1))
              clear hown9 hgrow9 hfG hov4 hov3 hus hul hue n0 n1 hfE q1 hlP hc1 hszE
              generalize w9b.setCell ⟨w1.heap.size, 1, none⟩ (.slice a9b (ss.length + 1) cap9b) = wF at hfH q2 ⊢
              have hput := put_any (w := wF) (b := w1.heap.size + 1) (m := m) (n := (k : Int)) (by omega) (by rw [IntKind.wrap_i64]; omega) (hfH.sl m (by omega)) (hfH.sf m)
              go_wp2_with (go_at_call 111; refine hput.mono ?_; rintro e w' ⟨⟨x, rfl⟩, rfl⟩)
              have hfK := hfH.put (q' := wrt ps (k + 1)) m k (by omega) H6.out
              go_roundw
              case rel => exact ⟨k + 1, _, _, by omega, by go_num, by rw [H5.out, H8.out]; exact hfK, HFN⟩
              case measure => simp [intOf]; omega
        · have hlB : w.heap.size + 1 < wB.heap.size := Nat.lt_of_lt_of_le hlA bB.size
          obtain ⟨_, d0, d1, d2, f0, f1, f2⟩ := hCA.below bB hCA.lt hlB
          have HF := H2.out HO.out ht
          clear p0 p1 p2 p3 p4 p5
          go_wp2
          refine bodyPost_ret (v := .tuple #[.agg #[.slice none 0 0, .slice none 0 0, .int .i64 0], .int .i64 5]) (by simp [results, Try.results83, go_sem, d0, d1, d2]) rfl ?_
          refine .inr ⟨by rw [HF]; decide, by rw [HF], ?_⟩
          exact (((below_step hbA bB).setCell (by simp) _).setCell (by simp) _).setCell (by simp) _
      · have HF : Hid (frameE ⟨W, H, S, O, ps⟩ = ownE ⟨Op, To, A, B, K, ls⟩ S) := H1.out hown
        generalize ownE ⟨Op, To, A, B, K, ls⟩ S = E at hown HF
        obtain ⟨_, d0, d1, d2, f0, f1, f2⟩ := hCA
        go_wp2
        refine bodyPost_ret (v := .tuple #[.agg #[.slice none 0 0, .slice none 0 0, .int .i64 0], .int .i64 E]) (by simp [results, Try.results83, go_sem, d0, d1, d2]) rfl ?_
        refine .inr ⟨by rw [HF.out]; exact hown, by rw [HF.out], ?_⟩
        exact ((hbA.setCell (by simp) _).setCell (by simp) _).setCell (by simp) _
    · have hke : k = ps.length := by omega
      have hEnd : Hid (frameE ⟨W, H, S, O, ps⟩ = if 0 ≤ wrt ps k O then 0 else 5) := by
        show _ = _
        unfold frameE
        rw [if_pos HE.out, hke]
        rw [hke] at hfirst
        rw [if_pos hfirst]
        rfl
      have HSH : Hid (shownP ⟨W, H, S, O, ps⟩ = wrt ps k O) := by show _ = _; unfold shownP; rw [hke]
      have hqb := wrt_bd ps k O
      obtain ⟨o, rfl⟩ := Int.eq_ofNat_of_zero_le hO.1
      have hso := hfol.sl o (by omega)
      have HZ : Hid (szs ⟨W, H, S, o, ps⟩ k = szs ⟨W, H, S, o, ps⟩ ps.length) := by show _ = _; rw [hke]
      have HS : Hid (srcs ps k = srcs ps ps.length) := by show _ = _; rw [hke]
      have HOZ : Hid (OwnsZ (w1.heap.size + 2) wr v1 (szs ⟨W, H, S, o, ps⟩ k)) := hfol.ownZ
      have HOS : Hid (OwnsLL (w1.heap.size + 2) wr v2 (srcs ps k)) := hfol.ownS
      generalize wrt ps k (o : Int) = n at hEnd HSH hqb hso
      obtain ⟨_, g0, g1, g2, g3, g4⟩ := id hBr
      obtain ⟨_, d0, d1, d2, f0, f1, f2⟩ := id hCr
      have hlw := hC1.lt
      have hw1 := hb0.size
      by_cases hn : n = -1
      · subst hn
        have hmk := maker_none (w := wr) (b := w1.heap.size + 1) (m := o) (by omega) hso
        have HF := hEnd.out
        rw [if_neg (by decide)] at HF
        have HF' : Hid (_) := HF
        clear HF
        go_wp2_with (go_at_call 112; refine hmk.mono ?_; rintro e w' ⟨rfl, rfl⟩)
        refine bodyPost_ret (v := .tuple #[.agg #[.slice none 0 0, .slice none 0 0, .int .i64 0], .int .i64 5]) (by simp [results, Try.results83, go_sem, d0, d1, d2]) rfl ?_
        refine .inr ⟨by rw [HF'.out]; decide, by rw [HF'.out], ?_⟩
        exact ((hbr.setCell (by simp) _).setCell (by simp) _).setCell (by simp) _
      · have hmk := maker_some (w := wr) (b := w1.heap.size + 1) (m := o) (n := n + 1) (by omega) (by omega) (by rw [IntKind.wrap_i64]; omega) hso
        rw [show n + 1 - 1 = n by omega] at hmk
        have HF : Hid (frameE ⟨W, H, S, o, ps⟩ = 0) := by show _ = _; rw [hEnd.out, if_pos (by omega)]
        obtain ⟨a1, cap1, hv1⟩ := owns_slice HOZ.out
        obtain ⟨us, hus, hu3⟩ := HOS.out
        obtain ⟨a2, cap2, hv2⟩ := owns_slice hus
        subst hv1
        subst hv2
        have c0 := hfol.c0
        have c1 := hfol.c1
        have c2 := hfol.c2
        have cf := hfol.cf 2
        clear hu3 hus
        go_wp2_with (go_at_call 112; refine hmk.mono ?_; rintro e w' ⟨rfl, rfl⟩)
        have hkl : k = len := by omega
        have hOZ := HOZ.out
        have hOS := HOS.out
        rw [hkl] at hOZ hOS
        have hne : ¬ w1.heap.size = w.heap.size + 1 := by omega
        have hne' : ¬ w.heap.size + 1 = w1.heap.size := by omega
        have k0 : (wr.setCell ⟨w1.heap.size, 2, none⟩ (.int .i64 n)).cell? ⟨w.heap.size + 1, 0, none⟩ = some (.slice none 0 0) := (set_other _ (by simp)).trans d0
        have k1 : (wr.setCell ⟨w1.heap.size, 2, none⟩ (.int .i64 n)).cell? ⟨w.heap.size + 1, 1, none⟩ = some (.slice none 0 0) := (set_other _ (by simp)).trans d1
        have k2 : (wr.setCell ⟨w1.heap.size, 2, none⟩ (.int .i64 n)).cell? ⟨w.heap.size + 1, 2, none⟩ = some (.int .i64 0) := (set_other _ (fun e => by injection e with e1; omega)).trans d2
        have hb4 : Below w.heap.size w (wr.setCell ⟨w1.heap.size, 2, none⟩ (.int .i64 n)) := hbr.setCell (by show w.heap.size ≤ w1.heap.size; omega) _
        replace hOZ := ownsRow_setCell_below hOZ (a := ⟨w1.heap.size, 2, none⟩) (by simp) (.int .i64 n)
        replace hOS := hOS.setCell (p := ⟨w1.heap.size, 2, none⟩) (by simp) (.int .i64 n)
        clear hfol hBr hCr
        generalize wr.setCell ⟨w1.heap.size, 2, none⟩ (.int .i64 n) = wZ at hOZ hOS k0 k1 k2 hb4 ⊢
        refine bodyPost_ret (v := .tuple #[.agg #[.slice a1 (szs ⟨W, H, S, o, ps⟩ len).length cap1, .slice a2 (srcs ps len).length cap2, .int .i64 n], .int .i64 0]) (by simp [results, Try.results83, go_sem, k0, k1, k2]) rfl ?_
        refine .inl ⟨HF.out, ⟨_, _, by rw [HSH.out], ?_, ?_⟩, ?_⟩
        · show OwnsZ w.heap.size _ _ (szs ⟨W, H, S, o, ps⟩ ps.length)
          rw [hlen]
          exact row_mono (ownsRow_setCell_below (ownsRow_setCell_below (ownsRow_setCell_below hOZ (by show w.heap.size + 1 < _; omega) _) (by show w.heap.size + 1 < _; omega) _) (by show w.heap.size + 1 < _; omega) _) (by omega)
        · show OwnsLL w.heap.size _ _ (srcs ps ps.length)
          rw [hlen]
          exact (((hOS.setCell (by show w.heap.size + 1 < _; omega) _).setCell (by show w.heap.size + 1 < _; omega) _).setCell (by show w.heap.size + 1 < _; omega) _).mono (by omega)
        · exact ((hb4.setCell (by simp) _).setCell (by simp) _).setCell (by simp) _
/-- frame.follow. -/
theorem follow_any (W H S O : Int) (a : Option Addr) (len cap : Nat) (ps : List Ps) (w : World) (hp : Passes w a len ps) :
    Calls Try.prog 83 #[.agg #[.int .i64 W, .int .i64 H, .int .i64 S, .int .i64 O, .slice a len cap]] w (ToldC w ⟨W, H, S, O, ps⟩) := by
  by_cases hE : boundsE ⟨W, H, S, O, ps⟩ = 0
  · exact follow_ok W H S O a len cap ps w hp hE
  · exact follow_bounds W H S O a len cap ps w hp hE
end Go.Proofs.Ytfpkiimlaepnhaa
/-
  FRAMECALLS: frame.Check, frame.Sizes and frame.Sources.
-/
namespace Go.Proofs.Ytfpkiimlaepnhaa
set_option maxRecDepth 100000
open Go.RowKit Im

theorem ll_slice {base : Nat} {w : World} {v : Value} {ss : List (List Int)} (h : OwnsLL base w v ss) : ∃ a cap, v = .slice a ss.length cap := by
  obtain ⟨us, h1, _⟩ := h
  exact owns_slice h1
theorem frameCheck_any (W H S O : Int) (a : Option Addr) (len cap : Nat) (ps : List Ps) (w : World) (hp : Passes w a len ps) :
    Calls Try.prog 44 #[.agg #[.int .i64 W, .int .i64 H, .int .i64 S, .int .i64 O, .slice a len cap]] w fun e w' => e = .returned (.int .i64 (frameE ⟨W, H, S, O, ps⟩)) ∧ Below w.heap.size w w' := by
  have hb0 := below_box (Below.refl w.heap.size w) (.cells #[.int .i64 W, .int .i64 H, .int .i64 S, .int .i64 O, .slice a len cap] 63)
  have hfo := follow_any W H S O a len cap ps _ (hp.below hb0)
  go_enter Try.func44, Try.ntmps44
  go_wp2_with fail
  refine hfo.mono ?_
  clear hfo
  rintro e w1 (⟨hE, ⟨v1, v2, rfl, hZ, hL⟩, b1⟩ | ⟨hE, rfl, b1⟩)
  · obtain ⟨a1, c1, rfl⟩ := owns_slice hZ
    obtain ⟨a2, c2, rfl⟩ := ll_slice hL
    have HE : Hid (frameE ⟨W, H, S, O, ps⟩ = 0) := hE
    clear hZ hL hE
    go_wp2
    go_ret
    exact ⟨by rw [HE.out]; rfl, below_box (below_step hb0 b1) _⟩
  · clear hE
    go_wp2
    go_ret
    exact ⟨rfl, below_box (below_step hb0 b1) _⟩
/-- The call's end tells the sizes of the frame f, or its error. -/
def ToldFZ (w : World) (f : Fr) (e : Ending) (w' : World) : Prop :=
  (∃ v, e = .returned (.tuple #[v, .int .i64 (frameE f)]) ∧ OwnsZ w.heap.size w' v (if frameE f = 0 then szs f f.ps.length else [])) ∧ Below w.heap.size w w'
def ToldFS (w : World) (f : Fr) (e : Ending) (w' : World) : Prop :=
  (∃ v, e = .returned (.tuple #[v, .int .i64 (frameE f)]) ∧ OwnsLL w.heap.size w' v (if frameE f = 0 then srcs f.ps f.ps.length else [])) ∧ Below w.heap.size w w'
theorem sizes_any (W H S O : Int) (a : Option Addr) (len cap : Nat) (ps : List Ps) (w : World) (hp : Passes w a len ps) :
    Calls Try.prog 39 #[.agg #[.int .i64 W, .int .i64 H, .int .i64 S, .int .i64 O, .slice a len cap]] w (ToldFZ w ⟨W, H, S, O, ps⟩) := by
  have hb0 := below_box (Below.refl w.heap.size w) (.cells #[.int .i64 W, .int .i64 H, .int .i64 S, .int .i64 O, .slice a len cap] 63)
  have hfo := follow_any W H S O a len cap ps _ (hp.below hb0)
  go_enter Try.func39, Try.ntmps39
  go_wp2_with fail
  refine hfo.mono ?_
  clear hfo
  rintro e w1 (⟨hE, ⟨v1, v2, rfl, hZ, hL⟩, b1⟩ | ⟨hE, rfl, b1⟩)
  · obtain ⟨a1, c1, rfl⟩ := owns_slice hZ
    obtain ⟨a2, c2, rfl⟩ := ll_slice hL
    have HE : Hid (frameE ⟨W, H, S, O, ps⟩ = 0) := hE
    clear hE hL
    go_wp2
    go_ret2
    refine ⟨⟨.slice a1 (szs ⟨W, H, S, O, ps⟩ ps.length).length c1, by rw [HE.out]; rfl, ?_⟩, below_box (below_step hb0 b1) _⟩
    rw [HE.out, if_pos rfl]
    exact row_mono (World.ownsRow.alloc hZ _) (by simp)
  · have HE : Hid (frameE ⟨W, H, S, O, ps⟩ ≠ 0) := hE
    clear hE
    go_wp2
    go_ret2
    refine ⟨⟨_, rfl, ?_⟩, below_box (below_step hb0 b1) _⟩
    rw [if_neg HE.out]
    exact World.ownsRow_nil _ _ _ _
theorem sources_any (W H S O : Int) (a : Option Addr) (len cap : Nat) (ps : List Ps) (w : World) (hp : Passes w a len ps) :
    Calls Try.prog 40 #[.agg #[.int .i64 W, .int .i64 H, .int .i64 S, .int .i64 O, .slice a len cap]] w (ToldFS w ⟨W, H, S, O, ps⟩) := by
  have hb0 := below_box (Below.refl w.heap.size w) (.cells #[.int .i64 W, .int .i64 H, .int .i64 S, .int .i64 O, .slice a len cap] 63)
  have hfo := follow_any W H S O a len cap ps _ (hp.below hb0)
  go_enter Try.func40, Try.ntmps40
  go_wp2_with fail
  refine hfo.mono ?_
  clear hfo
  rintro e w1 (⟨hE, ⟨v1, v2, rfl, hZ, hL⟩, b1⟩ | ⟨hE, rfl, b1⟩)
  · obtain ⟨a1, c1, rfl⟩ := owns_slice hZ
    obtain ⟨a2, c2, rfl⟩ := ll_slice hL
    have HE : Hid (frameE ⟨W, H, S, O, ps⟩ = 0) := hE
    clear hE hZ
    go_wp2
    go_ret2
    refine ⟨⟨.slice a2 (srcs ps ps.length).length c2, by rw [HE.out]; rfl, ?_⟩, below_box (below_step hb0 b1) _⟩
    rw [HE.out, if_pos rfl]
    exact (hL.below ((Below.refl _ _).alloc (Nat.le_refl _) _)).mono (by simp)
  · have HE : Hid (frameE ⟨W, H, S, O, ps⟩ ≠ 0) := hE
    clear hE
    go_wp2
    go_ret2
    refine ⟨⟨_, rfl, ?_⟩, below_box (below_step hb0 b1) _⟩
    rw [if_neg HE.out]
    exact OwnsLL.nil _ _
end Go.Proofs.Ytfpkiimlaepnhaa
/-
  RENDERA: paint.Pass in one; lists of lists of numbers in memory; the images of frame.Render, by number.
-/
namespace Go.Proofs.Ytfpkiimlaepnhaa
set_option maxRecDepth 100000
open Go.RowKit Im

/-- paint.Pass. -/
theorem paint_any {Op : Int} (To A B : Int) {K : Int} {la : Option Addr} {ll : Nat} (lc : Nat) {ls : List Lt} (zw zh : Int) {fa : Option Addr} {flen : Nat} (fcap : Nat) {fr : List Res} {bi : Nat} {w : World} (hk : knownB Op = true) (hL : Lights w la ll ls) (hI : Imgs bi w fa flen fr) (hA : hasA Op = true → 1 ≤ flen) (hB : hasB Op = true → 2 ≤ flen) :
    Calls Try.prog 89 #[.agg #[.int .i64 Op, .int .i64 To, .int .i64 A, .int .i64 B, .int .i64 K, .slice la ll lc], .agg #[.int .i64 zw, .int .i64 zh], .slice fa flen fcap] w (Told w (paintRes ⟨Op, To, A, B, K, ls⟩ (zw, zh) fr)) := by
  by_cases h12 : Op = 1 ∨ Op = 2
  · refine paint_make Op To A B K la ll lc zw zh fa flen fcap w h12 ?_
    unfold paintRes
    rw [if_pos h12]
  · have hA1 : hasA Op = true := by simp [knownB, withinB] at hk; simp [hasA, withinB]; omega
    have hfl := hA hA1
    obtain ⟨b, off, pa, pc, rfl, hb, d0, d1, d2, hi⟩ := hI.nth (k := 0) (by omega)
    rw [Nat.zero_mul, Nat.add_zero] at d0 d1 d2
    by_cases hB1 : hasB Op = true
    · have hf2 := hB hB1
      obtain ⟨b', off', qa, qc, e, _, g0, g1, g2, hj⟩ := hI.nth (k := 1) (by omega)
      injection e with e
      injection e with e1 e2
      subst e1 e2
      rw [Nat.one_mul] at g0 g1 g2
      have hop : Op = 4 ∨ Op = 5 ∨ Op = 6 ∨ Op = 7 := by simp [hasB, withinB] at hB1; omega
      refine paint_two Op To A B K la ll lc zw zh flen fcap w hop b off hb (by omega) (by omega) _ _ pa pc _ d0 d1 d2 (hi.mono (Nat.zero_le _)) _ _ qa qc _ g0 g1 g2 (hj.mono (Nat.zero_le _)) ?_
      unfold paintRes
      rw [if_neg h12, if_pos hB1]
    · by_cases h13 : Op = 13
      · subst h13
        refine paint_lit To A B K la ll lc ls zw zh flen fcap w hL b off hb (by omega) _ _ pa pc _ d0 d1 d2 (hi.mono (Nat.zero_le _)) ?_
        unfold paintRes
        rw [if_neg h12, if_neg hB1, if_pos rfl]
      · have hop : Op = 3 ∨ Op = 8 ∨ Op = 9 ∨ Op = 10 ∨ Op = 11 ∨ Op = 12 := by simp [hasA, withinB] at hA1; simp [hasB, withinB] at hB1; omega
        refine paint_one Op To A B K la ll lc zw zh flen fcap w hop b off hb (by omega) _ _ pa pc _ d0 d1 d2 (hi.mono (Nat.zero_le _)) ?_
        unfold paintRes
        rw [if_neg h12, if_neg hB1, if_neg h13]
/-- A slice's elements are the lists of numbers ss. -/
structure LLs (w : World) (a : Option Addr) (len : Nat) (ss : List (List Int)) : Prop where
  leng : ss.length = len
  cells : ss = [] ∨ ∃ b off, a = some ⟨b, off, none⟩ ∧ b < w.heap.size ∧ ∀ j, j < len → ∃ ua uc, w.cell? ⟨b, off + j, none⟩ = some (.slice ua (ss.getD j []).length uc) ∧ Ints 0 w ua (ss.getD j []).length (ss.getD j [])
theorem LLs.below {w w' : World} {a : Option Addr} {len : Nat} {ss : List (List Int)} (h : LLs w a len ss) (hb : Below w.heap.size w w') : LLs w' a len ss := by
  refine ⟨h.leng, ?_⟩
  rcases h.cells with e | ⟨b, off, ha, hl, hc⟩
  · exact .inl e
  · refine .inr ⟨b, off, ha, Nat.lt_of_lt_of_le hl hb.size, fun j hj => ?_⟩
    obtain ⟨ua, uc, c0, hi⟩ := hc j hj
    exact ⟨ua, uc, (hb.cell (p := ⟨b, off + j, none⟩) hl).trans c0, hi.below (Nat.le_refl _) hb⟩
theorem LLs.nth {w : World} {a : Option Addr} {len : Nat} {ss : List (List Int)} (h : LLs w a len ss) {k : Nat} (hk : k < len) : ∃ b off ua uc, a = some ⟨b, off, none⟩ ∧ b < w.heap.size ∧ w.cell? ⟨b, off + k, none⟩ = some (.slice ua (ss.getD k []).length uc) ∧ Ints 0 w ua (ss.getD k []).length (ss.getD k []) := by
  rcases h.cells with e | ⟨b, off, ha, hl, hc⟩
  · have := h.leng; subst e; simp at this; omega
  · obtain ⟨ua, uc, r⟩ := hc k hk
    exact ⟨b, off, ua, uc, ha, hl, r⟩
theorem OwnsLL.lls {base : Nat} {w : World} {v : Value} {ss : List (List Int)} (h : OwnsLL base w v ss) (hs : ∀ x ∈ ss, x.length ≤ 2) : ∃ a cap, v = .slice a ss.length cap ∧ LLs w a ss.length ss := by
  obtain ⟨us, h1, h2, h3⟩ := h
  obtain ⟨g1, g2⟩ := id h1
  rcases g2 with ⟨rfl, h0⟩ | ⟨g, cap, cur, rfl, hg, hh, hc, hm, hs', ht⟩
  · have : ss = [] := by simpa using h0
    subst this
    exact ⟨none, 0, rfl, rfl, .inl rfl⟩
  · refine ⟨_, cap, rfl, rfl, .inr ⟨g, 0, rfl, ?_, fun j hj => ?_⟩⟩
    · rcases Nat.lt_or_ge g w.heap.size with h | h
      · exact h
      · rw [Array.getElem?_eq_none h] at hh; cases hh
    · obtain ⟨u, hu, ho⟩ := h3 j (ss.getD j []) (by rw [List.getD_eq_getElem?_getD, List.getElem?_eq_getElem hj]; rfl)
      have hl := hs _ (getD_mem hj [])
      obtain ⟨ua, uc, rfl, hi⟩ := ho.ints (by omega)
      refine ⟨ua, uc, ?_, hi.mono (Nat.zero_le _)⟩
      rw [Nat.zero_add, World.ownsRow.cellAt h1 j (by omega)]
      exact hu
/-- The images by number, in the block bI; their numbers lie behind it. -/
structure ImB (w : World) (bI n : Nat) (g : Nat → Res) : Prop where
  lt : bI < w.heap.size
  cells : ∀ j, j < n → ∃ pa cap, w.cell? ⟨bI, 0 + j * 3, none⟩ = some (.int .i64 (g j).W) ∧ w.cell? ⟨bI, 0 + j * 3 + 1, none⟩ = some (.int .i64 (g j).H) ∧ w.cell? ⟨bI, 0 + j * 3 + 2, none⟩ = some (.slice pa (g j).ps.length cap) ∧ Ints (bI + 1) w pa (g j).ps.length (g j).ps
  froz : ∀ o, w.frozen? ⟨bI, o, none⟩ = false
theorem ImB.below {w w' : World} {bI n : Nat} {g : Nat → Res} (h : ImB w bI n g) (hb : Below w.heap.size w w') : ImB w' bI n g := by
  refine ⟨Nat.lt_of_lt_of_le h.lt hb.size, fun j hj => ?_, fun o => (hb.frozen (p := ⟨bI, o, none⟩) h.lt).trans (h.froz o)⟩
  obtain ⟨pa, cap, c0, c1, c2, hi⟩ := h.cells j hj
  exact ⟨pa, cap, (hb.cell (p := ⟨bI, 0 + j * 3, none⟩) h.lt).trans c0, (hb.cell (p := ⟨bI, 0 + j * 3 + 1, none⟩) h.lt).trans c1, (hb.cell (p := ⟨bI, 0 + j * 3 + 2, none⟩) h.lt).trans c2, hi.below (Nat.le_refl _) hb⟩
theorem ImB.imgs {w : World} {bI n : Nat} {g : Nat → Res} (h : ImB w bI n g) (hn : n ≤ 12) : Imgs (bI + 1) w (some ⟨bI, 0, none⟩) n ((List.range n).map g) := by
  refine ⟨by simp, by omega, .inr ⟨bI, 0, rfl, h.lt, fun j hj => ?_⟩⟩
  have e : ((List.range n).map g).getD j (noRes 0) = g j := by simp [List.getD_eq_getElem?_getD, hj]
  rw [e]
  exact h.cells j hj
theorem ImB.put {w : World} {bI n : Nat} {g g' : Nat → Res} (h : ImB w bI n g) (m : Nat) (r : Res) (ra : Option Addr) (rc : Nat) (hm : m < n) (hi : Ints (bI + 1) w ra r.ps.length r.ps) (hg : ∀ j, j < n → g' j = if m = j then r else g j) :
    ImB (((w.setCell ⟨bI, 0 + m * 3, none⟩ (.int .i64 r.W)).setCell ⟨bI, 0 + m * 3 + 1, none⟩ (.int .i64 r.H)).setCell ⟨bI, 0 + m * 3 + 2, none⟩ (.slice ra r.ps.length rc)) bI n g' := by
  refine ⟨by simpa using h.lt, fun j hj => ?_, fun o => by simpa using h.froz o⟩
  rw [hg j hj]
  by_cases e : m = j
  · subst e
    rw [if_pos rfl]
    obtain ⟨pa, cap, c0, c1, c2, _⟩ := h.cells m hm
    refine ⟨ra, rc, ?_, ?_, ?_, ((hi.setCell (by simp) _).setCell (by simp) _).setCell (by simp) _⟩
    · rw [set_other _ (fun e => by injection e with e1 e2; omega), set_other _ (fun e => by injection e with e1 e2; omega)]; exact set_same c0
    · rw [set_other _ (fun e => by injection e with e1 e2; omega)]; exact set_same ((set_other _ (fun e => by injection e with e1 e2; omega)).trans c1)
    · exact set_same ((set_other _ (fun e => by injection e with e1 e2; omega)).trans ((set_other _ (fun e => by injection e with e1 e2; omega)).trans c2))
  · rw [if_neg e]
    obtain ⟨pa, cap, c0, c1, c2, hi'⟩ := h.cells j hj
    refine ⟨pa, cap, ?_, ?_, ?_, ((hi'.setCell (by simp) _).setCell (by simp) _).setCell (by simp) _⟩
    all_goals rw [set_other _ (fun e => by injection e with e1 e2; omega), set_other _ (fun e => by injection e with e1 e2; omega), set_other _ (fun e => by injection e with e1 e2; omega)]
    · exact c0
    · exact c1
    · exact c2
theorem ImB.made {w : World} {base b N cap : Nat} (h : w.ownsRow base 24 3 (.slice (some ⟨b, 0, none⟩) N cap) N (madeCells (Value.agg #[.int .i64 0, .int .i64 0, .slice none 0 0]).cells (N * 3)).toList) (hb : b < w.heap.size) : ImB w b N (fun _ => noRes 0) := by
  have hc : ∀ j, j < N * 3 → w.cell? ⟨b, j, none⟩ = some ((#[Value.int .i64 0, Value.int .i64 0, Value.slice none 0 0] : Array Value)[j % 3]!) := by
    intro j hj
    rw [World.ownsRow.cellAt h j hj]
    have e : (Value.agg #[.int .i64 0, .int .i64 0, .slice none 0 0]).cells = #[.int .i64 0, .int .i64 0, .slice none 0 0] := rfl
    rw [e]
    simp only [madeCells, Array.toList_map, Array.toList_range, List.getElem?_map, List.getElem?_range hj, Option.map_some]
    rfl
  refine ⟨hb, fun m hm => ⟨none, 0, ?_, ?_, ?_, Ints.nil _ _⟩, fun o => World.ownsRow.frozenAt h o⟩
  · rw [hc _ (by omega), show (0 + m * 3) % 3 = 0 by omega]; rfl
  · rw [hc _ (by omega), show (0 + m * 3 + 1) % 3 = 1 by omega]; rfl
  · rw [hc _ (by omega), show (0 + m * 3 + 2) % 3 = 2 by omega]; rfl
theorem pick_range {rs : List Res} {n : Nat} {is : List Int} (hi : ∀ i ∈ is, 0 ≤ i ∧ i < n) : pickR ((List.range n).map fun j => rs.getD j (noRes 0)) is = pickR rs is := by
  unfold pickR
  refine List.map_congr_left fun i h => ?_
  have := hi i h
  have hlt : i.toNat < n := by omega
  simp [List.getD_eq_getElem?_getD, hlt]
end Go.Proofs.Ytfpkiimlaepnhaa
/-
  LIGHTREF: the reference's CheckLights, far and LightAt.
-/
namespace Go.Proofs.Ytfpkiimlaepnhaa
set_option maxRecDepth 100000
open Go.RowKit Im

theorem rightW (l : Lt) : rightB l = (withinB l.X 0 15 && withinB l.Y 0 15 && withinB l.R 1 32 && withinB l.P 0 65535) := by
  rw [Bool.eq_iff_iff, right_iff]; simp [withinB]; omega
theorem checkR_many (a : Option Addr) (len cap : Nat) (w : World) (h : 8 < len) (_hb : len ≤ 9223372036854775807) : Calls Try.prog 31 #[.slice a len cap] w fun e w' => e = .returned (.int .i64 2) ∧ Below w.heap.size w w' := by
  have h' : (8 : Int) < (len : Int) := by omega
  go_enter Try.func31, Try.ntmps31
  go_wp2
  go_ret
  exact ⟨rfl, Below.refl _ _⟩
theorem checkR_nil (a : Option Addr) (cap : Nat) (w : World) : Calls Try.prog 31 #[.slice a 0 cap] w fun e w' => e = .returned (.int .i64 0) ∧ Below w.heap.size w w' := by
  go_enter Try.func31, Try.ntmps31
  go_wp2
  go_loop [3] (fun i => i = .int .i64 0) (fun _ => 0)
  case atStart => rfl
  case round =>
    subst hrel
    go_wp2
    go_ret
    exact ⟨rfl, Below.refl _ _⟩
set_option maxHeartbeats 1000000 in
theorem checkR_row (b off len cap : Nat) (ls : List Lt) (w : World) (hl : ls.length = len) (h8 : len ≤ 8) (hc : ∀ j, j < len → w.cell? ⟨b, off + j * 4, none⟩ = some (.int .i64 (ls.getD j Lt.zero).X) ∧ w.cell? ⟨b, off + j * 4 + 1, none⟩ = some (.int .i64 (ls.getD j Lt.zero).Y) ∧ w.cell? ⟨b, off + j * 4 + 2, none⟩ = some (.int .i64 (ls.getD j Lt.zero).R) ∧ w.cell? ⟨b, off + j * 4 + 3, none⟩ = some (.int .i64 (ls.getD j Lt.zero).P)) :
    Calls Try.prog 31 #[.slice (some ⟨b, off, none⟩) len cap] w fun e w' => e = .returned (.int .i64 (okIf (ls.all rightB) 3)) ∧ Below w.heap.size w w' := by
  have h8' : ¬ (8 : Int) < (len : Int) := by omega
  go_enter Try.func31, Try.ntmps31
  go_wp2
  go_loop [3] (fun i => ∃ k : Nat, k ≤ len ∧ i = .int .i64 k ∧ (ls.take k).all rightB = true) (fun i => len - (intOf i).toNat)
  case atStart => exact ⟨0, Nat.zero_le _, rfl, rfl⟩
  case round =>
    obtain ⟨k, hk, rfl, hall⟩ := hrel
    by_cases hlt : k < len
    · obtain ⟨c0, c1, c2, c3⟩ := hc k hlt
      have n1 := rall_succ ls k (by omega) hall
      have n2 := rall_not ls k (by omega)
      rw [rightW] at n1 n2
      generalize ls.getD k Lt.zero = l at c0 c1 c2 c3 n1 n2
      obtain ⟨X, Y, R, P⟩ := l
      dsimp only at c0 c1 c2 c3 n1 n2
      clear hc
      by_cases h1 : withinB X 0 15 = true
      · by_cases h2 : withinB Y 0 15 = true
        · by_cases h3 : withinB R 1 32 = true
          · by_cases h4 : withinB P 0 65535 = true
            · have hx := n1 (by rw [h1, h2, h3, h4]; rfl)
              clear n1 n2
              go_wp2_with (go_at_call 61; refine (within_any _ _ _ _).mono ?_; rintro e w' ⟨rfl, rfl⟩)
              go_round
              case rel => exact ⟨k + 1, by omega, by go_num, hx⟩
              case measure => simp [intOf]; omega
            · have h4' := eq_false_of_ne_true h4
              have hx := n2 (by rw [h1, h2, h3, h4']; rfl)
              clear n1 n2
              go_wp2_with (go_at_call 61; refine (within_any _ _ _ _).mono ?_; rintro e w' ⟨rfl, rfl⟩)
              go_ret
              exact ⟨by first | rfl | (rw [hx]; rfl), Below.refl _ _⟩
          · have h3' := eq_false_of_ne_true h3
            have hx := n2 (by rw [h1, h2, h3']; rfl)
            clear n1 n2
            go_wp2_with (go_at_call 61; refine (within_any _ _ _ _).mono ?_; rintro e w' ⟨rfl, rfl⟩)
            go_ret
            exact ⟨by first | rfl | (rw [hx]; rfl), Below.refl _ _⟩
        · have h2' := eq_false_of_ne_true h2
          have hx := n2 (by rw [h1, h2']; rfl)
          clear n1 n2
          go_wp2_with (go_at_call 61; refine (within_any _ _ _ _).mono ?_; rintro e w' ⟨rfl, rfl⟩)
          go_ret
          exact ⟨by first | rfl | (rw [hx]; rfl), Below.refl _ _⟩
      · have h1' := eq_false_of_ne_true h1
        have hx := n2 (by rw [h1']; rfl)
        clear n1 n2
        go_wp2_with (go_at_call 61; refine (within_any _ _ _ _).mono ?_; rintro e w' ⟨rfl, rfl⟩)
        go_ret
        exact ⟨by first | rfl | (rw [hx]; rfl), Below.refl _ _⟩
    · have hx : ls.all rightB = true := by rw [List.take_of_length_le (by omega)] at hall; exact hall
      go_wp2
      go_ret
      exact ⟨by first | rfl | (rw [hx]; rfl), Below.refl _ _⟩
/-- The reference's CheckLights. -/
theorem checkR_any {a : Option Addr} {len : Nat} (cap : Nat) {ls : List Lt} {w : World} (h : Lights w a len ls) : Calls Try.prog 31 #[.slice a len cap] w fun e w' => e = .returned (.int .i64 (lightsErr ls)) ∧ Below w.heap.size w w' := by
  have hl := h.leng
  by_cases h8 : ls.length ≤ 8
  · have e : lightsErr ls = okIf (ls.all rightB) 3 := by simp [lightsErr, h8]
    rw [e]
    rcases h.cells with e | ⟨b, off, rfl, hb, hc⟩
    · subst e
      have : len = 0 := by simpa using hl.symm
      subst this
      exact checkR_nil a cap w
    · exact checkR_row b off len cap ls w hl (by omega) hc
  · have e : lightsErr ls = 2 := by simp [lightsErr, h8]
    rw [e]
    exact checkR_many a len cap w (by omega) h.big

theorem abs_any (n m : Int) (w : World) (hn : -100 ≤ n ∧ n ≤ 100) (hm : max n (-n) = m) : Calls Try.prog 105 #[.int .i64 n] w fun e w' => e = .returned (.int .i64 m) ∧ w' = w := by
  have h : (if n < -n then -n else n) = m := by rw [← hm]; split <;> omega
  clear hm
  go_enter Try.func105, Try.ntmps105
  go_wp2
  go_ret
  exact ⟨rfl, rfl⟩
/-- The reference's far: the distance. -/
theorem far_any (l : Lt) (x y : Int) (w : World) (hl : rightB l = true) (hx : 0 ≤ x ∧ x < 16) (hy : 0 ≤ y ∧ y < 16) :
    Calls Try.prog 76 #[.agg #[.int .i64 l.X, .int .i64 l.Y, .int .i64 l.R, .int .i64 l.P], .int .i64 x, .int .i64 y] w fun e w' => e = .returned (.int .i64 (awayP l.X x 1 + awayP l.Y y 1)) ∧ Below w.heap.size w w' := by
  obtain ⟨hX, hY, hR, hP⟩ := (right_iff l).1 hl
  have c1 := fun wx => abs_any (l.X - x) (awayP l.X x 1) wx (by omega) (by unfold awayP; omega)
  have c2 := fun wx => abs_any (l.Y - y) (awayP l.Y y 1) wx (by omega) (by unfold awayP; omega)
  have a1 := away_bd l.X x 1 hX hx (by omega)
  have a2 := away_bd l.Y y 1 hY hy (by omega)
  generalize awayP l.X x 1 = d1 at *
  generalize awayP l.Y y 1 = d2 at *
  obtain ⟨X, Y, R, P⟩ := l
  dsimp only at *
  clear hl
  go_enter Try.func76, Try.ntmps76
  go_wp2
  go_quiet ((first | (go_at_call 105; with_reducible exact Calls.quiet_of_same (c1 _)) | (go_at_call 105; with_reducible exact Calls.quiet_of_same (c2 _))))
  clear c1 c2
  go_wp2
  go_ret
  exact ⟨rfl, below_drewN ((Below.refl _ _).alloc (Nat.le_refl _) _) _⟩
set_option maxHeartbeats 1000000 in
/-- The reference's LightAt, of right lights and a place. -/
theorem lightAt_any {a : Option Addr} {len : Nat} (cap : Nat) {ls : List Lt} (x y : Int) {w : World} (h : Lights w a len ls) (h8 : ls.length ≤ 8) (hr : ls.all rightB = true) (hx : 0 ≤ x ∧ x < 16) (hy : 0 ≤ y ∧ y < 16) :
    Calls Try.prog 32 #[.slice a len cap, .int .i64 x, .int .i64 y] w fun e w' => e = .returned (.int .i64 (sumG x y ls)) ∧ Below w.heap.size w w' := by
  have hl := h.leng
  rcases h.cells with e | ⟨b, off, rfl, hb, hcl⟩
  · subst e
    have : len = 0 := by simpa using hl.symm
    subst this
    go_enter Try.func32, Try.ntmps32
    go_wp2
    go_loop [7, 8] (fun s i => s = .int .i64 0 ∧ i = .int .i64 0) (fun _ _ => 0)
    case atStart => exact ⟨rfl, rfl⟩
    case round =>
      obtain ⟨rfl, rfl⟩ := hrel
      go_wp2
      go_ret
      exact ⟨rfl, Below.refl _ _⟩
  · go_enter Try.func32, Try.ntmps32
    go_wp2
    go_loopw [7, 8] (fun s i wr => ∃ k : Nat, k ≤ len ∧ i = .int .i64 k ∧ s = .int .i64 (sumG x y (ls.take k)) ∧ Below w.heap.size w wr) (fun _ i _ => len - (intOf i).toNat)
    case atStart => exact ⟨0, Nat.zero_le _, rfl, rfl, Below.refl _ _⟩
    case round =>
      obtain ⟨k, hk, rfl, rfl, hbr⟩ := hrel
      have sb := sumG_bd x y hx hy (ls.take k) (all_take ls k hr)
      have sl : (ls.take k).length ≤ 8 := by rw [List.length_take]; omega
      have sb2 : sumG x y (ls.take k) ≤ 65535 * 8 := by omega
      obtain ⟨sb1, _⟩ := sb
      by_cases hlt : k < len
      · have hcw := fun (w2 : World) (hb2 : Below w.heap.size w w2) => (show w2.cell? ⟨b, off + k * 4, none⟩ = some (.int .i64 (ls.getD k Lt.zero).X) ∧ w2.cell? ⟨b, off + k * 4 + 1, none⟩ = some (.int .i64 (ls.getD k Lt.zero).Y) ∧ w2.cell? ⟨b, off + k * 4 + 2, none⟩ = some (.int .i64 (ls.getD k Lt.zero).R) ∧ w2.cell? ⟨b, off + k * 4 + 3, none⟩ = some (.int .i64 (ls.getD k Lt.zero).P) from ⟨(hb2.cell (p := ⟨b, off + k * 4, none⟩) hb).trans (hcl k hlt).1, (hb2.cell (p := ⟨b, off + k * 4 + 1, none⟩) hb).trans (hcl k hlt).2.1, (hb2.cell (p := ⟨b, off + k * 4 + 2, none⟩) hb).trans (hcl k hlt).2.2.1, (hb2.cell (p := ⟨b, off + k * 4 + 3, none⟩) hb).trans (hcl k hlt).2.2.2⟩)
        have hrk := all_getD ls k (by omega) hr
        have hgv := fun wx => far_any (ls.getD k Lt.zero) x y wx hrk hx hy
        have hgb := given_bd hrk x y hx hy
        have g1 := given_pos (l := ls.getD k Lt.zero) (x := x) (y := y) rfl
        have g2 := given_zero (l := ls.getD k Lt.zero) (x := x) (y := y) rfl
        have hsn : Hid (sumG x y (ls.take (k + 1)) = sumG x y (ls.take k) + givenP (ls.getD k Lt.zero) x y) := by show _ = _; rw [take_snocL ls k (by omega), sumG_snoc]
        obtain ⟨hX, hY, hR, hP⟩ := (right_iff _).1 hrk
        have a1 := away_bd (ls.getD k Lt.zero).X x 1 hX hx (by omega)
        have a2 := away_bd (ls.getD k Lt.zero).Y y 1 hY hy (by omega)
        have ad : 0 ≤ awayP (ls.getD k Lt.zero).X x 1 + awayP (ls.getD k Lt.zero).Y y 1 ∧ awayP (ls.getD k Lt.zero).X x 1 + awayP (ls.getD k Lt.zero).Y y 1 ≤ 30 := by omega
        clear hrk a1 a2
        generalize awayP (ls.getD k Lt.zero).X x 1 + awayP (ls.getD k Lt.zero).Y y 1 = d at hgv g1 g2 ad
        generalize givenP (ls.getD k Lt.zero) x y = gv at hgb hsn g1 g2
        generalize ls.getD k Lt.zero = l at hcw hgv g1 g2 hX hY hR hP
        obtain ⟨X, Y, R, P⟩ := l
        dsimp only at hcw hgv g1 g2 hX hY hR hP
        obtain ⟨c0, c1, c2, c3⟩ := hcw wr hbr
        clear hcl
        by_cases hd : d < R
        · have hg := g1 hd
          have m1 : 0 ≤ P * (R - d) := Int.mul_nonneg hP.1 (by omega)
          have m2 : P * (R - d) ≤ 65535 * 32 := Int.mul_le_mul hP.2 (by omega) (by omega) (by omega)
          have hg' : P * (R - d) / R = gv := hg.symm
          clear g1 g2 hg
          go_wp2_with (go_at_call 76; refine (hgv _).mono ?_; rintro e w2 ⟨rfl, hb2⟩; have hbn := below_stepL hbr hb2; obtain ⟨z0, z1, z2, z3⟩ := hcw w2 hbn)
          go_quiet (fail)
          go_wp2
          go_roundw
          case rel => exact ⟨k + 1, by omega, by go_num, by rw [hsn.out], below_drewN hbn _⟩
          case measure => simp [intOf]; omega
        · have hg := g2 hd
          subst hg
          clear g1 g2
          go_wp2_with (go_at_call 76; refine (hgv _).mono ?_; rintro e w2 ⟨rfl, hb2⟩; have hbn := below_stepL hbr hb2; obtain ⟨z0, z1, z2, z3⟩ := hcw w2 hbn)
          go_roundw
          case rel => exact ⟨k + 1, by omega, by go_num, by rw [hsn.out, Int.add_zero], hbn⟩
          case measure => simp [intOf]; omega
      · have e : ls.take k = ls := List.take_of_length_le (by omega)
        go_wp2
        go_ret
        exact ⟨by first | rfl | (rw [e]; rfl), hbr⟩
end Go.Proofs.Ytfpkiimlaepnhaa
