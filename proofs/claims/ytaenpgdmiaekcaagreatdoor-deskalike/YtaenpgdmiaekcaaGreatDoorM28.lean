/- WireFrom, WireX: joined, in this order. -/
import Derived.Test.YtaenpgdmiaekcaaGreatDoorM27
import Derived.Test.YtaenpgdmiaekcaaGreatDoorM18
/-
  WIREFROM: the reference's FrameFrom.
-/
namespace Go.Proofs.YtaenpgdmiaekcaaGreatDoor
set_option maxRecDepth 100000
open Go.RowKit Im

/-- What FrameFrom is told by. -/
def ToldFF (w : World) (r : List Int) (e : Ending) (w' : World) : Prop :=
  Below w.heap.size w w' ∧ ((readOk r ∧ ∃ a c L, e = .returned (.tuple #[.agg #[.int .i64 (rdFrame r).W, .int .i64 (rdFrame r).H, .int .i64 (rdFrame r).S, .int .i64 (rdFrame r).O, .slice a (rdFrame r).ps.length c], .bool true]) ∧ RowP w.heap.size w' (.slice a (rdFrame r).ps.length c) L ∧ L.map Prod.fst = (rdFrame r).ps) ∨ (¬ readOk r ∧ e = .returned (.tuple #[.agg #[.int .i64 0, .int .i64 0, .int .i64 0, .int .i64 0, .slice none 0 0], .bool false])))
theorem QBox.putK {w : World} {b : Nat} {Op To A B K : Int} {v : Value} (h : QBox w b Op To A B K v) (K' : Int) : QBox (w.setCell ⟨b, 4, none⟩ (.int .i64 K')) b Op To A B K' v :=
  ⟨by simpa using h.lt, (set_other _ (by simp)).trans h.c0, (set_other _ (by simp)).trans h.c1, (set_other _ (by simp)).trans h.c2, (set_other _ (by simp)).trans h.c3, set_same h.c4, (set_other _ (by simp)).trans h.c5, fun o => by simpa using h.fz o⟩
theorem QBox.sameK {w : World} {b : Nat} {Op To A B K K' : Int} {v : Value} (h : QBox w b Op To A B K v) (e : K = K') : QBox w b Op To A B K' v := e ▸ h
theorem QBox.new (w : World) (Op To A B K : Int) (v : Value) : QBox (w.alloc (.cells #[.int .i64 Op, .int .i64 To, .int .i64 A, .int .i64 B, .int .i64 K, v] 72)) w.heap.size Op To A B K v :=
  ⟨by simp, by simp [go_sem], by simp [go_sem], by simp [go_sem], by simp [go_sem], by simp [go_sem], by simp [go_sem], fun o => frozen_new w _ _ o⟩
theorem RdB.set {w : World} {b : Nat} {r : List Int} (h : RdB w b r) {p : Addr} (hp : p.block ≠ b) (v : Value) : RdB (w.setCell p v) b r :=
  ⟨(set_other _ (fun e => hp (by rw [e]))).trans h.cell, by simpa using h.fz, h.bytes, h.few⟩
theorem getD_drop0 (r : List Int) (k : Nat) : (r.drop k).getD 0 0 = r.getD k 0 := by rw [drop_getD, Nat.add_zero]
/-- The box of a light. -/
structure LBox (w : World) (b : Nat) (X Y R P : Int) : Prop where
  lt : b < w.heap.size
  c0 : w.cell? ⟨b, 0, none⟩ = some (.int .i64 X)
  c1 : w.cell? ⟨b, 1, none⟩ = some (.int .i64 Y)
  c2 : w.cell? ⟨b, 2, none⟩ = some (.int .i64 R)
  c3 : w.cell? ⟨b, 3, none⟩ = some (.int .i64 P)
  fz : ∀ o, w.frozen? ⟨b, o, none⟩ = false
theorem LBox.new (w : World) (X Y R P : Int) : LBox (w.alloc (.cells #[.int .i64 X, .int .i64 Y, .int .i64 R, .int .i64 P] 106)) w.heap.size X Y R P :=
  ⟨by simp, by simp [go_sem], by simp [go_sem], by simp [go_sem], by simp [go_sem], fun o => frozen_new w _ _ o⟩
theorem LBox.grown {w w' : World} {b : Nat} {X Y R P : Int} {row : Option Nat} (h : LBox w b X Y R P) (hg : w.grownBy w' row) (hne : some b ≠ row) : LBox w' b X Y R P :=
  ⟨Nat.lt_of_lt_of_le h.lt hg.size, (grown_cell hg h.lt hne 0).1.trans h.c0, (grown_cell hg h.lt hne 1).1.trans h.c1, (grown_cell hg h.lt hne 2).1.trans h.c2, (grown_cell hg h.lt hne 3).1.trans h.c3, fun o => (grown_cell hg h.lt hne o).2.trans (h.fz o)⟩
theorem LBox.put {w : World} {b : Nat} {X Y R P : Int} (h : LBox w b X Y R P) (P' : Int) : LBox (w.setCell ⟨b, 3, none⟩ (.int .i64 P')) b X Y R P' :=
  ⟨by simpa using h.lt, (set_other _ (by simp)).trans h.c0, (set_other _ (by simp)).trans h.c1, (set_other _ (by simp)).trans h.c2, set_same h.c3, fun o => by simpa using h.fz o⟩
theorem sgn_hi {n : Int} (h : 8388608 ≤ n) : sgn n = n - 16777216 := by unfold sgn; rw [if_pos h]
theorem sgn_lo {n : Int} (h : ¬ 8388608 ≤ n) : sgn n = n := by unfold sgn; rw [if_neg h]
set_option maxHeartbeats 16000000 in
theorem frameFrom_any {r : List Int} (hby : Bytes r) (hfew : r.length ≤ 4096) (w : World) :
    Calls Tryz.prog 21 #[.string (strOfNums r)] w (ToldFF w r) := by
  obtain ⟨p0, pi, pz0, pz1, pz2⟩ := info_parts Tryz.infoPass
  obtain ⟨l0, li, lz0, lz1, lz2⟩ := info_parts Tryz.infoLight
  have hb0 : Below w.heap.size w ((w.alloc (.cells #[.int .i64 0, .int .i64 0, .int .i64 0, .int .i64 0, .slice none 0 0] 35)).alloc (.cells #[.string (strOfNums r)] 104)) := below_box (below_box (Below.refl w.heap.size w) _) _
  have hR0 := (WBox5.new w (.int .i64 0) (.int .i64 0) (.int .i64 0) (.int .i64 0) (.slice none 0 0) 35).grown (row := none) (grown_alloc (World.grownBy.refl _ _) (.cells #[.string (strOfNums r)] 104)) (by simp)
  have h0 : RdB ((w.alloc (.cells #[.int .i64 0, .int .i64 0, .int .i64 0, .int .i64 0, .slice none 0 0] 35)).alloc (.cells #[.string (strOfNums r)] 104)) (w.heap.size + 1) r :=
    ⟨by simp [go_sem], by have := frozen_new (w.alloc (.cells #[.int .i64 0, .int .i64 0, .int .i64 0, .int .i64 0, .slice none 0 0] 35)) #[.string (strOfNums r)] 104 0; rw [World.size_alloc] at this; exact this, hby, hfew⟩
  have n0 : r.getD 0 0 = (rdFrame r).W := rfl
  have n1 : (r.drop 1).getD 0 0 = (rdFrame r).H := getD_drop0 r 1
  have n2 : ((r.drop 1).drop 1).getD 0 0 = (rdFrame r).S := by rw [List.drop_drop]; exact getD_drop0 r 2
  have n3 : (((r.drop 1).drop 1).drop 1).getD 0 0 = (rdFrame r).O := by rw [List.drop_drop, List.drop_drop]; exact getD_drop0 r 3
  have n4 : ((((r.drop 1).drop 1).drop 1).drop 1).getD 0 0 = r.getD 4 0 := by rw [List.drop_drop, List.drop_drop, List.drop_drop]; exact getD_drop0 r 4
  have n5 : (((((r.drop 1).drop 1).drop 1).drop 1).drop 1) = r.drop (rdPos r 0) := by simp [List.drop_drop, rdPos]
  have hbb := hby.at 4
  have HPS : Hid ((rdFrame r).ps = rdPasses r (r.getD 4 0).toNat) := rfl
  have HST : Hid (rdEnd r = rdPos r (r.getD 4 0).toNat) := rfl
  obtain ⟨n, hn⟩ := Int.eq_ofNat_of_zero_le hbb.1
  rw [hn] at n4 hbb HPS HST
  rw [Int.toNat_natCast] at HPS HST
  clear hn
  have hs0 : w.heap.size + 2 ≤ ((w.alloc (.cells #[.int .i64 0, .int .i64 0, .int .i64 0, .int .i64 0, .slice none 0 0] 35)).alloc (.cells #[.string (strOfNums r)] 104)).heap.size := by simp
  go_enter Tryz.func21, Tryz.ntmps21
  have hn1 := byte_any h0
  rw [n0] at hn1
  go_wp2_with fail
  generalize (w.alloc (.cells #[.int .i64 0, .int .i64 0, .int .i64 0, .int .i64 0, .slice none 0 0] 35)).alloc (.cells #[.string (strOfNums r)] 104) = w0 at *
  refine hn1.mono ?_
  clear hn1
  rintro e w1 ⟨rfl, h1, g1⟩
  have hn2 := byte_any h1
  rw [n1] at hn2
  go_wp2_with fail
  refine hn2.mono ?_
  clear hn2
  rintro e w2 ⟨rfl, h2, g2⟩
  have hn3 := byte_any h2
  rw [n2] at hn3
  go_wp2_with fail
  refine hn3.mono ?_
  clear hn3
  rintro e w3 ⟨rfl, h3, g3⟩
  have hn4 := byte_any h3
  rw [n3] at hn4
  go_wp2_with fail
  refine hn4.mono ?_
  clear hn4
  rintro e w4 ⟨rfl, h4, g4⟩
  have hg4 := ((g1.trans g2).trans g3).trans g4
  have hne : some w.heap.size ≠ some (w.heap.size + 1) := by simp
  have hR4 := hR0.grown hg4 hne
  have hs4 : w.heap.size + 2 ≤ w4.heap.size := Nat.le_trans hs0 hg4.size
  have hb4 : Below w.heap.size w w4 := hb0.trans (grown_below hg4 hb0.size (by omega))
  clear g1 g2 g3 g4 h1 h2 h3 n0 n1 n2 n3 h0 hR0 hg4 hs0 hb0
  have hQ4 := GBox.new w4 (rdFrame r).W (rdFrame r).H (rdFrame r).S (rdFrame r).O (.slice none 0 0)
  have hn5 := byte_any (h4.alloc (.cells #[.int .i64 (rdFrame r).W, .int .i64 (rdFrame r).H, .int .i64 (rdFrame r).S, .int .i64 (rdFrame r).O, .slice none 0 0] 35))
  rw [n4, n5] at hn5
  go_wp2_with fail
  refine hn5.mono ?_
  clear hn5
  rintro e w5 ⟨rfl, h5, g5⟩
  obtain ⟨b, hb⟩ : ∃ b, b = w.heap.size + 1 := ⟨_, rfl⟩
  rw [← hb] at h4 h5 g5 hne ⊢
  have hS0 : RFs w4 w5 b w4.heap.size r (rdFrame r) 0 [] (.slice none 0 0) := ⟨h5, (grown_alloc (World.grownBy.refl _ _) _).trans g5, hQ4.grown g5 (fun e => by injection e with e; omega), RowP.nil _ _, rfl, Nat.le_refl _, by omega⟩
  have HB : Hid (b = w.heap.size + 1) := hb
  have hbl : w.heap.size < b := by omega
  have hbl4 : b < w4.heap.size := by omega
  clear hb h4 h5 g5 n4 n5 hQ4
  obtain ⟨fb, hfb⟩ : ∃ fb, fb = w4.heap.size := ⟨_, rfl⟩
  rw [← hfb] at hS0 ⊢
  have hfl : w4.heap.size ≤ fb := by omega
  have HFB : Hid (fb = w4.heap.size) := hfb
  clear hfb
  generalize hq : rdFrame r = f at *
  have HQ : Hid (_) := hq
  clear hq
  go_wp2_with fail
  go_loopw [6] (fun i wr => ∃ (j m : Nat) (L : Lp) (la : Option Addr) (lc : Nat), j + m = n ∧ L.length = j ∧ i = .int .i64 m ∧ RFs w4 wr b fb r f j L (.slice la L.length lc)) (fun i _ => (intOf i).toNat)
  case atStart => exact ⟨0, n, [], none, 0, by omega, rfl, rfl, hS0⟩
  case round =>
    obtain ⟨j, m, L, la, lc, hjm, hLj, rfl, hS⟩ := hrel
    clear hS0
    have HLL : Hid (_) := hLj
    clear hLj
    rcases m with _ | m
    · have hj : j = n := by omega
      subst hj
      have hmap : L.map Prod.fst = f.ps := by rw [hS.all, HPS.out]
      have hL4 : L.length ≤ 4096 := by have := HLL.out; omega
      have hres := hR4.grown hS.grew hne
      have hBr := hS.box
      have hRow := hS.own
      have hb9 : Below w.heap.size w wr := hb4.trans (grown_below hS.grew (by omega) (by omega))
      have HOK : Hid (readOk r ↔ frameBytes f = r ∧ frameE f = 0) := by
        show _ ↔ _
        unfold readOk
        rw [← bytes_same hby, HQ.out]
      have hTo : ∀ w', Below w.heap.size w w' → ¬ readOk r → ToldFF w r (.returned (.tuple #[.agg #[.int .i64 0, .int .i64 0, .int .i64 0, .int .i64 0, .slice none 0 0], .bool false])) w' := fun w' hb hn => ⟨hb, .inr ⟨hn, rfl⟩⟩
      have HTO : Hid (_) := hTo
      have hTk : ∀ w', Below w.heap.size w w' → readOk r → RowP w.heap.size w' (.slice la L.length lc) L → ToldFF w r (.returned (.tuple #[.agg #[.int .i64 f.W, .int .i64 f.H, .int .i64 f.S, .int .i64 f.O, .slice la L.length lc], .bool true])) w' := by
        intro w' hb ho hr
        have hll : f.ps.length = L.length := by rw [← hmap, List.length_map]
        unfold ToldFF
        rw [HQ.out, hll]
        exact ⟨hb, .inl ⟨ho, la, lc, L, rfl, hr, hmap⟩⟩
      have HTK : Hid (_) := hTk
      clear hTo hTk hS hR4
      obtain ⟨W, H, S, O, ps⟩ := f
      dsimp only at hmap hBr HTK
      have hpl : ps.length = L.length := by rw [← hmap, List.length_map]
      obtain ⟨a', c', ev, hP⟩ := hRow.passes' hmap hL4
      rw [hpl] at hP ev
      injection ev with e1 _ e2
      subst e1 e2
      have hck := checkFrame_any W H S O la L.length lc ps wr hP
      obtain ⟨_, c0, c1, c2, c3, c4, _⟩ := id hBr
      have hx5 : w.heap.size < fb + 1 := by omega
      go_wp2_with fail
      refine hck.mono ?_
      clear hck
      rintro e wK ⟨⟨vz, rfl, _⟩, bK⟩
      have hresK := hres.below bK hres.lt bK.size
      have hbK := below_step hb9 bK
      have hPK := hP.below bK
      have hRK := hRow.below bK
      have hBK := hBr.below bK hBr.lt bK.size
      clear hres hP hRow hBr c0 c1 c2 c3 c4
      by_cases hE : frameE ⟨W, H, S, O, ps⟩ = 0
      · have h12 : L.length ≤ 12 := by
          obtain ⟨hb, _, _⟩ := frameE_zero hE
          have := (boundsE_zero hb).2.2.2.2.2
          rw [← hpl]; exact this
        have hfb := frameBytes_any W H S O la L.length lc ps wK hPK h12 (lights16 hE)
        have HE : Hid (_) := hE
        rw [hE]
        obtain ⟨_, c0, c1, c2, c3, c4, _⟩ := id hBK
        have HBY : Hid (_) := bytes_of_frame ⟨W, H, S, O, ps⟩
        clear hE
        go_wp2_with fail
        refine hfb.mono ?_
        clear hfb c0 c1 c2 c3 c4
        rintro e wF ⟨rfl, bF⟩
        have hresF := hresK.below bF hresK.lt bF.size
        have hbF := below_step hbK bF
        have hRF := hRK.below bF
        have hBF := hBK.below bF hBK.lt bF.size
        obtain ⟨v0, k0⟩ := hresF.c 0 (by decide)
        obtain ⟨v1, k1⟩ := hresF.c 1 (by decide)
        obtain ⟨v2, k2⟩ := hresF.c 2 (by decide)
        obtain ⟨v3, k3⟩ := hresF.c 3 (by decide)
        obtain ⟨v4, k4⟩ := hresF.c 4 (by decide)
        have f0 := hresF.fz 0
        have f1 := hresF.fz 1
        have f2 := hresF.fz 2
        have f3 := hresF.fz 3
        have f4 := hresF.fz 4
        clear hresK hbK hRK hBK hPK
        by_cases hs : frameBytes ⟨W, H, S, O, ps⟩ = r
        · have HFIN : Hid (ToldFF w r (.returned (.tuple #[.agg #[.int .i64 W, .int .i64 H, .int .i64 S, .int .i64 O, .slice la L.length lc], .bool true])) (set5 wF w.heap.size (.int .i64 W) (.int .i64 H) (.int .i64 S) (.int .i64 O) (.slice la L.length lc))) := by
            have X := ((((hRF.setBelow (p := ⟨w.heap.size, 0, none⟩) hx5 (.int .i64 W)).setBelow (p := ⟨w.heap.size, 1, none⟩) hx5 (.int .i64 H)).setBelow (p := ⟨w.heap.size, 2, none⟩) hx5 (.int .i64 S)).setBelow (p := ⟨w.heap.size, 3, none⟩) hx5 (.int .i64 O)).setBelow (p := ⟨w.heap.size, 4, none⟩) hx5 (.slice la L.length lc)
            exact HTK.out _ (((((hbF.setCell (p := ⟨w.heap.size, 0, none⟩) (Nat.le_refl _) _).setCell (p := ⟨w.heap.size, 1, none⟩) (Nat.le_refl _) _).setCell (p := ⟨w.heap.size, 2, none⟩) (Nat.le_refl _) _).setCell (p := ⟨w.heap.size, 3, none⟩) (Nat.le_refl _) _).setCell (p := ⟨w.heap.size, 4, none⟩) (Nat.le_refl _) _) (HOK.out.2 ⟨hs, HE.out⟩) ⟨World.ownsRow.mono X.1 (by omega), fun x hx => (X.2 x hx).mono (by omega)⟩
          obtain ⟨t0, t1, t2, t3, t4⟩ := hresF.sets (.int .i64 W) (.int .i64 H) (.int .i64 S) (.int .i64 O) (.slice la L.length lc)
          obtain ⟨_, c0, c1, c2, c3, c4, _⟩ := id hBF
          have HS : Hid (_) := hs
          rw [hs]
          generalize strOfNums r = sr at *
          clear hs hresF hRF hBF
          go_wp2
          exact bodyPost_ret (v := .tuple #[.agg #[.int .i64 W, .int .i64 H, .int .i64 S, .int .i64 O, .slice la L.length lc], .bool true]) (by simp [results, Tryz.results21, go_sem, t0, t1, t2, t3, t4]) rfl HFIN.out
        · have HFIN : Hid (ToldFF w r (.returned (.tuple #[.agg #[.int .i64 0, .int .i64 0, .int .i64 0, .int .i64 0, .slice none 0 0], .bool false])) (set5 wF w.heap.size (.int .i64 0) (.int .i64 0) (.int .i64 0) (.int .i64 0) (.slice none 0 0))) := HTO.out _ (((((hbF.setCell (p := ⟨w.heap.size, 0, none⟩) (Nat.le_refl _) _).setCell (p := ⟨w.heap.size, 1, none⟩) (Nat.le_refl _) _).setCell (p := ⟨w.heap.size, 2, none⟩) (Nat.le_refl _) _).setCell (p := ⟨w.heap.size, 3, none⟩) (Nat.le_refl _) _).setCell (p := ⟨w.heap.size, 4, none⟩) (Nat.le_refl _) _) (fun h => hs (HOK.out.1 h).1)
          obtain ⟨t0, t1, t2, t3, t4⟩ := hresF.sets (.int .i64 0) (.int .i64 0) (.int .i64 0) (.int .i64 0) (.slice none 0 0)
          have q1 : ¬ (strOfNums (frameBytes ⟨W, H, S, O, ps⟩)).toList = (strOfNums r).toList := fun h => hs (str_inj HBY.out hby h)
          have q2 : ((strOfNums (frameBytes ⟨W, H, S, O, ps⟩)).toList == (strOfNums r).toList) = false := by simpa using q1
          clear hs hresF hRF hBF
          generalize strOfNums (frameBytes ⟨W, H, S, O, ps⟩) = sf at *
          generalize strOfNums r = sr at *
          go_wp2
          exact bodyPost_ret (v := .tuple #[.agg #[.int .i64 0, .int .i64 0, .int .i64 0, .int .i64 0, .slice none 0 0], .bool false]) (by simp [results, Tryz.results21, go_sem, t0, t1, t2, t3, t4]) rfl HFIN.out
      · have HFIN : Hid (ToldFF w r (.returned (.tuple #[.agg #[.int .i64 0, .int .i64 0, .int .i64 0, .int .i64 0, .slice none 0 0], .bool false])) (set5 wK w.heap.size (.int .i64 0) (.int .i64 0) (.int .i64 0) (.int .i64 0) (.slice none 0 0))) := HTO.out _ (((((hbK.setCell (p := ⟨w.heap.size, 0, none⟩) (Nat.le_refl _) _).setCell (p := ⟨w.heap.size, 1, none⟩) (Nat.le_refl _) _).setCell (p := ⟨w.heap.size, 2, none⟩) (Nat.le_refl _) _).setCell (p := ⟨w.heap.size, 3, none⟩) (Nat.le_refl _) _).setCell (p := ⟨w.heap.size, 4, none⟩) (Nat.le_refl _) _) (fun h => hE (HOK.out.1 h).2)
        obtain ⟨t0, t1, t2, t3, t4⟩ := hresK.sets (.int .i64 0) (.int .i64 0) (.int .i64 0) (.int .i64 0) (.slice none 0 0)
        obtain ⟨v0, k0⟩ := hresK.c 0 (by decide)
        obtain ⟨v1, k1⟩ := hresK.c 1 (by decide)
        obtain ⟨v2, k2⟩ := hresK.c 2 (by decide)
        obtain ⟨v3, k3⟩ := hresK.c 3 (by decide)
        obtain ⟨v4, k4⟩ := hresK.c 4 (by decide)
        have f0 := hresK.fz 0
        have f1 := hresK.fz 1
        have f2 := hresK.fz 2
        have f3 := hresK.fz 3
        have f4 := hresK.fz 4
        clear hresK hbK hRK hBK hPK
        go_wp2
        exact bodyPost_ret (v := .tuple #[.agg #[.int .i64 0, .int .i64 0, .int .i64 0, .int .i64 0, .slice none 0 0], .bool false]) (by simp [results, Tryz.results21, go_sem, t0, t1, t2, t3, t4]) rfl HFIN.out
    · have hmI : (0 : Int) < ((m + 1 : Nat) : Int) := by omega
      obtain ⟨r', hr'⟩ : ∃ r', r' = r.drop (rdPos r j) := ⟨_, rfl⟩
      have hrd := hS.rd
      rw [← hr'] at hrd
      have hby' : Bytes r' := hrd.bytes
      have a0 : r'.getD 0 0 = (rdPass r' 0).Op := rfl
      have a1 : (r'.drop 1).getD 0 0 = (rdPass r' 0).To := getD_drop0 r' 1
      have a2 : ((r'.drop 1).drop 1).getD 0 0 = (rdPass r' 0).A := by rw [List.drop_drop]; exact getD_drop0 r' 2
      have a3 : (((r'.drop 1).drop 1).drop 1).getD 0 0 = (rdPass r' 0).B := by rw [List.drop_drop, List.drop_drop]; exact getD_drop0 r' 3
      have a4 : ((((r'.drop 1).drop 1).drop 1).drop 1) = r'.drop 4 := by simp [List.drop_drop]
      have HRP : Hid (r' = r.drop (rdPos r j)) := hr'
      have HK : Hid (sgn (65536 * r'.getD 4 0 + 256 * r'.getD 5 0 + r'.getD 6 0) = (rdPass r' 0).K) := rfl
      have HL7 : Hid ((rdPass r' 0).ls = rdLights r' 8 (r'.getD 7 0).toNat) := rfl
      have HS7 : Hid (rdStop r' 0 = 8 + 5 * (r'.getD 7 0).toNat) := by show _ = _; unfold rdStop; simp only [Nat.zero_add]
      have k4 := hby'.at 4
      have k5 := hby'.at 5
      have k6 := hby'.at 6
      have k7 := hby'.at 7
      have a5 : (r'.drop 4).getD 0 0 = r'.getD 4 0 := getD_drop0 r' 4
      have a6 : ((r'.drop 4).drop 1).getD 0 0 = r'.getD 5 0 := by rw [List.drop_drop]; exact getD_drop0 r' 5
      have a7 : (((r'.drop 4).drop 1).drop 1).getD 0 0 = r'.getD 6 0 := by rw [List.drop_drop, List.drop_drop]; exact getD_drop0 r' 6
      have a8 : ((((r'.drop 4).drop 1).drop 1).drop 1).getD 0 0 = r'.getD 7 0 := by rw [List.drop_drop, List.drop_drop, List.drop_drop]; exact getD_drop0 r' 7
      have a9 : (((((r'.drop 4).drop 1).drop 1).drop 1).drop 1) = r'.drop (8 + 5 * 0) := by simp [List.drop_drop]
      obtain ⟨n7, hn7⟩ := Int.eq_ofNat_of_zero_le k7.1
      rw [hn7] at a8 k7 HL7 HS7
      rw [Int.toNat_natCast] at HL7 HS7
      clear hn7
      generalize r'.getD 4 0 = x4 at *
      generalize r'.getD 5 0 = x5 at *
      generalize r'.getD 6 0 = x6 at *
      clear hr'
      obtain ⟨wO, e0⟩ : ∃ z, z = wr := ⟨_, rfl⟩
      subst e0
      have hn1 := byte_any hrd
      rw [a0] at hn1
      go_wp2_with fail
      refine hn1.mono ?_
      clear hn1
      rintro e w1 ⟨rfl, h1, g1⟩
      have hn2 := byte_any h1
      rw [a1] at hn2
      go_wp2_with fail
      refine hn2.mono ?_
      clear hn2
      rintro e w2 ⟨rfl, h2, g2⟩
      have hn3 := byte_any h2
      rw [a2] at hn3
      go_wp2_with fail
      refine hn3.mono ?_
      clear hn3
      rintro e w3 ⟨rfl, h3, g3⟩
      have hn4 := byte_any h3
      rw [a3] at hn4
      go_wp2_with fail
      refine hn4.mono ?_
      clear hn4
      rintro e wA ⟨rfl, hA, gA⟩
      rw [a4] at hA
      have hgA := ((g1.trans g2).trans g3).trans gA
      clear g1 g2 g3 gA h1 h2 h3 a0 a1 a2 a3 a4 hrd
      have hlA : wO.heap.size ≤ wA.heap.size := hgA.size
      have hbO : b < wO.heap.size := World.block_lt_of_cell? wO _ hS.rd.cell
      have hQA := QBox.new wA (rdPass r' 0).Op (rdPass r' 0).To (rdPass r' 0).A (rdPass r' 0).B 0 (.slice none 0 0)
      have hAA := hA.alloc (.cells #[.int .i64 (rdPass r' 0).Op, .int .i64 (rdPass r' 0).To, .int .i64 (rdPass r' 0).A, .int .i64 (rdPass r' 0).B, .int .i64 0, .slice none 0 0] 72)
      have hgB := grown_alloc hgA (.cells #[.int .i64 (rdPass r' 0).Op, .int .i64 (rdPass r' 0).To, .int .i64 (rdPass r' 0).A, .int .i64 (rdPass r' 0).B, .int .i64 0, .slice none 0 0] 72)
      have hn6 := byte_any hAA
      rw [a5] at hn6
      go_wp2_with fail
      generalize wA.alloc (.cells #[.int .i64 (rdPass r' 0).Op, .int .i64 (rdPass r' 0).To, .int .i64 (rdPass r' 0).A, .int .i64 (rdPass r' 0).B, .int .i64 0, .slice none 0 0] 72) = wB at *
      obtain ⟨pb, hpb⟩ : ∃ pb, pb = wA.heap.size := ⟨_, rfl⟩
      rw [← hpb] at hQA ⊢
      have hpl : wO.heap.size ≤ pb := by omega
      have hpbb : some pb ≠ some b := fun e => by injection e with e; omega
      clear hpb hlA hA hAA hgA
      refine hn6.mono ?_
      clear hn6
      rintro e w6 ⟨rfl, h6, g6⟩
      have y1 : IntKind.i64.wrap (65536 * x4) = 65536 * x4 := by rw [IntKind.wrap_i64]; omega
      have y2 : IntKind.i64.wrap (256 * x5) = 256 * x5 := by rw [IntKind.wrap_i64]; omega
      have y3 : IntKind.i64.wrap (65536 * x4 + 256 * x5) = 65536 * x4 + 256 * x5 := by rw [IntKind.wrap_i64]; omega
      have y4 : IntKind.i64.wrap (65536 * x4 + 256 * x5 + x6) = 65536 * x4 + 256 * x5 + x6 := by rw [IntKind.wrap_i64]; omega
      have y5 : IntKind.i64.wrap (65536 * x4 + 256 * x5 + x6 - 16777216) = 65536 * x4 + 256 * x5 + x6 - 16777216 := by rw [IntKind.wrap_i64]; omega
      have hn7 := byte_any h6
      rw [a6] at hn7
      go_wp2_with fail
      refine hn7.mono ?_
      clear hn7
      rintro e w7 ⟨rfl, h7, g7⟩
      have hn8 := byte_any h7
      rw [a7] at hn8
      go_wp2_with fail
      refine hn8.mono ?_
      clear hn8
      rintro e w8 ⟨rfl, h8, g8⟩
      have hQ8 := ((hQA.grown g6 hpbb).grown g7 hpbb).grown g8 hpbb
      have hg8 := ((hgB.trans g6).trans g7).trans g8
      clear hQA g6 g7 g8 hgB h6 h7 a5 a6 a7
      have d4 := hQ8.c4
      have dz := hQ8.fz 4
      have dy := (hQ8.putK (65536 * x4 + 256 * x5 + x6)).c4
      have dx := (hQ8.putK (65536 * x4 + 256 * x5 + x6)).fz 4
      by_cases hx : 8388608 ≤ 65536 * x4 + 256 * x5 + x6
      case' pos =>
        have hQ9 := ((hQ8.putK (65536 * x4 + 256 * x5 + x6)).putK (65536 * x4 + 256 * x5 + x6 - 16777216)).sameK ((sgn_hi hx).symm.trans HK.out)
        have h9 := (h8.set (p := ⟨pb, 4, none⟩) (fun e => hpbb (by rw [← e])) (.int .i64 (65536 * x4 + 256 * x5 + x6))).set (p := ⟨pb, 4, none⟩) (fun e => hpbb (by rw [← e])) (.int .i64 (65536 * x4 + 256 * x5 + x6 - 16777216))
        have hg9 := grown_set (grown_set hg8 (p := ⟨pb, 4, none⟩) hpl (.int .i64 (65536 * x4 + 256 * x5 + x6))) (p := ⟨pb, 4, none⟩) hpl (.int .i64 (65536 * x4 + 256 * x5 + x6 - 16777216))
      case' neg =>
        have hQ9 := (hQ8.putK (65536 * x4 + 256 * x5 + x6)).sameK ((sgn_lo hx).symm.trans HK.out)
        have h9 := h8.set (p := ⟨pb, 4, none⟩) (fun e => hpbb (by rw [← e])) (.int .i64 (65536 * x4 + 256 * x5 + x6))
        have hg9 := grown_set hg8 (p := ⟨pb, 4, none⟩) hpl (.int .i64 (65536 * x4 + 256 * x5 + x6))
      all_goals
        have hnA := byte_any h9
        rw [a8, a9] at hnA
        go_wp2_with fail
        refine hnA.mono ?_
        clear hnA
        rintro e wC ⟨rfl, hC, gC⟩
        have hT0 : RPs wO wC b pb r' (rdPass r' 0) 0 [] (.slice none 0 0) := ⟨hC, hg9.trans gC, hQ9.grown gC hpbb, World.ownsRow_nil _ _ _ _, rfl, hpl, hbO⟩
        clear hC gC hg9 hQ9 h9 hg8 hQ8 h8 d4 dz dy dx a8 a9 y1 y2 y3 y4 y5 hx k4 k5 k6 HK
        generalize hq : rdPass r' 0 = q at *
        have HP' : Hid (_) := hq
        clear hq
        go_wp2_with fail
        go_loopw [8] (fun i wr => ∃ (k m2 : Nat) (LS : List Lt) (xa : Option Addr) (xc : Nat), k + m2 = n7 ∧ LS.length = k ∧ i = .int .i64 m2 ∧ RPs wO wr b pb r' q k LS (.slice xa LS.length xc)) (fun i _ => (intOf i).toNat)
        case atStart => exact ⟨0, n7, [], none, 0, by omega, rfl, rfl, hT0⟩
        case round =>
          obtain ⟨k, m2, LS, xa, xc, hkm, hLk, rfl, hT⟩ := hrel
          clear hT0
          have HLK : Hid (_) := hLk
          clear hLk
          rcases m2 with _ | m2
          · have hk7 : k = n7 := by omega
            subst hk7
            have hqL : q.ls = LS := by rw [hT.all]; exact HL7.out
            have HSTEP : Hid (∀ (w9 : World) (v' : Value) (o : Obj), w9.ownsRow (fb + 1) 72 6 v' (L.length + 1) (pcells L ++ [.int .i64 q.Op, .int .i64 q.To, .int .i64 q.A, .int .i64 q.B, .int .i64 q.K, .slice xa LS.length xc]) → (wr.alloc o).grownBy w9 (Value.slice la L.length lc).ownBlock → (v'.ownBlock = (Value.slice la L.length lc).ownBlock ∨ v'.ownBlock = some (wr.alloc o).heap.size) → ∃ L', L'.length = L.length + 1 ∧ RFs w4 (w9.setCell ⟨fb, 4, none⟩ v') b fb r f (j + 1) L' v') := by
              intro w9 v' o ho hg hl
              have hqr : rdPass (r.drop (rdPos r j)) 0 = q := by rw [← HRP.out]; exact HP'.out
              refine hS.step (B := pb + 1) (la := xa) (lc := xc) hT.grew ?_ ?_ (by omega) ?_ ?_ hg hl
              · rw [← HRP.out, HS7.out]; exact hT.rd
              · rw [hqr, hqL]; exact hT.own
              · rw [hqr, hqL, HLK.out]; omega
              · rw [hqr, hqL]; exact ho
            obtain ⟨hG9, hO9⟩ := hS.mid hT.grew
            have HVL : Hid (∀ j, (Value.slice la L.length lc).ownBlock = some j → fb + 1 ≤ j) := fun j hj => (hS.own.lt j hj).1
            obtain ⟨_, c0, c1, c2, c3, c4, c5, _⟩ := hT.box
            have d4 := hG9.c4
            have hfl9 := hG9.lt
            clear hqL hT hS
            obtain ⟨Op, To, A, B, K, qs⟩ := q
            dsimp only at c0 c1 c2 c3 c4 HSTEP
            go_wp2_with (at_builtin; refine wpList_append_own_at _ rfl _ _ 33 rfl (fb + 1) 72 p0 _ 6 64 Tryz.underlying33 pi pz0 pz1 pz2 rfl (by decide) (.slice la L.length lc) L.length (pcells L) rfl (World.ownsRow.alloc hO9.1 _) ⟨wr.heap.size, 0, none⟩ 1 1 [.int .i64 Op, .int .i64 To, .int .i64 A, .int .i64 B, .int .i64 K, .slice xa LS.length xc] rfl rfl (cell_six_new _ _ _ _ _ _ _ _) (by intro u hu; simp at hu; rcases hu with rfl | rfl | rfl | rfl | rfl | rfl <;> rfl) (by have := HLL.out; unfold maxLen; omega) (by have := HLL.out; omega) (by simp; omega) ?_; intro v' w9 hown9 hgrow9 _ hloc9; obtain ⟨a9, cap9, hv9⟩ := owns_slice hown9; subst hv9; have hQ9 := (hG9.grown (row := none) (grown_alloc (World.grownBy.refl _ _) (.cells #[.int .i64 Op, .int .i64 To, .int .i64 A, .int .i64 B, .int .i64 K, .slice xa LS.length xc] 72)) (by simp)).grown hgrow9 (fun e => by have := HVL.out _ e.symm; omega); have e5 := hQ9.c4; have ez := hQ9.fz 4)
            obtain ⟨L', hL', hR⟩ := HSTEP.out w9 _ _ hown9 hgrow9 hloc9
            have HR : Hid (_) := hR
            have HL' : Hid (_) := hL'
            clear hown9 hgrow9 hloc9 hG9 hO9 hQ9 hR hL' c0 c1 c2 c3 c4 c5 d4
            go_wp2
            go_roundw
            case rel => exact ⟨j + 1, m, L', a9, cap9, by omega, by rw [HL'.out, HLL.out], by go_num, by rw [HL'.out]; exact HR.out⟩
            case measure => simp [intOf]
          · have hm2I : (0 : Int) < ((m2 + 1 : Nat) : Int) := by omega
            obtain ⟨s', hs'⟩ : ∃ s', s' = r'.drop (8 + 5 * k) := ⟨_, rfl⟩
            have htd := hT.rd
            rw [← hs'] at htd
            have b0 : s'.getD 0 0 = (rdLight s' 0).X := rfl
            have b1 : (s'.drop 1).getD 0 0 = (rdLight s' 0).Y := getD_drop0 s' 1
            have b2 : ((s'.drop 1).drop 1).getD 0 0 = (rdLight s' 0).R := by rw [List.drop_drop]; exact getD_drop0 s' 2
            have b3 : ((s'.drop 1).drop 1).drop 1 = s'.drop 3 := by simp [List.drop_drop]
            have b4 : (s'.drop 3).getD 0 0 = s'.getD 3 0 := getD_drop0 s' 3
            have b5 : ((s'.drop 3).drop 1).getD 0 0 = s'.getD 4 0 := by rw [List.drop_drop]; exact getD_drop0 s' 4
            have b6 : ((s'.drop 3).drop 1).drop 1 = s'.drop 5 := by simp [List.drop_drop]
            have HPW : Hid ((rdLight s' 0).P = 256 * s'.getD 3 0 + s'.getD 4 0) := rfl
            have z3 := htd.bytes.at 3
            have z4 := htd.bytes.at 4
            have HSTEP : Hid (∀ (w1 w9 : World) (v' : Value) (o : Obj), wr.grownBy w1 (some b) → RdB w1 b (s'.drop 5) → w9.ownsRow (pb + 1) 106 4 v' (LS.length + 1) (lcells LS ++ [.int .i64 (rdLight s' 0).X, .int .i64 (rdLight s' 0).Y, .int .i64 (rdLight s' 0).R, .int .i64 (rdLight s' 0).P]) → (w1.alloc o).grownBy w9 (Value.slice xa LS.length xc).ownBlock → RPs wO (w9.setCell ⟨pb, 5, none⟩ v') b pb r' q (k + 1) (rdLights r' 8 (k + 1)) v') := by rw [hs']; exact fun _ _ _ _ g h1 ho hg => hT.step g h1 ho hg
            have HMID : Hid (∀ w1 : World, wr.grownBy w1 (some b) → QBox w1 pb q.Op q.To q.A q.B q.K (.slice xa LS.length xc) ∧ OwnsL (pb + 1) w1 (.slice xa LS.length xc) LS) := fun w1 g => hT.mid g
            have HVL : Hid (∀ j, (Value.slice xa LS.length xc).ownBlock = some j → pb + 1 ≤ j) := fun j hj => (World.ownsRow.lt (w := wr) hT.own j hj).1
            have HLS : Hid ((rdLights r' 8 (k + 1)).length = LS.length + 1) := by show _ = _; rw [rdLights_len, HLK.out]
            have hbI : b < wr.heap.size := World.block_lt_of_cell? wr _ hT.rd.cell
            generalize s'.getD 3 0 = x3 at *
            generalize s'.getD 4 0 = x4 at *
            generalize rdLight s' 0 = lt at *
            obtain ⟨X, Y, R, P⟩ := lt
            dsimp only at b0 b1 b2 HPW HSTEP
            have e34 : P = 256 * x3 + x4 := HPW.out
            clear hs' hT
            obtain ⟨wI, e1⟩ : ∃ z, z = wr := ⟨_, rfl⟩
            subst e1
            have hn1 := byte_any htd
            rw [b0] at hn1
            go_wp2_with fail
            refine hn1.mono ?_
            clear hn1
            rintro e w1 ⟨rfl, h1, g1⟩
            have hn2 := byte_any h1
            rw [b1] at hn2
            go_wp2_with fail
            refine hn2.mono ?_
            clear hn2
            rintro e w2 ⟨rfl, h2, g2⟩
            have hn3 := byte_any h2
            rw [b2] at hn3
            go_wp2_with fail
            refine hn3.mono ?_
            clear hn3
            rintro e w3 ⟨rfl, h3, g3⟩
            rw [b3] at h3
            have hgX := (g1.trans g2).trans g3
            clear g1 g2 g3 h1 h2 b0 b1 b2 b3 htd
            have hlX : wI.heap.size ≤ w3.heap.size := hgX.size
            have hL3 := LBox.new w3 X Y R 0
            have hX3 := h3.alloc (.cells #[.int .i64 X, .int .i64 Y, .int .i64 R, .int .i64 0] 106)
            have hgY := grown_alloc hgX (.cells #[.int .i64 X, .int .i64 Y, .int .i64 R, .int .i64 0] 106)
            have hnY := byte_any hX3
            rw [b4] at hnY
            go_wp2_with fail
            generalize w3.alloc (.cells #[.int .i64 X, .int .i64 Y, .int .i64 R, .int .i64 0] 106) = wY at *
            obtain ⟨lb, hlb⟩ : ∃ lb, lb = w3.heap.size := ⟨_, rfl⟩
            rw [← hlb] at hL3 ⊢
            have hll : wI.heap.size ≤ lb := by omega
            have hlbb : some lb ≠ some b := fun e => by injection e with e; omega
            clear hlb hlX h3 hX3 hgX
            refine hnY.mono ?_
            clear hnY
            rintro e w6 ⟨rfl, h6, g6⟩
            have y1 : IntKind.i64.wrap (256 * x3) = 256 * x3 := by rw [IntKind.wrap_i64]; omega
            have y2 : IntKind.i64.wrap (256 * x3 + x4) = 256 * x3 + x4 := by rw [IntKind.wrap_i64]; omega
            have hnZ := byte_any h6
            rw [b5, b6] at hnZ
            go_wp2_with fail
            refine hnZ.mono ?_
            clear hnZ
            rintro e w7 ⟨rfl, h7, g7⟩
            have hL7 := (hL3.grown g6 hlbb).grown g7 hlbb
            have hg7 := (hgY.trans g6).trans g7
            have hL8 := hL7.put (256 * x3 + x4)
            have h8 := h7.set (p := ⟨lb, 3, none⟩) (fun e => hlbb (by rw [← e])) (.int .i64 (256 * x3 + x4))
            have hg8 := grown_set hg7 (p := ⟨lb, 3, none⟩) hll (.int .i64 (256 * x3 + x4))
            have d3 := hL7.c3
            have dz := hL7.fz 3
            clear hL3 g6 g7 hgY h6 h7 b4 b5 b6 hg7 z3 z4
            go_upto_region 15 with fail
            generalize w7.setCell ⟨lb, 3, none⟩ (.int .i64 (256 * x3 + x4)) = w8 at *
            clear d3 dz hL7
            rw [← e34] at hL8
            clear e34
            obtain ⟨hQ8, hO8⟩ := HMID.out w8 hg8
            obtain ⟨_, u0, u1, u2, u3, _⟩ := id hL8
            have d5 := hQ8.c5
            have hpl8 := hQ8.lt
            go_wp2_with (at_builtin; refine wpList_append_own_at _ rfl _ _ 70 rfl (pb + 1) 106 l0 _ 4 32 Tryz.underlying70 li lz0 lz1 lz2 rfl (by decide) (.slice xa LS.length xc) LS.length (lcells LS) rfl (World.ownsRow.alloc hO8 _) ⟨w8.heap.size, 0, none⟩ 1 1 [.int .i64 X, .int .i64 Y, .int .i64 R, .int .i64 P] rfl rfl (cell_four_new _ _ _ _ _ _) (by intro u hu; simp at hu; rcases hu with rfl | rfl | rfl | rfl <;> rfl) (by have := HLK.out; unfold maxLen; omega) (by have := HLK.out; omega) (by simp; omega) ?_; intro v' w9 hown9 hgrow9 _ hloc9; obtain ⟨a9, cap9, hv9⟩ := owns_slice hown9; subst hv9; have hQ9 := (hQ8.grown (row := none) (grown_alloc (World.grownBy.refl _ _) (.cells #[.int .i64 X, .int .i64 Y, .int .i64 R, .int .i64 P] 106)) (by simp)).grown hgrow9 (fun e => by have := HVL.out _ e.symm; omega); have e5 := hQ9.c5; have ez := hQ9.fz 5)
            have HR : Hid (_) := HSTEP.out w8 w9 _ _ hg8 h8 hown9 hgrow9
            clear hown9 hgrow9 hloc9 hQ8 hO8 h8 hg8 hL8 u0 u1 u2 u3 d5 hQ9
            go_wp2
            go_roundw
            case rel => exact ⟨k + 1, m2, rdLights r' 8 (k + 1), a9, cap9, by omega, by rw [rdLights_len], by go_num, by rw [HLS.out]; exact HR.out⟩
            case measure => simp [intOf]
end Go.Proofs.YtaenpgdmiaekcaaGreatDoor
/-
  WIREX: Read and FrameFrom, told in one form; strings and their bytes.
-/
namespace Go.Proofs.YtaenpgdmiaekcaaGreatDoor
set_option maxRecDepth 100000
open Go.RowKit Im

/-- The bytes of a string. -/
def numsOf (s : ByteArray) : List Int := s.data.toList.map fun u => (u.toNat : Int)
theorem numsOf_str (s : ByteArray) : strOfNums (numsOf s) = s := by
  apply ByteArray.ext
  apply Array.toList_inj.1
  rw [strOfNums_data]
  unfold numsOf
  rw [List.map_map]
  conv => rhs; rw [← List.map_id s.data.toList]
  refine List.map_congr_left fun u _ => ?_
  simp
theorem numsOf_bytes (s : ByteArray) : Bytes (numsOf s) := by
  intro x hx
  unfold numsOf at hx
  obtain ⟨u, _, rfl⟩ := List.mem_map.1 hx
  have := u.toNat_lt
  omega
theorem numsOf_len (s : ByteArray) : (numsOf s).length = s.size := by
  show (s.data.toList.map _).length = s.data.size
  rw [List.length_map, Array.length_toList]
open Classical in
/-- The frame that is read, and the error. -/
noncomputable def rdF (r : List Int) : Fr := if readOk r then rdFrame r else ⟨0, 0, 0, 0, []⟩
open Classical in
noncomputable def rdE (r : List Int) : Int := if readOk r then 0 else 1
/-- A frame, and a value, are handed back. -/
def ToldX (w : World) (f : Fr) (v : Value) (e : Ending) (w' : World) : Prop :=
  ∃ a c, e = .returned (.tuple #[.agg #[.int .i64 f.W, .int .i64 f.H, .int .i64 f.S, .int .i64 f.O, .slice a f.ps.length c], v]) ∧ Passes w' a f.ps.length f.ps ∧ Below w.heap.size w w'
theorem Passes.none (w : World) : Passes w none 0 [] := ⟨rfl, by omega, .inl rfl⟩
theorem rowP_slice {base : Nat} {w : World} {a : Option Addr} {c : Nat} {L : Lp} {ps : List Ps} (h : RowP base w (.slice a ps.length c) L) (hm : L.map Prod.fst = ps) (hl : ps.length ≤ 4096) : Passes w a ps.length ps := by
  obtain ⟨a', c', e, hp⟩ := h.passes' hm (by rw [← hm, List.length_map] at hl; exact hl)
  injection e with e1 _ _
  subst e1
  exact hp
theorem read_x {r : List Int} (hby : Bytes r) (hfew : r.length ≤ 2048) (w : World) : Calls Tryz.prog 11 #[.string (strOfNums r)] w (ToldX w (rdF r) (.int .i64 (rdE r))) := by
  refine (read_any hby hfew w).mono ?_
  rintro e w' ⟨hb, ⟨hok, a, c, L, rfl, hL, hm⟩ | ⟨hok, rfl⟩⟩
  · have h1 : rdF r = rdFrame r := by unfold rdF; rw [if_pos hok]
    have h2 : rdE r = 0 := by unfold rdE; rw [if_pos hok]
    unfold ToldX
    rw [h1, h2]
    exact ⟨a, c, rfl, rowP_slice hL hm (passes_few r hby), hb⟩
  · have h1 : rdF r = ⟨0, 0, 0, 0, []⟩ := by unfold rdF; rw [if_neg hok]
    have h2 : rdE r = 1 := by unfold rdE; rw [if_neg hok]
    unfold ToldX
    rw [h1, h2]
    exact ⟨none, 0, rfl, Passes.none _, hb⟩
theorem read_big {s : ByteArray} (hs : 2048 < s.size) (w : World) : Calls Tryz.prog 11 #[.string s] w (ToldX w ⟨0, 0, 0, 0, []⟩ (.int .i64 2)) := by
  refine (read_many hs w).mono ?_
  rintro e w' ⟨rfl, hb⟩
  exact ⟨none, 0, rfl, Passes.none _, hb⟩
theorem from_x {r : List Int} (hby : Bytes r) (hfew : r.length ≤ 4096) (w : World) : ∃ is : Bool, rdE r = (if is = true then 0 else 1) ∧ Calls Tryz.prog 21 #[.string (strOfNums r)] w (ToldX w (rdF r) (.bool is)) := by
  by_cases hok : readOk r
  · have h1 : rdF r = rdFrame r := by unfold rdF; rw [if_pos hok]
    have h2 : rdE r = 0 := by unfold rdE; rw [if_pos hok]
    refine ⟨true, by rw [h2]; rfl, (frameFrom_any hby hfew w).mono ?_⟩
    rintro e w' ⟨hb, ⟨_, a, c, L, rfl, hL, hm⟩ | ⟨hn, _⟩⟩
    · unfold ToldX
      rw [h1]
      exact ⟨a, c, rfl, rowP_slice hL hm (passes_few r hby), hb⟩
    · exact absurd hok hn
  · have h1 : rdF r = ⟨0, 0, 0, 0, []⟩ := by unfold rdF; rw [if_neg hok]
    have h2 : rdE r = 1 := by unfold rdE; rw [if_neg hok]
    refine ⟨false, by rw [h2]; rfl, (frameFrom_any hby hfew w).mono ?_⟩
    rintro e w' ⟨hb, ⟨hn, _⟩ | ⟨_, rfl⟩⟩
    · exact absurd hn hok
    · unfold ToldX
      rw [h1]
      exact ⟨none, 0, rfl, Passes.none _, hb⟩
/-- A right frame's numbers go into their bytes. -/
theorem right_fr {f : Fr} (h : frameE f = 0) : FrOk f := by
  obtain ⟨hb, hfirst, _⟩ := frameE_zero h
  obtain ⟨hW, hH, hS, hO, hL⟩ := boundsE_zero hb
  refine ⟨by omega, by omega, by omega, by omega, by omega, fun p hp => ?_⟩
  obtain ⟨k, hk, e⟩ := List.mem_iff_getElem.1 hp
  have e' : f.ps.getD k Ps.zero = p := by rw [List.getD_eq_getElem?_getD, List.getElem?_eq_getElem hk, e]; rfl
  have hfk := firstE_down f hfirst (k := k) (by omega)
  have hpE : passE f k = 0 := (firstE_at f hfk).symm.trans (firstE_down f hfirst (k := k + 1) (by omega))
  obtain ⟨o1, _⟩ := passE_zero hpE
  have h8 := ownE_zero o1
  have h9 := few_lights h hk
  rw [e'] at h8 h9
  obtain ⟨q1, q2, q3, q4, q5, _⟩ := h8
  have w1 : ∀ n a b : Int, withinB n a b = true → a ≤ n ∧ n ≤ b := fun n a b h => by simpa [withinB] using h
  have hOp := w1 _ _ _ q1
  unfold slotsB at q2
  rw [Bool.and_eq_true] at q2
  have hTo := w1 _ _ _ q2.2
  unfold bareB at q5
  simp only [Bool.and_eq_true, Bool.or_eq_true, decide_eq_true_eq] at q5
  obtain ⟨⟨⟨qA, qB⟩, qK⟩, qL⟩ := q5
  have hA : 0 ≤ p.A ∧ p.A < 256 := by
    rcases qA with qA | qA
    · have : p.A ∈ takesP p := by
        unfold takesP
        split
        · simp
        · simp
      have := w1 _ _ _ (List.all_eq_true.1 q2.1 _ this)
      omega
    · omega
  have hB : 0 ≤ p.B ∧ p.B < 256 := by
    rcases qB with qB | qB
    · have : p.B ∈ takesP p := by
        unfold takesP
        rw [if_pos qB]; simp
      have := w1 _ _ _ (List.all_eq_true.1 q2.1 _ this)
      omega
    · omega
  have hK : -8388608 ≤ p.K ∧ p.K < 8388608 := by
    rcases qK with qK | qK
    · have hk := q3 qK
      unfold kB at hk
      split at hk
      · have := w1 _ _ _ hk; omega
      · split at hk
        · have := w1 _ _ _ hk; omega
        · have := w1 _ _ _ hk; omega
    · omega
  refine ⟨by omega, by omega, hA, hB, hK, by omega, fun l hl => ?_⟩
  rcases qL with qL | qL
  · have := (lightsErr_zero (q4 qL)).2
    have := (right_iff l).1 (List.all_eq_true.1 this l hl)
    exact ⟨by omega, by omega, by omega, by omega⟩
  · rw [List.length_eq_zero_iff.1 qL] at hl
    cases hl
/-- What is written of a right frame is read as it was. -/
theorem wire_back {f : Fr} (h : frameE f = 0) : readOk (frameBytes f) ∧ rdFrame (frameBytes f) = f := by
  obtain ⟨h1, h2⟩ := read_frame (right_fr h)
  exact ⟨⟨h2, by rw [h1]; exact h⟩, h1⟩
end Go.Proofs.YtaenpgdmiaekcaaGreatDoor
