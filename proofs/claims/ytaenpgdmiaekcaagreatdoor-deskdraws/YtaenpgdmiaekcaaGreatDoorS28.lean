/- WireRd8, WireRd9, WireRead, WireEye: joined, in this order. -/
import Derived.Test.YtaenpgdmiaekcaaGreatDoorS27
import Derived.Defers
import Derived.Recover
/-
  WIRERD8: wire.reader's frame.
-/
namespace Go.Proofs.YtaenpgdmiaekcaaGreatDoor
set_option maxRecDepth 100000
open Go.RowKit Im

/-- Five values in a box that may be written. -/
structure WBox5 (w : World) (b : Nat) : Prop where
  lt : b < w.heap.size
  c : ∀ j, j < 5 → ∃ v, w.cell? ⟨b, j, none⟩ = some v
  fz : ∀ o, w.frozen? ⟨b, o, none⟩ = false
theorem WBox5.grown {w w' : World} {b : Nat} {row : Option Nat} (h : WBox5 w b) (hg : w.grownBy w' row) (hne : some b ≠ row) : WBox5 w' b :=
  ⟨Nat.lt_of_lt_of_le h.lt hg.size, fun j hj => by obtain ⟨v, hv⟩ := h.c j hj; exact ⟨v, hg.cell hv hne⟩, fun o => (World.frozen?_of_block (a := ⟨b, o, none⟩) (hg.block b h.lt hne)).trans (h.fz o)⟩
theorem WBox5.new (w : World) (v0 v1 v2 v3 v4 : Value) (t : TypeId) : WBox5 (w.alloc (.cells #[v0, v1, v2, v3, v4] t)) w.heap.size := ⟨by simp, fun j hj => by
    match j, hj with
    | 0, _ => exact ⟨_, by simp [go_sem]; rfl⟩
    | 1, _ => exact ⟨_, by simp [go_sem]; rfl⟩
    | 2, _ => exact ⟨_, by simp [go_sem]; rfl⟩
    | 3, _ => exact ⟨_, by simp [go_sem]; rfl⟩
    | 4, _ => exact ⟨_, by simp [go_sem]; rfl⟩, fun o => frozen_new w _ _ o⟩
abbrev set5 (w : World) (b : Nat) (x0 x1 x2 x3 x4 : Value) : World := ((((w.setCell ⟨b, 0, none⟩ x0).setCell ⟨b, 1, none⟩ x1).setCell ⟨b, 2, none⟩ x2).setCell ⟨b, 3, none⟩ x3).setCell ⟨b, 4, none⟩ x4
theorem WBox5.sets {w : World} {b : Nat} (h : WBox5 w b) (x0 x1 x2 x3 x4 : Value) :
    (set5 w b x0 x1 x2 x3 x4).cell? ⟨b, 0, none⟩ = some x0 ∧ (set5 w b x0 x1 x2 x3 x4).cell? ⟨b, 1, none⟩ = some x1 ∧ (set5 w b x0 x1 x2 x3 x4).cell? ⟨b, 2, none⟩ = some x2 ∧ (set5 w b x0 x1 x2 x3 x4).cell? ⟨b, 3, none⟩ = some x3 ∧ (set5 w b x0 x1 x2 x3 x4).cell? ⟨b, 4, none⟩ = some x4 := by
  obtain ⟨v0, k0⟩ := h.c 0 (by decide)
  obtain ⟨v1, k1⟩ := h.c 1 (by decide)
  obtain ⟨v2, k2⟩ := h.c 2 (by decide)
  obtain ⟨v3, k3⟩ := h.c 3 (by decide)
  obtain ⟨v4, k4⟩ := h.c 4 (by decide)
  have ht : ∀ i j : Nat, i ≠ j → (⟨b, i, none⟩ : Addr) ≠ ⟨b, j, none⟩ := fun i j hij e => hij (by injection e)
  have A := fun (w : World) (u : Value) (i j : Nat) (hij : i ≠ j) => set_other (w := w) u (ht i j hij)
  unfold set5
  refine ⟨?_, ?_, ?_, ?_, ?_⟩
  · rw [A _ _ 4 0 (by decide), A _ _ 3 0 (by decide), A _ _ 2 0 (by decide), A _ _ 1 0 (by decide)]; exact set_same k0
  · rw [A _ _ 4 1 (by decide), A _ _ 3 1 (by decide), A _ _ 2 1 (by decide)]; exact set_same ((A _ _ 0 1 (by decide)).trans k1)
  · rw [A _ _ 4 2 (by decide), A _ _ 3 2 (by decide)]; exact set_same ((A _ _ 1 2 (by decide)).trans ((A _ _ 0 2 (by decide)).trans k2))
  · rw [A _ _ 4 3 (by decide)]; exact set_same ((A _ _ 2 3 (by decide)).trans ((A _ _ 1 3 (by decide)).trans ((A _ _ 0 3 (by decide)).trans k3)))
  · exact set_same ((A _ _ 3 4 (by decide)).trans ((A _ _ 2 4 (by decide)).trans ((A _ _ 1 4 (by decide)).trans ((A _ _ 0 4 (by decide)).trans k4))))
/-- A frame that is being read: k of its passes are. -/
structure RFs (w wr : World) (b fb : Nat) (r : List Int) (f : Fr) (k : Nat) (L : Lp) (v : Value) : Prop where
  rd : RdB wr b (r.drop (rdPos r k))
  grew : w.grownBy wr (some b)
  box : GBox wr fb f.W f.H f.S f.O v
  own : RowP (fb + 1) wr v L
  all : L.map Prod.fst = rdPasses r k
  lt : w.heap.size ≤ fb
  bl : b < w.heap.size
theorem RFs.mid {w wr w1 : World} {b fb : Nat} {r : List Int} {f : Fr} {k : Nat} {L : Lp} {v : Value} (h : RFs w wr b fb r f k L v) (g : wr.grownBy w1 (some b)) : GBox w1 fb f.W f.H f.S f.O v ∧ RowP (fb + 1) w1 v L :=
  ⟨h.box.grown g (fun e => by injection e with e; have := h.lt; have := h.bl; omega), h.own.grownO g (fun k hk => by injection hk with hk; have := h.lt; have := h.bl; omega)⟩
theorem rdPasses_snoc (r : List Int) (k : Nat) : rdPasses r (k + 1) = rdPasses r k ++ [rdPass (r.drop (rdPos r k)) 0] := by rw [rdPass_drop]; rfl
theorem rdPos_snoc (r : List Int) (k : Nat) : (r.drop (rdPos r k)).drop (rdStop (r.drop (rdPos r k)) 0) = r.drop (rdPos r (k + 1)) := by
  rw [List.drop_drop, rdStop_drop]; rfl
theorem RFs.step {w wr w1 w9 : World} {b fb : Nat} {r : List Int} {f : Fr} {k : Nat} {L : Lp} {v v' : Value} {o : Obj} {la : Option Addr} {lc : Nat} {B : Nat} (h : RFs w wr b fb r f k L v) (g : wr.grownBy w1 (some b)) (h1 : RdB w1 b ((r.drop (rdPos r k)).drop (rdStop (r.drop (rdPos r k)) 0)))
    (hL : OwnsL B w1 (.slice la (rdPass (r.drop (rdPos r k)) 0).ls.length lc) (rdPass (r.drop (rdPos r k)) 0).ls) (hB : wr.heap.size ≤ B) (h8 : (rdPass (r.drop (rdPos r k)) 0).ls.length ≤ 4096)
    (hown : w9.ownsRow (fb + 1) 72 6 v' (L.length + 1) (pcells L ++ [.int .i64 (rdPass (r.drop (rdPos r k)) 0).Op, .int .i64 (rdPass (r.drop (rdPos r k)) 0).To, .int .i64 (rdPass (r.drop (rdPos r k)) 0).A, .int .i64 (rdPass (r.drop (rdPos r k)) 0).B, .int .i64 (rdPass (r.drop (rdPos r k)) 0).K, .slice la (rdPass (r.drop (rdPos r k)) 0).ls.length lc])) (hg : (w1.alloc o).grownBy w9 v.ownBlock) (hloc : v'.ownBlock = v.ownBlock ∨ v'.ownBlock = some (w1.alloc o).heap.size) :
    ∃ L', L'.length = L.length + 1 ∧ RFs w (w9.setCell ⟨fb, 4, none⟩ v') b fb r f (k + 1) L' v' := by
  have hlt := h.lt
  have hbl := h.bl
  have hpl := h.box.lt
  obtain ⟨hQ, hO⟩ := h.mid g
  have hv : ∀ j, v.ownBlock = some j → fb + 1 ≤ j ∧ j < wr.heap.size := fun j hj => h.own.lt j hj
  have hrow : ∀ x, x ≤ fb → some x ≠ v.ownBlock := fun x hx e => by have := hv x e.symm; omega
  have hA : w1.grownBy (w1.alloc o) none := grown_alloc (World.grownBy.refl _ _) o
  have hx : Lx (fb + 1) (w1.alloc o) v (rdPass (r.drop (rdPos r k)) 0, la, lc) := (Lx.of' hL rfl h8 (by omega) (fun j hj => by have := hv j hj; omega)).grownO hA (fun k hk => by cases hk)
  have hP := (hO.grownO hA (fun k hk => by cases hk)).push hx hown hg hloc
  rw [rdPos_snoc] at h1
  have g9 : w.grownBy w9 (some b) := grown_own (grown_alloc (h.grew.trans g) o) hg (fun j hj => by have := hv j hj; omega)
  have hrd : RdB w9 b (r.drop (rdPos r (k + 1))) := (h1.alloc o).grown hg (hrow b (by omega))
  have hQ9 : GBox w9 fb f.W f.H f.S f.O v := (hQ.grown hA (by simp)).grown hg (hrow fb (Nat.le_refl _))
  refine ⟨_, ?_, ⟨?_, grown_set g9 (by simpa using hlt) _, hQ9.put v', hP.setBelow (p := ⟨fb, 4, none⟩) (Nat.lt_succ_self _) _, ?_, hlt, hbl⟩⟩
  · simp
  · exact ⟨(set_other _ (fun e => by injection e with e1; omega)).trans hrd.cell, by simpa using hrd.fz, hrd.bytes, hrd.few⟩
  · rw [List.map_append, h.all, rdPasses_snoc]; rfl
theorem pass_lights (r : List Int) (h : Bytes r) : (rdPass r 0).ls.length ≤ 4096 := by
  have := h.at 7
  unfold rdPass
  dsimp only
  rw [rdLights_len, Nat.zero_add]
  omega
theorem pass_does {b : Nat} {w : World} {r : List Int} (h : RdB w b r) (hm : rdStop r 0 ≤ r.length) :
    Calls Tryz.prog 96 #[.pointer (some ⟨b, 0, none⟩)] w fun e w' => (∃ la lc, e = .returned (.agg #[.int .i64 (rdPass r 0).Op, .int .i64 (rdPass r 0).To, .int .i64 (rdPass r 0).A, .int .i64 (rdPass r 0).B, .int .i64 (rdPass r 0).K, .slice la (rdPass r 0).ls.length lc]) ∧ OwnsL (w.heap.size + 1) w' (.slice la (rdPass r 0).ls.length lc) (rdPass r 0).ls) ∧ RdB w' b (r.drop (rdStop r 0)) ∧ w.grownBy w' (some b) := by
  refine (pass_any h).mono ?_
  rintro e w' ⟨hg, ⟨_, h1, h2⟩ | ⟨h1, _⟩⟩
  · exact ⟨h1, h2, hg⟩
  · omega
theorem pass_stops {b : Nat} {w : World} {r : List Int} (h : RdB w b r) (hm : r.length < rdStop r 0) :
    Calls Tryz.prog 96 #[.pointer (some ⟨b, 0, none⟩)] w fun e w' => e = rdStopped ∧ w.grownBy w' (some b) := by
  refine (pass_any h).mono ?_
  rintro e w' ⟨hg, ⟨h1, _⟩ | ⟨_, h1⟩⟩
  · omega
  · exact ⟨h1, hg⟩
set_option maxHeartbeats 8000000 in
theorem rdframe_any {b : Nat} {w : World} {r : List Int} (h : RdB w b r) :
    Calls Tryz.prog 60 #[.pointer (some ⟨b, 0, none⟩)] w (ToldRF w b r) := by
  obtain ⟨l0, li, lz0, lz1, lz2⟩ := info_parts Tryz.infoPass
  have hbl : b < w.heap.size := World.block_lt_of_cell? w _ h.cell
  have hne : some w.heap.size ≠ some b := fun e => by injection e with e; omega
  have hB0 := WBox5.new w (.int .i64 0) (.int .i64 0) (.int .i64 0) (.int .i64 0) (.slice none 0 0) 35
  have hg0 : w.grownBy (w.alloc (.cells #[.int .i64 0, .int .i64 0, .int .i64 0, .int .i64 0, .slice none 0 0] 35)) (some b) := grown_alloc (World.grownBy.refl _ _) _
  have h0 := h.alloc (.cells #[.int .i64 0, .int .i64 0, .int .i64 0, .int .i64 0, .slice none 0 0] 35)
  have hst : 5 ≤ rdEnd r := by unfold rdEnd; have := rdPos_ge r (r.getD 4 0).toNat; omega
  have n0 : numI r 1 = (rdFrame r).W := numI_one r
  have n1 : numI (r.drop 1) 1 = (rdFrame r).H := by rw [numI_one, drop_getD]; rfl
  have n2 : numI ((r.drop 1).drop 1) 1 = (rdFrame r).S := by rw [numI_one, List.drop_drop, drop_getD]; rfl
  have n3 : numI (((r.drop 1).drop 1).drop 1) 1 = (rdFrame r).O := by rw [numI_one, List.drop_drop, List.drop_drop, drop_getD]; rfl
  have n5 : numI ((((r.drop 1).drop 1).drop 1).drop 1) 1 = r.getD 4 0 := by rw [numI_one, List.drop_drop, List.drop_drop, List.drop_drop, drop_getD]
  have n6 : (((((r.drop 1).drop 1).drop 1).drop 1).drop 1) = r.drop (rdPos r 0) := by simp [List.drop_drop, rdPos]
  have HTS : Hid (∀ e w', r.length < 5 → w.grownBy w' (some b) → e = rdStopped → ToldRF w b r e w') := fun e w' h8 hg he => ⟨hg, .inr ⟨by omega, he⟩⟩
  have HPS : Hid ((rdFrame r).ps = rdPasses r (r.getD 4 0).toNat) := rfl
  have HST : Hid (rdEnd r = rdPos r (r.getD 4 0).toNat) := rfl
  have h7 := h.bytes.at 4
  obtain ⟨n, hn⟩ := Int.eq_ofNat_of_zero_le h7.1
  rw [hn] at n5 h7 HPS HST
  rw [Int.toNat_natCast] at HPS HST
  clear hn
  go_enter Tryz.func60, Tryz.ntmps60
  by_cases c1 : r.length < 1
  · have hs := number_stops h0 (many := 1) (by decide) (by omega)
    go_wp2_with fail
    refine hs.mono ?_
    rintro e wS ⟨rfl, gS⟩
    exact ⟨rfl, HTS.out _ _ (by omega) (hg0.trans gS) rfl⟩
  have hn1 := number_does h0 (many := 1) (by decide) (by omega)
  rw [n0] at hn1
  go_wp2_with fail
  refine hn1.mono ?_
  rintro e w1 ⟨rfl, h1, g1⟩
  have hG1 := hg0.trans g1
  clear hn1
  by_cases c2 : r.length < 2
  · have hs := number_stops h1 (many := 1) (by decide) (by rw [List.length_drop]; omega)
    go_wp2_with fail
    refine hs.mono ?_
    rintro e wS ⟨rfl, gS⟩
    exact ⟨rfl, HTS.out _ _ (by omega) (hG1.trans gS) rfl⟩
  have hn2 := number_does h1 (many := 1) (by decide) (by rw [List.length_drop]; omega)
  rw [n1] at hn2
  go_wp2_with fail
  refine hn2.mono ?_
  rintro e w2 ⟨rfl, h2, g2⟩
  have hG2 := hG1.trans g2
  clear hn2
  by_cases c3 : r.length < 3
  · have hs := number_stops h2 (many := 1) (by decide) (by rw [List.length_drop, List.length_drop]; omega)
    go_wp2_with fail
    refine hs.mono ?_
    rintro e wS ⟨rfl, gS⟩
    exact ⟨rfl, HTS.out _ _ (by omega) (hG2.trans gS) rfl⟩
  have hn3 := number_does h2 (many := 1) (by decide) (by rw [List.length_drop, List.length_drop]; omega)
  rw [n2] at hn3
  go_wp2_with fail
  refine hn3.mono ?_
  rintro e w3 ⟨rfl, h3, g3⟩
  have hG3 := hG2.trans g3
  clear hn3
  by_cases c4 : r.length < 4
  · have hs := number_stops h3 (many := 1) (by decide) (by rw [List.length_drop, List.length_drop, List.length_drop]; omega)
    go_wp2_with fail
    refine hs.mono ?_
    rintro e wS ⟨rfl, gS⟩
    exact ⟨rfl, HTS.out _ _ (by omega) (hG3.trans gS) rfl⟩
  have hn4 := number_does h3 (many := 1) (by decide) (by rw [List.length_drop, List.length_drop, List.length_drop]; omega)
  rw [n3] at hn4
  go_wp2_with fail
  refine hn4.mono ?_
  rintro e w4 ⟨rfl, h4, g4⟩
  have hG4 := hG3.trans g4
  clear hn4
  have hR5 := (((hB0.grown g1 hne).grown g2 hne).grown g3 hne).grown g4 hne
  have hbl5 : w.heap.size < w4.heap.size := hR5.lt
  clear hB0 h1 h2 h3 hG1 hG2 hG3 h0 hg0 g1 g2 g3 g4
  have hQ5 := GBox.new w4 (rdFrame r).W (rdFrame r).H (rdFrame r).S (rdFrame r).O (.slice none 0 0)
  have hG6 := grown_alloc hG4 (.cells #[.int .i64 (rdFrame r).W, .int .i64 (rdFrame r).H, .int .i64 (rdFrame r).S, .int .i64 (rdFrame r).O, .slice none 0 0] 35)
  have h6 := h4.alloc (.cells #[.int .i64 (rdFrame r).W, .int .i64 (rdFrame r).H, .int .i64 (rdFrame r).S, .int .i64 (rdFrame r).O, .slice none 0 0] 35)
  have hneP : some w4.heap.size ≠ some b := fun e => by injection e with e; omega
  by_cases c6 : r.length < 5
  · have hs := number_stops h6 (many := 1) (by decide) (by rw [List.length_drop, List.length_drop, List.length_drop, List.length_drop]; omega)
    go_wp2_with fail
    refine hs.mono ?_
    rintro e wS ⟨rfl, gS⟩
    exact ⟨rfl, HTS.out _ _ (by omega) (hG6.trans gS) rfl⟩
  have hn6 := number_does h6 (many := 1) (by decide) (by rw [List.length_drop, List.length_drop, List.length_drop, List.length_drop]; omega)
  rw [n5, n6] at hn6
  go_wp2_with fail
  refine hn6.mono ?_
  rintro e w7 ⟨rfl, h7', g7⟩
  have hS0 : RFs w4 w7 b w4.heap.size r (rdFrame r) 0 [] (.slice none 0 0) := ⟨h7', (grown_alloc (World.grownBy.refl _ _) _).trans g7, hQ5.grown g7 hneP, RowP.nil _ _, rfl, Nat.le_refl _, by omega⟩
  clear hn6 h7' g7 hG6 hQ5 h6 h4 hneP n0 n1 n2 n3 n5 n6 c1 c2 c3 c4 HTS hst
  obtain ⟨pb, hpb⟩ : ∃ pb, pb = w4.heap.size := ⟨_, rfl⟩
  rw [← hpb] at hS0 ⊢
  have HPB : Hid (w.heap.size < pb) := by show _ < _; omega
  have HG5 : Hid (_) := hG4
  clear hpb hbl5 hG4
  generalize hq : rdFrame r = q at *
  have HQ : Hid (_) := hq
  clear hq
  have hP0 : rdPos r 0 = 5 := rfl
  go_wp2_with fail
  go_loopw [15] (fun i wr => ∃ (k : Nat) (L : Lp) (la : Option Addr) (lc : Nat), k ≤ n ∧ L.length = k ∧ rdPos r k ≤ r.length ∧ i = .int .i64 k ∧ RFs w4 wr b pb r q k L (.slice la L.length lc)) (fun i _ => n - (intOf i).toNat)
  case atStart => exact ⟨0, [], none, 0, Nat.zero_le _, rfl, by omega, rfl, hS0⟩
  case round =>
    obtain ⟨k, L, la, lc, hk, hLSk, hfew, rfl, hS⟩ := hrel
    clear hS0
    have HLL : Hid (_) := hLSk
    clear hLSk
    by_cases hlt : k < n
    · have hkI : (k : Int) < (n : Int) := by omega
      have hps : rdPos r (k + 1) = rdPos r k + rdStop (r.drop (rdPos r k)) 0 := by rw [rdStop_drop]; rfl
      by_cases c9 : r.length < rdPos r (k + 1)
      · have hs := pass_stops hS.rd.drew (by rw [List.length_drop]; omega)
        have HG : Hid (_) := HG5.out.trans hS.grew
        have HX : Hid (r.length < rdEnd r) := by show _ < _; rw [HST.out]; exact Nat.lt_of_lt_of_le c9 (rdPos_le r (by omega))
        have d5 := hS.box.c4
        clear hS hps c9
        go_upto_region 4 with fail
        go_region_dies
        all_goals
          refine hs.mono ?_
          rintro e wS ⟨rfl, gS⟩
          exact ⟨rfl, HG.out.trans ⟨gS.os, gS.tape, gS.output, gS.size, gS.block⟩, .inr ⟨HX.out, rfl⟩⟩
      · have hl := pass_does hS.rd.drew (by rw [List.length_drop]; omega)
        have HSTEP : Hid (∀ (w1 w9 : World) (v' : Value) (o : Obj) (ya : Option Addr) (yc : Nat), wr.drew.grownBy w1 (some b) → RdB w1 b ((r.drop (rdPos r k)).drop (rdStop (r.drop (rdPos r k)) 0)) → OwnsL (wr.drew.heap.size + 1) w1 (.slice ya (rdPass (r.drop (rdPos r k)) 0).ls.length yc) (rdPass (r.drop (rdPos r k)) 0).ls → w9.ownsRow (pb + 1) 72 6 v' (L.length + 1) (pcells L ++ [.int .i64 (rdPass (r.drop (rdPos r k)) 0).Op, .int .i64 (rdPass (r.drop (rdPos r k)) 0).To, .int .i64 (rdPass (r.drop (rdPos r k)) 0).A, .int .i64 (rdPass (r.drop (rdPos r k)) 0).B, .int .i64 (rdPass (r.drop (rdPos r k)) 0).K, .slice ya (rdPass (r.drop (rdPos r k)) 0).ls.length yc]) → (w1.alloc o).grownBy w9 (Value.slice la L.length lc).ownBlock → (v'.ownBlock = (Value.slice la L.length lc).ownBlock ∨ v'.ownBlock = some (w1.alloc o).heap.size) → ∃ L', L'.length = L.length + 1 ∧ RFs w4 (w9.setCell ⟨pb, 4, none⟩ v') b pb r q (k + 1) L' v') := fun _ _ _ _ _ _ g h1 hL ho hg hloc => hS.step ⟨g.os, g.tape, g.output, g.size, g.block⟩ h1 hL (Nat.le_succ _) (pass_lights _ (h.bytes.drop _)) ho hg hloc
        have HMID : Hid (∀ w1 : World, wr.drew.grownBy w1 (some b) → GBox w1 pb q.W q.H q.S q.O (.slice la L.length lc) ∧ RowP (pb + 1) w1 (.slice la L.length lc) L) := fun w1 g => hS.mid ⟨g.os, g.tape, g.output, g.size, g.block⟩
        have HVL : Hid (∀ j, (Value.slice la L.length lc).ownBlock = some j → pb + 1 ≤ j) := fun j hj => (hS.own.lt j hj).1
        have d5 := hS.box.c4
        have hrl : k ≤ 4096 := by have := h.few; have := rdPos_ge r k; omega
        have HC9 : Hid (_) := c9
        generalize rdPass (r.drop (rdPos r k)) 0 = P at *
        obtain ⟨Op, To, A, B, K, ls⟩ := P
        dsimp only at hl HSTEP
        clear hS hps c9
        go_upto_region 4 with fail
        go_region_law (first
          | (go_simp; go_at_call 96; refine hl.mono ?_; rintro e w1 ⟨⟨ya, yc, rfl, hOL⟩, hr1, g1⟩; obtain ⟨hQ1, hO1⟩ := HMID.out w1 g1; have d5' := hQ1.c4; have hl1 := hQ1.lt; go_wp2_with fail)
          | (refine step_append_at rfl _ _ 33 rfl (pb + 1) 72 l0 _ 6 64 Tryz.underlying33 li lz0 lz1 lz2 rfl (by decide) (.slice la L.length lc) L.length (pcells L) rfl (World.ownsRow.alloc hO1.1 _) ⟨w1.heap.size, 0, none⟩ 1 1 [.int .i64 Op, .int .i64 To, .int .i64 A, .int .i64 B, .int .i64 K, .slice ya ls.length yc] rfl rfl (cell_six_new _ _ _ _ _ _ _ _) (by intro u hu; simp at hu; rcases hu with rfl | rfl | rfl | rfl | rfl | rfl <;> rfl) (by have := HLL.out; unfold maxLen; omega) (by have := HLL.out; omega) (by simp; omega) ?_; intro v' w9 hown9 hgrow9 hloc9; obtain ⟨a9, cap9, hv9⟩ := owns_slice hown9; subst hv9; have hQ9 := (hQ1.grown (row := none) (grown_alloc (World.grownBy.refl _ _) (.cells #[.int .i64 Op, .int .i64 To, .int .i64 A, .int .i64 B, .int .i64 K, .slice ya ls.length yc] 72)) (by simp)).grown hgrow9 (fun e => by have := HVL.out _ e.symm; omega); have e5 := hQ9.c4; have ez := hQ9.fz 4))
        all_goals
          obtain ⟨L', hL', hR⟩ := HSTEP.out w1 w9 _ _ _ _ g1 hr1 hOL hown9 hgrow9 hloc9
          have HR : Hid (_) := hR
          have HL' : Hid (_) := hL'
          clear hown9 hgrow9 hloc9 hQ1 hO1 hr1 g1 hQ9 hl hOL hR hL'
          go_wp2
          go_roundw
          case rel => exact ⟨k + 1, L', a9, cap9, by omega, by rw [HL'.out, HLL.out], Nat.le_of_not_lt HC9.out, by go_num, by rw [HL'.out]; exact HR.out⟩
          case measure => simp [intOf]; omega
    · have hke : k = n := by omega
      subst hke
      have hkI : ¬ (k : Int) < (k : Int) := by omega
      have hres := hR5.grown hS.grew hne
      obtain ⟨t0, t1, t2, t3, t4⟩ := hres.sets (.int .i64 q.W) (.int .i64 q.H) (.int .i64 q.S) (.int .i64 q.O) (.slice la L.length lc)
      have HFIN : Hid (ToldRF w b r (.returned (.agg #[.int .i64 q.W, .int .i64 q.H, .int .i64 q.S, .int .i64 q.O, .slice la L.length lc])) (set5 wr w.heap.size (.int .i64 q.W) (.int .i64 q.H) (.int .i64 q.S) (.int .i64 q.O) (.slice la L.length lc))) := by
        show ToldRF _ _ _ _ _
        have hlq : L.map Prod.fst = q.ps := by rw [hS.all, HPS.out]
        have hll : q.ps.length = L.length := by rw [← hlq, List.length_map]
        have hlt5 := HPB.out
        have hL : w.heap.size < pb + 1 := by omega
        unfold ToldRF
        rw [HQ.out, hll]
        refine ⟨grown_set (grown_set (grown_set (grown_set (grown_set (HG5.out.trans hS.grew) (Nat.le_refl _) _) (Nat.le_refl _) _) (Nat.le_refl _) _) (Nat.le_refl _) _) (Nat.le_refl _) _, .inl ⟨by rw [HST.out]; exact hfew, ⟨la, lc, L, rfl, ?_, hlq⟩, ?_⟩⟩
        · have X := ((((hS.own.setBelow (p := ⟨w.heap.size, 0, none⟩) hL (.int .i64 q.W)).setBelow (p := ⟨w.heap.size, 1, none⟩) hL (.int .i64 q.H)).setBelow (p := ⟨w.heap.size, 2, none⟩) hL (.int .i64 q.S)).setBelow (p := ⟨w.heap.size, 3, none⟩) hL (.int .i64 q.O)).setBelow (p := ⟨w.heap.size, 4, none⟩) hL (.slice la L.length lc)
          exact ⟨World.ownsRow.mono X.1 (by omega), fun x hx => (X.2 x hx).mono (by omega)⟩
        · rw [HST.out]
          have hb : ∀ i : Nat, (⟨w.heap.size, i, none⟩ : Addr) ≠ ⟨b, 0, none⟩ := fun i e => by injection e with e1 e2; omega
          refine ⟨?_, by simpa using hS.rd.fz, hS.rd.bytes, hS.rd.few⟩
          unfold set5
          rw [set_other _ (hb 4), set_other _ (hb 3), set_other _ (hb 2), set_other _ (hb 1), set_other _ (hb 0)]
          exact hS.rd.cell
      obtain ⟨v0, k0⟩ := hres.c 0 (by decide)
      obtain ⟨v1, k1⟩ := hres.c 1 (by decide)
      obtain ⟨v2, k2⟩ := hres.c 2 (by decide)
      obtain ⟨v3, k3⟩ := hres.c 3 (by decide)
      obtain ⟨v4, k4⟩ := hres.c 4 (by decide)
      have f0 := hres.fz 0
      have f1 := hres.fz 1
      have f2 := hres.fz 2
      have f3 := hres.fz 3
      have f4 := hres.fz 4
      obtain ⟨_, c0, c1, c2, c3, c4, _⟩ := hS.box
      clear hS
      go_wp2
      exact bodyPost_ret (v := .agg #[.int .i64 q.W, .int .i64 q.H, .int .i64 q.S, .int .i64 q.O, .slice la L.length lc]) (by simp [results, Tryz.results60, go_sem, t0, t1, t2, t3, t4]) rfl HFIN.out
end Go.Proofs.YtaenpgdmiaekcaaGreatDoor
/-
  WIRERD9: wire.rightFrame.
-/
namespace Go.Proofs.YtaenpgdmiaekcaaGreatDoor
set_option maxRecDepth 100000
open Go.RowKit Im

/-- These are the bytes of a right frame. -/
def readOk (r : List Int) : Prop := rdEnd r = r.length ∧ frameE (rdFrame r) = 0
/-- What rightFrame is told by. -/
def ToldRt (w : World) (r : List Int) (e : Ending) (w' : World) : Prop :=
  Below w.heap.size w w' ∧ ((readOk r ∧ ∃ a c L, e = .returned (.agg #[.int .i64 (rdFrame r).W, .int .i64 (rdFrame r).H, .int .i64 (rdFrame r).S, .int .i64 (rdFrame r).O, .slice a (rdFrame r).ps.length c]) ∧ RowP w.heap.size w' (.slice a (rdFrame r).ps.length c) L ∧ L.map Prod.fst = (rdFrame r).ps) ∨ (¬ readOk r ∧ e = rdStopped))
theorem grown_below {w w' : World} {b n : Nat} (h : w.grownBy w' (some b)) (hn : n ≤ w.heap.size) (hb : n ≤ b) : Below n w w' := (Below.refl n w).grown h hn (fun k hk => by injection hk with hk; omega)
theorem passes_few (r : List Int) (h : Bytes r) : (rdFrame r).ps.length ≤ 4096 := by
  have := h.at 4
  unfold rdFrame
  dsimp only
  rw [rdPasses_len]
  omega
theorem str_list (r : List Int) : (strOfNums r).toList = r.map fun n => UInt8.ofNat n.toNat := by rw [ByteArray.toList_eq, strOfNums_data]
theorem str_nil (r : List Int) : (strOfNums r).toList = [] ↔ r = [] := by rw [str_list]; simp
theorem str_inj {r s : List Int} (hr : Bytes r) (hs : Bytes s) (h : (strOfNums r).toList = (strOfNums s).toList) : r = s := by
  rw [str_list, str_list] at h
  have hl : r.length = s.length := by have := congrArg List.length h; simpa using this
  refine List.ext_getElem hl fun i h1 h2 => ?_
  have h3 : (r.map fun n => UInt8.ofNat n.toNat)[i]? = (s.map fun n => UInt8.ofNat n.toNat)[i]? := by rw [h]
  rw [List.getElem?_map, List.getElem?_map, List.getElem?_eq_getElem h1, List.getElem?_eq_getElem h2] at h3
  simp only [Option.map_some, Option.some.injEq] at h3
  have b1 := hr _ (List.getElem_mem h1)
  have b2 := hs _ (List.getElem_mem h2)
  have h4 := congrArg UInt8.toNat h3
  simp only [UInt8.toNat_ofNat'] at h4
  omega
set_option maxHeartbeats 4000000 in
theorem rightFrame_any {r : List Int} (hby : Bytes r) (hfew : r.length ≤ 4096) (w : World) :
    Calls Tryz.prog 29 #[.string (strOfNums r)] w (ToldRt w r) := by
  have hbx : Below w.heap.size w ((w.alloc (.cells #[.int .i64 0, .int .i64 0, .int .i64 0, .int .i64 0, .slice none 0 0] 35)).alloc (.cells #[.string (strOfNums r)] 118)) := below_box (below_box (Below.refl w.heap.size w) _) _
  have hR0 := (WBox5.new w (.int .i64 0) (.int .i64 0) (.int .i64 0) (.int .i64 0) (.slice none 0 0) 35).grown (row := none) (grown_alloc (World.grownBy.refl _ _) (.cells #[.string (strOfNums r)] 118)) (by simp)
  have h0 : RdB ((w.alloc (.cells #[.int .i64 0, .int .i64 0, .int .i64 0, .int .i64 0, .slice none 0 0] 35)).alloc (.cells #[.string (strOfNums r)] 118)) (w.heap.size + 1) r :=
    ⟨by simp [go_sem], by have := frozen_new (w.alloc (.cells #[.int .i64 0, .int .i64 0, .int .i64 0, .int .i64 0, .slice none 0 0] 35)) #[.string (strOfNums r)] 118 0; rw [World.size_alloc] at this; exact this, hby, hfew⟩
  have hrf := rdframe_any h0
  have hsz : w.heap.size + 2 ≤ ((w.alloc (.cells #[.int .i64 0, .int .i64 0, .int .i64 0, .int .i64 0, .slice none 0 0] 35)).alloc (.cells #[.string (strOfNums r)] 118)).heap.size := by simp
  go_enter Tryz.func29, Tryz.ntmps29
  go_wp2_with fail
  generalize (w.alloc (.cells #[.int .i64 0, .int .i64 0, .int .i64 0, .int .i64 0, .slice none 0 0] 35)).alloc (.cells #[.string (strOfNums r)] 118) = w0 at *
  refine hrf.mono ?_
  clear hrf
  rintro e w1 ⟨hg, ⟨hend, ⟨a, c, L, rfl, hL, hmap⟩, hrd⟩ | ⟨hend, rfl⟩⟩
  · have hb1 : Below w.heap.size w w1 := hbx.trans (grown_below hg hbx.size (by omega))
    have hR1 := hR0.grown hg (by simp)
    have HFW : Hid (_) := passes_few r hby
    have HOK : Hid (readOk r ↔ rdEnd r = r.length ∧ frameE (rdFrame r) = 0) := Iff.rfl
    have hTo : ∀ e w', Below w.heap.size w w' → ¬ readOk r → e = rdStopped → ToldRt w r e w' := fun e w' hb hn he => ⟨hb, .inr ⟨hn, he⟩⟩
    have HTO : Hid (_) := hTo
    clear hTo
    generalize hf : rdFrame r = f at *
    have HF : Hid (_) := hf
    clear hf
    obtain ⟨W, H, S, O, ps⟩ := f
    dsimp only at hL hmap ⊢
    have hlL : L.length ≤ 4096 := by
      have h1 := congrArg List.length hmap
      rw [List.length_map] at h1
      have h2 := HFW.out
      dsimp only at h2
      omega
    obtain ⟨a', c', e1, hP⟩ := hL.passes' hmap hlL
    injection e1 with e1 e2 e3
    subst e1 e3
    clear e2
    have hF0 := FBox.new w1 W H S O a ps.length c
    have hbA := (Below.refl w1.heap.size w1).alloc (Nat.le_refl _) (.cells #[.int .i64 W, .int .i64 H, .int .i64 S, .int .i64 O, .slice a ps.length c] 35)
    have hb2 := below_step hb1 hbA
    have hck := frameCheck_any W H S O a ps.length c ps _ (hP.below hbA)
    have hc0 := (hrd.alloc (.cells #[.int .i64 W, .int .i64 H, .int .i64 S, .int .i64 O, .slice a ps.length c] 35)).cell
    obtain ⟨_, g0, g1, g2, g3, g4⟩ := id hF0
    have hW5 := hR1.grown (row := none) (grown_alloc (World.grownBy.refl _ _) (.cells #[.int .i64 W, .int .i64 H, .int .i64 S, .int .i64 O, .slice a ps.length c] 35)) (by simp)
    have hLA := hL.grownO (grown_alloc (World.grownBy.refl w1 none) (.cells #[.int .i64 W, .int .i64 H, .int .i64 S, .int .i64 O, .slice a ps.length c] 35)) (fun k hk => by cases hk)
    have HLN : Hid (_) := str_nil (r.drop (rdEnd r))
    by_cases hd : r.drop (rdEnd r) = []
    · have hee : rdEnd r = r.length := by have := congrArg List.length hd; rw [List.length_drop] at this; simp at this; omega
      have q1 := HLN.out.2 hd
      have q2 : (strOfNums (r.drop (rdEnd r))).toList.isEmpty = true := by rw [q1]; rfl
      have HEE : Hid (_) := hee
      clear hd hee hend
      generalize strOfNums (r.drop (rdEnd r)) = ls at hc0 q1 q2
      clear HLN hrd
      go_wp2_with fail
      generalize w1.alloc (.cells #[.int .i64 W, .int .i64 H, .int .i64 S, .int .i64 O, .slice a ps.length c] 35) = w2 at *
      refine hck.mono ?_
      clear hck
      rintro e w3 ⟨rfl, b3⟩
      have hb3 := below_step hb2 b3
      by_cases hE : frameE ⟨W, H, S, O, ps⟩ = 0
      · have hW3 : WBox5 w3 w.heap.size := ⟨Nat.lt_of_lt_of_le hW5.lt b3.size, fun j hj => by obtain ⟨v, hv⟩ := hW5.c j hj; exact ⟨v, (b3.cell (p := ⟨w.heap.size, j, none⟩) hW5.lt).trans hv⟩, fun o => (b3.frozen (p := ⟨w.heap.size, o, none⟩) hW5.lt).trans (hW5.fz o)⟩
        obtain ⟨t0, t1, t2, t3, t4⟩ := hW3.sets (.int .i64 W) (.int .i64 H) (.int .i64 S) (.int .i64 O) (.slice a ps.length c)
        have hL3 := hLA.below b3
        have hx : w.heap.size < w0.heap.size + 1 := by omega
        have HFIN : Hid (ToldRt w r (.returned (.agg #[.int .i64 W, .int .i64 H, .int .i64 S, .int .i64 O, .slice a ps.length c])) (set5 w3 w.heap.size (.int .i64 W) (.int .i64 H) (.int .i64 S) (.int .i64 O) (.slice a ps.length c))) := by
          show ToldRt _ _ _ _
          unfold ToldRt
          rw [HF.out]
          refine ⟨((((hb3.setCell (Nat.le_refl _) _).setCell (Nat.le_refl _) _).setCell (Nat.le_refl _) _).setCell (Nat.le_refl _) _).setCell (Nat.le_refl _) _, .inl ⟨HOK.out.2 ⟨HEE.out, hE⟩, a, c, L, rfl, ?_, hmap⟩⟩
          have X := ((((hL3.setBelow (p := ⟨w.heap.size, 0, none⟩) hx (.int .i64 W)).setBelow (p := ⟨w.heap.size, 1, none⟩) hx (.int .i64 H)).setBelow (p := ⟨w.heap.size, 2, none⟩) hx (.int .i64 S)).setBelow (p := ⟨w.heap.size, 3, none⟩) hx (.int .i64 O)).setBelow (p := ⟨w.heap.size, 4, none⟩) hx (.slice a ps.length c)
          exact ⟨World.ownsRow.mono X.1 (by omega), fun x hx => (X.2 x hx).mono (by omega)⟩
        obtain ⟨_, d0, d1, d2, d3, d4⟩ := hF0.below b3
        obtain ⟨v0, k0⟩ := hW3.c 0 (by decide)
        obtain ⟨v1, k1⟩ := hW3.c 1 (by decide)
        obtain ⟨v2, k2⟩ := hW3.c 2 (by decide)
        obtain ⟨v3, k3⟩ := hW3.c 3 (by decide)
        obtain ⟨v4, k4⟩ := hW3.c 4 (by decide)
        have f0 := hW3.fz 0
        have f1 := hW3.fz 1
        have f2 := hW3.fz 2
        have f3 := hW3.fz 3
        have f4 := hW3.fz 4
        clear hL3 hLA hL hP hmap hR1 hW5 hF0 hR0 h0 g0 g1 g2 g3 g4 hc0
        go_wp2
        exact bodyPost_ret (v := .agg #[.int .i64 W, .int .i64 H, .int .i64 S, .int .i64 O, .slice a ps.length c]) (by simp [results, Tryz.results29, go_sem, t0, t1, t2, t3, t4]) rfl HFIN.out
      · have HFIN : Hid (ToldRt w r rdStopped w3) := HTO.out _ _ hb3 (fun h => hE (HOK.out.1 h).2) rfl
        go_wp2
        exact ⟨rfl, HFIN.out⟩
    · have q1 : ¬ (strOfNums (r.drop (rdEnd r))).toList = [] := fun h => hd (HLN.out.1 h)
      have q2 : (strOfNums (r.drop (rdEnd r))).toList.isEmpty = false := by
        cases hq : (strOfNums (r.drop (rdEnd r))).toList.isEmpty with
        | false => rfl
        | true => exact absurd (List.isEmpty_iff.1 hq) q1
      have HFIN : Hid (ToldRt w r rdStopped _) := HTO.out _ _ hb2 (fun h => hd (by rw [(HOK.out.1 h).1]; simp)) rfl
      clear hd
      generalize strOfNums (r.drop (rdEnd r)) = ls at hc0 q1 q2
      clear HLN hrd hck
      go_wp2
      exact ⟨rfl, HFIN.out⟩
  · exact ⟨rfl, hbx.trans (grown_below hg hbx.size (by omega)), .inr ⟨fun h => by have := h.1; omega, rfl⟩⟩
end Go.Proofs.YtaenpgdmiaekcaaGreatDoor
/-
  WIREREAD: wire.Read.
-/
namespace Go.Proofs.YtaenpgdmiaekcaaGreatDoor
set_option maxRecDepth 100000
open Go.RowKit Im

/-- What Read is told by, of bytes that are not too many. -/
def ToldRead (w : World) (r : List Int) (e : Ending) (w' : World) : Prop :=
  Below w.heap.size w w' ∧ ((readOk r ∧ ∃ a c L, e = .returned (.tuple #[.agg #[.int .i64 (rdFrame r).W, .int .i64 (rdFrame r).H, .int .i64 (rdFrame r).S, .int .i64 (rdFrame r).O, .slice a (rdFrame r).ps.length c], .int .i64 0]) ∧ RowP w.heap.size w' (.slice a (rdFrame r).ps.length c) L ∧ L.map Prod.fst = (rdFrame r).ps) ∨ (¬ readOk r ∧ e = .returned (.tuple #[.agg #[.int .i64 0, .int .i64 0, .int .i64 0, .int .i64 0, .slice none 0 0], .int .i64 1])))
/-- A box of one value that may be written. -/
structure WBox1 (w : World) (b : Nat) : Prop where
  lt : b < w.heap.size
  c : ∃ v, w.cell? ⟨b, 0, none⟩ = some v
  fz : w.frozen? ⟨b, 0, none⟩ = false
theorem WBox1.below {w w' : World} {b B : Nat} (h : WBox1 w b) (hb : Below B w w') (hB : b < B) (hs : w.heap.size ≤ w'.heap.size) : WBox1 w' b :=
  ⟨Nat.lt_of_lt_of_le h.lt hs, by obtain ⟨v, hv⟩ := h.c; exact ⟨v, (hb.cell (p := ⟨b, 0, none⟩) hB).trans hv⟩, (hb.frozen (p := ⟨b, 0, none⟩) hB).trans h.fz⟩
theorem WBox5.below {w w' : World} {b B : Nat} (h : WBox5 w b) (hb : Below B w w') (hB : b < B) (hs : w.heap.size ≤ w'.heap.size) : WBox5 w' b :=
  ⟨Nat.lt_of_lt_of_le h.lt hs, fun j hj => by obtain ⟨v, hv⟩ := h.c j hj; exact ⟨v, (hb.cell (p := ⟨b, j, none⟩) hB).trans hv⟩, fun o => (hb.frozen (p := ⟨b, o, none⟩) hB).trans (h.fz o)⟩
theorem read_catch (p q : Nat) (u : TypeId) (pv : Value) (older : List PanicEntry) (w : World) (hne : p ≠ q) (hp : WBox5 w p) (hq : WBox1 w q) :
    CallsD Tryz.prog 28 #[.pointer (some ⟨p, 0, none⟩), .pointer (some ⟨q, 0, none⟩)] (.panicking ({ v := .iface u pv, recovered := false } :: older)) w fun e u' w' =>
      e = .returned (.tuple #[]) ∧ u' = .panicking ({ v := .iface u pv, recovered := true } :: older) ∧ w' = (set5 w p (.int .i64 0) (.int .i64 0) (.int .i64 0) (.int .i64 0) (.slice none 0 0)).setCell ⟨q, 0, none⟩ (.int .i64 1) := by
  obtain ⟨v0, k0⟩ := hp.c 0 (by decide)
  obtain ⟨v1, k1⟩ := hp.c 1 (by decide)
  obtain ⟨v2, k2⟩ := hp.c 2 (by decide)
  obtain ⟨v3, k3⟩ := hp.c 3 (by decide)
  obtain ⟨v4, k4⟩ := hp.c 4 (by decide)
  obtain ⟨u0, c0⟩ := hq.c
  have f0 := hp.fz 0
  have f1 := hp.fz 1
  have f2 := hp.fz 2
  have f3 := hp.fz 3
  have f4 := hp.fz 4
  have fq := hq.fz
  refine callsD_of_wpS Tryz.func28 rfl fun c₀ cs hu => ?_
  apply wpS_seq
  apply wpS_region
  simp [wpOpsS, go_sem, recoverD, hu, Tryz.ntmps28, Exit.thenS]
  refine wpS_cond (t := true) (by simp [Act.eval, Array.replicate]) ?_
  simp only [if_true]
  apply wpS_region
  simp [wpOpsS, go_sem, *, bodyPostS, results, Tryz.results28]
theorem read_idle (p q : Addr) (w : World) :
    CallsD Tryz.prog 28 #[.pointer (some p), .pointer (some q)] .returning w fun e u' w' => e = .returned (.tuple #[]) ∧ u' = .returning ∧ w' = w := by
  refine callsD_of_wpS Tryz.func28 rfl fun c₀ cs hu => ?_
  apply wpS_seq
  apply wpS_region
  simp [wpOpsS, go_sem, recoverD, hu, Tryz.ntmps28, Exit.thenS]
  refine wpS_cond (t := false) (by simp [Act.eval, Array.replicate]) ?_
  simp only [Bool.false_eq_true, if_false]
  refine wpS_of_wp (wp_skip ?_)
  cases c₀
  simp_all [bodyPostS, results, Tryz.results28]
set_option maxHeartbeats 2000000 in
theorem read_many {s : ByteArray} (hs : 2048 < s.size) (w : World) :
    Calls Tryz.prog 11 #[.string s] w fun e w' => e = .returned (.tuple #[.agg #[.int .i64 0, .int .i64 0, .int .i64 0, .int .i64 0, .slice none 0 0], .int .i64 2]) ∧ Below w.heap.size w w' := by
  have hI : (2048 : Int) < (s.size : Int) := by omega
  have hb := below_box (below_box (Below.refl w.heap.size w) (.cells #[.int .i64 0, .int .i64 0, .int .i64 0, .int .i64 0, .slice none 0 0] 35)) (.cells #[.int .i64 2] 25)
  go_enter_defers Tryz.func11, Tryz.ntmps11
  go_wp2
  exact ⟨_, by simp [results, Tryz.results11, go_sem], rfl, hb⟩
set_option maxHeartbeats 4000000 in
theorem read_any {r : List Int} (hby : Bytes r) (hfew : r.length ≤ 2048) (w : World) :
    Calls Tryz.prog 11 #[.string (strOfNums r)] w (ToldRead w r) := by
  have hmf : ∀ (fn : Fn) (first cap : Array Value) (w : World), (Instr.makeFunc fn first cap).run Tryz.prog w = .ok (.func fn first cap) w := fun _ _ _ _ => rfl
  have hsz : (strOfNums r).size = r.length := strOfNums_size r
  have hI : ¬ (2048 : Int) < (r.length : Int) := by omega
  have hb0 := below_box (below_box (Below.refl w.heap.size w) (.cells #[.int .i64 0, .int .i64 0, .int .i64 0, .int .i64 0, .slice none 0 0] 35)) (.cells #[.int .i64 0] 25)
  have hP0 := (WBox5.new w (.int .i64 0) (.int .i64 0) (.int .i64 0) (.int .i64 0) (.slice none 0 0) 35).grown (row := none) (grown_alloc (World.grownBy.refl _ _) (.cells #[.int .i64 0] 25)) (by simp)
  have hQ0 : WBox1 ((w.alloc (.cells #[.int .i64 0, .int .i64 0, .int .i64 0, .int .i64 0, .slice none 0 0] 35)).alloc (.cells #[.int .i64 0] 25)) (w.heap.size + 1) :=
    ⟨by simp, ⟨.int .i64 0, by simp [go_sem]⟩, by have := frozen_new (w.alloc (.cells #[.int .i64 0, .int .i64 0, .int .i64 0, .int .i64 0, .slice none 0 0] 35)) #[.int .i64 0] 25 0; rw [World.size_alloc] at this; exact this⟩
  have hrt := rightFrame_any hby (by omega) ((w.alloc (.cells #[.int .i64 0, .int .i64 0, .int .i64 0, .int .i64 0, .slice none 0 0] 35)).alloc (.cells #[.int .i64 0] 25))
  have hs2 : w.heap.size + 2 ≤ ((w.alloc (.cells #[.int .i64 0, .int .i64 0, .int .i64 0, .int .i64 0, .slice none 0 0] 35)).alloc (.cells #[.int .i64 0] 25)).heap.size := by simp
  go_enter_defers Tryz.func11, Tryz.ntmps11
  go_wp2_with fail
  generalize (w.alloc (.cells #[.int .i64 0, .int .i64 0, .int .i64 0, .int .i64 0, .slice none 0 0] 35)).alloc (.cells #[.int .i64 0] 25) = w0 at *
  refine hrt.mono ?_
  clear hrt
  rintro e w1 ⟨b1, ⟨hok, a, c, L, rfl, hL, hmap⟩ | ⟨hok, rfl⟩⟩
  · have hP1 := hP0.below b1 hP0.lt b1.size
    have hQ1 := hQ0.below b1 hQ0.lt b1.size
    obtain ⟨v0, k0⟩ := hP1.c 0 (by decide)
    obtain ⟨v1, k1⟩ := hP1.c 1 (by decide)
    obtain ⟨v2, k2⟩ := hP1.c 2 (by decide)
    obtain ⟨v3, k3⟩ := hP1.c 3 (by decide)
    obtain ⟨v4, k4⟩ := hP1.c 4 (by decide)
    obtain ⟨u0, c0⟩ := hQ1.c
    have f0 := hP1.fz 0
    have f1 := hP1.fz 1
    have f2 := hP1.fz 2
    have f3 := hP1.fz 3
    have f4 := hP1.fz 4
    have fq := hQ1.fz
    obtain ⟨t0, t1, t2, t3, t4⟩ := hP1.sets (.int .i64 (rdFrame r).W) (.int .i64 (rdFrame r).H) (.int .i64 (rdFrame r).S) (.int .i64 (rdFrame r).O) (.slice a (rdFrame r).ps.length c)
    have hne : ∀ j, (⟨w.heap.size + 1, 0, none⟩ : Addr) ≠ ⟨w.heap.size, j, none⟩ := fun j e => by injection e with e; omega
    have tq : ((set5 w1 w.heap.size (.int .i64 (rdFrame r).W) (.int .i64 (rdFrame r).H) (.int .i64 (rdFrame r).S) (.int .i64 (rdFrame r).O) (.slice a (rdFrame r).ps.length c)).setCell ⟨w.heap.size + 1, 0, none⟩ (.int .i64 0)).cell? ⟨w.heap.size + 1, 0, none⟩ = some (.int .i64 0) := set_same (by
      unfold set5
      rw [set_other _ (hne 4).symm, set_other _ (hne 3).symm, set_other _ (hne 2).symm, set_other _ (hne 1).symm, set_other _ (hne 0).symm]
      exact c0)
    have s0 := (set_other (.int .i64 0) (hne 0)).trans t0
    have s1 := (set_other (.int .i64 0) (hne 1)).trans t1
    have s2 := (set_other (.int .i64 0) (hne 2)).trans t2
    have s3 := (set_other (.int .i64 0) (hne 3)).trans t3
    have s4 := (set_other (.int .i64 0) (hne 4)).trans t4
    have HFIN : Hid (ToldRead w r (.returned (.tuple #[.agg #[.int .i64 (rdFrame r).W, .int .i64 (rdFrame r).H, .int .i64 (rdFrame r).S, .int .i64 (rdFrame r).O, .slice a (rdFrame r).ps.length c], .int .i64 0])) ((set5 w1 w.heap.size (.int .i64 (rdFrame r).W) (.int .i64 (rdFrame r).H) (.int .i64 (rdFrame r).S) (.int .i64 (rdFrame r).O) (.slice a (rdFrame r).ps.length c)).setCell ⟨w.heap.size + 1, 0, none⟩ (.int .i64 0))) := by
      show ToldRead _ _ _ _
      have hx : w.heap.size < w0.heap.size := by omega
      have hx1 : w.heap.size + 1 < w0.heap.size := by omega
      have X := (((((hL.setBelow (p := ⟨w.heap.size, 0, none⟩) hx (.int .i64 (rdFrame r).W)).setBelow (p := ⟨w.heap.size, 1, none⟩) hx (.int .i64 (rdFrame r).H)).setBelow (p := ⟨w.heap.size, 2, none⟩) hx (.int .i64 (rdFrame r).S)).setBelow (p := ⟨w.heap.size, 3, none⟩) hx (.int .i64 (rdFrame r).O)).setBelow (p := ⟨w.heap.size, 4, none⟩) hx (.slice a (rdFrame r).ps.length c)).setBelow (p := ⟨w.heap.size + 1, 0, none⟩) hx1 (.int .i64 0)
      exact ⟨((((((below_step hb0 b1).setCell (p := ⟨w.heap.size, 0, none⟩) (Nat.le_refl _) _).setCell (p := ⟨w.heap.size, 1, none⟩) (Nat.le_refl _) _).setCell (p := ⟨w.heap.size, 2, none⟩) (Nat.le_refl _) _).setCell (p := ⟨w.heap.size, 3, none⟩) (Nat.le_refl _) _).setCell (p := ⟨w.heap.size, 4, none⟩) (Nat.le_refl _) _).setCell (p := ⟨w.heap.size + 1, 0, none⟩) (Nat.le_succ _) _, .inl ⟨hok, a, c, L, rfl, ⟨World.ownsRow.mono X.1 (by omega), fun x hx => (X.2 x hx).mono (by omega)⟩, hmap⟩⟩
    clear hL hmap hP1 hQ1 hP0 hQ0 t0 t1 t2 t3 t4 hne
    generalize rdFrame r = f at *
    go_wp2
    refine leaves_cons (f := 28) (args := #[.pointer (some ⟨w.heap.size, 0, none⟩), .pointer (some ⟨w.heap.size + 1, 0, none⟩)]) (by simp) (by simp [go_sem]) ?_
    refine (read_idle _ _ _).mono ?_
    rintro e u' w'' ⟨rfl, rfl, rfl⟩
    exact ⟨_, by simp [results, Tryz.results11, go_sem, s0, s1, s2, s3, s4, tq], HFIN.out⟩
  · have hP1 := hP0.below b1 hP0.lt b1.size
    have hQ1 := hQ0.below b1 hQ0.lt b1.size
    obtain ⟨t0, t1, t2, t3, t4⟩ := hP1.sets (.int .i64 0) (.int .i64 0) (.int .i64 0) (.int .i64 0) (.slice none 0 0)
    have hne : ∀ j, (⟨w.heap.size + 1, 0, none⟩ : Addr) ≠ ⟨w.heap.size, j, none⟩ := fun j e => by injection e with e; omega
    obtain ⟨u0, c0⟩ := hQ1.c
    have tq : ((set5 w1 w.heap.size (.int .i64 0) (.int .i64 0) (.int .i64 0) (.int .i64 0) (.slice none 0 0)).setCell ⟨w.heap.size + 1, 0, none⟩ (.int .i64 1)).cell? ⟨w.heap.size + 1, 0, none⟩ = some (.int .i64 1) := set_same (by
      unfold set5
      rw [set_other _ (hne 4).symm, set_other _ (hne 3).symm, set_other _ (hne 2).symm, set_other _ (hne 1).symm, set_other _ (hne 0).symm]
      exact c0)
    have s0 := (set_other (.int .i64 1) (hne 0)).trans t0
    have s1 := (set_other (.int .i64 1) (hne 1)).trans t1
    have s2 := (set_other (.int .i64 1) (hne 2)).trans t2
    have s3 := (set_other (.int .i64 1) (hne 3)).trans t3
    have s4 := (set_other (.int .i64 1) (hne 4)).trans t4
    have HB : Hid (_) := ((((((below_step hb0 b1).setCell (p := ⟨w.heap.size, 0, none⟩) (Nat.le_refl _) (.int .i64 0)).setCell (p := ⟨w.heap.size, 1, none⟩) (Nat.le_refl _) (.int .i64 0)).setCell (p := ⟨w.heap.size, 2, none⟩) (Nat.le_refl _) (.int .i64 0)).setCell (p := ⟨w.heap.size, 3, none⟩) (Nat.le_refl _) (.int .i64 0)).setCell (p := ⟨w.heap.size, 4, none⟩) (Nat.le_refl _) (.slice none 0 0)).setCell (p := ⟨w.heap.size + 1, 0, none⟩) (Nat.le_succ _) (.int .i64 1)
    refine leaves_cons (f := 28) (args := #[.pointer (some ⟨w.heap.size, 0, none⟩), .pointer (some ⟨w.heap.size + 1, 0, none⟩)]) (by simp) (by simp [go_sem]) ?_
    refine (read_catch w.heap.size (w.heap.size + 1) _ _ [] w1 (by omega) hP1 hQ1).mono ?_
    rintro e u' w'' ⟨rfl, rfl, rfl⟩
    simp [Leaves, settle, results, Tryz.results11, go_sem, s0, s1, s2, s3, s4, tq]
    exact ⟨HB.out, .inr ⟨hok, rfl⟩⟩
end Go.Proofs.YtaenpgdmiaekcaaGreatDoor
/-
  WIREEYE: the reference's eye.
-/
namespace Go.Proofs.YtaenpgdmiaekcaaGreatDoor
set_option maxRecDepth 100000
open Go.RowKit Im

set_option maxHeartbeats 2000000 in
theorem byte_any {b : Nat} {w : World} {r : List Int} (h : RdB w b r) :
    Calls Tryz.prog 49 #[.pointer (some ⟨b, 0, none⟩)] w fun e w' => e = .returned (.int .i64 (r.getD 0 0)) ∧ RdB w' b (r.drop 1) ∧ w.grownBy w' (some b) := by
  have hc := h.cell
  have hf := h.fz
  have hsz : (strOfNums r).size = r.length := strOfNums_size r
  by_cases hr : r = []
  · subst hr
    have q1 : (strOfNums []).toList = [] := (str_nil []).2 rfl
    have q2 : (strOfNums []).toList.isEmpty = true := by rw [q1]; rfl
    have HX : Hid (RdB w b ([].drop 1)) := h
    clear h hsz
    generalize strOfNums [] = s at *
    go_enter Tryz.func49, Tryz.ntmps49
    go_wp2
    go_ret
    exact ⟨rfl, HX.out, World.grownBy.refl _ _⟩
  · have q1 : ¬ (strOfNums r).toList = [] := fun e => hr ((str_nil r).1 e)
    have q2 : (strOfNums r).toList.isEmpty = false := by
      cases hq : (strOfNums r).toList.isEmpty with
      | false => rfl
      | true => exact absurd (List.isEmpty_iff.1 hq) q1
    have hlen : 0 < r.length := List.length_pos_iff.2 hr
    have hI : (0 : Int) < (r.length : Int) := by omega
    have hI1 : (1 : Int) ≤ (r.length : Int) := by omega
    have hs0 : 0 < (strOfNums r).size := by omega
    have HAT : Hid ((((strOfNums r)[0]'hs0).toNat : Int) = r.getD 0 0) := str_at h.bytes hs0
    have hbt := h.bytes.at 0
    have hwr : wrap64 (((strOfNums r)[0]'hs0).toNat : Int) = r.getD 0 0 := by rw [HAT.out]; unfold wrap64; omega
    have HCUT : Hid ((strOfNums r).extract 1 r.length = strOfNums (r.drop 1)) := by show _ = _; rw [← hsz]; exact str_cut r 1
    have HP : Hid (_) := h.put 1
    clear h hbt hr
    go_enter Tryz.func49, Tryz.ntmps49
    go_wp2
    go_ret
    rw [HCUT.out, hwr]
    exact ⟨rfl, HP.out, grownBy_setCell' w b _⟩
end Go.Proofs.YtaenpgdmiaekcaaGreatDoor
