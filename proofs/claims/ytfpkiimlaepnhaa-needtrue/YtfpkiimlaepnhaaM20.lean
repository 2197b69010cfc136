/- NeedPut, LawTrue2, Open, OpenL, OpenF: joined, in this order. -/
import Derived.Test.YtfpkiimlaepnhaaM19
import Derived.Test.YtfpkiimlaepnhaaM17
import Derived.Test.YtfpkiimlaepnhaaM10
import Derived.Test.YtfpkiimlaepnhaaM01
import Derived.ProofKit
import Derived.OpenShut
import Derived.ShutString
import Derived.ChangeOld
import Derived.Below
import Derived.Lib.SmallJoins
import Derived.Deep.Slices
import Derived.Test.YtfpkiimlaepnhaaM05
/-
  NEEDPUT: a number is written into a row of passes that is one's own.
-/
namespace Go.Proofs.Ytfpkiimlaepnhaa
set_option maxRecDepth 100000
open Go.RowKit Im

theorem Lx.lightsPut {base : Nat} {w : World} {g n cap o : Nat} {x : Ps × Option Addr × Nat} (h : Lx base w (.slice (some ⟨g, 0, none⟩) n cap) x) (u : Value) : Lights (w.setCell ⟨g, o, none⟩ u) x.2.1 x.1.ls.length x.1.ls := by
  obtain ⟨h0, h1⟩ := h
  refine ⟨rfl, h0, ?_⟩
  rcases h1 with h1 | ⟨b, off, ha, hB, hb, hv, hc⟩
  · exact .inl h1
  · have hg : g ≠ b := fun e => hv (by rw [e]; rfl)
    have hn : ∀ o', (⟨g, o, none⟩ : Addr) ≠ ⟨b, o', none⟩ := fun o' e => hg (by injection e)
    refine .inr ⟨b, off, ha, by simpa using hb, fun j hj => ?_⟩
    obtain ⟨c0, c1, c2, c3⟩ := hc j hj
    exact ⟨(set_other _ (hn _)).trans c0, (set_other _ (hn _)).trans c1, (set_other _ (hn _)).trans c2, (set_other _ (hn _)).trans c3⟩
theorem RowP.putK {base : Nat} {w : World} {v : Value} {L : Lp} {ps : List Ps} (h : RowP base w v L) (he : L.map Prod.fst = ps) (hb : L.length ≤ 12) {x : Nat} (hx : x < ps.length) (k : Int) :
    ∃ b cap, v = .slice (some ⟨b, 0, none⟩) ps.length cap ∧ base ≤ b ∧ b < w.heap.size ∧ w.frozen? ⟨b, x * 6 + 4, none⟩ = false ∧ w.cell? ⟨b, x * 6 + 4, none⟩ = some (.int .i64 (ps.getD x Ps.zero).K) ∧ Passes (w.setCell ⟨b, x * 6 + 4, none⟩ (.int .i64 k)) (some ⟨b, 0, none⟩) ps.length (ps.set x { ps.getD x Ps.zero with K := k }) := by
  have hrl : ps.length = L.length := by rw [← he]; simp
  obtain ⟨⟨h1, h2⟩, hL⟩ := h
  rcases h2 with ⟨rfl, h0⟩ | ⟨g, cap, cur, rfl, hg, hh, hc, hm, hs, ht⟩
  · have : L = [] := by simpa using h0
    subst this
    rw [hrl] at hx
    simp at hx
  · have hlt : g < w.heap.size := by
      rcases Nat.lt_or_ge g w.heap.size with h | h
      · exact h
      · rw [Array.getElem?_eq_none h] at hh; cases hh
    have hl := pcells_len L
    have this := fun i hi => World.ownsRow.cellAt (base := base) (e := 88) (size := 6) ⟨h1, .inr ⟨g, cap, cur, rfl, hg, hh, hc, hm, hs, ht⟩⟩ i hi
    have hne : ∀ {i j : Nat}, i ≠ j → (⟨g, i, none⟩ : Addr) ≠ ⟨g, j, none⟩ := fun h e => h (by injection e)
    have hcx : w.cell? ⟨g, x * 6 + 4, none⟩ = some (.int .i64 (ps.getD x Ps.zero).K) := by
      obtain ⟨k0, k1, k2, k3, k4, k5⟩ := pcells_get L x (by omega)
      rw [mapP_getD he x, this _ (by omega)]; exact k4
    refine ⟨g, cap, by rw [hrl], hg, hlt, by simp [World.frozen?, hh], hcx, by simp, by omega, .inr ⟨g, 0, rfl, by simpa using hlt, fun j hj => ?_⟩⟩
    obtain ⟨k0, k1, k2, k3, k4, k5⟩ := pcells_get L j (by omega)
    have hLj := hL _ (getD_mem (show j < L.length by omega) lp0)
    have hq : ∀ {a : Int → Prop}, a (if x = j then k else (L.getD j lp0).1.K) → a (((ps.set x { ps.getD x Ps.zero with K := k }).getD j Ps.zero).K) := fun {a} ha => by
      rw [List.getD_eq_getElem?_getD, List.getElem?_set]
      by_cases hxj : x = j
      · subst hxj; rw [if_pos rfl, if_pos hx]; rw [if_pos rfl] at ha; exact ha
      · rw [if_neg hxj, ← List.getD_eq_getElem?_getD, mapP_getD he j]; rw [if_neg hxj] at ha; exact ha
    have hs : ∃ q : Ps, (ps.set x { ps.getD x Ps.zero with K := k }).getD j Ps.zero = { (L.getD j lp0).1 with K := q.K } := by
      rw [List.getD_eq_getElem?_getD, List.getElem?_set]
      by_cases hxj : x = j
      · subst hxj; rw [if_pos rfl, if_pos hx]; exact ⟨{ Ps.zero with K := k }, by show _ = _; rw [← mapP_getD he]; rfl⟩
      · rw [if_neg hxj, ← List.getD_eq_getElem?_getD, mapP_getD he j]; exact ⟨(L.getD j lp0).1, rfl⟩
    obtain ⟨q, hqs⟩ := hs
    have eK := @hq (fun K => K = if x = j then k else (L.getD j lp0).1.K) rfl
    refine ⟨(L.getD j lp0).2.1, (L.getD j lp0).1.ls.length, (L.getD j lp0).2.2, ?_, ?_, ?_, ?_, ?_, ?_, by rw [hqs]; exact hLj.lightsPut _⟩
    · rw [hqs, Nat.zero_add]; exact (set_other _ (hne (by omega))).trans (by rw [this _ (by omega)]; exact k0)
    · rw [hqs, Nat.zero_add]; exact (set_other _ (hne (by omega))).trans (by rw [this _ (by omega)]; exact k1)
    · rw [hqs, Nat.zero_add]; exact (set_other _ (hne (by omega))).trans (by rw [this _ (by omega)]; exact k2)
    · rw [hqs, Nat.zero_add]; exact (set_other _ (hne (by omega))).trans (by rw [this _ (by omega)]; exact k3)
    · rw [eK, Nat.zero_add]
      by_cases hxj : x = j
      · subst hxj; rw [if_pos rfl]; exact set_same hcx
      · rw [if_neg hxj]; exact (set_other _ (hne (by omega))).trans (by rw [this _ (by omega)]; exact k4)
    · rw [Nat.zero_add]; exact (set_other _ (hne (by omega))).trans (by rw [this _ (by omega)]; exact k5)
end Go.Proofs.Ytfpkiimlaepnhaa
/-
  LAWTRUE2: the walk of NeedTrue.
-/
namespace Go.Proofs.Ytfpkiimlaepnhaa
set_option maxRecDepth 100000
open Go.RowKit Im

set_option maxHeartbeats 4000000 in
theorem needTrue_err (W H S O : Int) (a : Option Addr) (len cap : Nat) (ps : List Ps) (n k : Int) (w : World) (hp : Passes w a len ps) (hE : frameE ⟨W, H, S, O, ps⟩ ≠ 0) :
    Calls Try.prog 14 #[.agg #[.int .i64 W, .int .i64 H, .int .i64 S, .int .i64 O, .slice a len cap], .int .i64 n, .int .i64 k] w fun e w' => e = .returned (.bool true) ∧ Below w.heap.size w w' := by
  have hb0 := below_box (Below.refl w.heap.size w) (.cells #[.int .i64 W, .int .i64 H, .int .i64 S, .int .i64 O, .slice a len cap] 63)
  have hB := FBox.new w W H S O a len cap
  have hre := fun wx hp => render_any W H S O a len cap ps wx hp
  have hp0 := hp.below hb0
  have HRE : Hid (_) := render_E ⟨W, H, S, O, ps⟩
  clear hp
  generalize renderP ⟨W, H, S, O, ps⟩ = r at *
  have hE' : (frameE ⟨W, H, S, O, ps⟩ == 0) = false := by simpa using hE
  generalize frameE ⟨W, H, S, O, ps⟩ = E at *
  go_enter Try.func14, Try.ntmps14
  go_wp2_with fail
  refine (hre _ hp0).mono ?_
  rintro e w1 ⟨ra, rc, rfl, hri, bel1⟩
  rw [HRE.out]
  have bA := (Below.refl w1.heap.size w1).alloc (Nat.le_refl _) (.cells #[.int .i64 r.W, .int .i64 r.H, .slice ra r.ps.length rc] 24)
  have hb1 := below_step (below_step hb0 bel1) bA
  clear hp0 hB hb0 bel1 hre bA hri
  go_upto_region 2 with fail
  generalize w1.alloc (.cells #[.int .i64 r.W, .int .i64 r.H, .slice ra r.ps.length rc] 24) = w2 at *
  go_wp2_with fail
  refine (needBegun_any _).mono ?_
  rintro e w3 ⟨rfl, b3⟩
  go_wp2
  go_ret
  exact ⟨rfl, below_step hb1 b3⟩
/-- An image in a block of its own. -/
structure MBox (w : World) (b : Nat) (W H : Int) (v : Value) : Prop where
  lt : b < w.heap.size
  c0 : w.cell? ⟨b, 0, none⟩ = some (.int .i64 W)
  c1 : w.cell? ⟨b, 1, none⟩ = some (.int .i64 H)
  c2 : w.cell? ⟨b, 2, none⟩ = some v
theorem MBox.new (w : World) (W H : Int) (v : Value) : MBox (w.alloc (.cells #[.int .i64 W, .int .i64 H, v] 24)) w.heap.size W H v :=
  ⟨by simp, by simp [go_sem], by simp [go_sem], by simp [go_sem]⟩
theorem MBox.below {w w' : World} {b : Nat} {W H : Int} {v : Value} (h : MBox w b W H v) (hb : Below w.heap.size w w') : MBox w' b W H v :=
  ⟨Nat.lt_of_lt_of_le h.lt hb.size, (hb.cell (p := ⟨b, 0, none⟩) h.lt).trans h.c0, (hb.cell (p := ⟨b, 1, none⟩) h.lt).trans h.c1, (hb.cell (p := ⟨b, 2, none⟩) h.lt).trans h.c2⟩
theorem MBox.set {w : World} {b : Nat} {W H : Int} {v : Value} (h : MBox w b W H v) {p : Addr} (hp : p.block ≠ b) (u : Value) : MBox (w.setCell p u) b W H v := by
  have hn : ∀ o, p ≠ (⟨b, o, none⟩ : Addr) := fun o e => hp (by rw [e])
  exact ⟨by simpa using h.lt, (set_other _ (hn _)).trans h.c0, (set_other _ (hn _)).trans h.c1, (set_other _ (hn _)).trans h.c2⟩
/-- The cells of the five boxes. -/
theorem keepFive {wL w' : World} {bf bC bD bM bN : Nat} {W H S O W1 H1 W2 H2 : Int} {a ca da : Option Addr} {len cap cl cc dl dc : Nat} {vm vn : Value} (hb : Below wL.heap.size wL w') (hF : FBox wL bf W H S O a len cap) (hC : FBox wL bC W H S O ca cl cc) (hD : FBox wL bD W H S O da dl dc) (hM : MBox wL bM W1 H1 vm) (hN : MBox wL bN W2 H2 vn) :
    Below wL.heap.size wL w' ∧ w'.cell? ⟨bf, 4, none⟩ = some (.slice a len cap) ∧ w'.cell? ⟨bC, 0, none⟩ = some (.int .i64 W) ∧ w'.cell? ⟨bC, 1, none⟩ = some (.int .i64 H) ∧ w'.cell? ⟨bC, 2, none⟩ = some (.int .i64 S) ∧ w'.cell? ⟨bC, 3, none⟩ = some (.int .i64 O) ∧ w'.cell? ⟨bC, 4, none⟩ = some (.slice ca cl cc) ∧ w'.cell? ⟨bD, 0, none⟩ = some (.int .i64 W) ∧ w'.cell? ⟨bD, 1, none⟩ = some (.int .i64 H) ∧ w'.cell? ⟨bD, 2, none⟩ = some (.int .i64 S) ∧ w'.cell? ⟨bD, 3, none⟩ = some (.int .i64 O) ∧ w'.cell? ⟨bD, 4, none⟩ = some (.slice da dl dc) ∧ w'.cell? ⟨bM, 0, none⟩ = some (.int .i64 W1) ∧ w'.cell? ⟨bM, 1, none⟩ = some (.int .i64 H1) ∧ w'.cell? ⟨bM, 2, none⟩ = some vm ∧ w'.cell? ⟨bN, 0, none⟩ = some (.int .i64 W2) ∧ w'.cell? ⟨bN, 1, none⟩ = some (.int .i64 H2) ∧ w'.cell? ⟨bN, 2, none⟩ = some vn := by
  obtain ⟨_, _, _, _, _, f4⟩ := hF.below hb
  obtain ⟨_, c0, c1, c2, c3, c4⟩ := hC.below hb
  obtain ⟨_, d0, d1, d2, d3, d4⟩ := hD.below hb
  obtain ⟨_, m0, m1, m2⟩ := hM.below hb
  obtain ⟨_, n0, n1, n2⟩ := hN.below hb
  exact ⟨hb, f4, c0, c1, c2, c3, c4, d0, d1, d2, d3, d4, m0, m1, m2, n0, n1, n2⟩
set_option maxHeartbeats 8000000 in
theorem needTrue_ok (W H S O : Int) (a : Option Addr) (len cap : Nat) (ps : List Ps) (n k : Int) (w : World) (hp : Passes w a len ps) (hn0 : -9223372036854775808 ≤ n) (hn1 : n ≤ 9223372036854775807) (hE : frameE ⟨W, H, S, O, ps⟩ = 0) :
    Calls Try.prog 14 #[.agg #[.int .i64 W, .int .i64 H, .int .i64 S, .int .i64 O, .slice a len cap], .int .i64 n, .int .i64 k] w fun e w' => e = .returned (.bool true) ∧ Below w.heap.size w w' := by
  obtain rfl := hp.leng
  have hL := (boundsE_zero (frameE_zero hE).1).2.2.2.2
  dsimp only at hL
  have hb0 := below_box (Below.refl w.heap.size w) (.cells #[.int .i64 W, .int .i64 H, .int .i64 S, .int .i64 O, .slice a ps.length cap] 63)
  have hB := FBox.new w W H S O a ps.length cap
  have hre := fun wx hp => render_any W H S O a ps.length cap ps wx hp
  have hke := fun wx hp => kept_any W H S O a ps.length cap ps wx hp
  have hcu := fun wx hp => cull_any W H S O a ps.length cap ps wx hp
  have how := fun wx hp => ownFrame_any W H S O a ps.length cap ps wx hp hE
  have hp0 := hp.below hb0
  obtain ⟨hcE, hcR, hcC⟩ := cull_same hE
  have HRE : Hid (_) := (render_E ⟨W, H, S, O, ps⟩).trans hE
  have HSK : Hid (_) := fun x hx => setK_shows hE (x := x) hx k
  have HRK : Hid (_) := fun x => render_E (setK ⟨W, H, S, O, ps⟩ x k)
  obtain ⟨cs, hcs⟩ : ∃ cs, cs = culled ⟨W, H, S, O, ps⟩ := ⟨_, rfl⟩
  have ecut : cutF ⟨W, H, S, O, ps⟩ (marks ⟨W, H, S, O, ps⟩) = ⟨W, H, S, O, cs⟩ := by rw [hcs]; rfl
  rw [ecut] at hcE hcR hcC
  rw [← hcs] at hcC
  have hrc := fun ca cc wx hp => render_any W H S O ca cs.length cc cs wx hp
  have hcc := fun ca cc wx hp => cull_any W H S O ca cs.length cc cs wx hp
  unfold ToldCull at hcc hcu
  rw [hcR] at hrc
  simp only [hcE, hcC, true_and, ne_eq, not_true_eq_false, false_and, or_false] at hcc
  simp only [hE, ← hcs, true_and, ne_eq, not_true_eq_false, false_and, or_false] at hcu
  unfold ToldKept at hke
  simp only [hE, true_and, ne_eq, not_true_eq_false, false_and, or_false] at hke
  have HLE : Hid (_) := hL
  clear hp hcs ecut hcE hcR hcC hL
  generalize renderP ⟨W, H, S, O, ps⟩ = r at *
  change ∀ wx hp, Calls _ _ _ _ (fun e w' => (∃ b, _ ∧ _ ∧ Bl w' b ps.length (marks ⟨W, H, S, O, ps⟩)) ∧ _) at hke
  generalize marks ⟨W, H, S, O, ps⟩ = g at *
  go_enter Try.func14, Try.ntmps14
  go_wp2_with fail
  refine (hre _ hp0).mono ?_
  rintro e w1 ⟨ra, rc, rfl, hri, bel1⟩
  rw [HRE.out]
  have bA := (Below.refl w1.heap.size w1).alloc (Nat.le_refl _) (.cells #[.int .i64 r.W, .int .i64 r.H, .slice ra r.ps.length rc] 24)
  have hb1 := below_step (below_step hb0 bel1) bA
  have hp1 := (hp0.below bel1).below bA
  have hB1 := (hB.below bel1).below bA
  have hM1 := MBox.new w1 r.W r.H (.slice ra r.ps.length rc)
  have hri1 : Ints 0 _ ra r.ps.length r.ps := (hri.below (Nat.le_refl _) bA).mono (Nat.zero_le _)
  clear hp0 hB hb0 bel1 hre bA hri
  go_upto_region 2 with fail
  generalize w1.alloc (.cells #[.int .i64 r.W, .int .i64 r.H, .slice ra r.ps.length rc] 24) = w2 at *
  obtain ⟨_, g0, g1, g2, g3, g4⟩ := id hB1
  go_wp2_with fail
  refine (hcu _ hp1).mono ?_
  rintro e w3 ⟨⟨ca, cc, rfl, hpc⟩, bel3⟩
  have bA := (Below.refl w3.heap.size w3).alloc (Nat.le_refl _) (.cells #[.int .i64 W, .int .i64 H, .int .i64 S, .int .i64 O, .slice ca cs.length cc] 63)
  have bX := below_step bel3 bA
  have hb3 := below_step hb1 bX
  have hp3 := hp1.below bX
  have hB3 := hB1.below bX
  have hM3 := hM1.below bX
  have hri3 := hri1.below (Nat.le_refl _) bX
  have hC3 := FBox.new w3 W H S O ca cs.length cc
  have hpc3 := hpc.below bA
  clear hp1 hB1 hb1 hM1 hri1 bel3 bA bX hpc hcu g0 g1 g2 g3 g4
  go_upto_region 5 with fail
  generalize w3.alloc (.cells #[.int .i64 W, .int .i64 H, .int .i64 S, .int .i64 O, .slice ca cs.length cc] 63) = w4 at *
  obtain ⟨_, g0, g1, g2, g3, g4⟩ := id hC3
  go_wp2_with fail
  refine (hrc _ _ _ hpc3).mono ?_
  rintro e w5 ⟨sa, sc, rfl, hsi, bel5⟩
  rw [HRE.out]
  have bA := (Below.refl w5.heap.size w5).alloc (Nat.le_refl _) (.cells #[.int .i64 r.W, .int .i64 r.H, .slice sa r.ps.length sc] 24)
  have bX := below_step bel5 bA
  have hb5 := below_step hb3 bX
  have hp5 := hp3.below bX
  have hB5 := hB3.below bX
  have hM5 := hM3.below bX
  have hri5 := hri3.below (Nat.le_refl _) bX
  have hC5 := hC3.below bX
  have hpc5 := hpc3.below bX
  have hN5 := MBox.new w5 r.W r.H (.slice sa r.ps.length sc)
  have hsi5 : Ints 0 _ sa r.ps.length r.ps := (hsi.below (Nat.le_refl _) bA).mono (Nat.zero_le _)
  clear hp3 hB3 hb3 hM3 hri3 bel5 bA bX hpc3 hC3 hrc hsi g0 g1 g2 g3 g4
  go_upto_region 6 with fail
  generalize w5.alloc (.cells #[.int .i64 r.W, .int .i64 r.H, .slice sa r.ps.length sc] 24) = w6 at *
  obtain ⟨_, g0, g1, g2, g3, g4⟩ := id hC5
  go_wp2_with fail
  refine (hcc _ _ _ hpc5).mono ?_
  rintro e w7 ⟨⟨da, dc, rfl, hpd⟩, bel7⟩
  have bA := (Below.refl w7.heap.size w7).alloc (Nat.le_refl _) (.cells #[.int .i64 W, .int .i64 H, .int .i64 S, .int .i64 O, .slice da cs.length dc] 63)
  have bX := below_step bel7 bA
  have hb7 := below_step hb5 bX
  have hp7 := hp5.below bX
  have hB7 := hB5.below bX
  have hM7 := hM5.below bX
  have hri7 := hri5.below (Nat.le_refl _) bX
  have hC7 := hC5.below bX
  have hpc7 := hpc5.below bX
  have hN7 := hN5.below bX
  have hsi7 := hsi5.below (Nat.le_refl _) bX
  have hD7 := FBox.new w7 W H S O da cs.length dc
  have hpd7 := hpd.below bA
  clear hp5 hB5 hb5 hM5 hri5 bel7 bA bX hpc5 hC5 hcc hN5 hsi5 hpd g0 g1 g2 g3 g4
  go_upto_region 7 with fail
  generalize w7.alloc (.cells #[.int .i64 W, .int .i64 H, .int .i64 S, .int .i64 O, .slice da cs.length dc] 63) = w8 at *
  obtain ⟨_, g0, g1, g2, g3, g4⟩ := id hB7
  go_wp2_with fail
  refine (hke _ hp7).mono ?_
  rintro e w9 ⟨⟨bK, rfl, _, hK⟩, bel9⟩
  have hb9 := below_step hb7 bel9
  have hp9 := hp7.below bel9
  have hB9 := hB7.below bel9
  have hM9 := hM7.below bel9
  have hri9 := hri7.below (Nat.le_refl _) bel9
  have hC9 := hC7.below bel9
  have hpc9 := hpc7.below bel9
  have hN9 := hN7.below bel9
  have hsi9 := hsi7.below (Nat.le_refl _) bel9
  have hD9 := hD7.below bel9
  have hpd9 := hpd7.below bel9
  clear hp7 hB7 hb7 hM7 hri7 bel9 hpc7 hC7 hN7 hsi7 hD7 hpd7 hke g0 g1 g2 g3 g4
  dsimp only at hK ⊢
  go_upto_region 8 with fail
  have hsi := fun w' (hb : Below w9.heap.size w9 w') => sameImages_any r.W r.H r.W r.H rc sc (hri9.below (Nat.le_refl _) hb) (hsi9.below (Nat.le_refl _) hb)
  have hsf := fun w' (hb : Below w9.heap.size w9 w') => sameFrames_any W H S O cc dc (hpc9.below hb) (hpd9.below hb)
  simp only [and_self, decide_true] at hsi
  have kp := fun w' (hb : Below w9.heap.size w9 w') => keepFive hb hB9 hC9 hD9 hM9 hN9
  obtain ⟨_, f4, c0, c1, c2, c3, c4, d0, d1, d2, d3, d4, m0, m1, m2, n0, n1, n2⟩ := kp w9 (Below.refl _ _)
  clear hpc9 hpd9 hsi9
  go_wp2_with fail
  refine (hsi _ (Below.refl _ _)).mono ?_
  rintro e w10 ⟨rfl, b10⟩
  clear f4 c0 c1 c2 c3 c4 d0 d1 d2 d3 d4 m0 m1 m2 n0 n1 n2 hsi
  obtain ⟨_, f4, c0, c1, c2, c3, c4, d0, d1, d2, d3, d4, m0, m1, m2, n0, n1, n2⟩ := kp w10 b10
  go_wp2_with fail
  refine (hsf _ b10).mono ?_
  rintro e w11 ⟨rfl, b11⟩
  have bX := below_step b10 b11
  have hb11 := below_step hb9 bX
  have hp11 := hp9.below bX
  have hB11 := hB9.below bX
  have hM11 := hM9.below bX
  have hri11 := hri9.below (Nat.le_refl _) bX
  have hK11 := hK.below bX hK.lt bX.size
  clear f4 c0 c1 c2 c3 c4 d0 d1 d2 d3 d4 m0 m1 m2 n0 n1 n2 hsf kp hp9 hB9 hb9 hM9 hri9 hK hC9 hN9 hD9 b10 b11 bX
  go_upto_region 10 with fail
  have hc1 := choose_all n (ps.length : Int) w11 hn0 hn1 (by have := HLE.out; omega)
  have hr1 := chooseV_bd n (ps.length : Int) (by have := HLE.out; omega)
  generalize chooseV n (ps.length : Int) = x0 at hc1 hr1
  obtain ⟨x, rfl⟩ := Int.eq_ofNat_of_zero_le hr1.1
  have hxl : x < ps.length := by omega
  go_wp2_with fail
  refine hc1.mono ?_
  rintro e w12 ⟨rfl, rfl⟩
  clear hc1
  have hcx := hK11.cells x hxl
  have hri : (x : Int) < (ps.length : Int) := by omega
  cases hgx : g x
  · rw [hgx] at hcx
    have HSX : Hid (_) := HSK.out x hgx
    have HRX : Hid (_) := HRK.out x
    clear HSK HRK hgx
    obtain ⟨_, g0, g1, g2, g3, g4⟩ := id hB11
    go_wp2_with fail
    refine (how _ hp11).mono ?_
    rintro e w13 ⟨⟨oa, oc, L, rfl, hR, hmL⟩, bel13⟩
    have bA := (Below.refl w13.heap.size w13).alloc (Nat.le_refl _) (.cells #[.int .i64 W, .int .i64 H, .int .i64 S, .int .i64 O, .slice oa ps.length oc] 63)
    have bX := below_step bel13 bA
    have hlL : L.length ≤ 12 := by have h1 := congrArg List.length hmL; simp at h1; have := HLE.out; omega
    obtain ⟨b, oc', ev, hbl, hbs, _, _, _⟩ := hR.putK hmL hlL hxl k
    injection ev with ev1 ev2 ev3
    clear ev2 ev3
    subst ev1
    obtain ⟨b', oc2, ev, _, _, hfz, hck, hpk⟩ := (hR.below bA).putK hmL hlL hxl k
    injection ev with ev1 ev2 ev3
    clear ev2 ev3
    injection ev1 with ev1
    injection ev1 with ev1
    subst ev1
    have hO := FBox.new w13 W H S O (some ⟨b, 0, none⟩) ps.length oc
    have bS := Below.setCell (p := ⟨b, x * 6 + 4, none⟩) bX hbl (.int .i64 k)
    have hO15 := hO.set (p := ⟨b, x * 6 + 4, none⟩) (by show b ≠ _; omega) (.int .i64 k)
    rw [World.setCell_alloc_past _ b _ _ hbs] at bS hO15 hpk
    have hb15 := below_step hb11 bS
    have hM15 := hM11.below bS
    have hri15 := hri11.below (Nat.le_refl _) bS
    clear bX bS bA hR hmL bel13 how hp11 hB11 hb11 hM11 hri11 g0 g1 g2 g3 g4
    obtain ⟨_, g0, g1, g2, g3, g4⟩ := id hO
    go_upto_region 15 with fail
    generalize (w13.setCell ⟨b, x * 6 + 4, none⟩ (.int .i64 k)).alloc (.cells #[.int .i64 W, .int .i64 H, .int .i64 S, .int .i64 O, .slice (some ⟨b, 0, none⟩) ps.length oc] 63) = w15 at *
    have hrk := render_any W H S O (some ⟨b, 0, none⟩) ps.length oc _ w15 hpk
    change Calls _ _ _ _ (Told w15 (renderP (setK ⟨W, H, S, O, ps⟩ x k))) at hrk
    generalize renderP (setK ⟨W, H, S, O, ps⟩ x k) = q at *
    clear g0 g1 g2 g3 g4 hO hfz hck hpk
    obtain ⟨_, g0, g1, g2, g3, g4⟩ := id hO15
    go_wp2_with fail
    refine hrk.mono ?_
    rintro e w16 ⟨qa, qc, rfl, hqi, bel16⟩
    have bA := (Below.refl w16.heap.size w16).alloc (Nat.le_refl _) (.cells #[.int .i64 q.W, .int .i64 q.H, .slice qa q.ps.length qc] 24)
    have bX := below_step bel16 bA
    have hb17 := below_step hb15 bX
    have hM17 := hM15.below bX
    have hri17 := hri15.below (Nat.le_refl _) bX
    have hQ17 := MBox.new w16 q.W q.H (.slice qa q.ps.length qc)
    have hqi17 : Ints 0 _ qa q.ps.length q.ps := (hqi.below (Nat.le_refl _) bA).mono (Nat.zero_le _)
    clear bel16 bA bX hrk hO15 hb15 hM15 hri15 hqi g0 g1 g2 g3 g4
    go_upto_region 16 with fail
    generalize (w16.alloc (.cells #[.int .i64 q.W, .int .i64 q.H, .slice qa q.ps.length qc] 24)) = w17 at *
    go_wp2_with fail
    refine (needBegun_any _).mono ?_
    rintro e w18 ⟨rfl, b18⟩
    have hb18 := below_step hb17 b18
    by_cases hq : q.E = 0
    · have hqr : q = r := HSX.out (by rw [← HRX.out]; exact hq)
      subst hqr
      have hss := sameImages_any q.W q.H q.W q.H qc rc (hqi17.below (Nat.le_refl _) b18) (hri17.below (Nat.le_refl _) b18)
      simp only [and_self, decide_true] at hss
      obtain ⟨_, m0, m1, m2⟩ := hM17.below b18
      obtain ⟨_, n0, n1, n2⟩ := hQ17.below b18
      rw [hq]
      go_wp2_with fail
      refine hss.mono ?_
      rintro e w19 ⟨rfl, b19⟩
      go_wp2
      go_ret
      exact ⟨rfl, below_step hb18 b19⟩
    · have hq' : (q.E == 0) = false := by simpa using hq
      go_wp2_with fail
      go_ret
      exact ⟨rfl, hb18⟩
  · rw [hgx] at hcx
    go_wp2_with fail
    refine (needBegun_any _).mono ?_
    rintro e w13 ⟨rfl, b13⟩
    go_wp2
    go_ret
    exact ⟨rfl, below_step hb11 b13⟩
theorem needTrue_any (W H S O : Int) (a : Option Addr) (len cap : Nat) (ps : List Ps) (n k : Int) (w : World) (hp : Passes w a len ps) (hn0 : -9223372036854775808 ≤ n) (hn1 : n ≤ 9223372036854775807) :
    Calls Try.prog 14 #[.agg #[.int .i64 W, .int .i64 H, .int .i64 S, .int .i64 O, .slice a len cap], .int .i64 n, .int .i64 k] w fun e w' => e = .returned (.bool true) ∧ Below w.heap.size w w' := by
  by_cases hE : frameE ⟨W, H, S, O, ps⟩ = 0
  · exact needTrue_ok W H S O a len cap ps n k w hp hn0 hn1 hE
  · exact needTrue_err W H S O a len cap ps n k w hp hE
end Go.Proofs.Ytfpkiimlaepnhaa
/-
  OPEN: how an image that comes in as an argument is read.
-/
namespace Go.Proofs.Ytfpkiimlaepnhaa
set_option maxRecDepth 100000
open Go.ChangeShapes Go.WideShapes Go.ChangeAt Go.RowKit Go.Joins

theorem own : ownKnob Try.prog.godebug = none := by kernel_rfl
theorem laidOut : laidOutB Try.prog = true := by kernel_rfl
theorem cellsImage : Try.prog.cellsOf 24 = 3 := by kernel_rfl
theorem cellsInt : Try.prog.cellsOf 3 = 1 := by kernel_rfl

theorem addr_add (b off j : Nat) : (⟨b, off, none⟩ : Addr).add j = ⟨b, off + j, none⟩ := by
  simp only [Addr.add]; split <;> simp_all
/-- A slice of numbers that came in. -/
theorem ints_in {H : Type} {enc : TypeId × Value → H} {W : World} {n : Nat} {v : Value} {y : DataW H × List MemPlace} (h : DataW.trod enc Try.prog W 0 (fun _ => true) true n 22 [v] = some y) :
    ∃ a len cap ps, v = .slice a len cap ∧ Ints 0 W a len ps := by
  rcases open_ints Try.underlying22 Try.underlying3 cellsInt h with ⟨hcs, _⟩ | ⟨x, l, c, zs, hcs, _, hl, hm, hz, _, hcell, _⟩
  · simp at hcs
    exact ⟨none, 0, 0, [], hcs, Ints.nil 0 W⟩
  · simp at hcs
    simp at hz
    unfold maxLen at hm
    refine ⟨some x, l, c, zs.take l, hcs, by simp; omega, by omega, ?_⟩
    by_cases h0 : l = 0
    · subst h0; exact .inl (by simp)
    · right
      obtain ⟨b, off, spot⟩ := x
      have hc := hcell 0 (by omega)
      have hspot : spot = none := by simpa [Addr.add] using World.cell?_spot hc
      subst hspot
      refine ⟨b, off, rfl, Nat.zero_le _, ?_, fun j hj => ?_⟩
      · have := World.block_lt_of_cell? W _ hc
        simpa [Addr.add] using this
      · have := hcell j (by omega)
        rw [List.getD_eq_getElem?_getD, List.getElem?_take_of_lt hj]
        rw [addr_add] at this
        simpa using this

/-- An image that came in. -/
theorem image_in {H : Type} {enc : TypeId × Value → H} {W : World} {b0 : Nat} {v : Value} {d : DataW H} {p : List MemPlace} (hv : Value.okWide Try.prog W .any b0 24 v) (h : DataW.Trod enc Try.prog W 0 (fun _ => true) true 24 v d p) :
    ∃ w h a len cap ps, v = .agg #[.int .i64 w, .int .i64 h, .slice a len cap] ∧ Ints 0 W a len ps := by
  obtain ⟨v0, v1, v2, y0, y1, y2, n, rfl, _, _, h0, h1, h2⟩ := open_agg3 Try.underlying24 (by kernel_rfl) cellsImage hv h
  obtain ⟨x, e0, _, _⟩ := DataW.trod_int Try.underlying3 h0
  obtain ⟨y, e1, _, _⟩ := DataW.trod_int Try.underlying3 h1
  obtain ⟨a, len, cap, ps, e2, hi⟩ := ints_in h2
  simp at e0 e1
  subst e0 e1 e2
  exact ⟨x, y, a, len, cap, ps, rfl, hi⟩
end Go.Proofs.Ytfpkiimlaepnhaa
/-
  OPENL: how a list of lights that comes in as an argument is read.
-/
namespace Go.Proofs.Ytfpkiimlaepnhaa
set_option maxRecDepth 100000
open Go.ChangeShapes Go.WideShapes Go.ChangeAt Go.RowKit Go.Joins Go.Deep

instance : Inhabited Lt := ⟨Lt.zero⟩
theorem cellsLight : Try.prog.cellsOf 59 = 4 := by kernel_rfl
theorem list4 {cs : List Value} (h : cs.length = 4) : ∃ c0 c1 c2 c3, cs = [c0, c1, c2, c3] := by
  match cs, h with
  | [c0, c1, c2, c3], _ => exact ⟨c0, c1, c2, c3, rfl⟩
/-- A light's four cells, read. -/
theorem light_cells {H : Type} {enc : TypeId × Value → H} {W : World} {n : Nat} {cs : List Value} {y : DataW H × List MemPlace} (h : DataW.trod enc Try.prog W 0 (fun _ => true) true n 59 cs = some y) :
    ∃ l : Lt, cs = [.int .i64 l.X, .int .i64 l.Y, .int .i64 l.R, .int .i64 l.P] := by
  obtain ⟨y0, y1, y2, y3, n, _, hl, h0, h1, h2, h3⟩ := trod_struct4 Try.underlying59 h
  rw [cellsLight] at hl
  obtain ⟨c0, c1, c2, c3, rfl⟩ := list4 hl
  simp only [cellsInt] at h0 h1 h2 h3
  obtain ⟨x0, e0, _, _⟩ := DataW.trod_int Try.underlying3 h0
  obtain ⟨x1, e1, _, _⟩ := DataW.trod_int Try.underlying3 h1
  obtain ⟨x2, e2, _, _⟩ := DataW.trod_int Try.underlying3 h2
  obtain ⟨x3, e3, _, _⟩ := DataW.trod_int Try.underlying3 h3
  simp at e0 e1 e2 e3
  subst e0 e1 e2 e3
  exact ⟨⟨x0, x1, x2, x3⟩, rfl⟩
/-- A list of lights that came in. -/
theorem lights_in {H : Type} {enc : TypeId × Value → H} {W : World} {b0 : Nat} {v : Value} {d : DataW H} {p : List MemPlace} (hv : Value.okWide Try.prog W .any b0 45 v) (h : DataW.Trod enc Try.prog W 0 (fun _ => true) true 45 v d p) :
    ∃ a len cap ls, v = .slice a len cap ∧ Lights W a len ls := by
  obtain ⟨a0, len, cap, rfl⟩ := okWide_slice Try.underlying45 hv
  obtain ⟨n, hn⟩ := h
  have hcs : (Value.slice a0 len cap).cells.toList = [.slice a0 len cap] := rfl
  rw [hcs] at hn
  rcases open_slice Try.underlying45 hn with ⟨e, _⟩ | ⟨x, l, c, m, n', D, Pl, e, _, hl, hm, hmm, _, hx⟩
  · simp at e
    obtain ⟨rfl, rfl, rfl⟩ := e
    exact ⟨none, 0, 0, [], rfl, rfl, by omega, .inl rfl⟩
  · simp at e
    obtain ⟨rfl, rfl, rfl⟩ := e
    simp at hmm
    subst hmm
    rw [cellsLight] at hx
    have each : ∀ i, i < m → ∃ lt : Lt, ∀ j, j < 4 → W.cell? (x.add (i * 4) |>.add j) = [Value.int .i64 lt.X, .int .i64 lt.Y, .int .i64 lt.R, .int .i64 lt.P][j]? := fun i hi => by
      obtain ⟨cs', h1, h2⟩ := hx i hi
      obtain ⟨lt, rfl⟩ := light_cells h2
      exact ⟨lt, (World.cells?_some h1).2.2⟩
    obtain ⟨L, hL⟩ := choose_lt each
    unfold maxLen at hm
    refine ⟨some x, len, m, (List.range len).map L, rfl, by simp, by omega, ?_⟩
    by_cases h0 : len = 0
    · subst h0; exact .inl rfl
    · right
      have h00 := hL 0 (by omega) 0 (by omega)
      obtain ⟨b, off, spot⟩ := x
      have hspot : spot = none := by simpa [Addr.add] using World.cell?_spot (h00.trans rfl)
      subst hspot
      refine ⟨b, off, rfl, ?_, fun j hj => ?_⟩
      · have := World.block_lt_of_cell? W _ (h00.trans rfl)
        simpa [Addr.add] using this
      · have g : ((List.range len).map L).getD j Lt.zero = L j := by simp [List.getD_eq_getElem?_getD, hj]
        rw [g]
        have q := hL j (by omega)
        simp only [addr_add] at q
        exact ⟨q 0 (by omega), q 1 (by omega), q 2 (by omega), q 3 (by omega)⟩
end Go.Proofs.Ytfpkiimlaepnhaa
/-
  OPENF: how a frame that comes in as an argument is read.
-/
namespace Go.Proofs.Ytfpkiimlaepnhaa
set_option maxRecDepth 100000
open Go.ChangeShapes Go.WideShapes Go.ChangeAt Go.RowKit Go.Joins Go.Deep

instance : Inhabited Ps := ⟨Ps.zero⟩
theorem cellsPass : Try.prog.cellsOf 88 = 6 := by kernel_rfl
theorem cellsFrame : Try.prog.cellsOf 63 = 5 := by kernel_rfl
theorem cellsLights : Try.prog.cellsOf 45 = 1 := by kernel_rfl
theorem cellsPasses : Try.prog.cellsOf 61 = 1 := by kernel_rfl
theorem list5 {α : Type} {cs : List α} (h : cs.length = 5) : ∃ c0 c1 c2 c3 c4, cs = [c0, c1, c2, c3, c4] := by
  match cs, h with
  | [c0, c1, c2, c3, c4], _ => exact ⟨c0, c1, c2, c3, c4, rfl⟩
theorem list6 {α : Type} {cs : List α} (h : cs.length = 6) : ∃ c0 c1 c2 c3 c4 c5, cs = [c0, c1, c2, c3, c4, c5] := by
  match cs, h with
  | [c0, c1, c2, c3, c4, c5], _ => exact ⟨c0, c1, c2, c3, c4, c5, rfl⟩
/-- A slice of lights, read. -/
theorem lights_of {H : Type} {enc : TypeId × Value → H} {W : World} {n : Nat} {v : Value} {y : DataW H × List MemPlace} (h : DataW.trod enc Try.prog W 0 (fun _ => true) true n 45 [v] = some y) :
    ∃ a len cap ls, v = .slice a len cap ∧ Lights W a len ls := by
  rcases open_slice Try.underlying45 h with ⟨e, _⟩ | ⟨x, l, c, m, n', D, Pl, e, _, hl, hm, hmm, _, hx⟩
  · simp at e
    subst e
    exact ⟨none, 0, 0, [], rfl, rfl, by omega, .inl rfl⟩
  · simp at e
    subst e
    simp at hmm
    subst hmm
    rw [cellsLight] at hx
    have each : ∀ i, i < m → ∃ lt : Lt, ∀ j, j < 4 → W.cell? (x.add (i * 4) |>.add j) = [Value.int .i64 lt.X, .int .i64 lt.Y, .int .i64 lt.R, .int .i64 lt.P][j]? := fun i hi => by
      obtain ⟨cs', h1, h2⟩ := hx i hi
      obtain ⟨lt, rfl⟩ := light_cells h2
      exact ⟨lt, (World.cells?_some h1).2.2⟩
    obtain ⟨L, hL⟩ := choose_lt each
    unfold maxLen at hm
    refine ⟨some x, l, m, (List.range l).map L, rfl, by simp, by omega, ?_⟩
    by_cases h0 : l = 0
    · subst h0; exact .inl rfl
    · right
      have h00 := hL 0 (by omega) 0 (by omega)
      obtain ⟨b, off, spot⟩ := x
      have hspot : spot = none := by simpa [Addr.add] using World.cell?_spot (h00.trans rfl)
      subst hspot
      refine ⟨b, off, rfl, ?_, fun j hj => ?_⟩
      · have := World.block_lt_of_cell? W _ (h00.trans rfl)
        simpa [Addr.add] using this
      · have g : ((List.range l).map L).getD j Lt.zero = L j := by simp [List.getD_eq_getElem?_getD, hj]
        rw [g]
        have q := hL j (by omega)
        simp only [addr_add] at q
        exact ⟨q 0 (by omega), q 1 (by omega), q 2 (by omega), q 3 (by omega)⟩
/-- A pass's six cells, read. -/
theorem pass_cells {H : Type} {enc : TypeId × Value → H} {W : World} {n : Nat} {cs : List Value} {y : DataW H × List MemPlace} (h : DataW.trod enc Try.prog W 0 (fun _ => true) true n 88 cs = some y) :
    ∃ p : Ps, ∃ la ll lc, cs = [.int .i64 p.Op, .int .i64 p.To, .int .i64 p.A, .int .i64 p.B, .int .i64 p.K, .slice la ll lc] ∧ Lights W la ll p.ls := by
  obtain ⟨xs, n, _, _, hl, hlen, hf⟩ := DataW.trod_struct Try.underlying88 h
  rw [cellsPass] at hl
  obtain ⟨c0, c1, c2, c3, c4, c5, rfl⟩ := list6 hl
  obtain ⟨y0, y1, y2, y3, y4, y5, rfl⟩ := list6 (by simpa using hlen)
  have h0 : DataW.trod enc Try.prog W 0 (fun _ => true) true n 3 [c0] = some y0 := by have := hf 0 _ rfl; simpa [cellsInt] using this
  have h1 : DataW.trod enc Try.prog W 0 (fun _ => true) true n 3 [c1] = some y1 := by have := hf 1 _ rfl; simpa [cellsInt] using this
  have h2 : DataW.trod enc Try.prog W 0 (fun _ => true) true n 3 [c2] = some y2 := by have := hf 2 _ rfl; simpa [cellsInt] using this
  have h3 : DataW.trod enc Try.prog W 0 (fun _ => true) true n 3 [c3] = some y3 := by have := hf 3 _ rfl; simpa [cellsInt] using this
  have h4 : DataW.trod enc Try.prog W 0 (fun _ => true) true n 3 [c4] = some y4 := by have := hf 4 _ rfl; simpa [cellsInt] using this
  have h5 : DataW.trod enc Try.prog W 0 (fun _ => true) true n 45 [c5] = some y5 := by have := hf 5 _ rfl; simpa [cellsLights] using this
  obtain ⟨x0, e0, _, _⟩ := DataW.trod_int Try.underlying3 h0
  obtain ⟨x1, e1, _, _⟩ := DataW.trod_int Try.underlying3 h1
  obtain ⟨x2, e2, _, _⟩ := DataW.trod_int Try.underlying3 h2
  obtain ⟨x3, e3, _, _⟩ := DataW.trod_int Try.underlying3 h3
  obtain ⟨x4, e4, _, _⟩ := DataW.trod_int Try.underlying3 h4
  obtain ⟨la, ll, lc, ls, e5, hL⟩ := lights_of h5
  simp at e0 e1 e2 e3 e4
  subst e0 e1 e2 e3 e4 e5
  exact ⟨⟨x0, x1, x2, x3, x4, ls⟩, la, ll, lc, rfl, hL⟩
/-- A slice of passes, read. -/
theorem passes_of {H : Type} {enc : TypeId × Value → H} {W : World} {n : Nat} {v : Value} {y : DataW H × List MemPlace} (h : DataW.trod enc Try.prog W 0 (fun _ => true) true n 61 [v] = some y) :
    ∃ a len cap ps, v = .slice a len cap ∧ Passes W a len ps := by
  rcases open_slice Try.underlying61 h with ⟨e, _⟩ | ⟨x, l, c, m, n', D, Pl, e, _, hl, hm, hmm, _, hx⟩
  · simp at e
    subst e
    exact ⟨none, 0, 0, [], rfl, rfl, by omega, .inl rfl⟩
  · simp at e
    subst e
    simp at hmm
    subst hmm
    rw [cellsPass] at hx
    have each : ∀ i, i < m → ∃ p : Ps, ∃ la ll lc, (∀ j, j < 6 → W.cell? (x.add (i * 6) |>.add j) = [Value.int .i64 p.Op, .int .i64 p.To, .int .i64 p.A, .int .i64 p.B, .int .i64 p.K, .slice la ll lc][j]?) ∧ Lights W la ll p.ls := fun i hi => by
      obtain ⟨cs', h1, h2⟩ := hx i hi
      obtain ⟨p, la, ll, lc, rfl, hL⟩ := pass_cells h2
      exact ⟨p, la, ll, lc, (World.cells?_some h1).2.2, hL⟩
    obtain ⟨L, hL⟩ := choose_lt each
    unfold maxLen at hm
    refine ⟨some x, l, m, (List.range l).map L, rfl, by simp, by omega, ?_⟩
    by_cases h0 : l = 0
    · subst h0; exact .inl rfl
    · right
      obtain ⟨la0, ll0, lc0, g0, _⟩ := hL 0 (by omega)
      have h00 := g0 0 (by omega)
      obtain ⟨b, off, spot⟩ := x
      have hspot : spot = none := by simpa [Addr.add] using World.cell?_spot (h00.trans rfl)
      subst hspot
      refine ⟨b, off, rfl, ?_, fun j hj => ?_⟩
      · have := World.block_lt_of_cell? W _ (h00.trans rfl)
        simpa [Addr.add] using this
      · have g : ((List.range l).map L).getD j Ps.zero = L j := by simp [List.getD_eq_getElem?_getD, hj]
        rw [g]
        obtain ⟨la, ll, lc, q, hLi⟩ := hL j (by omega)
        simp only [addr_add] at q
        exact ⟨la, ll, lc, q 0 (by omega), q 1 (by omega), q 2 (by omega), q 3 (by omega), q 4 (by omega), q 5 (by omega), hLi⟩
/-- A frame that came in. -/
theorem frame_in {H : Type} {enc : TypeId × Value → H} {W : World} {b0 : Nat} {v : Value} {d : DataW H} {p : List MemPlace} (hv : Value.okWide Try.prog W .any b0 63 v) (h : DataW.Trod enc Try.prog W 0 (fun _ => true) true 63 v d p) :
    ∃ w h s o a len cap ps, v = .agg #[.int .i64 w, .int .i64 h, .int .i64 s, .int .i64 o, .slice a len cap] ∧ Passes W a len ps := by
  obtain ⟨cs, rfl, hsz⟩ := okWide_struct Try.underlying63 hv
  obtain ⟨n, hn⟩ := h
  obtain ⟨xs, n, _, _, hl, hlen, hf⟩ := DataW.trod_struct Try.underlying63 hn
  rw [cellsFrame] at hsz
  obtain ⟨c0, c1, c2, c3, c4, hcs⟩ := list5 (cs := cs.toList) (by simpa using hsz)
  have hcs' : cs = #[c0, c1, c2, c3, c4] := by rw [← Array.toArray_toList (xs := cs), hcs]
  subst hcs'
  obtain ⟨y0, y1, y2, y3, y4, rfl⟩ := list5 (by simpa using hlen)
  have h0 : DataW.trod enc Try.prog W 0 (fun _ => true) true n 3 [c0] = some y0 := by have := hf 0 _ rfl; simpa [cellsInt, Value.cells] using this
  have h1 : DataW.trod enc Try.prog W 0 (fun _ => true) true n 3 [c1] = some y1 := by have := hf 1 _ rfl; simpa [cellsInt, Value.cells] using this
  have h2 : DataW.trod enc Try.prog W 0 (fun _ => true) true n 3 [c2] = some y2 := by have := hf 2 _ rfl; simpa [cellsInt, Value.cells] using this
  have h3 : DataW.trod enc Try.prog W 0 (fun _ => true) true n 3 [c3] = some y3 := by have := hf 3 _ rfl; simpa [cellsInt, Value.cells] using this
  have h4 : DataW.trod enc Try.prog W 0 (fun _ => true) true n 61 [c4] = some y4 := by have := hf 4 _ rfl; simpa [cellsPasses, Value.cells] using this
  obtain ⟨x0, e0, _, _⟩ := DataW.trod_int Try.underlying3 h0
  obtain ⟨x1, e1, _, _⟩ := DataW.trod_int Try.underlying3 h1
  obtain ⟨x2, e2, _, _⟩ := DataW.trod_int Try.underlying3 h2
  obtain ⟨x3, e3, _, _⟩ := DataW.trod_int Try.underlying3 h3
  obtain ⟨a, len, cap, ps, e4, hP⟩ := passes_of h4
  simp at e0 e1 e2 e3
  subst e0 e1 e2 e3 e4
  exact ⟨x0, x1, x2, x3, a, len, cap, ps, rfl, hP⟩
end Go.Proofs.Ytfpkiimlaepnhaa
