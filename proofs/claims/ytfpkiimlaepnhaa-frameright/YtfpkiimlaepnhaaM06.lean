/- LitIn, LitTile, Make: joined, in this order. -/
import Derived.Test.YtfpkiimlaepnhaaM05
import Derived.Laws.EntriesVeiled
import Derived.Test.YtfpkiimlaepnhaaM04
/-
  LITIN: what light.Lit does at one place, and in one tile.
-/
namespace Go.Proofs.Ytfpkiimlaepnhaa
set_option maxRecDepth 100000
open Go.RowKit Im

theorem lit11_enters : ∀ args w, (callFunc 82 args).run Try.prog w = .ok (.enter 82 args) w := fun _ _ => by kernel_rfl
theorem lit1_enters : ∀ args w, (callFunc 80 args).run Try.prog w = .ok (.enter 80 args) w := fun _ _ => by kernel_rfl

/-- All that the functions of Lit lean on: the image in its box, the lights in theirs. -/
structure Scene (wB : World) (ab lb b off cap W H : Nat) (ps : List Int) (la : Option Addr) (llen lcap : Nat) (ls : List Lt) : Prop where
  box : Boxed wB ab b off cap W H
  fine : Fine wB b off W H ps
  llt : lb < wB.heap.size
  lc : wB.cell? ⟨lb, 0, none⟩ = some (.slice la llen lcap)
  lights : Lights wB la llen ls
  h8 : ls.length ≤ 8
  hr : ls.all rightB = true
theorem Scene.below {wB w' : World} {ab lb b off cap W H : Nat} {ps : List Int} {la : Option Addr} {llen lcap : Nat} {ls : List Lt} (h : Scene wB ab lb b off cap W H ps la llen lcap ls) (hb : Below wB.heap.size wB w') : Scene w' ab lb b off cap W H ps la llen lcap ls :=
  ⟨h.box.below hb, h.fine.below hb, Nat.lt_of_lt_of_le h.llt hb.size, (hb.cell (p := ⟨lb, 0, none⟩) h.llt).trans h.lc, h.lights.below hb, h.h8, h.hr⟩
/-- The number that a place gets. -/
def litG (W : Nat) (ps : List Int) (ls : List Lt) (x y : Nat) : Int := min (px W ps x y + sumG x y ls) 65535

set_option maxHeartbeats 1000000 in
theorem litPlace {wB w1 : World} {ab lb nb pb b off cap W H : Nat} {ps : List Int} {la : Option Addr} {llen lcap : Nat} {ls : List Lt} {q : Nat → Int} {na : Option Addr} {ncap : Nat} {near : List Int}
    (hS : Scene wB ab lb b off cap W H ps la llen lcap ls) (hp : Pan wB w1 (W * H) pb q) (hnc : w1.cell? ⟨nb, 0, none⟩ = some (.slice na near.length ncap)) (hni : Ints 0 w1 na near.length near)
    (hg : ∀ t, t < near.length → ∃ m : Nat, m < ls.length ∧ near.getD t 0 = m) (x y : Nat) (hx : x < W) (hy : y < H) (hsum : sumN x y ls near = sumG x y ls) (hn8 : near.length ≤ 8) :
    Calls Try.prog 82 #[.int .i64 x, .int .i64 y, .pointer (some ⟨ab, 0, none⟩), .pointer (some ⟨nb, 0, none⟩), .pointer (some ⟨lb, 0, none⟩), .pointer (some ⟨pb, 0, none⟩)] w1 fun e w2 =>
      e = .returned (.tuple #[]) ∧ ∃ w3, Below w1.heap.size w1 w3 ∧ w2 = w3.setCell ⟨wB.heap.size, y * W + x, none⟩ (.int .i64 (litG W ps ls x y)) := by
  have hS1 := hS.below hp.bel
  have hpl := place_lt hx hy
  obtain ⟨hm, hM⟩ := hS.fine.small
  have hb1 := hS.fine.hW
  have hb2 := hS.fine.hH
  have bx : 0 ≤ (x : Int) ∧ (x : Int) < 16 := by omega
  have by' : 0 ≤ (y : Int) ∧ (y : Int) < 16 := by omega
  have hpi : (y : Int) * (W : Int) + (x : Int) < (W : Int) * (H : Int) := by rw [← Int.natCast_mul, ← Int.natCast_mul]; omega
  have hp0 : 0 ≤ (y : Int) * (W : Int) := Int.mul_nonneg (by omega) (by omega)
  have hpM : (W : Int) * (H : Int) ≤ 256 := by rw [← Int.natCast_mul]; omega
  have hpb := hS.fine.px_bd x y hx hy
  have hcell := hS1.fine.cell (y * W + x) hpl
  obtain ⟨_, k0, k1, k2⟩ := hS1.box
  have hlc := hS1.lc
  have hbox := hp.box
  obtain ⟨hst, hfz⟩ := hp.cell (y * W + x) hpl
  have hs1 := hp.siz
  have hlo := hp.lo
  have habl := hS1.box.lt
  have hlbl := hS1.llt
  have hnbl : nb < w1.heap.size := by
    have := World.block_lt_of_cell? w1 _ hnc
    simpa using this
  obtain ⟨pv, hpv⟩ : ∃ pv, pv = px W ps x y := ⟨_, rfl⟩
  have hcell' : w1.cell? ⟨b, off + (y * W + x), none⟩ = some (.int .i64 pv) := by rw [hpv]; exact hcell
  have hG : Hid (litG W ps ls x y = min (pv + sumG x y ls) 65535) := by show _ = _; rw [hpv]; rfl
  rw [← hpv] at hpb
  have sb := sumG_bd x y bx by' ls hS.hr
  have sb2 : sumG x y ls ≤ 65535 * 8 := by have := hS.h8; omega
  obtain ⟨gx, hgx⟩ : ∃ gx, litG W ps ls x y = gx := ⟨_, rfl⟩
  rw [hgx] at hG ⊢
  have hmin : (if 65535 < pv + sumG x y ls then 65535 else pv + sumG x y ls) = gx := by rw [hG.out]; split <;> omega
  clear hcell hpv hG hgx hm
  by_cases hnil : near = []
  · subst hnil
    have hz : sumG x y ls = 0 := by rw [← hsum]; rfl
    rw [hz, Int.add_zero] at hmin
    have hgp : gx = pv := by rw [← hmin, if_neg (by omega)]
    subst hgp
    clear hz hsum sb sb2 hmin
    simp only [List.length_nil] at hnc
    go_enter Try.func82, Try.ntmps82
    go_wp2
    go_loop [8, 23] (fun s i => s = .int .i64 gx ∧ i = .int .i64 0) (fun _ _ => 0)
    case atStart => exact ⟨rfl, rfl⟩
    case round =>
      obtain ⟨rfl, rfl⟩ := hrel
      go_wp2
      go_end0
      exact ⟨rfl, w1, Below.refl _ _, rfl⟩
  · have hpos : 0 < near.length := List.length_pos_iff.2 hnil
    rcases hni.cells with e | ⟨nbb, noff, rfl, _, hnl, hncell⟩
    · exact absurd e hnil
    rcases hS.lights.cells with e | ⟨lbb, loff, rfl, hll, hlcell⟩
    · subst e
      have := hg 0 hpos
      obtain ⟨m, hm, _⟩ := this
      simp at hm
    · have hll1 := Nat.lt_of_lt_of_le hll hp.bel.size
      have hlw := fun (w2 : World) (hb2 : Below w1.heap.size w1 w2) (m : Nat) (hm : m < llen) => (show w2.cell? ⟨lbb, loff + m * 4, none⟩ = some (.int .i64 (ls.getD m Lt.zero).X) ∧ w2.cell? ⟨lbb, loff + m * 4 + 1, none⟩ = some (.int .i64 (ls.getD m Lt.zero).Y) ∧ w2.cell? ⟨lbb, loff + m * 4 + 2, none⟩ = some (.int .i64 (ls.getD m Lt.zero).R) ∧ w2.cell? ⟨lbb, loff + m * 4 + 3, none⟩ = some (.int .i64 (ls.getD m Lt.zero).P) from ⟨(hb2.cell (p := ⟨lbb, loff + m * 4, none⟩) hll1).trans ((hp.bel.cell (p := ⟨lbb, loff + m * 4, none⟩) hll).trans (hlcell m hm).1), (hb2.cell (p := ⟨lbb, loff + m * 4 + 1, none⟩) hll1).trans ((hp.bel.cell (p := ⟨lbb, loff + m * 4 + 1, none⟩) hll).trans (hlcell m hm).2.1), (hb2.cell (p := ⟨lbb, loff + m * 4 + 2, none⟩) hll1).trans ((hp.bel.cell (p := ⟨lbb, loff + m * 4 + 2, none⟩) hll).trans (hlcell m hm).2.2.1), (hb2.cell (p := ⟨lbb, loff + m * 4 + 3, none⟩) hll1).trans ((hp.bel.cell (p := ⟨lbb, loff + m * 4 + 3, none⟩) hll).trans (hlcell m hm).2.2.2)⟩)
      have hlen := hS.lights.leng
      have hall := hS.hr
      have hsteps : ∀ t, t < near.length → sumN x y ls (near.take (t + 1)) = sumN x y ls (near.take t) + givenP (ls.getD (near.getD t 0).toNat Lt.zero) x y := fun t ht => by
        have e : near.getD t 0 = near[t] := by rw [List.getD_eq_getElem?_getD, List.getElem?_eq_getElem ht]; rfl
        rw [List.take_succ_eq_append_getElem ht, sumN_snoc, e]
      have hnbd : ∀ t, t ≤ near.length → 0 ≤ sumN x y ls (near.take t) ∧ sumN x y ls (near.take t) ≤ 65535 * t := fun t => by
        induction t with
        | zero => intro _; simp [sumN]
        | succ t ih =>
          intro ht
          have h1 := ih (by omega)
          obtain ⟨m, hm, hmt⟩ := hg t (by omega)
          have h2 := given_bd (all_getD ls m hm hall) x y bx by'
          rw [hsteps t (by omega), hmt, Int.toNat_natCast]
          omega
      have hfull : near.take near.length = near := List.take_length
      clear hS hS1 hlcell
      go_enter Try.func82, Try.ntmps82
      go_wp2
      go_loopw [8, 23] (fun s i wr => ∃ t : Nat, t ≤ near.length ∧ i = .int .i64 t ∧ s = .int .i64 (pv + sumN x y ls (near.take t)) ∧ Below w1.heap.size w1 wr) (fun _ i _ => near.length - (intOf i).toNat)
      case atStart => exact ⟨0, Nat.zero_le _, rfl, by simp [sumN], Below.refl _ _⟩
      case round =>
        obtain ⟨t, ht, rfl, rfl, hbr⟩ := hrel
        have nb0 := hnbd t ht
        have nb1 : sumN x y ls (near.take t) ≤ 65535 * 8 := by omega
        have kl : wr.cell? ⟨lb, 0, none⟩ = some (.slice (some ⟨lbb, loff, none⟩) llen lcap) := (hbr.cell (p := ⟨lb, 0, none⟩) hlbl).trans hlc
        by_cases hlt : t < near.length
        · obtain ⟨m, hm, hmt⟩ := hg t hlt
          have hcn := (hbr.cell (p := ⟨nbb, noff + t, none⟩) hnl).trans (hncell t hlt)
          rw [hmt] at hcn
          have hstep := hsteps t hlt
          rw [hmt, Int.toNat_natCast] at hstep
          obtain ⟨c0, c1, c2, c3⟩ := hlw wr hbr m (by omega)
          have hrk := all_getD ls m hm hall
          have hgv := fun wx => given_any (ls.getD m Lt.zero) x y wx hrk bx by'
          have hgb := given_bd hrk x y bx by'
          generalize givenP (ls.getD m Lt.zero) x y = gv at hgv hgb hstep
          generalize ls.getD m Lt.zero = l at c0 c1 c2 c3 hgv
          obtain ⟨X, Y, R, P⟩ := l
          dsimp only at c0 c1 c2 c3 hgv
          have HS : Hid (sumN x y ls (near.take (t + 1)) = sumN x y ls (near.take t) + gv) := hstep
          have hml : (m : Int) < (llen : Int) := by omega
          clear hstep hrk hncell hlw hsteps hnbd hg hmt hfull hnil
          go_wp2_with (go_at_call 73; refine (hgv _).mono ?_; rintro e w2 ⟨rfl, hb2⟩)
          have hbn := below_stepL hbr hb2
          go_roundw
          case rel => exact ⟨t + 1, by omega, by go_num, by rw [HS.out]; go_num, hbn⟩
          case measure => simp [intOf]; omega
        · have e : t = near.length := by omega
          subst e
          rw [hfull, hsum]
          obtain ⟨cc, ff⟩ := bcell hbr
          have g0 := (cc ab 0 habl).trans k0
          have g5 := (cc pb 0 hs1).trans hbox
          have gs := (cc wB.heap.size (y * W + x) (by omega)).trans hst
          have gf := (ff wB.heap.size (y * W + x) (by omega)).trans hfz
          clear cc ff hncell hlw hsteps hnbd hg
          go_wp2
          go_end0
          exact ⟨rfl, wr, hbr, rfl⟩
end Go.Proofs.Ytfpkiimlaepnhaa
/-
  LITTILE: what light.Lit does in one tile.
-/
namespace Go.Proofs.Ytfpkiimlaepnhaa
set_option maxRecDepth 100000
open Go.RowKit Im

/-- The number of the place i. -/
def litI (W : Nat) (ps : List Int) (ls : List Lt) (i : Nat) : Int := litG W ps ls (i % W) (i / W)
theorem Done.mono {wB : World} {L pb : Nat} {G : Nat → Int} {A B : Nat → Prop} {w' : World} (h : Done wB L pb G A w') (hs : ∀ i, B i → A i) : Done wB L pb G B w' := by
  obtain ⟨q, hp, hq⟩ := h
  exact ⟨q, hp, fun i hi hb => hq i hi (hs i hb)⟩
theorem Done.below {wB : World} {L pb : Nat} {G : Nat → Int} {A : Nat → Prop} {w' w2 : World} (h : Done wB L pb G A w') (hb : Below w'.heap.size w' w2) : Done wB L pb G A w2 := by
  obtain ⟨q, hp, hq⟩ := h
  exact ⟨q, hp.below hb, hq⟩
/-- While a tile is worked: the list of its lights lies in the box nb. -/
def InTile (wB : World) (L pb : Nat) (G : Nat → Int) (nb : Nat) (na : Option Addr) (ncap : Nat) (near : List Int) (D : Nat → Prop) (w' : World) : Prop :=
  Done wB L pb G D w' ∧ w'.cell? ⟨nb, 0, none⟩ = some (.slice na near.length ncap) ∧ Ints (wB.heap.size + 1) w' na near.length near ∧ wB.heap.size < nb ∧ nb < w'.heap.size

theorem litTile_does {wB : World} {ab lb nb pb b off cap W H : Nat} {ps : List Int} {la : Option Addr} {llen lcap : Nat} {ls : List Lt} (hS : Scene wB ab lb b off cap W H ps la llen lcap ls) (x0 y0 pw ph : Nat) (hx : x0 + pw ≤ W) (hy : y0 + ph ≤ H) (na : Option Addr) (ncap : Nat) :
    DoesP 82 #[.pointer (some ⟨ab, 0, none⟩), .pointer (some ⟨nb, 0, none⟩), .pointer (some ⟨lb, 0, none⟩), .pointer (some ⟨pb, 0, none⟩)] (InTile wB (W * H) pb (litI W ps ls) nb na ncap (pickL (nearB x0 y0 pw ph) ls llen)) W x0 y0 pw ph := by
  refine ⟨lit11_enters, fun x y D w1 h1 h2 h3 h4 hI => ?_⟩
  obtain ⟨⟨q, hp, hq⟩, hnc, hni, hcn, hnl⟩ := hI
  have hl := hS.lights.leng
  have hxW : x < W := by omega
  have hyH : y < H := by omega
  have hsum : sumN x y ls (pickL (nearB x0 y0 pw ph) ls llen) = sumG x y ls := by
    rw [sumN_pick x y (nearB x0 y0 pw ph) ls llen (by omega) (fun k _ hk => ?_), List.take_of_length_le (by omega)]
    have := not_near (l := ls.getD k Lt.zero) x0 y0 pw ph (x - x0) (y - y0) (by omega) (by omega) hk
    rw [show ((x0 : Int) + ((x - x0 : Nat) : Int)) = x by omega, show ((y0 : Int) + ((y - y0 : Nat) : Int)) = y by omega] at this
    exact this
  have hg : ∀ t, t < (pickL (nearB x0 y0 pw ph) ls llen).length → ∃ m : Nat, m < ls.length ∧ (pickL (nearB x0 y0 pw ph) ls llen).getD t 0 = m := fun t ht => by
    obtain ⟨m, hm, e⟩ := pickL_get (nearB x0 y0 pw ph) ls llen t ht
    exact ⟨m, by omega, e⟩
  have hn8 : (pickL (nearB x0 y0 pw ph) ls llen).length ≤ 8 := by have := pickL_len (nearB x0 y0 pw ph) ls llen; have := hS.h8; omega
  refine (litPlace hS hp hnc (hni.mono (Nat.zero_le _)) hg x y hxW hyH hsum hn8).mono fun e w2 ⟨he, w3, hb3, hw2⟩ => ⟨he, ?_⟩
  subst hw2
  have hpl := place_lt hxW hyH
  have e1 : (y * W + x) % W = x := by rw [Nat.mul_comm, Nat.mul_add_mod]; exact Nat.mod_eq_of_lt hxW
  have e2 : (y * W + x) / W = y := by rw [Nat.mul_comm, Nat.mul_add_div (by omega), Nat.div_eq_of_lt hxW]; rfl
  refine ⟨⟨_, (hp.below hb3).store (y * W + x) _ hpl, fun i hi hD => ?_⟩, ?_, ?_, hcn, ?_⟩
  · by_cases hi' : i = y * W + x
    · subst hi'
      rw [if_pos rfl]
      unfold litI
      rw [e1, e2]
    · rw [if_neg hi']
      rcases hD with hD | hD
      · exact hq i hi hD
      · exfalso
        apply hi'
        have := Nat.div_add_mod i W
        rw [hD.1, hD.2, Nat.mul_comm] at this
        exact this.symm
  · rw [World.cell?_of_block (w := w3) (Below.heap_setCell w3 _ _ _ (by show nb ≠ _; simp; omega))]
    exact (hb3.cell (p := ⟨nb, 0, none⟩) hnl).trans hnc
  · exact (hni.below (Nat.le_refl _) hb3).setCell (by simp) _
  · have := hb3.size
    simp [World.setCell]; omega

set_option maxHeartbeats 1000000 in
/-- light.Lit's function of a tile. -/
theorem litTile_any {wB w1 : World} {ab lb pb b off cap W H : Nat} {ps : List Int} {la : Option Addr} {llen lcap : Nat} {ls : List Lt} (hS : Scene wB ab lb b off cap W H ps la llen lcap ls) (x y pw ph : Nat) (D : Nat → Prop) (h1 : 1 ≤ pw) (h2 : x + pw ≤ W) (h3 : 1 ≤ ph) (h4 : y + ph ≤ H) (hD : Done wB (W * H) pb (litI W ps ls) D w1) :
    Calls Try.prog 80 #[.int .i64 x, .int .i64 y, .int .i64 pw, .int .i64 ph, .pointer (some ⟨lb, 0, none⟩), .pointer (some ⟨ab, 0, none⟩), .pointer (some ⟨pb, 0, none⟩)] w1 fun e w2 =>
      e = .returned (.tuple #[]) ∧ Done wB (W * H) pb (litI W ps ls) (fun i => D i ∨ (y ≤ i / W ∧ i / W < y + ph ∧ x ≤ i % W ∧ i % W < x + pw)) w2 := by
  obtain ⟨q, hp, hq⟩ := id hD
  have hS1 := hS.below hp.bel
  have hlc := hS1.lc
  have hsiz := hp.siz
  have hlo := hp.lo
  obtain ⟨hw1, hw2⟩ := hS.fine.hW
  obtain ⟨hh1, hh2⟩ := hS.fine.hH
  have hnear := near_ok lcap x y pw ph hS1.lights hS.h8 hS.hr ((stretch_iff _ _).2 (by omega)) ((stretch_iff _ _).2 (by omega))
  have hd := fun nb na ncap => litTile_does (nb := nb) (pb := pb) hS x y pw ph h2 h4 na ncap
  generalize pickL (nearB x y pw ph) ls llen = near at hnear hd
  clear hp hq
  go_enter Try.func80, Try.ntmps80
  go_wp2_with fail
  refine hnear.mono ?_
  rintro e wA ⟨na, ncap, rfl, hni, hbA⟩
  have hsA := hbA.size
  have hI : InTile wB (W * H) pb (litI W ps ls) wA.heap.size na ncap near D (wA.alloc (.cells #[.slice na near.length ncap] 22)) :=
    ⟨(hD.below hbA).below ((Below.refl _ _).alloc (Nat.le_refl _) _), by simp [go_sem], (hni.below (Nat.le_refl _) ((Below.refl _ _).alloc (Nat.le_refl _) _)).mono (by omega), by omega, by simp⟩
  have hep := eachPlace_any _ _ _ W x y pw ph D _ (by omega) (fun A B v hs h => ⟨h.1.mono hs, h.2⟩) (hd wA.heap.size na ncap) hI
  clear hnear hd hI
  go_wp2_with fail
  refine hep.mono ?_
  rintro e wC ⟨rfl, hIC⟩
  go_wp2
  go_end0
  exact ⟨rfl, hIC.1⟩
end Go.Proofs.Ytfpkiimlaepnhaa
/-
  MAKE: image.Make, and the reference's MakeError and MakeOf.
-/
namespace Go.Proofs.Ytfpkiimlaepnhaa
set_option maxRecDepth 100000
open Go.RowKit Im

/-- What stands at column x and row y of what Make makes. -/
def makeG (op k : Int) (x y : Nat) : Int := if op = 1 then k else ((x : Int) * k + y) % 65536

/-- The zero value of an image. -/
abbrev noImage : Value := .agg #[.int .i64 0, .int .i64 0, .slice none 0 0]

theorem make1_enters : ∀ args w, (callFunc 59 args).run Try.prog w = .ok (.enter 59 args) w := fun _ _ => by kernel_rfl
theorem make2_enters : ∀ args w, (callFunc 60 args).run Try.prog w = .ok (.enter 60 args) w := fun _ _ => by kernel_rfl

theorem make1_tells (w : World) (b W H : Nat) (k : Int) (hb : b < w.heap.size) (hc : w.cell? ⟨b, 0, none⟩ = some (.int .i64 k)) : Tells w 59 #[.pointer (some ⟨b, 0, none⟩)] W H (makeG 1 k) := by
  refine ⟨make1_enters, fun x y w1 _ _ hbel => ?_⟩
  have hc1 : w1.cell? ⟨b, 0, none⟩ = some (.int .i64 k) := (hbel.cell (p := ⟨b, 0, none⟩) hb).trans hc
  show Calls Try.prog 59 #[.int .i64 x, .int .i64 y, .pointer (some ⟨b, 0, none⟩)] w1 _
  go_enter Try.func59, Try.ntmps59
  go_wp2
  go_ret
  exact ⟨rfl, Below.refl _ _⟩
theorem make2_tells (w : World) (b W H : Nat) (k : Int) (hb : b < w.heap.size) (hc : w.cell? ⟨b, 0, none⟩ = some (.int .i64 k)) (hW : W ≤ 16) (hH : H ≤ 16) (hk : 0 ≤ k ∧ k ≤ 65535) : Tells w 60 #[.pointer (some ⟨b, 0, none⟩)] W H (makeG 2 k) := by
  refine ⟨make2_enters, fun x y w1 hx hy hbel => ?_⟩
  have hc1 : w1.cell? ⟨b, 0, none⟩ = some (.int .i64 k) := (hbel.cell (p := ⟨b, 0, none⟩) hb).trans hc
  have hm1 : 0 ≤ (x : Int) * k := Int.mul_nonneg (by omega) hk.1
  have hm2 : (x : Int) * k ≤ 16 * 65535 := Int.mul_le_mul (by omega) hk.2 hk.1 (by omega)
  show Calls Try.prog 60 #[.int .i64 x, .int .i64 y, .pointer (some ⟨b, 0, none⟩)] w1 _
  go_enter Try.func60, Try.ntmps60
  go_wp2
  go_ret
  exact ⟨rfl, Below.refl _ _⟩

theorem make_kind (op W H k : Int) (w : World) (h : ¬ op = 1) (h' : ¬ op = 2) :
    Calls Try.prog 15 #[.int .i64 op, .int .i64 W, .int .i64 H, .int .i64 k] w fun e w' => e = .returned (.tuple #[noImage, .int .i64 4]) ∧ Below w.heap.size w w' := by
  have hb : (op != 1) = true := by simpa using h
  have hb' : (op != 2) = true := by simpa using h'
  go_enter Try.func15, Try.ntmps15
  go_wp2
  exact bodyPost_ret (v := .tuple #[noImage, .int .i64 4]) (by simp [results, Try.results15, go_sem]) rfl ⟨rfl, ((Below.refl _ _).alloc (Nat.le_refl _) _).alloc (by simp) _⟩

theorem make_range (op W H k : Int) (w : World) (h : op = 1 ∨ op = 2) (hr : (sideB W && sideB H && numB k) = false) :
    Calls Try.prog 15 #[.int .i64 op, .int .i64 W, .int .i64 H, .int .i64 k] w fun e w' => e = .returned (.tuple #[noImage, .int .i64 3]) ∧ Below w.heap.size w w' := by
  rcases h with rfl | rfl
  all_goals
    by_cases h1 : sideB W = true
    · by_cases h2 : sideB H = true
      · have h3 : numB k = false := by rw [h1, h2] at hr; simpa using hr
        clear hr
        go_enter Try.func15, Try.ntmps15
        go_wp2_with (first | (go_at_call 56; refine (isSide_any _ _).mono ?_; rintro e w' ⟨rfl, rfl⟩) | (go_at_call 57; refine (isNumber_any _ _).mono ?_; rintro e w' ⟨rfl, rfl⟩))
        exact bodyPost_ret (v := .tuple #[noImage, .int .i64 3]) (by simp [results, Try.results15, go_sem]) rfl ⟨rfl, ((Below.refl _ _).alloc (Nat.le_refl _) _).alloc (by simp) _⟩
      · have h2' : sideB H = false := by simpa using h2
        clear hr
        go_enter Try.func15, Try.ntmps15
        go_wp2_with (first | (go_at_call 56; refine (isSide_any _ _).mono ?_; rintro e w' ⟨rfl, rfl⟩) | (go_at_call 57; refine (isNumber_any _ _).mono ?_; rintro e w' ⟨rfl, rfl⟩))
        exact bodyPost_ret (v := .tuple #[noImage, .int .i64 3]) (by simp [results, Try.results15, go_sem]) rfl ⟨rfl, ((Below.refl _ _).alloc (Nat.le_refl _) _).alloc (by simp) _⟩
    · have h1' : sideB W = false := by simpa using h1
      clear hr
      go_enter Try.func15, Try.ntmps15
      go_wp2_with (first | (go_at_call 56; refine (isSide_any _ _).mono ?_; rintro e w' ⟨rfl, rfl⟩) | (go_at_call 57; refine (isNumber_any _ _).mono ?_; rintro e w' ⟨rfl, rfl⟩))
      exact bodyPost_ret (v := .tuple #[noImage, .int .i64 3]) (by simp [results, Try.results15, go_sem]) rfl ⟨rfl, ((Below.refl _ _).alloc (Nat.le_refl _) _).alloc (by simp) _⟩
set_option maxHeartbeats 1000000 in
theorem make_ok (op : Int) (W H : Nat) (k : Int) (w : World) (h : op = 1 ∨ op = 2) (h1 : sideB W = true) (h2 : sideB H = true) (h3 : numB k = true) :
    Calls Try.prog 15 #[.int .i64 op, .int .i64 W, .int .i64 H, .int .i64 k] w fun e w' =>
      ∃ a cap, e = .returned (.tuple #[.agg #[.int .i64 W, .int .i64 H, .slice a (W * H) cap], .int .i64 0]) ∧ Ints w.heap.size w' a (W * H) (pix W (makeG op k) (W * H)) ∧ Below w.heap.size w w' := by
  have b1 := (side_iff _).1 h1
  have b2 := (side_iff _).1 h2
  have b3 := (num_iff _).1 h3
  have hB : Below w.heap.size w ((w.alloc (.cells #[.int .i64 k] 3)).alloc (.cells #[.int .i64 0, .int .i64 0, .slice none 0 0] 24)) := ((Below.refl _ _).alloc (Nat.le_refl _) _).alloc (by simp) _
  have hk : ((w.alloc (.cells #[.int .i64 k] 3)).alloc (.cells #[.int .i64 0, .int .i64 0, .slice none 0 0] 24)).cell? ⟨w.heap.size, 0, none⟩ = some (.int .i64 k) := by simp [go_sem]
  rcases h with rfl | rfl
  · have t := make1_tells _ w.heap.size W H k (by simp; omega) hk
    go_enter Try.func15, Try.ntmps15
    go_wp2_with (first
      | (go_at_call 56; refine (isSide_any _ _).mono ?_; rintro e w' ⟨rfl, rfl⟩)
      | (go_at_call 57; refine (isNumber_any _ _).mono ?_; rintro e w' ⟨rfl, rfl⟩)
      | (go_at_call 58; refine (draw_any W H _ _ _ _ (by omega) (by omega) t).mono ?_; rintro e w2 ⟨a, cap, rfl, hints, hbel⟩; obtain ⟨hcc, hff⟩ := bcell hbel; have hsz : w.heap.size + 1 < w2.heap.size := by have := hbel.size; simp at this; omega))
    have e1 : w2.cell? ⟨w.heap.size + 1, 0, none⟩ = some (.int .i64 0) := by rw [hcc _ _ (by simp)]; simp [go_sem]
    have e2 : w2.cell? ⟨w.heap.size + 1, 1, none⟩ = some (.int .i64 0) := by rw [hcc _ _ (by simp)]; simp [go_sem]
    have e3 : w2.cell? ⟨w.heap.size + 1, 2, none⟩ = some (.slice none 0 0) := by rw [hcc _ _ (by simp)]; simp [go_sem]
    refine bodyPost_ret (v := .tuple #[.agg #[.int .i64 W, .int .i64 H, .slice a (W * H) cap], .int .i64 0]) (by simp [results, Try.results15, go_sem, e1, e2, e3]) rfl ⟨a, cap, rfl, ?_, ?_⟩
    · exact (((hints.setCell (by simp) _).setCell (by simp) _).setCell (by simp) _).mono (by simp; omega)
    · exact (((hB.trans (hbel.mono (by simp; omega))).setCell (by simp) _).setCell (by simp) _).setCell (by simp) _
  · have t := make2_tells _ w.heap.size W H k (by simp; omega) hk (by omega) (by omega) b3
    go_enter Try.func15, Try.ntmps15
    go_wp2_with (first
      | (go_at_call 56; refine (isSide_any _ _).mono ?_; rintro e w' ⟨rfl, rfl⟩)
      | (go_at_call 57; refine (isNumber_any _ _).mono ?_; rintro e w' ⟨rfl, rfl⟩)
      | (go_at_call 58; refine (draw_any W H _ _ _ _ (by omega) (by omega) t).mono ?_; rintro e w2 ⟨a, cap, rfl, hints, hbel⟩; obtain ⟨hcc, hff⟩ := bcell hbel; have hsz : w.heap.size + 1 < w2.heap.size := by have := hbel.size; simp at this; omega))
    have e1 : w2.cell? ⟨w.heap.size + 1, 0, none⟩ = some (.int .i64 0) := by rw [hcc _ _ (by simp)]; simp [go_sem]
    have e2 : w2.cell? ⟨w.heap.size + 1, 1, none⟩ = some (.int .i64 0) := by rw [hcc _ _ (by simp)]; simp [go_sem]
    have e3 : w2.cell? ⟨w.heap.size + 1, 2, none⟩ = some (.slice none 0 0) := by rw [hcc _ _ (by simp)]; simp [go_sem]
    refine bodyPost_ret (v := .tuple #[.agg #[.int .i64 W, .int .i64 H, .slice a (W * H) cap], .int .i64 0]) (by simp [results, Try.results15, go_sem, e1, e2, e3]) rfl ⟨a, cap, rfl, ?_, ?_⟩
    · exact (((hints.setCell (by simp) _).setCell (by simp) _).setCell (by simp) _).mono (by simp; omega)
    · exact (((hB.trans (hbel.mono (by simp; omega))).setCell (by simp) _).setCell (by simp) _).setCell (by simp) _

end Go.Proofs.Ytfpkiimlaepnhaa
