/-
  LITIN: what light.Lit does at one place, and in one tile.
-/
import Derived.Test.YtfpkiimlaepnhaaPan
import Derived.Laws.EntriesVeiled
namespace Go.Proofs.Ytfpkiimlaepnhaa
set_option maxRecDepth 100000
open Go.RowKit Im

theorem lit11_enters : ∀ args w, (callFunc 82 args).run Try.prog w = .ok (.enter 82 args) w := fun _ _ => by kernel_rfl
theorem lit1_enters : ∀ args w, (callFunc 80 args).run Try.prog w = .ok (.enter 80 args) w := fun _ _ => by kernel_rfl

/-- All that the functions of Lit lean on: the image in its box, the lights in theirs. -/
structure Scene (wB : World) (ab lb b off cap W H : Nat) (ps : List Int) (la : Option Addr) (llen lcap : Nat) (ls : List Lt) : Prop where
  box : Boxed wB ab b off cap W H
  fine : Fine wB b off W H ps
  llt : lb < wB.heap.size
  lc : wB.cell? ⟨lb, 0, none⟩ = some (.slice la llen lcap)
  lights : Lights wB la llen ls
  h8 : ls.length ≤ 8
  hr : ls.all rightB = true
theorem Scene.below {wB w' : World} {ab lb b off cap W H : Nat} {ps : List Int} {la : Option Addr} {llen lcap : Nat} {ls : List Lt} (h : Scene wB ab lb b off cap W H ps la llen lcap ls) (hb : Below wB.heap.size wB w') : Scene w' ab lb b off cap W H ps la llen lcap ls :=
  ⟨h.box.below hb, h.fine.below hb, Nat.lt_of_lt_of_le h.llt hb.size, (hb.cell (p := ⟨lb, 0, none⟩) h.llt).trans h.lc, h.lights.below hb, h.h8, h.hr⟩
/-- The number that a place gets. -/
def litG (W : Nat) (ps : List Int) (ls : List Lt) (x y : Nat) : Int := min (px W ps x y + sumG x y ls) 65535

set_option maxHeartbeats 1000000 in
theorem litPlace {wB w1 : World} {ab lb nb pb b off cap W H : Nat} {ps : List Int} {la : Option Addr} {llen lcap : Nat} {ls : List Lt} {q : Nat → Int} {na : Option Addr} {ncap : Nat} {near : List Int}
    (hS : Scene wB ab lb b off cap W H ps la llen lcap ls) (hp : Pan wB w1 (W * H) pb q) (hnc : w1.cell? ⟨nb, 0, none⟩ = some (.slice na near.length ncap)) (hni : Ints 0 w1 na near.length near)
    (hg : ∀ t, t < near.length → ∃ m : Nat, m < ls.length ∧ near.getD t 0 = m) (x y : Nat) (hx : x < W) (hy : y < H) (hsum : sumN x y ls near = sumG x y ls) (hn8 : near.length ≤ 8) :
    Calls Try.prog 82 #[.int .i64 x, .int .i64 y, .pointer (some ⟨ab, 0, none⟩), .pointer (some ⟨nb, 0, none⟩), .pointer (some ⟨lb, 0, none⟩), .pointer (some ⟨pb, 0, none⟩)] w1 fun e w2 =>
      e = .returned (.tuple #[]) ∧ ∃ w3, Below w1.heap.size w1 w3 ∧ w2 = w3.setCell ⟨wB.heap.size, y * W + x, none⟩ (.int .i64 (litG W ps ls x y)) := by
  have hS1 := hS.below hp.bel
  have hpl := place_lt hx hy
  obtain ⟨hm, hM⟩ := hS.fine.small
  have hb1 := hS.fine.hW
  have hb2 := hS.fine.hH
  have bx : 0 ≤ (x : Int) ∧ (x : Int) < 16 := by omega
  have by' : 0 ≤ (y : Int) ∧ (y : Int) < 16 := by omega
  have hpi : (y : Int) * (W : Int) + (x : Int) < (W : Int) * (H : Int) := by rw [← Int.natCast_mul, ← Int.natCast_mul]; omega
  have hp0 : 0 ≤ (y : Int) * (W : Int) := Int.mul_nonneg (by omega) (by omega)
  have hpM : (W : Int) * (H : Int) ≤ 256 := by rw [← Int.natCast_mul]; omega
  have hpb := hS.fine.px_bd x y hx hy
  have hcell := hS1.fine.cell (y * W + x) hpl
  obtain ⟨_, k0, k1, k2⟩ := hS1.box
  have hlc := hS1.lc
  have hbox := hp.box
  obtain ⟨hst, hfz⟩ := hp.cell (y * W + x) hpl
  have hs1 := hp.siz
  have hlo := hp.lo
  have habl := hS1.box.lt
  have hlbl := hS1.llt
  have hnbl : nb < w1.heap.size := by
    have := World.block_lt_of_cell? w1 _ hnc
    simpa using this
  obtain ⟨pv, hpv⟩ : ∃ pv, pv = px W ps x y := ⟨_, rfl⟩
  have hcell' : w1.cell? ⟨b, off + (y * W + x), none⟩ = some (.int .i64 pv) := by rw [hpv]; exact hcell
  have hG : Hid (litG W ps ls x y = min (pv + sumG x y ls) 65535) := by show _ = _; rw [hpv]; rfl
  rw [← hpv] at hpb
  have sb := sumG_bd x y bx by' ls hS.hr
  have sb2 : sumG x y ls ≤ 65535 * 8 := by have := hS.h8; omega
  obtain ⟨gx, hgx⟩ : ∃ gx, litG W ps ls x y = gx := ⟨_, rfl⟩
  rw [hgx] at hG ⊢
  have hmin : (if 65535 < pv + sumG x y ls then 65535 else pv + sumG x y ls) = gx := by rw [hG.out]; split <;> omega
  clear hcell hpv hG hgx hm
  by_cases hnil : near = []
  · subst hnil
    have hz : sumG x y ls = 0 := by rw [← hsum]; rfl
    rw [hz, Int.add_zero] at hmin
    have hgp : gx = pv := by rw [← hmin, if_neg (by omega)]
    subst hgp
    clear hz hsum sb sb2 hmin
    simp only [List.length_nil] at hnc
    go_enter Try.func82, Try.ntmps82
    go_wp2
    go_loop [8, 23] (fun s i => s = .int .i64 gx ∧ i = .int .i64 0) (fun _ _ => 0)
    case atStart => exact ⟨rfl, rfl⟩
    case round =>
      obtain ⟨rfl, rfl⟩ := hrel
      go_wp2
      go_end0
      exact ⟨rfl, w1, Below.refl _ _, rfl⟩
  · have hpos : 0 < near.length := List.length_pos_iff.2 hnil
    rcases hni.cells with e | ⟨nbb, noff, rfl, _, hnl, hncell⟩
    · exact absurd e hnil
    rcases hS.lights.cells with e | ⟨lbb, loff, rfl, hll, hlcell⟩
    · subst e
      have := hg 0 hpos
      obtain ⟨m, hm, _⟩ := this
      simp at hm
    · have hll1 := Nat.lt_of_lt_of_le hll hp.bel.size
      have hlw := fun (w2 : World) (hb2 : Below w1.heap.size w1 w2) (m : Nat) (hm : m < llen) => (show w2.cell? ⟨lbb, loff + m * 4, none⟩ = some (.int .i64 (ls.getD m Lt.zero).X) ∧ w2.cell? ⟨lbb, loff + m * 4 + 1, none⟩ = some (.int .i64 (ls.getD m Lt.zero).Y) ∧ w2.cell? ⟨lbb, loff + m * 4 + 2, none⟩ = some (.int .i64 (ls.getD m Lt.zero).R) ∧ w2.cell? ⟨lbb, loff + m * 4 + 3, none⟩ = some (.int .i64 (ls.getD m Lt.zero).P) from ⟨(hb2.cell (p := ⟨lbb, loff + m * 4, none⟩) hll1).trans ((hp.bel.cell (p := ⟨lbb, loff + m * 4, none⟩) hll).trans (hlcell m hm).1), (hb2.cell (p := ⟨lbb, loff + m * 4 + 1, none⟩) hll1).trans ((hp.bel.cell (p := ⟨lbb, loff + m * 4 + 1, none⟩) hll).trans (hlcell m hm).2.1), (hb2.cell (p := ⟨lbb, loff + m * 4 + 2, none⟩) hll1).trans ((hp.bel.cell (p := ⟨lbb, loff + m * 4 + 2, none⟩) hll).trans (hlcell m hm).2.2.1), (hb2.cell (p := ⟨lbb, loff + m * 4 + 3, none⟩) hll1).trans ((hp.bel.cell (p := ⟨lbb, loff + m * 4 + 3, none⟩) hll).trans (hlcell m hm).2.2.2)⟩)
      have hlen := hS.lights.leng
      have hall := hS.hr
      have hsteps : ∀ t, t < near.length → sumN x y ls (near.take (t + 1)) = sumN x y ls (near.take t) + givenP (ls.getD (near.getD t 0).toNat Lt.zero) x y := fun t ht => by
        have e : near.getD t 0 = near[t] := by rw [List.getD_eq_getElem?_getD, List.getElem?_eq_getElem ht]; rfl
        rw [List.take_succ_eq_append_getElem ht, sumN_snoc, e]
      have hnbd : ∀ t, t ≤ near.length → 0 ≤ sumN x y ls (near.take t) ∧ sumN x y ls (near.take t) ≤ 65535 * t := fun t => by
        induction t with
        | zero => intro _; simp [sumN]
        | succ t ih =>
          intro ht
          have h1 := ih (by omega)
          obtain ⟨m, hm, hmt⟩ := hg t (by omega)
          have h2 := given_bd (all_getD ls m hm hall) x y bx by'
          rw [hsteps t (by omega), hmt, Int.toNat_natCast]
          omega
      have hfull : near.take near.length = near := List.take_length
      clear hS hS1 hlcell
      go_enter Try.func82, Try.ntmps82
      go_wp2
      go_loopw [8, 23] (fun s i wr => ∃ t : Nat, t ≤ near.length ∧ i = .int .i64 t ∧ s = .int .i64 (pv + sumN x y ls (near.take t)) ∧ Below w1.heap.size w1 wr) (fun _ i _ => near.length - (intOf i).toNat)
      case atStart => exact ⟨0, Nat.zero_le _, rfl, by simp [sumN], Below.refl _ _⟩
      case round =>
        obtain ⟨t, ht, rfl, rfl, hbr⟩ := hrel
        have nb0 := hnbd t ht
        have nb1 : sumN x y ls (near.take t) ≤ 65535 * 8 := by omega
        have kl : wr.cell? ⟨lb, 0, none⟩ = some (.slice (some ⟨lbb, loff, none⟩) llen lcap) := (hbr.cell (p := ⟨lb, 0, none⟩) hlbl).trans hlc
        by_cases hlt : t < near.length
        · obtain ⟨m, hm, hmt⟩ := hg t hlt
          have hcn := (hbr.cell (p := ⟨nbb, noff + t, none⟩) hnl).trans (hncell t hlt)
          rw [hmt] at hcn
          have hstep := hsteps t hlt
          rw [hmt, Int.toNat_natCast] at hstep
          obtain ⟨c0, c1, c2, c3⟩ := hlw wr hbr m (by omega)
          have hrk := all_getD ls m hm hall
          have hgv := fun wx => given_any (ls.getD m Lt.zero) x y wx hrk bx by'
          have hgb := given_bd hrk x y bx by'
          generalize givenP (ls.getD m Lt.zero) x y = gv at hgv hgb hstep
          generalize ls.getD m Lt.zero = l at c0 c1 c2 c3 hgv
          obtain ⟨X, Y, R, P⟩ := l
          dsimp only at c0 c1 c2 c3 hgv
          have HS : Hid (sumN x y ls (near.take (t + 1)) = sumN x y ls (near.take t) + gv) := hstep
          have hml : (m : Int) < (llen : Int) := by omega
          clear hstep hrk hncell hlw hsteps hnbd hg hmt hfull hnil
          go_wp2_with (go_at_call 73; refine (hgv _).mono ?_; rintro e w2 ⟨rfl, hb2⟩)
          have hbn := below_stepL hbr hb2
          go_roundw
          case rel => exact ⟨t + 1, by omega, by go_num, by rw [HS.out]; go_num, hbn⟩
          case measure => simp [intOf]; omega
        · have e : t = near.length := by omega
          subst e
          rw [hfull, hsum]
          obtain ⟨cc, ff⟩ := bcell hbr
          have g0 := (cc ab 0 habl).trans k0
          have g5 := (cc pb 0 hs1).trans hbox
          have gs := (cc wB.heap.size (y * W + x) (by omega)).trans hst
          have gf := (ff wB.heap.size (y * W + x) (by omega)).trans hfz
          clear cc ff hncell hlw hsteps hnbd hg
          go_wp2
          go_end0
          exact ⟨rfl, wr, hbr, rfl⟩
end Go.Proofs.Ytfpkiimlaepnhaa
