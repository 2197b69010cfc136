/- NeedBegun, PassRef2: joined, in this order. -/
import Derived.Test.YtfpkiimlaepnhaaM43
import Derived.Test.YtfpkiimlaepnhaaM36
import Derived.Test.YtfpkiimlaepnhaaM26
import Derived.Test.YtfpkiimlaepnhaaM31
import Derived.Deep.RegionHeld3
import Derived.Deep.CutRange
import Derived.BigQuiet
/-
  NEEDBEGUN: what the laws of what is needed begin with comes out true.
-/
namespace Go.Proofs.Ytfpkiimlaepnhaa
set_option maxRecDepth 100000
open Go.RowKit Im

theorem glow_kept : keptG glowP 5 4 5 0 = true ∧ keptG glowP 5 4 5 1 = false ∧ keptG glowP 5 4 5 2 = false ∧ keptG glowP 5 4 5 3 = true ∧ keptG glowP 5 4 5 4 = true := by decide
theorem glow_culled : culled glowF = [⟨2, 0, 0, 0, 100, []⟩, ⟨1, 2, 0, 0, 9, []⟩, ⟨4, 1, 0, 2, 0, []⟩] := by rfl
set_option maxHeartbeats 4000000 in
theorem needBegun_any (w : World) : Calls Try.prog 53 #[] w fun e w' => e = .returned (.bool true) ∧ Below w.heap.size w w' := by
  have hla := fun a cap wx hp => last_any 4 2 3 1 a 5 cap glowP wx hp
  have hke := fun a cap wx hp => kept_any 4 2 3 1 a 5 cap glowP wx hp
  have hcu := fun a cap wx hp => cull_any 4 2 3 1 a 5 cap glowP wx hp
  have hok : frameE ⟨4, 2, 3, 1, glowP⟩ = 0 := glow_ok
  have hsh : shownP ⟨4, 2, 3, 1, glowP⟩ = 4 := glow_shown
  have hcl : culled ⟨4, 2, 3, 1, glowP⟩ = _ := glow_culled
  unfold ToldLast at hla
  rw [hok, if_pos rfl, hsh] at hla
  go_enter Try.func53, Try.ntmps53
  go_wp2_with fail
  refine (glow_any _).mono ?_
  rintro e w1 ⟨b1, rfl, hp1, bel1⟩
  go_wp2_with fail
  refine (hla _ _ _ hp1).mono ?_
  rintro e w2 ⟨rfl, bel2⟩
  have hb2 := below_step bel1 bel2
  clear hp1 bel1 bel2 hla
  go_wp2_with fail
  refine (glow_any _).mono ?_
  rintro e w3 ⟨b3, rfl, hp3, bel3⟩
  replace hb2 := below_step hb2 bel3
  go_wp2_with fail
  refine (hke _ _ _ hp3).mono ?_
  rintro e w4 ⟨⟨_, bK, rfl, hbK, hK⟩ | ⟨h0, _⟩, bel4⟩
  · dsimp only at hK ⊢
    rw [hsh] at hK
    have hK' : Bl w4 bK 5 (keptG glowP 5 4 5) := hK
    replace hb2 := below_step hb2 bel4
    have hlen : glowP.length = 5 := rfl
    rw [hlen]
    clear hp3 bel3 bel4 hke hK hlen
    go_wp2_with fail
    refine (glow_any _).mono ?_
    rintro e w5 ⟨b5, rfl, hp5, bel5⟩
    replace hb2 := below_step hb2 bel5
    replace hK' := hK'.below bel5 hK'.lt bel5.size
    go_wp2_with fail
    refine (hcu _ _ _ hp5).mono ?_
    rintro e w6 ⟨⟨_, ca, cc, rfl, hpc⟩ | ⟨h0, _⟩, bel6⟩
    · rw [hcl] at hpc ⊢
      dsimp only at hpc ⊢
      replace hb2 := below_step hb2 bel6
      replace hK' := hK'.below bel6 hK'.lt bel6.size
      have bB := (Below.refl w6.heap.size w6).alloc (Nat.le_refl _) (.cells #[.int .i64 4, .int .i64 2, .int .i64 3, .int .i64 1, .slice ca 3 cc] 63)
      replace hb2 := below_step hb2 bB
      replace hK' := hK'.below bB hK'.lt bB.size
      replace hpc := hpc.below bB
      obtain ⟨k0, k1, k2, k3, k4⟩ := glow_kept
      have c0 : _ = some (Value.bool (keptG glowP 5 4 5 0)) := hK'.cells 0 (by decide)
      have c1 : _ = some (Value.bool (keptG glowP 5 4 5 1)) := hK'.cells 1 (by decide)
      have c2 : _ = some (Value.bool (keptG glowP 5 4 5 2)) := hK'.cells 2 (by decide)
      have c3 : _ = some (Value.bool (keptG glowP 5 4 5 3)) := hK'.cells 3 (by decide)
      have c4 : _ = some (Value.bool (keptG glowP 5 4 5 4)) := hK'.cells 4 (by decide)
      rw [k0] at c0
      rw [k1] at c1
      rw [k2] at c2
      rw [k3] at c3
      rw [k4] at c4
      obtain ⟨cb, co, la, ll, lc, rfl, p0, p1, p2, p3, p4, p5, _⟩ := hpc.nth (k := 1) (by decide)
      have p4' : (w6.alloc (.cells #[.int .i64 4, .int .i64 2, .int .i64 3, .int .i64 1, .slice (some ⟨cb, co, none⟩) 3 cc] 63)).cell? ⟨cb, co + 6 + 4, none⟩ = some (.int .i64 9) := p4
      have h3 : ([⟨2, 0, 0, 0, 100, []⟩, ⟨1, 2, 0, 0, 9, []⟩, ⟨4, 1, 0, 2, 0, []⟩] : List Ps).length = 3 := rfl
      rw [h3]
      clear p0 p1 p2 p3 p4 p5 hpc hK' hp5 bel5 bel6 bB hcu hcl k0 k1 k2 k3 k4 h3 hok hsh
      go_wp2
      go_ret
      exact ⟨rfl, hb2⟩
    · exact absurd hok h0
  · exact absurd hok h0
end Go.Proofs.Ytfpkiimlaepnhaa
/-
  PASSREF2: the reference's passError, whatever it is handed.
-/
namespace Go.Proofs.Ytfpkiimlaepnhaa
set_option maxRecDepth 100000
open Go.RowKit Im

theorem passErr_kind (W H S O : Int) (fa : Option Addr) (flen fcap : Nat) (Op To A B K : Int) (la : Option Addr) (ll lc : Nat) (ia : Option Addr) (il ic : Nat) (w : World) (hkn : knownB Op = false) :
    Calls Try.prog 84 #[.agg #[.int .i64 W, .int .i64 H, .int .i64 S, .int .i64 O, .slice fa flen fcap], .agg #[.int .i64 Op, .int .i64 To, .int .i64 A, .int .i64 B, .int .i64 K, .slice la ll lc], .slice ia il ic] w fun e w' => e = .returned (.int .i64 4) ∧ Below w.heap.size w w' := by
  have hk := fun wx => within_any Op 1 13 wx
  rw [show withinB Op 1 13 = false from hkn] at hk
  go_enter Try.func84, Try.ntmps84
  go_wp2_with (go_at_call 61; refine (hk _).mono ?_; rintro e w' ⟨rfl, rfl⟩)
  go_ret
  exact ⟨rfl, below_box (below_box (Below.refl _ _) _) _⟩
def bad1 (xa xb bTo bA bB kf : Bool) : Bool := !bTo || (xa && !bA) || (xb && !bB) || !kf
def bad2 (xa xb xk xl : Bool) (To A B K : Int) (ll : Nat) : Bool := (!xa && !decide (A = 0)) || (!xb && !decide (B = 0)) || (!xk && !decide (K = 0)) || (!xl && decide (0 < ll)) || (xa && decide (A = To)) || (xb && decide (B = To))
def bad3 (xa xb : Bool) (zA zB : Sz) : Bool := (xa && decide (zA.1 = 0)) || (xb && decide (zB.1 = 0))
def bad4 (xb : Bool) (zA zB : Sz) : Bool := xb && !decide (zA = zB)
def bad5 (Op : Int) (zA : Sz) : Bool := (decide (Op = 11) && (decide (zA.1 % 2 = 1) || decide (zA.2 % 2 = 1))) || (decide (Op = 12) && (decide (16 < 2 * zA.1) || decide (16 < 2 * zA.2)))
def coreE (xa xb xk xl bTo bA bB kf : Bool) (Op To A B K : Int) (ll : Nat) (le : Int) (zA zB : Sz) : Int :=
  if bad1 xa xb bTo bA bB kf = true then 3
  else if xl = true ∧ le ≠ 0 then le
  else if bad2 xa xb xk xl To A B K ll = true then 1
  else if bad3 xa xb zA zB = true then 5
  else if bad4 xb zA zB = true then 6
  else if bad5 Op zA = true then 6
  else 0
theorem bad1_false {xa xb bTo bA bB kf : Bool} (h : bad1 xa xb bTo bA bB kf = false) : (xa = true → bA = true) ∧ (xb = true → bB = true) := by
  revert h; cases xa <;> cases xb <;> cases bA <;> cases bB <;> simp [bad1]
set_option maxHeartbeats 4000000 in
theorem passErr_core (W H S O : Int) (fa : Option Addr) (flen fcap : Nat) (Op To A B K : Int) (la : Option Addr) (ll lc : Nat) (b off il ic : Nat) (xa xb xk xl bTo bA bB kf : Bool) (le : Int) (zA zB : Sz) (w : World) (hkn : knownB Op = true) (hb : b < w.heap.size)
    (hcombo : (xa = false ∧ xb = false ∧ xk = true ∧ xl = false) ∨ (xa = true ∧ xb = false ∧ xk = false ∧ xl = false) ∨ (xa = true ∧ xb = true ∧ xk = false ∧ xl = false) ∨ (xa = true ∧ xb = false ∧ xk = true ∧ xl = false) ∨ (xa = true ∧ xb = false ∧ xk = true ∧ xl = true))
    (hh : ∀ wx, Calls Try.prog 86 #[.int .i64 Op] wx fun e w' => e = .returned (.tuple #[.bool xa, .bool xb, .bool xk, .bool xl]) ∧ wx = w')
    (hT : ∀ wx bx, FBox wx bx W H S O fa flen fcap → Calls Try.prog 113 #[.int .i64 To, .pointer (some ⟨bx, 0, none⟩)] wx fun e w' => e = .returned (.bool bTo) ∧ wx = w')
    (hA : ∀ wx bx, FBox wx bx W H S O fa flen fcap → Calls Try.prog 113 #[.int .i64 A, .pointer (some ⟨bx, 0, none⟩)] wx fun e w' => e = .returned (.bool bA) ∧ wx = w')
    (hB : ∀ wx bx, FBox wx bx W H S O fa flen fcap → Calls Try.prog 113 #[.int .i64 B, .pointer (some ⟨bx, 0, none⟩)] wx fun e w' => e = .returned (.bool bB) ∧ wx = w')
    (hK : ∀ wx, Calls Try.prog 114 #[.agg #[.int .i64 Op, .int .i64 To, .int .i64 A, .int .i64 B, .int .i64 K, .slice la ll lc]] wx fun e w' => e = .returned (.bool kf) ∧ Below wx.heap.size wx w')
    (hLi : ∀ wx, Below w.heap.size w wx → Calls Try.prog 31 #[.slice la ll lc] wx fun e w' => e = .returned (.int .i64 le) ∧ Below wx.heap.size wx w')
    (cA : bA = true → ∃ m : Nat, A = m ∧ (m : Int) < il ∧ w.cell? ⟨b, off + m * 2, none⟩ = some (.int .i64 zA.1) ∧ w.cell? ⟨b, off + m * 2 + 1, none⟩ = some (.int .i64 zA.2))
    (hop : Op = 11 ∨ Op = 12 → xa = true) (hz : (0 ≤ zA.1 ∧ zA.1 ≤ 16) ∧ (0 ≤ zA.2 ∧ zA.2 ≤ 16))
    (cB : bB = true → ∃ m : Nat, B = m ∧ (m : Int) < il ∧ w.cell? ⟨b, off + m * 2, none⟩ = some (.int .i64 zB.1) ∧ w.cell? ⟨b, off + m * 2 + 1, none⟩ = some (.int .i64 zB.2)) :
    Calls Try.prog 84 #[.agg #[.int .i64 W, .int .i64 H, .int .i64 S, .int .i64 O, .slice fa flen fcap], .agg #[.int .i64 Op, .int .i64 To, .int .i64 A, .int .i64 B, .int .i64 K, .slice la ll lc], .slice (some ⟨b, off, none⟩) il ic] w fun e w' => e = .returned (.int .i64 (coreE xa xb xk xl bTo bA bB kf Op To A B K ll le zA zB)) ∧ Below w.heap.size w w' := by
  have hk := fun wx => within_any Op 1 13 wx
  rw [show withinB Op 1 13 = true from hkn] at hk
  have hF := (FBox.new w W H S O fa flen fcap).alloc (.cells #[.int .i64 Op, .int .i64 To, .int .i64 A, .int .i64 B, .int .i64 K, .slice la ll lc] 88)
  have hP := PBox.new (w.alloc (.cells #[.int .i64 W, .int .i64 H, .int .i64 S, .int .i64 O, .slice fa flen fcap] 63)) Op To A B K la ll lc
  rw [World.size_alloc] at hP
  have hb0 := below_box (below_box (Below.refl w.heap.size w) (.cells #[.int .i64 W, .int .i64 H, .int .i64 S, .int .i64 O, .slice fa flen fcap] 63)) (.cells #[.int .i64 Op, .int .i64 To, .int .i64 A, .int .i64 B, .int .i64 K, .slice la ll lc] 88)
  have hmf : ∀ (fn : Fn) (first cap : Array Value) (w : World), (Instr.makeFunc fn first cap).run Try.prog w = .ok (.func fn first cap) w := fun _ _ _ _ => rfl
  have HC : Hid (_) := hcombo
  have HA : Hid (_) := cA
  have HB : Hid (_) := cB
  have HO : Hid (_) := hop
  have HZ : Hid (_) := hz
  clear hcombo cA cB hop hz
  generalize hE : coreE xa xb xk xl bTo bA bB kf Op To A B K ll le zA zB = E
  have HEE : Hid (_) := hE
  clear hE
  go_enter Try.func84, Try.ntmps84
  go_upto_region 5 with (first
    | (go_at_call 61; refine (hk _).mono ?_; rintro e w' ⟨rfl, rfl⟩)
    | (go_at_call 86; refine (hh _).mono ?_; rintro e w' ⟨rfl, rfl⟩))
  generalize (w.alloc (.cells #[.int .i64 W, .int .i64 H, .int .i64 S, .int .i64 O, .slice fa flen fcap] 63)).alloc (.cells #[.int .i64 Op, .int .i64 To, .int .i64 A, .int .i64 B, .int .i64 K, .slice la ll lc] 88) = w1 at *
  generalize Value.agg #[.int .i64 W, .int .i64 H, .int .i64 S, .int .i64 O, .slice fa flen fcap] = ag0
  generalize Value.agg #[.int .i64 Op, .int .i64 To, .int .i64 A, .int .i64 B, .int .i64 K, .slice la ll lc] = ag1
  go_cut [54] from 25 to 54 (fun s wc => s = .bool (bad1 xa xb bTo bA bB kf) ∧ Below w1.heap.size w1 wc)
  case first =>
    have h1 := hT _ _ hF
    have h2 := hA _ _ hF
    have h3 := hB _ _ hF
    have h4 := hK w1
    obtain ⟨_, p0, p1, p2, p3, p4, p5⟩ := hP
    clear hT hA hB hK hLi hh hk hkn hb hF hb0 HA HB HEE
    cases xa <;> cases xb
    all_goals
      go_wp2_with (first
        | (go_at_call 113; refine h1.mono ?_; rintro e w' ⟨rfl, rfl⟩)
        | (go_at_call 113; refine h2.mono ?_; rintro e w' ⟨rfl, rfl⟩)
        | (go_at_call 113; refine h3.mono ?_; rintro e w' ⟨rfl, rfl⟩)
        | (go_at_call 114; refine h4.mono ?_; rintro e w' ⟨rfl, bK⟩))
      all_goals go_meet
      all_goals exact ⟨by simp [bad1, *], by first | exact Below.refl _ _ | assumption⟩
  case rest =>
    obtain ⟨rfl, bc⟩ := hcut
    have hP1 := hP.below bc
    have hb1 := below_step hb0 bc
    clear hT hA hB hK hh hk hF hP bc hb0 hmf
    obtain ⟨_, p0, p1, p2, p3, p4, p5⟩ := id hP1
    generalize hx1 : bad1 xa xb bTo bA bB kf = x1
    cases x1 with
    | true =>
      have hE3 : E = 3 := by rw [← HEE.out]; unfold coreE; rw [if_pos hx1]
      subst hE3
      clear hx1 HEE HC HA HB hLi hkn hb hP1
      go_wp2
      go_ret
      exact ⟨rfl, hb1⟩
    | false =>
      have H1 : Hid (_) := hx1
      have HAB : Hid (_) := bad1_false hx1
      clear hx1
      go_upto_region 7 with fail
      have hli := hLi _ hb1
      go_cut [61] from 55 to 61 (fun s wd => s = .bool (xl && !decide (le = 0)) ∧ Below wc.heap.size wc wd)
      case first =>
        clear H1 HA HB HAB HEE hLi
        cases xl
        · go_wp2
          go_meet
          exact ⟨by simp, Below.refl _ _⟩
        · go_wp2_with (go_at_call 31; refine hli.mono ?_; rintro e w' ⟨rfl, bL⟩)
          go_meet
          exact ⟨by simp; rfl, bL⟩
      case rest =>
        obtain ⟨rfl, bc2⟩ := hcut
        have hP2 := hP1.below bc2
        have hb2 := below_step hb1 bc2
        clear hP1 bc2 hb1 p0 p1 p2 p3 p4 p5 hli
        rename_i wc1 _ _ _
        obtain ⟨_, p0, p1, p2, p3, p4, p5⟩ := id hP2
        have hli := hLi _ hb2
        clear hLi
        generalize hx2 : (xl && !decide (le = 0)) = x2
        cases x2 with
        | true =>
          have hxl : xl = true ∧ le ≠ 0 := by simpa using hx2
          have hE3 : E = le := by rw [← HEE.out]; unfold coreE; rw [H1.out, if_neg (by decide), if_pos hxl]
          subst hE3
          clear hx2 hxl HEE HC HA HB hkn hb hP2
          go_wp2_with (go_at_call 31; refine hli.mono ?_; rintro e w' ⟨rfl, bL⟩)
          go_ret
          exact ⟨rfl, below_step hb2 bL⟩
        | false =>
          have H2 : Hid (¬ (xl = true ∧ le ≠ 0)) := fun h => by simp [h.1, h.2] at hx2
          clear hx2 hli
          go_upto_region 9 with fail
          go_cut [119] from 65 to 119 (fun s wd => s = .bool (bad2 xa xb xk xl To A B K ll) ∧ wc = wd)
          case first =>
            clear H1 H2 HA HB HAB HEE hkn hb hP2 hb2
            have hc := HC.out
            clear HC
            rcases hc with ⟨rfl, rfl, rfl, rfl⟩ | ⟨rfl, rfl, rfl, rfl⟩ | ⟨rfl, rfl, rfl, rfl⟩ | ⟨rfl, rfl, rfl, rfl⟩ | ⟨rfl, rfl, rfl, rfl⟩
            all_goals
              go_wp2
              all_goals go_meet
              all_goals exact ⟨congrArg Value.bool (Bool.eq_iff_iff.2 (by simp [bad2, *] <;> omega)), rfl⟩
          case rest =>
            obtain ⟨rfl, rfl⟩ := hcut
            generalize hx3 : bad2 xa xb xk xl To A B K ll = x3
            cases x3 with
            | true =>
              have hE3 : E = 1 := by rw [← HEE.out]; unfold coreE; rw [H1.out, if_neg (by decide), if_neg H2.out, if_pos hx3]
              subst hE3
              clear hx3 HEE HC HA HB hkn hb hP2
              go_wp2
              go_ret
              exact ⟨rfl, hb2⟩
            | false =>
              have H3 : Hid (_) := hx3
              clear hx3
              go_upto_region 11 with fail
              go_cut [141] from 120 to 141 (fun s wd => s = .bool (bad3 xa xb zA zB) ∧ wc = wd)
              case first =>
                have ha := HAB.out.1
                have hbb := HAB.out.2
                have ca := HA.out
                have cb := HB.out
                clear H1 H2 H3 HA HB HAB HEE hkn hP2 HC
                cases xa <;> cases xb
                · clear ha hbb ca cb
                  go_wp2
                  go_meet
                  exact ⟨by simp [bad3], rfl⟩
                · obtain ⟨n, rfl, hn, d0, d1⟩ := cb (hbb rfl)
                  replace d0 := (hb2.cell (p := ⟨b, off + n * 2, none⟩) hb).trans d0
                  clear ha hbb ca cb
                  go_wp2
                  all_goals go_meet
                  all_goals exact ⟨congrArg Value.bool (Bool.eq_iff_iff.2 (by simp [bad3, *] <;> omega)), rfl⟩
                · obtain ⟨n, rfl, hn, d0, d1⟩ := ca (ha rfl)
                  replace d0 := (hb2.cell (p := ⟨b, off + n * 2, none⟩) hb).trans d0
                  clear ha hbb ca cb
                  go_wp2
                  all_goals go_meet
                  all_goals exact ⟨congrArg Value.bool (Bool.eq_iff_iff.2 (by simp [bad3, *] <;> omega)), rfl⟩
                · obtain ⟨n, rfl, hn, d0, d1⟩ := ca (ha rfl)
                  obtain ⟨m, rfl, hm, e0, e1⟩ := cb (hbb rfl)
                  replace d0 := (hb2.cell (p := ⟨b, off + n * 2, none⟩) hb).trans d0
                  replace e0 := (hb2.cell (p := ⟨b, off + m * 2, none⟩) hb).trans e0
                  clear ha hbb ca cb
                  go_wp2
                  all_goals go_meet
                  all_goals exact ⟨congrArg Value.bool (Bool.eq_iff_iff.2 (by simp [bad3, *] <;> omega)), rfl⟩
              case rest =>
                obtain ⟨rfl, rfl⟩ := hcut
                generalize hx4 : bad3 xa xb zA zB = x4
                cases x4 with
                | true =>
                  have hE3 : E = 5 := by rw [← HEE.out]; unfold coreE; rw [H1.out, if_neg (by decide), if_neg H2.out, H3.out, if_neg (by decide), if_pos hx4]
                  subst hE3
                  clear hx4 HEE HC HA HB hkn hb hP2
                  go_wp2
                  go_ret
                  exact ⟨rfl, hb2⟩
                | false =>
                  have H4 : Hid (_) := hx4
                  clear hx4
                  go_upto_region 13 with fail
                  go_cut [155] from 142 to 155 (fun s wd => s = .bool (bad4 xb zA zB) ∧ Below wc.heap.size wc wd)
                  case first =>
                    have ha := HAB.out.1
                    have hbb := HAB.out.2
                    have ca := HA.out
                    have cb := HB.out
                    have hc := HC.out
                    clear H1 H2 H3 H4 HA HB HAB HEE hkn hP2 HC
                    cases xb
                    · clear ha hbb ca cb hc
                      go_quiet (fail)
                      go_wp2
                      go_meet
                      exact ⟨by simp [bad4], below_drewN (Below.refl _ _) _⟩
                    · have hxa : xa = true := by rcases hc with h | h | h | h | h <;> simp_all
                      obtain ⟨n, rfl, hn, d0, d1⟩ := ca (ha hxa)
                      obtain ⟨m, rfl, hm, e0, e1⟩ := cb (hbb rfl)
                      replace d0 := (hb2.cell (p := ⟨b, off + n * 2, none⟩) hb).trans d0
                      replace e0 := (hb2.cell (p := ⟨b, off + m * 2, none⟩) hb).trans e0
                      replace d1 := (hb2.cell (p := ⟨b, off + n * 2 + 1, none⟩) hb).trans d1
                      replace e1 := (hb2.cell (p := ⟨b, off + m * 2 + 1, none⟩) hb).trans e1
                      clear ha hbb ca cb hc hxa
                      obtain ⟨zw, zh⟩ := zA
                      obtain ⟨yw, yh⟩ := zB
                      dsimp only at d0 d1 e0 e1
                      have hc : (yw = zw ∧ yh = zh) ∨ (yw = zw ∧ (zh == yh) = false) ∨ (zw == yw) = false := by
                        by_cases a1 : zw = yw <;> by_cases a2 : zh = yh <;> simp [a1, a2]
                      rcases hc with ⟨rfl, rfl⟩ | ⟨rfl, hn'⟩ | hn'
                      · go_region_held3 (fun w' => w'.cell? ⟨b, off + n * 2, none⟩ = some (.int .i64 yw) ∧ w'.cell? ⟨b, off + n * 2 + 1, none⟩ = some (.int .i64 yh) ∧ w'.cell? ⟨b, off + m * 2, none⟩ = some (.int .i64 yw) ∧ w'.cell? ⟨b, off + m * 2 + 1, none⟩ = some (.int .i64 yh) ∧ w'.cell? ⟨w.heap.size + 1, 2, none⟩ = some (.int .i64 n) ∧ w'.cell? ⟨w.heap.size + 1, 3, none⟩ = some (.int .i64 m))
                          (exact ⟨d0, d1, e0, e1, p2, p3⟩)
                          (fail)
                        all_goals go_wp2
                        all_goals go_meet
                        all_goals exact ⟨by simp [bad4], (Below.refl _ _).drew⟩
                      · go_region_held3 (fun w' => w'.cell? ⟨b, off + n * 2, none⟩ = some (.int .i64 yw) ∧ w'.cell? ⟨b, off + n * 2 + 1, none⟩ = some (.int .i64 zh) ∧ w'.cell? ⟨b, off + m * 2, none⟩ = some (.int .i64 yw) ∧ w'.cell? ⟨b, off + m * 2 + 1, none⟩ = some (.int .i64 yh) ∧ w'.cell? ⟨w.heap.size + 1, 2, none⟩ = some (.int .i64 n) ∧ w'.cell? ⟨w.heap.size + 1, 3, none⟩ = some (.int .i64 m))
                          (exact ⟨d0, d1, e0, e1, p2, p3⟩)
                          (fail)
                        all_goals go_wp2
                        all_goals go_meet
                        all_goals exact ⟨by have := hn'; simp at this; simp [bad4, this], (Below.refl _ _).drew⟩
                      · go_region_held3 (fun w' => w'.cell? ⟨b, off + n * 2, none⟩ = some (.int .i64 zw) ∧ w'.cell? ⟨b, off + n * 2 + 1, none⟩ = some (.int .i64 zh) ∧ w'.cell? ⟨b, off + m * 2, none⟩ = some (.int .i64 yw) ∧ w'.cell? ⟨b, off + m * 2 + 1, none⟩ = some (.int .i64 yh) ∧ w'.cell? ⟨w.heap.size + 1, 2, none⟩ = some (.int .i64 n) ∧ w'.cell? ⟨w.heap.size + 1, 3, none⟩ = some (.int .i64 m))
                          (exact ⟨d0, d1, e0, e1, p2, p3⟩)
                          (fail)
                        all_goals go_wp2
                        all_goals go_meet
                        all_goals exact ⟨by have := hn'; simp at this; simp [bad4, this], (Below.refl _ _).drew⟩
                  case rest =>
                    obtain ⟨rfl, bc3⟩ := hcut
                    have hP3 := hP2.below bc3
                    have hb3 := below_step hb2 bc3
                    clear hP2 bc3 hb2 p0 p1 p2 p3 p4 p5
                    obtain ⟨_, p0, p1, p2, p3, p4, p5⟩ := id hP3
                    generalize hx5 : bad4 xb zA zB = x5
                    cases x5 with
                    | true =>
                      have hE3 : E = 6 := by rw [← HEE.out]; unfold coreE; rw [H1.out, if_neg (by decide), if_neg H2.out, H3.out, if_neg (by decide), H4.out, if_neg (by decide), if_pos hx5]
                      subst hE3
                      clear hx5 HEE HC HA HB hkn hb hP3
                      go_wp2
                      go_ret
                      exact ⟨rfl, hb3⟩
                    | false =>
                      have H5 : Hid (_) := hx5
                      clear hx5
                      go_upto_region 15 with fail
                      go_cut [203] from 156 to 203 (fun s wd => s = .bool (bad5 Op zA) ∧ wc = wd)
                      case first =>
                        have ha := HAB.out.1
                        have ca := HA.out
                        have hxa := HO.out
                        clear H1 H2 H3 H4 H5 HA HB HAB HEE hkn HC HO hP3
                        by_cases h11 : Op = 11
                        · subst h11
                          obtain ⟨n, rfl, hn, d0, d1⟩ := ca (ha (hxa (Or.inl rfl)))
                          replace d0 := (hb3.cell (p := ⟨b, off + n * 2, none⟩) hb).trans d0
                          replace d1 := (hb3.cell (p := ⟨b, off + n * 2 + 1, none⟩) hb).trans d1
                          clear ha ca hxa
                          obtain ⟨zw, zh⟩ := zA
                          have hz := HZ.out
                          clear HZ
                          dsimp only at d0 d1 hz
                          go_wp2
                          all_goals go_meet
                          all_goals exact ⟨congrArg Value.bool (Bool.eq_iff_iff.2 (by simp [bad5, *] <;> omega)), rfl⟩
                        · by_cases h12 : Op = 12
                          · subst h12
                            obtain ⟨n, rfl, hn, d0, d1⟩ := ca (ha (hxa (Or.inr rfl)))
                            replace d0 := (hb3.cell (p := ⟨b, off + n * 2, none⟩) hb).trans d0
                            replace d1 := (hb3.cell (p := ⟨b, off + n * 2 + 1, none⟩) hb).trans d1
                            clear ha ca hxa
                            obtain ⟨zw, zh⟩ := zA
                            have hz := HZ.out
                            clear HZ
                            dsimp only at d0 d1 hz
                            have w1 : IntKind.i64.wrap (2 * zw) = 2 * zw := by rw [IntKind.wrap_i64]; omega
                            have w2 : IntKind.i64.wrap (2 * zh) = 2 * zh := by rw [IntKind.wrap_i64]; omega
                            go_wp2
                            all_goals go_meet
                            all_goals exact ⟨congrArg Value.bool (Bool.eq_iff_iff.2 (by simp [bad5, *] <;> omega)), rfl⟩
                          · clear ha ca hxa
                            go_wp2
                            all_goals go_meet
                            all_goals exact ⟨congrArg Value.bool (Bool.eq_iff_iff.2 (by simp [bad5, *])), rfl⟩
                      case rest =>
                        obtain ⟨rfl, rfl⟩ := hcut
                        generalize hx6 : bad5 Op zA = x6
                        cases x6 with
                        | true =>
                          have hE3 : E = 6 := by rw [← HEE.out]; unfold coreE; rw [H1.out, if_neg (by decide), if_neg H2.out, H3.out, if_neg (by decide), H4.out, if_neg (by decide), H5.out, if_neg (by decide), if_pos hx6]
                          subst hE3
                          clear hx6 HEE HC HA HB hkn hb hP3
                          go_wp2
                          go_ret
                          exact ⟨rfl, hb3⟩
                        | false =>
                          have hE3 : E = 0 := by rw [← HEE.out]; unfold coreE; rw [H1.out, if_neg (by decide), if_neg H2.out, H3.out, if_neg (by decide), H4.out, if_neg (by decide), H5.out, if_neg (by decide), hx6, if_neg (by decide)]
                          subst hE3
                          clear hx6 HEE HC HA HB hkn hb hP3
                          go_wp2
                          go_ret
                          exact ⟨rfl, hb3⟩
end Go.Proofs.Ytfpkiimlaepnhaa
