/- PassRef2, RefCheck, PassRef3, SizeRef, RefCheck2, RefCheck3: joined, in this order. -/
import Derived.Test.YtihliofhhjjeaaaGreatM12
import Derived.Test.YtihliofhhjjeaaaGreatM06
import Derived.Test.YtihliofhhjjeaaaGreatM16
import Derived.Deep.RegionHeld3
import Derived.Deep.CutRange
import Derived.BigQuiet
import Derived.Test.YtihliofhhjjeaaaGreatM10
import Derived.Test.YtihliofhhjjeaaaGreatM07
import Derived.Test.YtihliofhhjjeaaaGreatM05
set_option maxRecDepth 100000
namespace Go.Proofs.YtihliofhhjjeaaaGreat
open Go.RowKit Im
theorem passErr_kind (W H S O : Int) (fa : Option Addr) (flen fcap : Nat) (Op To A B K : Int) (la : Option Addr) (ll lc : Nat) (ia : Option Addr) (il ic : Nat) (w : World) (hkn : knownB Op = false) :
    Calls Tryz.prog 43 #[.agg #[.int .i64 W, .int .i64 H, .int .i64 S, .int .i64 O, .slice fa flen fcap], .agg #[.int .i64 Op, .int .i64 To, .int .i64 A, .int .i64 B, .int .i64 K, .slice la ll lc], .slice ia il ic] w fun e w' => e = .returned (.int .i64 4) ∧ Below w.heap.size w w' := by
  have hk := fun wx => within_any Op 1 13 wx
  rw [show withinB Op 1 13 = false from hkn] at hk
  go_enter Tryz.func43, Tryz.ntmps43
  go_wp2_with (go_at_call 42; refine (hk _).mono ?_; rintro e w' ⟨rfl, rfl⟩)
  go_ret
  exact ⟨rfl, below_box (below_box (Below.refl _ _) _) _⟩
def bad1 (xa xb bTo bA bB kf : Bool) : Bool := !bTo || (xa && !bA) || (xb && !bB) || !kf
def bad2 (xa xb xk xl : Bool) (To A B K : Int) (ll : Nat) : Bool := (!xa && !decide (A = 0)) || (!xb && !decide (B = 0)) || (!xk && !decide (K = 0)) || (!xl && decide (0 < ll)) || (xa && decide (A = To)) || (xb && decide (B = To))
def bad3 (xa xb : Bool) (zA zB : Sz) : Bool := (xa && decide (zA.1 = 0)) || (xb && decide (zB.1 = 0))
def bad4 (xb : Bool) (zA zB : Sz) : Bool := xb && !decide (zA = zB)
def bad5 (Op : Int) (zA : Sz) : Bool := (decide (Op = 11) && (decide (zA.1 % 2 = 1) || decide (zA.2 % 2 = 1))) || (decide (Op = 12) && (decide (16 < 2 * zA.1) || decide (16 < 2 * zA.2)))
def coreE (xa xb xk xl bTo bA bB kf : Bool) (Op To A B K : Int) (ll : Nat) (le : Int) (zA zB : Sz) : Int :=
  if bad1 xa xb bTo bA bB kf = true then 3
  else if xl = true ∧ le ≠ 0 then le
  else if bad2 xa xb xk xl To A B K ll = true then 1
  else if bad3 xa xb zA zB = true then 5
  else if bad4 xb zA zB = true then 6
  else if bad5 Op zA = true then 6
  else 0
theorem bad1_false {xa xb bTo bA bB kf : Bool} (h : bad1 xa xb bTo bA bB kf = false) : (xa = true → bA = true) ∧ (xb = true → bB = true) := by
  revert h; cases xa <;> cases xb <;> cases bA <;> cases bB <;> simp [bad1]
set_option maxHeartbeats 4000000 in
theorem passErr_core (W H S O : Int) (fa : Option Addr) (flen fcap : Nat) (Op To A B K : Int) (la : Option Addr) (ll lc : Nat) (b off il ic : Nat) (xa xb xk xl bTo bA bB kf : Bool) (le : Int) (zA zB : Sz) (w : World) (hkn : knownB Op = true) (hb : b < w.heap.size)
    (hcombo : (xa = false ∧ xb = false ∧ xk = true ∧ xl = false) ∨ (xa = true ∧ xb = false ∧ xk = false ∧ xl = false) ∨ (xa = true ∧ xb = true ∧ xk = false ∧ xl = false) ∨ (xa = true ∧ xb = false ∧ xk = true ∧ xl = false) ∨ (xa = true ∧ xb = false ∧ xk = true ∧ xl = true))
    (hh : ∀ wx, Calls Tryz.prog 78 #[.int .i64 Op] wx fun e w' => e = .returned (.tuple #[.bool xa, .bool xb, .bool xk, .bool xl]) ∧ wx = w')
    (hT : ∀ wx bx, FBox wx bx W H S O fa flen fcap → Calls Tryz.prog 79 #[.int .i64 To, .pointer (some ⟨bx, 0, none⟩)] wx fun e w' => e = .returned (.bool bTo) ∧ wx = w')
    (hA : ∀ wx bx, FBox wx bx W H S O fa flen fcap → Calls Tryz.prog 79 #[.int .i64 A, .pointer (some ⟨bx, 0, none⟩)] wx fun e w' => e = .returned (.bool bA) ∧ wx = w')
    (hB : ∀ wx bx, FBox wx bx W H S O fa flen fcap → Calls Tryz.prog 79 #[.int .i64 B, .pointer (some ⟨bx, 0, none⟩)] wx fun e w' => e = .returned (.bool bB) ∧ wx = w')
    (hK : ∀ wx, Calls Tryz.prog 80 #[.agg #[.int .i64 Op, .int .i64 To, .int .i64 A, .int .i64 B, .int .i64 K, .slice la ll lc]] wx fun e w' => e = .returned (.bool kf) ∧ Below wx.heap.size wx w')
    (hLi : ∀ wx, Below w.heap.size w wx → Calls Tryz.prog 81 #[.slice la ll lc] wx fun e w' => e = .returned (.int .i64 le) ∧ Below wx.heap.size wx w')
    (cA : bA = true → ∃ m : Nat, A = m ∧ (m : Int) < il ∧ w.cell? ⟨b, off + m * 2, none⟩ = some (.int .i64 zA.1) ∧ w.cell? ⟨b, off + m * 2 + 1, none⟩ = some (.int .i64 zA.2))
    (hop : Op = 11 ∨ Op = 12 → xa = true) (hz : (0 ≤ zA.1 ∧ zA.1 ≤ 16) ∧ (0 ≤ zA.2 ∧ zA.2 ≤ 16))
    (cB : bB = true → ∃ m : Nat, B = m ∧ (m : Int) < il ∧ w.cell? ⟨b, off + m * 2, none⟩ = some (.int .i64 zB.1) ∧ w.cell? ⟨b, off + m * 2 + 1, none⟩ = some (.int .i64 zB.2)) :
    Calls Tryz.prog 43 #[.agg #[.int .i64 W, .int .i64 H, .int .i64 S, .int .i64 O, .slice fa flen fcap], .agg #[.int .i64 Op, .int .i64 To, .int .i64 A, .int .i64 B, .int .i64 K, .slice la ll lc], .slice (some ⟨b, off, none⟩) il ic] w fun e w' => e = .returned (.int .i64 (coreE xa xb xk xl bTo bA bB kf Op To A B K ll le zA zB)) ∧ Below w.heap.size w w' := by
  have hk := fun wx => within_any Op 1 13 wx
  rw [show withinB Op 1 13 = true from hkn] at hk
  have hF := (FBox.new w W H S O fa flen fcap).alloc (.cells #[.int .i64 Op, .int .i64 To, .int .i64 A, .int .i64 B, .int .i64 K, .slice la ll lc] 62)
  have hP := PBox.new (w.alloc (.cells #[.int .i64 W, .int .i64 H, .int .i64 S, .int .i64 O, .slice fa flen fcap] 24)) Op To A B K la ll lc
  rw [World.size_alloc] at hP
  have hb0 := below_box (below_box (Below.refl w.heap.size w) (.cells #[.int .i64 W, .int .i64 H, .int .i64 S, .int .i64 O, .slice fa flen fcap] 24)) (.cells #[.int .i64 Op, .int .i64 To, .int .i64 A, .int .i64 B, .int .i64 K, .slice la ll lc] 62)
  have hmf : ∀ (fn : Fn) (first cap : Array Value) (w : World), (Instr.makeFunc fn first cap).run Tryz.prog w = .ok (.func fn first cap) w := fun _ _ _ _ => rfl
  have HC : Hid (_) := hcombo
  have HA : Hid (_) := cA
  have HB : Hid (_) := cB
  have HO : Hid (_) := hop
  have HZ : Hid (_) := hz
  clear hcombo cA cB hop hz
  generalize hE : coreE xa xb xk xl bTo bA bB kf Op To A B K ll le zA zB = E
  have HEE : Hid (_) := hE
  clear hE
  go_enter Tryz.func43, Tryz.ntmps43
  go_upto_region 5 with (first
    | (go_at_call 42; refine (hk _).mono ?_; rintro e w' ⟨rfl, rfl⟩)
    | (go_at_call 78; refine (hh _).mono ?_; rintro e w' ⟨rfl, rfl⟩))
  generalize (w.alloc (.cells #[.int .i64 W, .int .i64 H, .int .i64 S, .int .i64 O, .slice fa flen fcap] 24)).alloc (.cells #[.int .i64 Op, .int .i64 To, .int .i64 A, .int .i64 B, .int .i64 K, .slice la ll lc] 62) = w1 at *
  generalize Value.agg #[.int .i64 W, .int .i64 H, .int .i64 S, .int .i64 O, .slice fa flen fcap] = ag0
  generalize Value.agg #[.int .i64 Op, .int .i64 To, .int .i64 A, .int .i64 B, .int .i64 K, .slice la ll lc] = ag1
  go_cut [54] from 25 to 54 (fun s wc => s = .bool (bad1 xa xb bTo bA bB kf) ∧ Below w1.heap.size w1 wc)
  case first =>
    have h1 := hT _ _ hF
    have h2 := hA _ _ hF
    have h3 := hB _ _ hF
    have h4 := hK w1
    obtain ⟨_, p0, p1, p2, p3, p4, p5⟩ := hP
    clear hT hA hB hK hLi hh hk hkn hb hF hb0 HA HB HEE
    cases xa <;> cases xb
    all_goals
      go_wp2_with (first
        | (go_at_call 79; refine h1.mono ?_; rintro e w' ⟨rfl, rfl⟩)
        | (go_at_call 79; refine h2.mono ?_; rintro e w' ⟨rfl, rfl⟩)
        | (go_at_call 79; refine h3.mono ?_; rintro e w' ⟨rfl, rfl⟩)
        | (go_at_call 80; refine h4.mono ?_; rintro e w' ⟨rfl, bK⟩))
      all_goals go_meet
      all_goals exact ⟨by simp [bad1, *], by first | exact Below.refl _ _ | assumption⟩
  case rest =>
    obtain ⟨rfl, bc⟩ := hcut
    have hP1 := hP.below bc
    have hb1 := below_step hb0 bc
    clear hT hA hB hK hh hk hF hP bc hb0 hmf
    obtain ⟨_, p0, p1, p2, p3, p4, p5⟩ := id hP1
    generalize hx1 : bad1 xa xb bTo bA bB kf = x1
    cases x1 with
    | true =>
      have hE3 : E = 3 := by rw [← HEE.out]; unfold coreE; rw [if_pos hx1]
      subst hE3
      clear hx1 HEE HC HA HB hLi hkn hb hP1
      go_wp2
      go_ret
      exact ⟨rfl, hb1⟩
    | false =>
      have H1 : Hid (_) := hx1
      have HAB : Hid (_) := bad1_false hx1
      clear hx1
      go_upto_region 7 with fail
      have hli := hLi _ hb1
      go_cut [61] from 55 to 61 (fun s wd => s = .bool (xl && !decide (le = 0)) ∧ Below wc.heap.size wc wd)
      case first =>
        clear H1 HA HB HAB HEE hLi
        cases xl
        · go_wp2
          go_meet
          exact ⟨by simp, Below.refl _ _⟩
        · go_wp2_with (go_at_call 81; refine hli.mono ?_; rintro e w' ⟨rfl, bL⟩)
          go_meet
          exact ⟨by simp; rfl, bL⟩
      case rest =>
        obtain ⟨rfl, bc2⟩ := hcut
        have hP2 := hP1.below bc2
        have hb2 := below_step hb1 bc2
        clear hP1 bc2 hb1 p0 p1 p2 p3 p4 p5 hli
        rename_i wc1 _ _ _
        obtain ⟨_, p0, p1, p2, p3, p4, p5⟩ := id hP2
        have hli := hLi _ hb2
        clear hLi
        generalize hx2 : (xl && !decide (le = 0)) = x2
        cases x2 with
        | true =>
          have hxl : xl = true ∧ le ≠ 0 := by simpa using hx2
          have hE3 : E = le := by rw [← HEE.out]; unfold coreE; rw [H1.out, if_neg (by decide), if_pos hxl]
          subst hE3
          clear hx2 hxl HEE HC HA HB hkn hb hP2
          go_wp2_with (go_at_call 81; refine hli.mono ?_; rintro e w' ⟨rfl, bL⟩)
          go_ret
          exact ⟨rfl, below_step hb2 bL⟩
        | false =>
          have H2 : Hid (¬ (xl = true ∧ le ≠ 0)) := fun h => by simp [h.1, h.2] at hx2
          clear hx2 hli
          go_upto_region 9 with fail
          go_cut [119] from 65 to 119 (fun s wd => s = .bool (bad2 xa xb xk xl To A B K ll) ∧ wc = wd)
          case first =>
            clear H1 H2 HA HB HAB HEE hkn hb hP2 hb2
            have hc := HC.out
            clear HC
            rcases hc with ⟨rfl, rfl, rfl, rfl⟩ | ⟨rfl, rfl, rfl, rfl⟩ | ⟨rfl, rfl, rfl, rfl⟩ | ⟨rfl, rfl, rfl, rfl⟩ | ⟨rfl, rfl, rfl, rfl⟩
            all_goals
              go_wp2
              all_goals go_meet
              all_goals exact ⟨congrArg Value.bool (Bool.eq_iff_iff.2 (by simp [bad2, *] <;> omega)), rfl⟩
          case rest =>
            obtain ⟨rfl, rfl⟩ := hcut
            generalize hx3 : bad2 xa xb xk xl To A B K ll = x3
            cases x3 with
            | true =>
              have hE3 : E = 1 := by rw [← HEE.out]; unfold coreE; rw [H1.out, if_neg (by decide), if_neg H2.out, if_pos hx3]
              subst hE3
              clear hx3 HEE HC HA HB hkn hb hP2
              go_wp2
              go_ret
              exact ⟨rfl, hb2⟩
            | false =>
              have H3 : Hid (_) := hx3
              clear hx3
              go_upto_region 11 with fail
              go_cut [141] from 120 to 141 (fun s wd => s = .bool (bad3 xa xb zA zB) ∧ wc = wd)
              case first =>
                have ha := HAB.out.1
                have hbb := HAB.out.2
                have ca := HA.out
                have cb := HB.out
                clear H1 H2 H3 HA HB HAB HEE hkn hP2 HC
                cases xa <;> cases xb
                · clear ha hbb ca cb
                  go_wp2
                  go_meet
                  exact ⟨by simp [bad3], rfl⟩
                · obtain ⟨n, rfl, hn, d0, d1⟩ := cb (hbb rfl)
                  replace d0 := (hb2.cell (p := ⟨b, off + n * 2, none⟩) hb).trans d0
                  clear ha hbb ca cb
                  go_wp2
                  all_goals go_meet
                  all_goals exact ⟨congrArg Value.bool (Bool.eq_iff_iff.2 (by simp [bad3, *] <;> omega)), rfl⟩
                · obtain ⟨n, rfl, hn, d0, d1⟩ := ca (ha rfl)
                  replace d0 := (hb2.cell (p := ⟨b, off + n * 2, none⟩) hb).trans d0
                  clear ha hbb ca cb
                  go_wp2
                  all_goals go_meet
                  all_goals exact ⟨congrArg Value.bool (Bool.eq_iff_iff.2 (by simp [bad3, *] <;> omega)), rfl⟩
                · obtain ⟨n, rfl, hn, d0, d1⟩ := ca (ha rfl)
                  obtain ⟨m, rfl, hm, e0, e1⟩ := cb (hbb rfl)
                  replace d0 := (hb2.cell (p := ⟨b, off + n * 2, none⟩) hb).trans d0
                  replace e0 := (hb2.cell (p := ⟨b, off + m * 2, none⟩) hb).trans e0
                  clear ha hbb ca cb
                  go_wp2
                  all_goals go_meet
                  all_goals exact ⟨congrArg Value.bool (Bool.eq_iff_iff.2 (by simp [bad3, *] <;> omega)), rfl⟩
              case rest =>
                obtain ⟨rfl, rfl⟩ := hcut
                generalize hx4 : bad3 xa xb zA zB = x4
                cases x4 with
                | true =>
                  have hE3 : E = 5 := by rw [← HEE.out]; unfold coreE; rw [H1.out, if_neg (by decide), if_neg H2.out, H3.out, if_neg (by decide), if_pos hx4]
                  subst hE3
                  clear hx4 HEE HC HA HB hkn hb hP2
                  go_wp2
                  go_ret
                  exact ⟨rfl, hb2⟩
                | false =>
                  have H4 : Hid (_) := hx4
                  clear hx4
                  go_upto_region 13 with fail
                  go_cut [155] from 142 to 155 (fun s wd => s = .bool (bad4 xb zA zB) ∧ Below wc.heap.size wc wd)
                  case first =>
                    have ha := HAB.out.1
                    have hbb := HAB.out.2
                    have ca := HA.out
                    have cb := HB.out
                    have hc := HC.out
                    clear H1 H2 H3 H4 HA HB HAB HEE hkn hP2 HC
                    cases xb
                    · clear ha hbb ca cb hc
                      go_quiet (fail)
                      go_wp2
                      go_meet
                      exact ⟨by simp [bad4], below_drewN (Below.refl _ _) _⟩
                    · have hxa : xa = true := by rcases hc with h | h | h | h | h <;> simp_all
                      obtain ⟨n, rfl, hn, d0, d1⟩ := ca (ha hxa)
                      obtain ⟨m, rfl, hm, e0, e1⟩ := cb (hbb rfl)
                      replace d0 := (hb2.cell (p := ⟨b, off + n * 2, none⟩) hb).trans d0
                      replace e0 := (hb2.cell (p := ⟨b, off + m * 2, none⟩) hb).trans e0
                      replace d1 := (hb2.cell (p := ⟨b, off + n * 2 + 1, none⟩) hb).trans d1
                      replace e1 := (hb2.cell (p := ⟨b, off + m * 2 + 1, none⟩) hb).trans e1
                      clear ha hbb ca cb hc hxa
                      obtain ⟨zw, zh⟩ := zA
                      obtain ⟨yw, yh⟩ := zB
                      dsimp only at d0 d1 e0 e1
                      have hc : (yw = zw ∧ yh = zh) ∨ (yw = zw ∧ (zh == yh) = false) ∨ (zw == yw) = false := by
                        by_cases a1 : zw = yw <;> by_cases a2 : zh = yh <;> simp [a1, a2]
                      rcases hc with ⟨rfl, rfl⟩ | ⟨rfl, hn'⟩ | hn'
                      · go_region_held3 (fun w' => w'.cell? ⟨b, off + n * 2, none⟩ = some (.int .i64 yw) ∧ w'.cell? ⟨b, off + n * 2 + 1, none⟩ = some (.int .i64 yh) ∧ w'.cell? ⟨b, off + m * 2, none⟩ = some (.int .i64 yw) ∧ w'.cell? ⟨b, off + m * 2 + 1, none⟩ = some (.int .i64 yh) ∧ w'.cell? ⟨w.heap.size + 1, 2, none⟩ = some (.int .i64 n) ∧ w'.cell? ⟨w.heap.size + 1, 3, none⟩ = some (.int .i64 m))
                          (exact ⟨d0, d1, e0, e1, p2, p3⟩)
                          (fail)
                        all_goals go_wp2
                        all_goals go_meet
                        all_goals exact ⟨by simp [bad4], (Below.refl _ _).drew⟩
                      · go_region_held3 (fun w' => w'.cell? ⟨b, off + n * 2, none⟩ = some (.int .i64 yw) ∧ w'.cell? ⟨b, off + n * 2 + 1, none⟩ = some (.int .i64 zh) ∧ w'.cell? ⟨b, off + m * 2, none⟩ = some (.int .i64 yw) ∧ w'.cell? ⟨b, off + m * 2 + 1, none⟩ = some (.int .i64 yh) ∧ w'.cell? ⟨w.heap.size + 1, 2, none⟩ = some (.int .i64 n) ∧ w'.cell? ⟨w.heap.size + 1, 3, none⟩ = some (.int .i64 m))
                          (exact ⟨d0, d1, e0, e1, p2, p3⟩)
                          (fail)
                        all_goals go_wp2
                        all_goals go_meet
                        all_goals exact ⟨by have := hn'; simp at this; simp [bad4, this], (Below.refl _ _).drew⟩
                      · go_region_held3 (fun w' => w'.cell? ⟨b, off + n * 2, none⟩ = some (.int .i64 zw) ∧ w'.cell? ⟨b, off + n * 2 + 1, none⟩ = some (.int .i64 zh) ∧ w'.cell? ⟨b, off + m * 2, none⟩ = some (.int .i64 yw) ∧ w'.cell? ⟨b, off + m * 2 + 1, none⟩ = some (.int .i64 yh) ∧ w'.cell? ⟨w.heap.size + 1, 2, none⟩ = some (.int .i64 n) ∧ w'.cell? ⟨w.heap.size + 1, 3, none⟩ = some (.int .i64 m))
                          (exact ⟨d0, d1, e0, e1, p2, p3⟩)
                          (fail)
                        all_goals go_wp2
                        all_goals go_meet
                        all_goals exact ⟨by have := hn'; simp at this; simp [bad4, this], (Below.refl _ _).drew⟩
                  case rest =>
                    obtain ⟨rfl, bc3⟩ := hcut
                    have hP3 := hP2.below bc3
                    have hb3 := below_step hb2 bc3
                    clear hP2 bc3 hb2 p0 p1 p2 p3 p4 p5
                    obtain ⟨_, p0, p1, p2, p3, p4, p5⟩ := id hP3
                    generalize hx5 : bad4 xb zA zB = x5
                    cases x5 with
                    | true =>
                      have hE3 : E = 6 := by rw [← HEE.out]; unfold coreE; rw [H1.out, if_neg (by decide), if_neg H2.out, H3.out, if_neg (by decide), H4.out, if_neg (by decide), if_pos hx5]
                      subst hE3
                      clear hx5 HEE HC HA HB hkn hb hP3
                      go_wp2
                      go_ret
                      exact ⟨rfl, hb3⟩
                    | false =>
                      have H5 : Hid (_) := hx5
                      clear hx5
                      go_upto_region 15 with fail
                      go_cut [203] from 156 to 203 (fun s wd => s = .bool (bad5 Op zA) ∧ wc = wd)
                      case first =>
                        have ha := HAB.out.1
                        have ca := HA.out
                        have hxa := HO.out
                        clear H1 H2 H3 H4 H5 HA HB HAB HEE hkn HC HO hP3
                        by_cases h11 : Op = 11
                        · subst h11
                          obtain ⟨n, rfl, hn, d0, d1⟩ := ca (ha (hxa (Or.inl rfl)))
                          replace d0 := (hb3.cell (p := ⟨b, off + n * 2, none⟩) hb).trans d0
                          replace d1 := (hb3.cell (p := ⟨b, off + n * 2 + 1, none⟩) hb).trans d1
                          clear ha ca hxa
                          obtain ⟨zw, zh⟩ := zA
                          have hz := HZ.out
                          clear HZ
                          dsimp only at d0 d1 hz
                          go_wp2
                          all_goals go_meet
                          all_goals exact ⟨congrArg Value.bool (Bool.eq_iff_iff.2 (by simp [bad5, *] <;> omega)), rfl⟩
                        · by_cases h12 : Op = 12
                          · subst h12
                            obtain ⟨n, rfl, hn, d0, d1⟩ := ca (ha (hxa (Or.inr rfl)))
                            replace d0 := (hb3.cell (p := ⟨b, off + n * 2, none⟩) hb).trans d0
                            replace d1 := (hb3.cell (p := ⟨b, off + n * 2 + 1, none⟩) hb).trans d1
                            clear ha ca hxa
                            obtain ⟨zw, zh⟩ := zA
                            have hz := HZ.out
                            clear HZ
                            dsimp only at d0 d1 hz
                            have w1 : IntKind.i64.wrap (2 * zw) = 2 * zw := by rw [IntKind.wrap_i64]; omega
                            have w2 : IntKind.i64.wrap (2 * zh) = 2 * zh := by rw [IntKind.wrap_i64]; omega
                            go_wp2
                            all_goals go_meet
                            all_goals exact ⟨congrArg Value.bool (Bool.eq_iff_iff.2 (by simp [bad5, *] <;> omega)), rfl⟩
                          · clear ha ca hxa
                            go_wp2
                            all_goals go_meet
                            all_goals exact ⟨congrArg Value.bool (Bool.eq_iff_iff.2 (by simp [bad5, *])), rfl⟩
                      case rest =>
                        obtain ⟨rfl, rfl⟩ := hcut
                        generalize hx6 : bad5 Op zA = x6
                        cases x6 with
                        | true =>
                          have hE3 : E = 6 := by rw [← HEE.out]; unfold coreE; rw [H1.out, if_neg (by decide), if_neg H2.out, H3.out, if_neg (by decide), H4.out, if_neg (by decide), H5.out, if_neg (by decide), if_pos hx6]
                          subst hE3
                          clear hx6 HEE HC HA HB hkn hb hP3
                          go_wp2
                          go_ret
                          exact ⟨rfl, hb3⟩
                        | false =>
                          have hE3 : E = 0 := by rw [← HEE.out]; unfold coreE; rw [H1.out, if_neg (by decide), if_neg H2.out, H3.out, if_neg (by decide), H4.out, if_neg (by decide), H5.out, if_neg (by decide), hx6, if_neg (by decide)]
                          subst hE3
                          clear hx6 HEE HC HA HB hkn hb hP3
                          go_wp2
                          go_ret
                          exact ⟨rfl, hb3⟩
end Go.Proofs.YtihliofhhjjeaaaGreat
namespace Go.Proofs.YtihliofhhjjeaaaGreat
open Go.RowKit Im
structure In (w : World) (b : Nat) (S : Nat) (g : Int → Sz) : Prop where
  lt : b < w.heap.size
  cells : ∀ m : Nat, m < S → w.cell? ⟨b, 0 + m * 2, none⟩ = some (.int .i64 (g m).1) ∧ w.cell? ⟨b, 0 + m * 2 + 1, none⟩ = some (.int .i64 (g m).2)
  froz : ∀ o, w.frozen? ⟨b, o, none⟩ = false
theorem In.below {w w' : World} {b S B : Nat} {g : Int → Sz} (h : In w b S g) (hb : Below B w w') (hB : b < B) (hs : w.heap.size ≤ w'.heap.size) : In w' b S g :=
  ⟨Nat.lt_of_lt_of_le h.lt hs, fun m hm => ⟨(hb.cell (p := ⟨b, 0 + m * 2, none⟩) hB).trans (h.cells m hm).1, (hb.cell (p := ⟨b, 0 + m * 2 + 1, none⟩) hB).trans (h.cells m hm).2⟩, fun o => (hb.frozen (p := ⟨b, o, none⟩) hB).trans (h.froz o)⟩
theorem In.put {w : World} {b S : Nat} {g g' : Int → Sz} (h : In w b S g) (m : Nat) (z : Sz) (hm : m < S) (hg : ∀ j : Nat, g' j = if (m : Int) = j then z else g j) : In ((w.setCell ⟨b, 0 + m * 2, none⟩ (.int .i64 z.1)).setCell ⟨b, 0 + m * 2 + 1, none⟩ (.int .i64 z.2)) b S g' := by
  refine ⟨by simpa using h.lt, fun j hj => ?_, fun o => by simpa using h.froz o⟩
  rw [hg j]
  by_cases e : m = j
  · subst e
    rw [if_pos rfl]
    exact ⟨(set_other _ (fun e => by injection e with e1 e2; omega)).trans (set_same (h.cells m hm).1), set_same ((set_other _ (fun e => by injection e with e1 e2; omega)).trans (h.cells m hm).2)⟩
  · rw [if_neg (by omega)]
    refine ⟨?_, ?_⟩
    · rw [set_other _ (fun e => by injection e with e1 e2; omega), set_other _ (fun e => by injection e with e1 e2; omega)]; exact (h.cells j hj).1
    · rw [set_other _ (fun e => by injection e with e1 e2; omega), set_other _ (fun e => by injection e with e1 e2; omega)]; exact (h.cells j hj).2
set_option maxHeartbeats 2000000 in
theorem checkFrame_bounds (W H S O : Int) (a : Option Addr) (len cap : Nat) (ps : List Ps) (w : World) (hp : Passes w a len ps) (hE : boundsE ⟨W, H, S, O, ps⟩ ≠ 0) :
    Calls Tryz.prog 15 #[.agg #[.int .i64 W, .int .i64 H, .int .i64 S, .int .i64 O, .slice a len cap]] w (ToldFZ w ⟨W, H, S, O, ps⟩) := by
  have hB := FBox.new w W H S O a len cap
  have hb0 := below_box (Below.refl w.heap.size w) (.cells #[.int .i64 W, .int .i64 H, .int .i64 S, .int .i64 O, .slice a len cap] 24)
  have hf : frameE ⟨W, H, S, O, ps⟩ = boundsE ⟨W, H, S, O, ps⟩ := by unfold frameE; rw [if_neg hE]
  have hlen := hp.leng
  have hbig := hp.big
  have hno : ∀ {E : Int} {e : Ending} {w' : World}, frameE ⟨W, H, S, O, ps⟩ = E → E ≠ 0 → e = .returned (.tuple #[.slice none 0 0, .int .i64 E]) → Below w.heap.size w w' → ToldFZ w ⟨W, H, S, O, ps⟩ e w' := by
    intro E e w' h1 h2 h3 h4
    refine ⟨⟨.slice none 0 0, by rw [h1]; exact h3, ?_⟩, h4⟩
    rw [h1, if_neg h2]
    exact World.ownsRow_nil _ _ _ _
  obtain ⟨_, g0, g1, g2, g3, g4⟩ := hB
  by_cases hc : sideB W = true ∧ sideB H = true ∧ withinB S 1 8 = true ∧ slotB O S = true
  · have hd : ¬ withinB ps.length 1 12 = true := by
      intro hd
      apply hE
      unfold boundsE
      rw [if_pos hc, if_pos hd]
    have h2 : frameE ⟨W, H, S, O, ps⟩ = 2 := by rw [hf]; unfold boundsE; rw [if_pos hc, if_neg hd]
    have hN : Hid (∀ {e : Ending} {w' : World}, e = .returned (.tuple #[.slice none 0 0, .int .i64 2]) → Below w.heap.size w w' → ToldFZ w ⟨W, H, S, O, ps⟩ e w') := fun h3 h4 => hno h2 (by decide) h3 h4
    obtain ⟨c1, c2, c3, c4⟩ := hc
    have c1' : withinB W 1 16 = true := c1
    have c2' : withinB H 1 16 = true := c2
    have c4' : withinB O 0 (S - 1) = true := c4
    have hS : 1 ≤ S ∧ S ≤ 8 := by simp [withinB] at c3; omega
    have hw : IntKind.i64.wrap (S - 1) = S - 1 := by rw [IntKind.wrap_i64]; omega
    have hd' : withinB len 1 12 = false := by rw [hlen] at hd; exact eq_false_of_ne_true hd
    clear hno hf hE h2 hd c1 c2 c4 hS
    go_enter Tryz.func15, Tryz.ntmps15
    go_wp2_with (go_at_call 42; refine (within_any _ _ _ _).mono ?_; rintro e w' ⟨rfl, rfl⟩)
    go_ret2
    exact hN.out rfl hb0
  · have h3 : frameE ⟨W, H, S, O, ps⟩ = 3 := by rw [hf]; unfold boundsE; rw [if_neg hc]
    have hN : Hid (∀ {e : Ending} {w' : World}, e = .returned (.tuple #[.slice none 0 0, .int .i64 3]) → Below w.heap.size w w' → ToldFZ w ⟨W, H, S, O, ps⟩ e w') := fun h4 h5 => hno h3 (by decide) h4 h5
    clear hno hf hE h3
    by_cases c1 : withinB W 1 16 = true
    · by_cases c2 : withinB H 1 16 = true
      · by_cases c3 : withinB S 1 8 = true
        · have hS : 1 ≤ S ∧ S ≤ 8 := by simp [withinB] at c3; omega
          have hw : IntKind.i64.wrap (S - 1) = S - 1 := by rw [IntKind.wrap_i64]; omega
          have c4 : withinB O 0 (S - 1) = false := eq_false_of_ne_true fun c4 => hc ⟨c1, c2, c3, c4⟩
          clear hc hS
          go_enter Tryz.func15, Tryz.ntmps15
          go_wp2_with (go_at_call 42; refine (within_any _ _ _ _).mono ?_; rintro e w' ⟨rfl, rfl⟩)
          go_ret2
          exact hN.out rfl hb0
        · have c3' := eq_false_of_ne_true c3
          clear hc c3
          go_enter Tryz.func15, Tryz.ntmps15
          go_wp2_with (go_at_call 42; refine (within_any _ _ _ _).mono ?_; rintro e w' ⟨rfl, rfl⟩)
          go_ret2
          exact hN.out rfl hb0
      · have c2' := eq_false_of_ne_true c2
        clear hc c2
        go_enter Tryz.func15, Tryz.ntmps15
        go_wp2_with (go_at_call 42; refine (within_any _ _ _ _).mono ?_; rintro e w' ⟨rfl, rfl⟩)
        go_ret2
        exact hN.out rfl hb0
    · have c1' := eq_false_of_ne_true c1
      clear hc c1
      go_enter Tryz.func15, Tryz.ntmps15
      go_wp2_with (go_at_call 42; refine (within_any _ _ _ _).mono ?_; rintro e w' ⟨rfl, rfl⟩)
      go_ret2
      exact hN.out rfl hb0
end Go.Proofs.YtihliofhhjjeaaaGreat
namespace Go.Proofs.YtihliofhhjjeaaaGreat
open Go.RowKit Im
theorem combos {Op : Int} (hk : knownB Op = true) : (hasA Op = false ∧ hasB Op = false ∧ hasK Op = true ∧ hasL Op = false) ∨ (hasA Op = true ∧ hasB Op = false ∧ hasK Op = false ∧ hasL Op = false) ∨ (hasA Op = true ∧ hasB Op = true ∧ hasK Op = false ∧ hasL Op = false) ∨ (hasA Op = true ∧ hasB Op = false ∧ hasK Op = true ∧ hasL Op = false) ∨ (hasA Op = true ∧ hasB Op = false ∧ hasK Op = true ∧ hasL Op = true) := by
  rcases op_cases hk with rfl | rfl | rfl | rfl | rfl | rfl | rfl | rfl | rfl | rfl | rfl | rfl | rfl <;> decide
theorem own_bad {Op To A B K : Int} {ls : List Lt} {S : Int} (hk : knownB Op = true) : ownE ⟨Op, To, A, B, K, ls⟩ S =
    if bad1 (hasA Op) (hasB Op) (slotB To S) (slotB A S) (slotB B S) (if hasK Op = true then kB Op K else true) = true then 3
    else if hasL Op = true ∧ lightsErr ls ≠ 0 then lightsErr ls
    else if bad2 (hasA Op) (hasB Op) (hasK Op) (hasL Op) To A B K ls.length = true then 1 else 0 := by
  have c := combos hk
  unfold ownE
  dsimp only
  rw [if_pos hk]
  have e1 : (bad1 (hasA Op) (hasB Op) (slotB To S) (slotB A S) (slotB B S) (if hasK Op = true then kB Op K else true) = true) ↔ ¬ (slotsB ⟨Op, To, A, B, K, ls⟩ S = true ∧ (hasK Op = true → kB Op K = true)) := by
    unfold bad1 slotsB takesP
    dsimp only
    generalize slotB To S = b1
    generalize hA : slotB A S = b2
    generalize hB : slotB B S = b3
    generalize kB Op K = b4
    rcases c with ⟨c1, c2, c3, _⟩ | ⟨c1, c2, c3, _⟩ | ⟨c1, c2, c3, _⟩ | ⟨c1, c2, c3, _⟩ | ⟨c1, c2, c3, _⟩
    all_goals
      rw [c1, c2, c3]
      cases b1 <;> cases b2 <;> cases b3 <;> cases b4 <;> simp [hA, hB]
  have e2 : (bad2 (hasA Op) (hasB Op) (hasK Op) (hasL Op) To A B K ls.length = true) ↔ ¬ (bareB ⟨Op, To, A, B, K, ls⟩ = true ∧ ownB ⟨Op, To, A, B, K, ls⟩ = false) := by
    unfold bad2 bareB ownB takesP
    dsimp only
    rcases c with ⟨c1, c2, c3, c4⟩ | ⟨c1, c2, c3, c4⟩ | ⟨c1, c2, c3, c4⟩ | ⟨c1, c2, c3, c4⟩ | ⟨c1, c2, c3, c4⟩
    all_goals
      rw [c1, c2, c3, c4]
      by_cases a1 : A = 0 <;> by_cases a2 : B = 0 <;> by_cases a3 : K = 0 <;> by_cases a4 : ls.length = 0 <;> by_cases a5 : A = To <;> by_cases a6 : B = To <;> simp [a1, a2, a3, a4, a5, a6] <;> omega
  by_cases h1 : slotsB ⟨Op, To, A, B, K, ls⟩ S = true ∧ (hasK Op = true → kB Op K = true)
  · rw [if_pos h1, if_neg (fun h => e1.1 h h1)]
    by_cases h2 : hasL Op = true ∧ lightsErr ls ≠ 0
    · rw [if_pos h2, if_pos h2]
    · rw [if_neg h2, if_neg h2]
      by_cases h3 : bareB ⟨Op, To, A, B, K, ls⟩ = true ∧ ownB ⟨Op, To, A, B, K, ls⟩ = false
      · rw [if_pos h3, if_neg (fun h => e2.1 h h3)]
      · rw [if_neg h3, if_pos (e2.2 h3)]
  · rw [if_neg h1, if_pos (e1.2 h1)]
theorem core_ref {Op To A B K : Int} {ls : List Lt} {S : Int} {zA zB : Sz} (hk : knownB Op = true) : coreE (hasA Op) (hasB Op) (hasK Op) (hasL Op) (slotB To S) (slotB A S) (slotB B S) (if hasK Op = true then kB Op K else true) Op To A B K ls.length (lightsErr ls) zA zB = refE ⟨Op, To, A, B, K, ls⟩ S zA zB := by
  unfold coreE refE
  rw [own_bad hk]
  dsimp only
  generalize bad1 (hasA Op) (hasB Op) (slotB To S) (slotB A S) (slotB B S) (if hasK Op = true then kB Op K else true) = x1
  generalize bad2 (hasA Op) (hasB Op) (hasK Op) (hasL Op) To A B K ls.length = x2
  have e3 : (bad3 (hasA Op) (hasB Op) zA zB = true) ↔ (hasA Op = true ∧ zA.1 = 0) ∨ (hasB Op = true ∧ zB.1 = 0) := by simp [bad3]
  have e4 : (bad4 (hasB Op) zA zB = true) ↔ (hasB Op = true ∧ zA ≠ zB) := by simp [bad4]
  have e5 : (bad5 Op zA = true) ↔ ((Op = 11 ∧ (zA.1 % 2 = 1 ∨ zA.2 % 2 = 1)) ∨ (Op = 12 ∧ (16 < 2 * zA.1 ∨ 16 < 2 * zA.2))) := by simp [bad5]
  simp only [e3, e4, e5]
  cases x1
  · simp only [Bool.false_eq_true, if_false]
    by_cases h2 : hasL Op = true ∧ lightsErr ls ≠ 0
    · rw [if_pos h2, if_pos h2, if_neg h2.2]
    · rw [if_neg h2, if_neg h2]
      cases x2
      · simp only [Bool.false_eq_true, if_false, if_true]
      · simp only [if_true]; rw [if_neg (by decide)]
  · simp
theorem passErr_any (W H S O : Int) (fa : Option Addr) (flen fcap : Nat) (Op To A B K : Int) (la : Option Addr) (ll lc : Nat) (ls : List Lt) (b N ic : Nat) (g : Int → Sz) (w : World) (hS : 1 ≤ S ∧ S ≤ 8) (hN : (N : Int) = S) (hL : Lights w la ll ls) (hI : In w b N g) (hg : ∀ s, (0 ≤ (g s).1 ∧ (g s).1 ≤ 16) ∧ (0 ≤ (g s).2 ∧ (g s).2 ≤ 16)) :
    Calls Tryz.prog 43 #[.agg #[.int .i64 W, .int .i64 H, .int .i64 S, .int .i64 O, .slice fa flen fcap], .agg #[.int .i64 Op, .int .i64 To, .int .i64 A, .int .i64 B, .int .i64 K, .slice la ll lc], .slice (some ⟨b, 0, none⟩) N ic] w fun e w' => e = .returned (.int .i64 (refE ⟨Op, To, A, B, K, ls⟩ S (g A) (g B))) ∧ Below w.heap.size w w' := by
  by_cases hk : knownB Op = true
  · have hll := hL.leng
    have hsl : ∀ s : Int, slotB s S = true → ∃ m : Nat, s = m ∧ (m : Int) < N ∧ w.cell? ⟨b, 0 + m * 2, none⟩ = some (.int .i64 (g s).1) ∧ w.cell? ⟨b, 0 + m * 2 + 1, none⟩ = some (.int .i64 (g s).2) := by
      intro s h
      have h' : 0 ≤ s ∧ s < S := by simp [slotB, withinB] at h; omega
      obtain ⟨m, rfl⟩ := Int.eq_ofNat_of_zero_le h'.1
      have := hI.cells m (by omega)
      exact ⟨m, rfl, by omega, this.1, this.2⟩
    have := passErr_core W H S O fa flen fcap Op To A B K la ll lc b 0 N ic (hasA Op) (hasB Op) (hasK Op) (hasL Op) (slotB To S) (slotB A S) (slotB B S) (if hasK Op = true then kB Op K else true) (lightsErr ls) (g A) (g B) w hk hI.lt (combos hk) (fun wx => has_any Op wx)
      (fun wx bx h => slot_any W H S O fa flen fcap wx bx To h hS) (fun wx bx h => slot_any W H S O fa flen fcap wx bx A h hS) (fun wx bx h => slot_any W H S O fa flen fcap wx bx B h hS)
      (fun wx => kFine_any Op To A B K la ll lc wx) (fun wx hb => checkR_any lc (hL.below hb)) (hsl A)
      (fun h => by rcases h with rfl | rfl <;> rfl) (hg A) (hsl B)
    rw [← hll, core_ref hk] at this
    rw [← hll]
    exact this
  · have hk' := eq_false_of_ne_true hk
    have e : refE ⟨Op, To, A, B, K, ls⟩ S (g A) (g B) = 4 := by unfold refE ownE; simp [hk']
    rw [e]
    exact passErr_kind W H S O fa flen fcap Op To A B K la ll lc _ N ic w hk'
end Go.Proofs.YtihliofhhjjeaaaGreat
namespace Go.Proofs.YtihliofhhjjeaaaGreat
open Go.RowKit Im
set_option maxHeartbeats 1000000 in
theorem refSize_new (Op : Int) (hA : hasA Op = false) (W H S O : Int) (fa : Option Addr) (flen fcap : Nat) (To A B K : Int) (la : Option Addr) (ll lc : Nat) (ia : Option Addr) (il ic : Nat) (w : World) :
    Calls Tryz.prog 44 #[.agg #[.int .i64 W, .int .i64 H, .int .i64 S, .int .i64 O, .slice fa flen fcap], .agg #[.int .i64 Op, .int .i64 To, .int .i64 A, .int .i64 B, .int .i64 K, .slice la ll lc], .slice ia il ic] w fun e w' => e = .returned (.agg #[.int .i64 W, .int .i64 H]) ∧ Below w.heap.size w w' := by
  have hh := fun wx => has_any Op wx
  rw [hA] at hh
  go_enter Tryz.func44, Tryz.ntmps44
  go_wp2_with (go_at_call 78; refine (hh _).mono ?_; rintro e w' ⟨rfl, rfl⟩)
  exact bodyPost_ret (by simp [results, Tryz.results44, go_sem]) rfl ⟨rfl, below_box (below_box (below_box (Below.refl _ _) _) _) _⟩
set_option maxHeartbeats 1000000 in
theorem refSize_of (Op : Int) (hA : hasA Op = true) (W H S O : Int) (fa : Option Addr) (flen fcap : Nat) (To : Int) (m : Nat) (B K : Int) (la : Option Addr) (ll lc : Nat) (b off il ic : Nat) (zw zh u v : Int) (w : World) (hb : b < w.heap.size) (hm : (m : Int) < (il : Int))
    (d0 : w.cell? ⟨b, off + m * 2, none⟩ = some (.int .i64 zw)) (d1 : w.cell? ⟨b, off + m * 2 + 1, none⟩ = some (.int .i64 zh))
    (hone : ∀ wx, Calls Tryz.prog 82 #[.int .i64 Op, .int .i64 zw, .int .i64 zh] wx fun e w' => e = .returned (.tuple #[.int .i64 u, .int .i64 v]) ∧ wx = w') :
    Calls Tryz.prog 44 #[.agg #[.int .i64 W, .int .i64 H, .int .i64 S, .int .i64 O, .slice fa flen fcap], .agg #[.int .i64 Op, .int .i64 To, .int .i64 m, .int .i64 B, .int .i64 K, .slice la ll lc], .slice (some ⟨b, off, none⟩) il ic] w fun e w' => e = .returned (.agg #[.int .i64 u, .int .i64 v]) ∧ Below w.heap.size w w' := by
  have hh := fun wx => has_any Op wx
  rw [hA] at hh
  have e0 := sz_cells W H S O fa flen fcap Op To m B K la ll lc 0 0 hb d0
  have e1 := sz_cells W H S O fa flen fcap Op To m B K la ll lc 0 0 hb d1
  have hP := ((PBox.new (w.alloc (.cells #[.int .i64 W, .int .i64 H, .int .i64 S, .int .i64 O, .slice fa flen fcap] 24)) Op To m B K la ll lc).alloc (.cells #[.int .i64 0, .int .i64 0] 80))
  rw [World.size_alloc] at hP
  obtain ⟨_, p0, p1, p2, p3, p4, p5⟩ := hP
  go_enter Tryz.func44, Tryz.ntmps44
  go_wp2_with (go_at_call 78; refine (hh _).mono ?_; rintro e w' ⟨rfl, rfl⟩)
  clear hh
  go_region_held3 (fun w' => w'.cell? ⟨b, off + m * 2, none⟩ = some (.int .i64 zw) ∧ w'.cell? ⟨b, off + m * 2 + 1, none⟩ = some (.int .i64 zh) ∧ w'.cell? ⟨w.heap.size + 1, 0, none⟩ = some (.int .i64 Op) ∧ w'.cell? ⟨w.heap.size + 1, 2, none⟩ = some (.int .i64 m))
    (exact ⟨e0, e1, p0, p2⟩)
    ((go_at_call 82; refine (hone _).mono ?_; rintro e w' ⟨rfl, rfl⟩))
  all_goals go_wp2
  all_goals exact bodyPost_ret (by simp [results, Tryz.results44, go_sem]) rfl ⟨rfl, (sz_below w _ _ _).drew⟩
end Go.Proofs.YtihliofhhjjeaaaGreat
namespace Go.Proofs.YtihliofhhjjeaaaGreat
open Go.RowKit Im
theorem In.made {w : World} {base b N cap : Nat} (h : w.ownsRow base 80 2 (.slice (some ⟨b, 0, none⟩) N cap) N (madeCells (Value.agg #[.int .i64 0, .int .i64 0]).cells (N * 2)).toList) (hb : b < w.heap.size) : In w b N (fun _ => (0, 0)) := by
  have hc : ∀ j, j < N * 2 → w.cell? ⟨b, j, none⟩ = some (.int .i64 0) := by
    intro j hj
    rw [World.ownsRow.cellAt h j hj]
    have e : (Value.agg #[.int .i64 0, .int .i64 0]).cells = #[.int .i64 0, .int .i64 0] := rfl
    rw [e]
    simp only [madeCells, Array.toList_map, Array.toList_range, List.getElem?_map, List.getElem?_range hj, Option.map_some]
    congr 1
    have : j % 2 = 0 ∨ j % 2 = 1 := by omega
    show (#[Value.int .i64 0, Value.int .i64 0] : Array Value)[j % 2]! = _
    rcases this with e | e <;> rw [e] <;> rfl
  exact ⟨hb, fun m hm => ⟨hc _ (by omega), hc _ (by omega)⟩, fun o => World.ownsRow.frozenAt h o⟩
theorem sizeP_ref {f : Fr} {k : Nat} {Op To A B K : Int} {ls : List Lt} (hpk : f.ps.getD k Ps.zero = ⟨Op, To, A, B, K, ls⟩) (hE : passE f k = 0) (hA : hasA Op = true) : 0 ≤ wrt f.ps k A ∧ (pickZ (szs f k) (srcOf f.ps k)).getD 0 Sz.zero = inP f k A := by
  obtain ⟨h1, h2, h3⟩ := passE_zero hE
  obtain ⟨r, hr⟩ := takes_pos (p := ⟨Op, To, A, B, K, ls⟩) hA
  have hs : srcOf f.ps k = wrt f.ps k A :: r.map (wrt f.ps k) := by unfold srcOf; rw [hpk, hr]; rfl
  have hw : 0 ≤ wrt f.ps k A := (src_bd h2 _ (by rw [hs]; simp)).1
  refine ⟨hw, ?_⟩
  rw [hs]
  unfold inP
  rw [if_pos hw]
  rfl
theorem refSize_any {f : Fr} {k : Nat} {Op To A B K : Int} {ls : List Lt} (hpk : f.ps.getD k Ps.zero = ⟨Op, To, A, B, K, ls⟩) (hb : boundsE f = 0) (hfirst : firstE f k = 0) (hE : passE f k = 0) (fa : Option Addr) (flen fcap : Nat) (la : Option Addr) (ll lc : Nat) {b N ic : Nat} {w : World} (hN : (N : Int) = f.S) (hI : In w b N (inP f k)) :
    Calls Tryz.prog 44 #[.agg #[.int .i64 f.W, .int .i64 f.H, .int .i64 f.S, .int .i64 f.O, .slice fa flen fcap], .agg #[.int .i64 Op, .int .i64 To, .int .i64 A, .int .i64 B, .int .i64 K, .slice la ll lc], .slice (some ⟨b, 0, none⟩) N ic] w fun e w' => e = .returned (.agg #[.int .i64 (sizeP f.W f.H Op (pickZ (szs f k) (srcOf f.ps k))).1, .int .i64 (sizeP f.W f.H Op (pickZ (szs f k) (srcOf f.ps k))).2]) ∧ Below w.heap.size w w' := by
  obtain ⟨o1, o2, o3⟩ := passE_zero hE
  rw [hpk] at o1
  obtain ⟨hkn, hsl, _⟩ := ownE_zero o1
  dsimp only at hkn
  by_cases hA : hasA Op = true
  · obtain ⟨hw, h0⟩ := sizeP_ref hpk hE hA
    have hz := inP_some hb hfirst hw
    have hAs : 0 ≤ A ∧ A < f.S := by
      obtain ⟨r, hr⟩ := takes_pos (p := ⟨Op, To, A, B, K, ls⟩) hA
      unfold slotsB at hsl
      rw [hr] at hsl
      simp [slotB, withinB] at hsl
      omega
    obtain ⟨m, rfl⟩ := Int.eq_ofNat_of_zero_le hAs.1
    have n12 : ¬ (Op = 1 ∨ Op = 2) := by rintro (rfl | rfl) <;> cases hA
    have hc := hI.cells m (by omega)
    generalize inP f k (m : Int) = z at *
    obtain ⟨zw, zh⟩ := z
    obtain ⟨⟨z1, z2⟩, ⟨z3, z4⟩⟩ := hz
    dsimp only at z1 z2 z3 z4
    obtain ⟨zw, rfl⟩ := Int.eq_ofNat_of_zero_le (show 0 ≤ zw by omega)
    obtain ⟨zh, rfl⟩ := Int.eq_ofNat_of_zero_le (show 0 ≤ zh by omega)
    have e : sizeP f.W f.H Op (pickZ (szs f k) (srcOf f.ps k)) = (((oneN Op zw : Nat) : Int), ((oneN Op zh : Nat) : Int)) := by
      unfold sizeP oneN
      rw [if_neg n12, h0]
      by_cases h11 : Op = 11
      · rw [if_pos h11, if_pos h11, if_pos h11]; simp
      · rw [if_neg h11, if_neg h11, if_neg h11]
        by_cases h12 : Op = 12
        · rw [if_pos h12, if_pos h12, if_pos h12]; simp
        · rw [if_neg h12, if_neg h12, if_neg h12]
    rw [e]
    exact refSize_of Op hA f.W f.H f.S f.O fa flen fcap To m B K la ll lc b 0 N ic zw zh _ _ w hI.lt (by omega) hc.1 hc.2 (fun wx => oneSize_any Op zw zh wx (by omega) (by omega))
  · have hA' := eq_false_of_ne_true hA
    have n12 : Op = 1 ∨ Op = 2 := by simp [knownB, withinB] at hkn; simp [hasA, withinB] at hA; omega
    have e : sizeP f.W f.H Op (pickZ (szs f k) (srcOf f.ps k)) = (f.W, f.H) := by unfold sizeP; rw [if_pos n12]
    rw [e]
    exact refSize_new Op hA' f.W f.H f.S f.O fa flen fcap To A B K la ll lc _ N ic w
theorem inP_bd {f : Fr} {k : Nat} (hb : boundsE f = 0) (hfirst : firstE f k = 0) (s : Int) : (0 ≤ (inP f k s).1 ∧ (inP f k s).1 ≤ 16) ∧ (0 ≤ (inP f k s).2 ∧ (inP f k s).2 ≤ 16) := by
  by_cases hw : 0 ≤ wrt f.ps k s
  · obtain ⟨h1, h2⟩ := inP_some hb hfirst hw
    exact ⟨⟨by omega, h1.2⟩, ⟨by omega, h2.2⟩⟩
  · rw [inP_none hw]; simp
end Go.Proofs.YtihliofhhjjeaaaGreat
namespace Go.Proofs.YtihliofhhjjeaaaGreat
open Go.RowKit Im
theorem to_slot {f : Fr} {k : Nat} {Op To A B K : Int} {ls : List Lt} (hpk : f.ps.getD k Ps.zero = ⟨Op, To, A, B, K, ls⟩) (hE : passE f k = 0) : 0 ≤ To ∧ To < f.S := by
  obtain ⟨o1, _⟩ := passE_zero hE
  rw [hpk] at o1
  obtain ⟨_, hsl, _⟩ := ownE_zero o1
  unfold slotsB at hsl
  rw [Bool.and_eq_true] at hsl
  have := hsl.2
  simp [slotB, withinB] at this
  omega
theorem FBox.set {w : World} {b : Nat} {W H S O : Int} {a : Option Addr} {len cap : Nat} (h : FBox w b W H S O a len cap) {p : Addr} (hp : p.block ≠ b) (v : Value) : FBox (w.setCell p v) b W H S O a len cap := by
  obtain ⟨h0, h1, h2, h3, h4, h5⟩ := h
  have hn : ∀ o, p ≠ (⟨b, o, none⟩ : Addr) := fun o e => hp (by rw [e])
  exact ⟨by simpa using h0, (set_other _ (hn 0)).trans h1, (set_other _ (hn 1)).trans h2, (set_other _ (hn 2)).trans h3, (set_other _ (hn 3)).trans h4, (set_other _ (hn 4)).trans h5⟩
theorem FBox.keep {w w' : World} {b B : Nat} {W H S O : Int} {a : Option Addr} {len cap : Nat} (h : FBox w b W H S O a len cap) (hb : Below B w w') (hB : b < B) (hs : w.heap.size ≤ w'.heap.size) : FBox w' b W H S O a len cap := by
  obtain ⟨h0, h1, h2, h3, h4, h5⟩ := h
  exact ⟨Nat.lt_of_lt_of_le h0 hs, (hb.cell (p := ⟨b, 0, none⟩) hB).trans h1, (hb.cell (p := ⟨b, 1, none⟩) hB).trans h2, (hb.cell (p := ⟨b, 2, none⟩) hB).trans h3, (hb.cell (p := ⟨b, 3, none⟩) hB).trans h4, (hb.cell (p := ⟨b, 4, none⟩) hB).trans h5⟩
set_option maxHeartbeats 4000000 in
theorem checkFrame_ok (W H : Int) (N : Nat) (O : Int) (a : Option Addr) (len cap : Nat) (ps : List Ps) (w : World) (hp : Passes w a len ps) (hE : boundsE ⟨W, H, N, O, ps⟩ = 0) :
    Calls Tryz.prog 15 #[.agg #[.int .i64 W, .int .i64 H, .int .i64 N, .int .i64 O, .slice a len cap]] w (ToldFZ w ⟨W, H, N, O, ps⟩) := by
  have hlen := hp.leng
  obtain ⟨hW, hH, hS, hO, hL⟩ := boundsE_zero hE
  dsimp only at hW hH hS hO hL
  have HE : Hid (boundsE ⟨W, H, N, O, ps⟩ = 0) := hE
  have c1 : withinB W 1 16 = true := by simp [withinB]; omega
  have c2 : withinB H 1 16 = true := by simp [withinB]; omega
  have c3 : withinB (N : Int) 1 8 = true := by simp [withinB]; omega
  have c4 : withinB O 0 ((N : Int) - 1) = true := by simp [withinB]; omega
  have c5 : withinB (len : Int) 1 12 = true := by rw [← hlen]; simp [withinB]; omega
  have hw : IntKind.i64.wrap ((N : Int) - 1) = (N : Int) - 1 := by rw [IntKind.wrap_i64]; omega
  have hB := FBox.new w W H N O a len cap
  have hb0 := below_box (Below.refl w.heap.size w) (.cells #[.int .i64 W, .int .i64 H, .int .i64 N, .int .i64 O, .slice a len cap] 24)
  have hno : Hid (∀ {E : Int} {e : Ending} {w' : World}, frameE ⟨W, H, N, O, ps⟩ = E → E ≠ 0 → e = .returned (.tuple #[.slice none 0 0, .int .i64 E]) → Below w.heap.size w w' → ToldFZ w ⟨W, H, N, O, ps⟩ e w') := by
    intro E e w' h1 h2 h3 h4
    refine ⟨⟨.slice none 0 0, by rw [h1]; exact h3, ?_⟩, h4⟩
    rw [h1, if_neg h2]
    exact World.ownsRow_nil _ _ _ _
  obtain ⟨_, g0, g1, g2, g3, g4⟩ := id hB
  obtain ⟨i0, hi, hz0, hz1, hz2⟩ := info_parts Tryz.infoSize
  clear hE
  go_enter Tryz.func15, Tryz.ntmps15
  go_upto_region 6 with (first
    | (go_at_call 42; refine (within_any _ _ _ _).mono ?_; rintro e w' ⟨rfl, rfl⟩)
    | (at_make; refine wpList_make_full _ rfl _ _ 43 rfl (w.heap.size + 1) 80 i0 (.agg #[.int .i64 0, .int .i64 0]) 2 Tryz.underlying43 hi hz0 hz1 .i64 .i64 _ _ N rfl rfl (by simp) (by simp) (by rw [hz2]; omega) (by unfold maxLen; omega) (by simp) ?_; intro wM hown hgrow))
  have hbM : Below (w.alloc (.cells #[.int .i64 W, .int .i64 H, .int .i64 N, .int .i64 O, .slice a len cap] 24)).heap.size (w.alloc (.cells #[.int .i64 W, .int .i64 H, .int .i64 N, .int .i64 O, .slice a len cap] 24)) wM := (Below.refl _ _).grown hgrow (Nat.le_refl _) (fun k hk => by cases hk)
  have hBM := hB.below hbM
  have hbW := below_step hb0 hbM
  rw [World.size_alloc] at hown
  have hlM := (World.ownsRow.lt (w := wM) hown (w.heap.size + 1) rfl).2
  have hIM := In.made hown hlM
  clear hown hgrow hbM hB hb0 g0 g1 g2 g3 g4 c1 c2 c3 c4 hw
  have g4 := hBM.c4
  go_wp2
  clear g4
  go_loopw [5, 6] (fun all i wr => ∃ (k : Nat) (v : Value), k ≤ len ∧ i = .int .i64 k ∧ all = v ∧ In wr (w.heap.size + 1) N (inP ⟨W, H, N, O, ps⟩ k) ∧ OwnsZ (w.heap.size + 2) wr v (szs ⟨W, H, N, O, ps⟩ k) ∧ Below w.heap.size w wr ∧ FBox wr w.heap.size W H N O a len cap ∧ firstE ⟨W, H, N, O, ps⟩ k = 0) (fun _ i _ => len - (intOf i).toNat)
  case atStart => exact ⟨0, _, Nat.zero_le _, rfl, rfl, hIM, World.ownsRow_nil _ _ _ _, hbW, hBM, rfl⟩
  case round =>
    obtain ⟨k, v, hk, rfl, rfl, hIr, hZr, hbr, hBr, hfirst⟩ := hrel
    clear hIM hbW hBM hlM
    by_cases hlt : k < len
    · have hpr := hp.below hbr
      have hkl : k < (Fr.mk W H N O ps).ps.length := by show k < ps.length; omega
      have H1 : Hid (∀ E : Int, passE ⟨W, H, N, O, ps⟩ k = E → E ≠ 0 → frameE ⟨W, H, N, O, ps⟩ = E) := fun E e h => (frameE_pass (f := ⟨W, H, N, O, ps⟩) HE.out hfirst hkl (by rw [e]; exact h)).trans e
      have H2 : Hid (passE ⟨W, H, N, O, ps⟩ k = 0 → firstE ⟨W, H, N, O, ps⟩ (k + 1) = 0) := fun h => (firstE_at ⟨W, H, N, O, ps⟩ hfirst).trans h
      have H3 : Hid (szs ⟨W, H, N, O, ps⟩ (k + 1) = szs ⟨W, H, N, O, ps⟩ k ++ [sizeP W H (ps.getD k Ps.zero).Op (pickZ (szs ⟨W, H, N, O, ps⟩ k) (srcOf ps k))]) := rfl
      have H4 : Hid (∀ s, inP ⟨W, H, N, O, ps⟩ (k + 1) s = if (ps.getD k Ps.zero).To = s then sizeP W H (ps.getD k Ps.zero).Op (pickZ (szs ⟨W, H, N, O, ps⟩ k) (srcOf ps k)) else inP ⟨W, H, N, O, ps⟩ k s) := fun s => inP_succ ⟨W, H, N, O, ps⟩ k s
      have H5 : Hid (refE (ps.getD k Ps.zero) N (inP ⟨W, H, N, O, ps⟩ k (ps.getD k Ps.zero).A) (inP ⟨W, H, N, O, ps⟩ k (ps.getD k Ps.zero).B) = passE ⟨W, H, N, O, ps⟩ k) := refE_eq (f := ⟨W, H, N, O, ps⟩) HE.out hfirst
      have H6 : Hid ((szs ⟨W, H, N, O, ps⟩ k).length = k) := szs_length _ _
      have hgb := fun s => inP_bd (f := ⟨W, H, N, O, ps⟩) (k := k) HE.out hfirst s
      obtain ⟨b, off, la, ll, lc, rfl, p0, p1, p2, p3, p4, p5, hLi⟩ := hpr.nth hlt
      generalize hpk : ps.getD k Ps.zero = p at p0 p1 p2 p3 p4 p5 hLi H3 H4 H5
      obtain ⟨Op, To, A, B, K, ls⟩ := p
      dsimp only at p0 p1 p2 p3 p4 p5 hLi H3 H4 H5
      have hsz := fun (hE : passE ⟨W, H, N, O, ps⟩ k = 0) (wx : World) (hI : In wx (w.heap.size + 1) N (inP ⟨W, H, N, O, ps⟩ k)) => refSize_any (f := ⟨W, H, N, O, ps⟩) (k := k) hpk HE.out hfirst hE (some ⟨b, off, none⟩) len cap la ll lc (ic := N) rfl hI
      have hto := fun (hE : passE ⟨W, H, N, O, ps⟩ k = 0) => to_slot (f := ⟨W, H, N, O, ps⟩) (k := k) hpk hE
      dsimp only at hsz hto
      have hpe := fun (wx : World) (hL : Lights wx la ll ls) (hI : In wx (w.heap.size + 1) N (inP ⟨W, H, N, O, ps⟩ k)) => passErr_any W H N O (some ⟨b, off, none⟩) len cap Op To A B K la ll lc ls (w.heap.size + 1) N N (inP ⟨W, H, N, O, ps⟩ k) wx hS rfl hL hI hgb
      rw [H5.out] at hpe
      clear hpk hgb H5 hp hpr hfirst
      generalize szs ⟨W, H, N, O, ps⟩ k = zs at hZr H3 H4 H6 hsz
      generalize sizeP W H Op (pickZ zs (srcOf ps k)) = z at H3 H4 hsz
      generalize inP ⟨W, H, N, O, ps⟩ k = g at hIr H4 hsz hpe
      generalize passE ⟨W, H, N, O, ps⟩ k = E at H1 H2 hsz hto hpe
      obtain ⟨zw, zh⟩ := z
      dsimp only at hsz
      obtain ⟨va, vcap, rfl⟩ := owns_slice hZr
      have hIp := hIr.below ((Below.refl wr.heap.size wr).alloc (Nat.le_refl _) (.cells #[.int .i64 Op, .int .i64 To, .int .i64 A, .int .i64 B, .int .i64 K, .slice la ll lc] 62)) hIr.lt (by simp)
      have hBp := hBr.alloc (.cells #[.int .i64 Op, .int .i64 To, .int .i64 A, .int .i64 B, .int .i64 K, .slice la ll lc] 62)
      have hZp : OwnsZ _ _ _ _ := World.ownsRow.alloc hZr (.cells #[.int .i64 Op, .int .i64 To, .int .i64 A, .int .i64 B, .int .i64 K, .slice la ll lc] 62)
      have hPp := PBox.new wr Op To A B K la ll lc
      have hbp := below_box hbr (.cells #[.int .i64 Op, .int .i64 To, .int .i64 A, .int .i64 B, .int .i64 K, .slice la ll lc] 62)
      obtain ⟨_, q0, q1, q2, q3, q4⟩ := id hBr
      go_wp2_with fail
      refine (hpe _ (hLi.alloc' _) hIp).mono ?_
      rintro e wA ⟨rfl, bA⟩
      have hIA := hIp.below bA hIp.lt bA.size
      have hBA := hBp.below bA
      have hPA := hPp.below bA
      have hZA : OwnsZ _ _ _ _ := ownsRow_below hZp bA (Nat.le_refl _)
      have hbA := below_step hbp bA
      clear hpe hIp hBp hPp hZp hbp bA hIr hZr hbr hBr p0 p1 p2 p3 p4 p5 hLi q0 q1 q2 q3 q4
      obtain ⟨_, q0, q1, q2, q3, q4⟩ := id hBA
      obtain ⟨_, p0, p1, p2, p3, p4, p5⟩ := id hPA
      by_cases hE0 : E = 0
      · subst hE0
        have hT := hto rfl
        obtain ⟨m, rfl⟩ := Int.eq_ofNat_of_zero_le hT.1
        have hsz' := hsz rfl
        clear hsz hto
        go_wp2_with fail
        refine (hsz' _ hIA).mono ?_
        rintro e wB ⟨rfl, bB⟩
        have hIS := (hIA.below bB hIA.lt bB.size).below ((Below.refl wB.heap.size wB).alloc (Nat.le_refl _) (.cells #[.int .i64 zw, .int .i64 zh] 80)) (Nat.lt_of_lt_of_le hIA.lt bB.size) (by simp)
        have hBS := (hBA.below bB).alloc (.cells #[.int .i64 zw, .int .i64 zh] 80)
        have hPS := (hPA.below bB).alloc (.cells #[.int .i64 zw, .int .i64 zh] 80)
        have hZS : OwnsZ _ _ _ _ := World.ownsRow.alloc (ownsRow_below hZA bB (Nat.le_refl _)) (.cells #[.int .i64 zw, .int .i64 zh] 80)
        have hbS := below_box (below_step hbA bB) (.cells #[.int .i64 zw, .int .i64 zh] 80)
        have hlS : wB.heap.size < (wB.alloc (.cells #[.int .i64 zw, .int .i64 zh] 80)).heap.size := by simp
        have s0 : (wB.alloc (.cells #[.int .i64 zw, .int .i64 zh] 80)).cell? ⟨wB.heap.size, 0, none⟩ = some (.int .i64 zw) := by simp [go_sem]
        have s1 : (wB.alloc (.cells #[.int .i64 zw, .int .i64 zh] 80)).cell? ⟨wB.heap.size, 1, none⟩ = some (.int .i64 zh) := by simp [go_sem]
        have hlB : w.heap.size + 1 < wB.heap.size := Nat.lt_of_lt_of_le hIA.lt bB.size
        clear hIA hBA hPA hZA hbA bB p0 p1 p2 p3 p4 p5 q0 q1 q2 q3 q4 hsz'
        go_upto_region 15 with fail
        generalize wB.alloc (.cells #[.int .i64 zw, .int .i64 zh] 80) = wS at hIS hBS hPS hZS hbS hlS s0 s1 ⊢
        obtain ⟨hc0, hc1⟩ := hIS.cells m (by omega)
        have hf0 := hIS.froz (0 + m * 2)
        have hf1 := hIS.froz (0 + m * 2 + 1)
        obtain ⟨_, p0, p1, p2, p3, p4, p5⟩ := id hPS
        rw [Nat.zero_add] at hc0 hc1 hf0 hf1
        have hmN : (m : Int) < (N : Int) := hT.2
        go_upto_region 16 with fail
        have hIT := hIS.put (g' := inP ⟨W, H, N, O, ps⟩ (k + 1)) m (zw, zh) (by omega) (fun j => H4.out j)
        simp only [Nat.zero_add] at hIT
        have hBT := (hBS.set (p := ⟨w.heap.size + 1, m * 2, none⟩) (by simp) (.int .i64 zw)).set (p := ⟨w.heap.size + 1, m * 2 + 1, none⟩) (by simp) (.int .i64 zh)
        have hZT : OwnsZ _ _ _ _ := ownsRow_setCell_below (ownsRow_setCell_below hZS (a := ⟨w.heap.size + 1, m * 2, none⟩) (by simp) (.int .i64 zw)) (a := ⟨w.heap.size + 1, m * 2 + 1, none⟩) (by simp) (.int .i64 zh)
        have hbT := (hbS.setCell (p := ⟨w.heap.size + 1, m * 2, none⟩) (by simp) (.int .i64 zw)).setCell (p := ⟨w.heap.size + 1, m * 2 + 1, none⟩) (by simp) (.int .i64 zh)
        have t0 := (set_other (.int .i64 zh) (a := ⟨w.heap.size + 1, m * 2 + 1, none⟩) (b := ⟨wB.heap.size, 0, none⟩) (fun e => by injection e with e1; omega)).trans ((set_other (.int .i64 zw) (a := ⟨w.heap.size + 1, m * 2, none⟩) (b := ⟨wB.heap.size, 0, none⟩) (fun e => by injection e with e1; omega)).trans s0)
        have t1 := (set_other (.int .i64 zh) (a := ⟨w.heap.size + 1, m * 2 + 1, none⟩) (b := ⟨wB.heap.size, 1, none⟩) (fun e => by injection e with e1; omega)).trans ((set_other (.int .i64 zw) (a := ⟨w.heap.size + 1, m * 2, none⟩) (b := ⟨wB.heap.size, 1, none⟩) (fun e => by injection e with e1; omega)).trans s1)
        clear hIS hBS hPS hZS hbS hlS s0 s1 hc0 hc1 hf0 hf1 p0 p1 p2 p3 p4 p5 H1 H4
        generalize (wS.setCell ⟨w.heap.size + 1, m * 2, none⟩ (.int .i64 zw)).setCell ⟨w.heap.size + 1, m * 2 + 1, none⟩ (.int .i64 zh) = wT at hIT hBT hZT hbT t0 t1 ⊢
        have hZU : OwnsZ _ _ _ _ := World.ownsRow.alloc hZT (.cells #[.int .i64 zw, .int .i64 zh] 80)
        have hlT : w.heap.size + 2 ≤ wT.heap.size := hIT.lt
        go_wp2_with (at_builtin; refine wpList_append_own _ rfl _ _ 43 rfl (w.heap.size + 2) 80 i0 _ 2 16 Tryz.underlying43 hi hz0 hz1 hz2 rfl (by decide) _ _ _ rfl hZU ⟨wT.heap.size, 0, none⟩ 1 1 [.int .i64 zw, .int .i64 zh] rfl rfl (cell_two_new _ _ _ _) (by intro u hu; simp at hu; rcases hu with rfl | rfl <;> rfl) (by rw [H6.out]; unfold maxLen; omega) (by rw [H6.out]; omega) (by simp; omega) ?_; intro v' w9 hown9 hgrow9 _)
        obtain ⟨hZ9, hb9⟩ := OwnsZ.push (z := (zw, zh)) hZT (Below.refl _ wT) hlT hown9 rfl hgrow9
        go_roundw
        case rel => exact ⟨k + 1, _, by omega, by go_num, rfl, hIT.below hb9 (by omega) hb9.size, by rw [H3.out]; exact hZ9, hbT.trans (hb9.mono (by omega)), hBT.keep hb9 (by omega) hb9.size, H2.out (by trivial)⟩
        case measure => simp [intOf]; omega
      · have HF := H1.out E rfl hE0
        clear hsz hto H1 H2 H3 H4 H6
        go_wp2
        go_ret2
        exact hno.out HF hE0 rfl hbA
    · have hke : k = ps.length := by omega
      obtain ⟨o, rfl⟩ := Int.eq_ofNat_of_zero_le hO.1
      have hz := inP_zero (f := ⟨W, H, N, o, ps⟩) (n := k) (s := o) HE.out hfirst
      have HF : Hid (frameE ⟨W, H, N, o, ps⟩ = if (inP ⟨W, H, N, o, ps⟩ k o).1 = 0 then 5 else 0) := by
        show _ = _
        unfold frameE
        rw [if_pos HE.out]
        have : firstE ⟨W, H, N, o, ps⟩ ps.length = 0 := by rw [← hke]; exact hfirst
        dsimp only
        rw [if_pos this]
        unfold shownP
        dsimp only at hz ⊢
        rw [hke] at hz ⊢
        by_cases h : 0 ≤ wrt ps ps.length o
        · rw [if_pos h, if_neg (fun e => (hz.1 e) h)]
        · rw [if_neg h, if_pos (hz.2 h)]
      have HZ : Hid (szs ⟨W, H, N, o, ps⟩ k = szs ⟨W, H, N, o, ps⟩ ps.length) := by show _ = _; rw [hke]
      obtain ⟨hc0, _⟩ := hIr.cells o (by omega)
      rw [Nat.zero_add] at hc0
      obtain ⟨_, q0, q1, q2, q3, q4⟩ := id hBr
      obtain ⟨va, vcap, rfl⟩ := owns_slice hZr
      have hoN : (o : Int) < (N : Int) := hO.2
      generalize (inP ⟨W, H, N, o, ps⟩ k o).1 = x at hc0 HF
      clear hz hIr hfirst hp
      by_cases hx : x = 0
      · subst hx
        have HF' := HF.out
        rw [if_pos rfl] at HF'
        have HG : Hid (_) := HF'
        clear HF' HF
        go_wp2
        go_ret2
        exact hno.out HG.out (by decide) rfl hbr
      · have HF' := HF.out
        rw [if_neg hx] at HF'
        have HG : Hid (_) := HF'
        have HZZ : Hid (_) := hZr
        clear HF' HF hZr
        go_wp2
        go_ret2
        refine ⟨⟨.slice va (szs ⟨W, H, N, o, ps⟩ k).length vcap, by rw [HG.out]; rfl, ?_⟩, hbr⟩
        rw [HG.out, if_pos rfl]
        rw [← HZ.out]
        exact row_mono HZZ.out (by omega)
theorem checkFrame_any (W H S O : Int) (a : Option Addr) (len cap : Nat) (ps : List Ps) (w : World) (hp : Passes w a len ps) :
    Calls Tryz.prog 15 #[.agg #[.int .i64 W, .int .i64 H, .int .i64 S, .int .i64 O, .slice a len cap]] w (ToldFZ w ⟨W, H, S, O, ps⟩) := by
  by_cases hE : boundsE ⟨W, H, S, O, ps⟩ = 0
  · obtain ⟨_, _, hS, _⟩ := boundsE_zero hE
    dsimp only at hS
    obtain ⟨N, rfl⟩ := Int.eq_ofNat_of_zero_le (show 0 ≤ S by omega)
    exact checkFrame_ok W H N O a len cap ps w hp hE
  · exact checkFrame_bounds W H S O a len cap ps w hp hE
end Go.Proofs.YtihliofhhjjeaaaGreat
