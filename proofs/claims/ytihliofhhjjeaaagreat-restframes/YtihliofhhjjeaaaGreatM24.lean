/- FitsRef: joined, in this order. -/
import Derived.Test.YtihliofhhjjeaaaGreatM23
set_option maxRecDepth 100000
namespace Go.Proofs.YtihliofhhjjeaaaGreat
open Go.RowKit Im Go.Maps
theorem spans_at (g : Nat → Int × Int) {N k : Nat} (h : k < N) : ((List.range N).map g).getD k Sz.zero = g k := by simp [List.getD, h]
theorem spans_len (g : Nat → Int × Int) (N : Nat) : ((List.range N).map g).length = N := by simp
theorem fOA {α : Type} (l : List α) (i : Nat) (a : α) : l.toArray.setIfInBounds i a = (l.set i a).toArray := List.setIfInBounds_toArray ..
theorem fOZ {α : Type} (x : α) (l : List α) (a : α) : (x :: l).set 0 a = a :: l := List.set_cons_zero ..
theorem fOS {α : Type} (x : α) (l : List α) (i : Nat) (a : α) : (x :: l).set (i + 1) a = x :: l.set i a := List.set_cons_succ ..
abbrev fO0 : Oper := { dst := some 52, op := .fieldAddr 27 (.tmp 4) 1, type := 0, pos := "plan.go:78", after := #[], guard := none }
abbrev fO1 : Oper := { dst := some 53, op := .load 25 (.tmp 52), type := 25, pos := "plan.go:78", after := #[{ on := 0, ground := .data }], guard := none }
abbrev fO2 : Oper := { dst := some 54, op := .move (.tmp 11), type := 3, pos := "plan.go:78", after := #[], guard := none }
abbrev fO3 : Oper := { dst := some 55, op := .indexAddr 25 (.tmp 53) (.tmp 54), type := 0, pos := "plan.go:78", after := #[{ on := 1, ground := .data }, { on := 2, ground := .data }], guard := none }
abbrev fO4 : Oper := { dst := some 56, op := .load 3 (.tmp 55), type := 3, pos := "plan.go:78", after := #[{ on := 3, ground := .data }], guard := none }
abbrev fO5 : Oper := { dst := some 57, op := .binOp .neq 3 (.tmp 56) (.const (.int .i64 (-1))) 3, type := 4, pos := "plan.go:78", after := #[{ on := 4, ground := .data }], guard := none }
abbrev fO6 : Oper := { dst := some 58, op := .move (.tmp 57), type := 4, pos := "plan.go:78", after := #[{ on := 5, ground := .data }], guard := none }
abbrev fO7 : Oper := { dst := some 59, op := .move (.tmp 9), type := 59, pos := "plan.go:78", after := #[{ on := 6, ground := .guard }], guard := some (6, true) }
abbrev fO8 : Oper := { dst := some 60, op := .move (.tmp 10), type := 3, pos := "plan.go:78", after := #[{ on := 6, ground := .guard }], guard := some (6, true) }
abbrev fO9 : Oper := { dst := some 61, op := .indexAddr 59 (.tmp 59) (.tmp 60), type := 0, pos := "plan.go:78", after := #[{ on := 7, ground := .data }, { on := 8, ground := .data }, { on := 6, ground := .guard }], guard := some (6, true) }
abbrev fO10 : Oper := { dst := some 62, op := .load 58 (.tmp 61), type := 58, pos := "plan.go:78", after := #[{ on := 9, ground := .data }, { on := 6, ground := .guard }], guard := some (6, true) }
abbrev fO11 : Oper := { dst := some 63, op := .move (.tmp 9), type := 59, pos := "plan.go:78", after := #[{ on := 6, ground := .guard }], guard := some (6, true) }
abbrev fO12 : Oper := { dst := some 64, op := .move (.tmp 11), type := 3, pos := "plan.go:78", after := #[{ on := 6, ground := .guard }], guard := some (6, true) }
abbrev fO13 : Oper := { dst := some 65, op := .indexAddr 59 (.tmp 63) (.tmp 64), type := 0, pos := "plan.go:78", after := #[{ on := 11, ground := .data }, { on := 12, ground := .data }, { on := 6, ground := .guard }], guard := some (6, true) }
abbrev fO14 : Oper := { dst := some 66, op := .load 58 (.tmp 65), type := 58, pos := "plan.go:78", after := #[{ on := 13, ground := .data }, { on := 6, ground := .guard }], guard := some (6, true) }
abbrev fO15 : Oper := { dst := some 67, op := .call { callee := .value (.func 84), args := #[.tmp 62, .tmp 66], argTypes := #[58, 58] }, type := 4, pos := "plan.go:78", after := #[{ on := 10, ground := .data }, { on := 14, ground := .data }, { on := 6, ground := .chain }, { on := 6, ground := .guard }], guard := some (6, true) }
abbrev fO16 : Oper := { dst := some 68, op := .pick (.tmp 58) (.tmp 67) (.const (.bool false)), type := 4, pos := "plan.go:78", after := #[{ on := 6, ground := .data }, { on := 15, ground := .data }], guard := none }
abbrev fO17 : Oper := { dst := some 69, op := .move (.tmp 68), type := 4, pos := "plan.go:78", after := #[{ on := 16, ground := .data }, { on := 15, ground := .chain }], guard := none }
abbrev fO18 : Oper := { dst := some 70, op := .fieldAddr 27 (.tmp 4) 1, type := 0, pos := "plan.go:78", after := #[{ on := 17, ground := .guard }], guard := some (17, true) }
abbrev fO19 : Oper := { dst := some 71, op := .load 25 (.tmp 70), type := 25, pos := "plan.go:78", after := #[{ on := 18, ground := .data }, { on := 17, ground := .guard }], guard := some (17, true) }
abbrev fO20 : Oper := { dst := some 72, op := .move (.tmp 10), type := 3, pos := "plan.go:78", after := #[{ on := 17, ground := .guard }], guard := some (17, true) }
abbrev fO21 : Oper := { dst := some 73, op := .indexAddr 25 (.tmp 71) (.tmp 72), type := 0, pos := "plan.go:78", after := #[{ on := 19, ground := .data }, { on := 20, ground := .data }, { on := 17, ground := .guard }], guard := some (17, true) }
abbrev fO22 : Oper := { dst := some 74, op := .load 3 (.tmp 73), type := 3, pos := "plan.go:78", after := #[{ on := 21, ground := .data }, { on := 17, ground := .guard }], guard := some (17, true) }
abbrev fO23 : Oper := { dst := some 75, op := .fieldAddr 27 (.tmp 4) 1, type := 0, pos := "plan.go:78", after := #[{ on := 17, ground := .guard }], guard := some (17, true) }
abbrev fO24 : Oper := { dst := some 76, op := .load 25 (.tmp 75), type := 25, pos := "plan.go:78", after := #[{ on := 23, ground := .data }, { on := 17, ground := .guard }], guard := some (17, true) }
abbrev fO25 : Oper := { dst := some 77, op := .move (.tmp 11), type := 3, pos := "plan.go:78", after := #[{ on := 17, ground := .guard }], guard := some (17, true) }
abbrev fO26 : Oper := { dst := some 78, op := .indexAddr 25 (.tmp 76) (.tmp 77), type := 0, pos := "plan.go:78", after := #[{ on := 24, ground := .data }, { on := 25, ground := .data }, { on := 17, ground := .guard }], guard := some (17, true) }
abbrev fO27 : Oper := { dst := some 79, op := .load 3 (.tmp 78), type := 3, pos := "plan.go:78", after := #[{ on := 26, ground := .data }, { on := 17, ground := .guard }], guard := some (17, true) }
abbrev fO28 : Oper := { dst := some 80, op := .move (.tmp 7), type := 43, pos := "plan.go:78", after := #[{ on := 17, ground := .guard }], guard := some (17, true) }
abbrev fO29 : Oper := { dst := some 81, op := .move (.tmp 11), type := 3, pos := "plan.go:78", after := #[{ on := 17, ground := .guard }], guard := some (17, true) }
abbrev fO30 : Oper := { dst := some 82, op := .indexAddr 43 (.tmp 80) (.tmp 81), type := 0, pos := "plan.go:78", after := #[{ on := 28, ground := .data }, { on := 29, ground := .data }, { on := 17, ground := .guard }], guard := some (17, true) }
abbrev fO31 : Oper := { dst := some 83, op := .load 80 (.tmp 82), type := 80, pos := "plan.go:78", after := #[{ on := 30, ground := .data }, { on := 17, ground := .guard }], guard := some (17, true) }
abbrev fO32 : Oper := { dst := some 84, op := .call { callee := .value (.func 47), args := #[.tmp 83], argTypes := #[80] }, type := 3, pos := "plan.go:78", after := #[{ on := 31, ground := .data }, { on := 17, ground := .chain }, { on := 17, ground := .guard }], guard := some (17, true) }
abbrev fO33 : Oper := { dst := some 85, op := .binOp .add 3 (.tmp 79) (.tmp 84) 3, type := 3, pos := "plan.go:78", after := #[{ on := 27, ground := .data }, { on := 32, ground := .data }, { on := 17, ground := .guard }], guard := some (17, true) }
abbrev fO34 : Oper := { dst := some 86, op := .binOp .lss 3 (.tmp 74) (.tmp 85) 3, type := 4, pos := "plan.go:78", after := #[{ on := 22, ground := .data }, { on := 33, ground := .data }, { on := 17, ground := .guard }], guard := some (17, true) }
abbrev fO35 : Oper := { dst := some 87, op := .pick (.tmp 69) (.tmp 86) (.const (.bool false)), type := 4, pos := "plan.go:78", after := #[{ on := 17, ground := .data }, { on := 34, ground := .data }], guard := none }
abbrev fO36 : Oper := { dst := some 88, op := .move (.tmp 87), type := 4, pos := "plan.go:78", after := #[{ on := 35, ground := .data }, { on := 32, ground := .chain }], guard := none }
abbrev fO37 : Oper := { dst := some 89, op := .fieldAddr 27 (.tmp 4) 1, type := 0, pos := "plan.go:78", after := #[{ on := 36, ground := .guard }], guard := some (36, true) }
abbrev fO38 : Oper := { dst := some 90, op := .load 25 (.tmp 89), type := 25, pos := "plan.go:78", after := #[{ on := 37, ground := .data }, { on := 36, ground := .guard }], guard := some (36, true) }
abbrev fO39 : Oper := { dst := some 91, op := .move (.tmp 11), type := 3, pos := "plan.go:78", after := #[{ on := 36, ground := .guard }], guard := some (36, true) }
abbrev fO40 : Oper := { dst := some 92, op := .indexAddr 25 (.tmp 90) (.tmp 91), type := 0, pos := "plan.go:78", after := #[{ on := 38, ground := .data }, { on := 39, ground := .data }, { on := 36, ground := .guard }], guard := some (36, true) }
abbrev fO41 : Oper := { dst := some 93, op := .load 3 (.tmp 92), type := 3, pos := "plan.go:78", after := #[{ on := 40, ground := .data }, { on := 36, ground := .guard }], guard := some (36, true) }
abbrev fO42 : Oper := { dst := some 94, op := .fieldAddr 27 (.tmp 4) 1, type := 0, pos := "plan.go:78", after := #[{ on := 36, ground := .guard }], guard := some (36, true) }
abbrev fO43 : Oper := { dst := some 95, op := .load 25 (.tmp 94), type := 25, pos := "plan.go:78", after := #[{ on := 42, ground := .data }, { on := 36, ground := .guard }], guard := some (36, true) }
abbrev fO44 : Oper := { dst := some 96, op := .move (.tmp 10), type := 3, pos := "plan.go:78", after := #[{ on := 36, ground := .guard }], guard := some (36, true) }
abbrev fO45 : Oper := { dst := some 97, op := .indexAddr 25 (.tmp 95) (.tmp 96), type := 0, pos := "plan.go:78", after := #[{ on := 43, ground := .data }, { on := 44, ground := .data }, { on := 36, ground := .guard }], guard := some (36, true) }
abbrev fO46 : Oper := { dst := some 98, op := .load 3 (.tmp 97), type := 3, pos := "plan.go:78", after := #[{ on := 45, ground := .data }, { on := 36, ground := .guard }], guard := some (36, true) }
abbrev fO47 : Oper := { dst := some 99, op := .move (.tmp 7), type := 43, pos := "plan.go:78", after := #[{ on := 36, ground := .guard }], guard := some (36, true) }
abbrev fO48 : Oper := { dst := some 100, op := .move (.tmp 10), type := 3, pos := "plan.go:78", after := #[{ on := 36, ground := .guard }], guard := some (36, true) }
abbrev fO49 : Oper := { dst := some 101, op := .indexAddr 43 (.tmp 99) (.tmp 100), type := 0, pos := "plan.go:78", after := #[{ on := 47, ground := .data }, { on := 48, ground := .data }, { on := 36, ground := .guard }], guard := some (36, true) }
abbrev fO50 : Oper := { dst := some 102, op := .load 80 (.tmp 101), type := 80, pos := "plan.go:78", after := #[{ on := 49, ground := .data }, { on := 36, ground := .guard }], guard := some (36, true) }
abbrev fO51 : Oper := { dst := some 103, op := .call { callee := .value (.func 47), args := #[.tmp 102], argTypes := #[80] }, type := 3, pos := "plan.go:78", after := #[{ on := 50, ground := .data }, { on := 36, ground := .chain }, { on := 36, ground := .guard }], guard := some (36, true) }
abbrev fO52 : Oper := { dst := some 104, op := .binOp .add 3 (.tmp 98) (.tmp 103) 3, type := 3, pos := "plan.go:78", after := #[{ on := 46, ground := .data }, { on := 51, ground := .data }, { on := 36, ground := .guard }], guard := some (36, true) }
abbrev fO53 : Oper := { dst := some 105, op := .binOp .lss 3 (.tmp 93) (.tmp 104) 3, type := 4, pos := "plan.go:78", after := #[{ on := 41, ground := .data }, { on := 52, ground := .data }, { on := 36, ground := .guard }], guard := some (36, true) }
abbrev fO54 : Oper := { dst := some 106, op := .pick (.tmp 88) (.tmp 105) (.const (.bool false)), type := 4, pos := "plan.go:78", after := #[{ on := 36, ground := .data }, { on := 53, ground := .data }], guard := none }
set_option maxHeartbeats 16000000 in
theorem fitsRef_any (W H S O : Int) (a : Option Addr) (len cap : Nat) (ps : List Ps) (w : World) (hp : Passes w a len ps) (oa : Option Addr) (olen ocap : Nat) (pa : Option Addr) (plen pcap : Nat) (os pl : List Int) (hO : Ints 0 w oa olen os) (hL : Ints 0 w pa plen pl) (hE : frameE ⟨W, H, S, O, ps⟩ = 0) (hOrd : Ord (gpOf ⟨W, H, S, O, ps⟩) os pl) (room : Int) (hroom : 0 ≤ room ∧ room ≤ 4096) :
    Calls Tryz.prog 74 #[.agg #[.int .i64 W, .int .i64 H, .int .i64 S, .int .i64 O, .slice a len cap], .agg #[.slice oa olen ocap, .slice pa plen pcap], .int .i64 room] w fun e w' => e = .returned (.bool (fitsR (gpOf ⟨W, H, S, O, ps⟩).ar pl (spanP (gpOf ⟨W, H, S, O, ps⟩) os) room ps.length)) ∧ Below w.heap.size w w' := by
  obtain rfl := hp.leng
  obtain rfl := hO.leng
  have hpl : plen = ps.length := by rw [← hL.leng]; exact hOrd.len
  subst hpl
  have hR := gp_right hE
  have hN12 : ps.length ≤ 12 := hR.hN.2
  have hb0 := below_box (below_box (Below.refl w.heap.size w) (.cells #[.int .i64 W, .int .i64 H, .int .i64 S, .int .i64 O, .slice a ps.length cap] 24)) (.cells #[.slice oa os.length ocap, .slice pa ps.length pcap] 27)
  have hF0 := (FBox.new w W H S O a ps.length cap).alloc (.cells #[.slice oa os.length ocap, .slice pa ps.length pcap] 27)
  have hP0 := PlBox.new (w.alloc (.cells #[.int .i64 W, .int .i64 H, .int .i64 S, .int .i64 O, .slice a ps.length cap] 24)) (.slice oa os.length ocap) (.slice pa ps.length pcap) 27
  rw [World.size_alloc] at hP0
  have hcf := checkFrame_any W H S O a ps.length cap ps _ (hp.below hb0)
  have hsp := fun wx hp hO => spansOfRef_any W H S O a ps.length cap ps wx hp oa os.length ocap (.slice pa ps.length pcap) os hO hE hOrd.inN (Nat.le_trans hOrd.olen hN12)
  have HPB : Hid (∀ k, k < ps.length → pl.getD k 0 = -1 ∨ (0 ≤ pl.getD k 0 ∧ pl.getD k 0 ≤ 4096)) := fun k hk => by
    by_cases hm : (k : Int) ∈ os
    · exact .inr (hOrd.at_ k hk hm)
    · exact .inl (hOrd.no k hk hm)
  have HAR : Hid (∀ k, (gpOf ⟨W, H, S, O, ps⟩).ar k = areaZ ((szs ⟨W, H, S, O, ps⟩ ps.length).getD k Sz.zero)) := fun _ => rfl
  obtain ⟨hbnd, hfirst, _⟩ := frameE_zero hE
  have HZB : Hid (∀ z ∈ szs ⟨W, H, S, O, ps⟩ ps.length, ZB z) := szs_bd hbnd hfirst
  generalize hN : ps.length = N at *
  have hzl : (szs ⟨W, H, S, O, ps⟩ N).length = N := szs_length _ _
  generalize (gpOf ⟨W, H, S, O, ps⟩).ar = ar at *
  generalize spanP (gpOf ⟨W, H, S, O, ps⟩) os = sp at *
  unfold ToldFZ at hcf
  rw [hE, if_pos rfl] at hcf
  dsimp only at hcf
  rw [hN] at hcf
  generalize szs ⟨W, H, S, O, ps⟩ N = zs at *
  have hol := hOrd.olen
  clear hOrd hR hbnd hfirst hE
  go_enter Tryz.func74, Tryz.ntmps74
  go_wp2_with fail
  refine hcf.mono ?_
  clear hcf
  rintro e w1 ⟨⟨vz, rfl, hZ⟩, b1⟩
  obtain ⟨za, zc, rfl, hZs⟩ := hZ.zs (by omega)
  rw [hzl] at hZs ⊢
  have hF1 := hF0.below b1
  have hP1 := hP0.below b1
  have hb1a := below_step hb0 b1
  have hp1 := hp.below hb1a
  have hO1 := hO.below (Nat.le_refl _) hb1a
  have hL1 := hL.below (Nat.le_refl _) hb1a
  clear hZ b1 hF0 hP0 hb0 hp hO hL
  obtain ⟨_, g0, g1, g2, g3, g4⟩ := id hF1
  obtain ⟨_, h0, h1⟩ := id hP1
  go_wp2_with fail
  refine (hsp _ hp1 hO1).mono ?_
  clear hsp
  rintro e w2 ⟨qa, qc, rfl, hQ, b2⟩
  rw [spans_len] at hQ ⊢
  have hP2 := hP1.below b2
  have hb1 := below_step hb1a b2
  have hL2 := hL1.below (Nat.le_refl _) b2
  have hZ2 := hZs.below b2
  clear g0 g1 g2 g3 g4 h0 h1 hF1 hP1 hb1a hp1 hO1 hL1 hZs b2
  obtain ⟨_, h0, h1⟩ := id hP2
  have HFT : Hid (fitsR ar pl sp room N = allTo (fitR ar pl sp room) N) := rfl
  have HFR : Hid (∀ k, fitR ar pl sp room k = (decide (pl.getD k 0 = -1) || (decide (0 ≤ pl.getD k 0) && decide (pl.getD k 0 ≤ room - ar k) && allTo (apartR ar pl sp k) k))) := fun _ => rfl
  have HAR2 : Hid (∀ k j, apartR ar pl sp k j = !(!decide (pl.getD j 0 = -1) && meetB (sp k) (sp j) && decide (pl.getD k 0 < pl.getD j 0 + ar j) && decide (pl.getD j 0 < pl.getD k 0 + ar k))) := fun _ _ => rfl
  go_wp2
  go_loopw [10] (fun i wr => ∃ k : Nat, k ≤ N ∧ i = .int .i64 k ∧ allTo (fitR ar pl sp room) k = true ∧ Below w2.heap.size w2 wr) (fun i _ => N - (intOf i).toNat)
  case atStart => exact ⟨0, Nat.zero_le _, rfl, rfl, Below.refl _ _⟩
  case round =>
    obtain ⟨k, hk, rfl, hall, hbr⟩ := hrel
    clear h0 h1
    have hPr := hP2.below hbr
    obtain ⟨_, h0, h1⟩ := id hPr
    by_cases hlt : k < N
    · obtain ⟨pb, po, rfl, lpb0, hpk⟩ := (hL2.below (Nat.le_refl _) hbr).nth' hlt
      obtain ⟨zb, zo, rfl, lzb0, zk0, zk1⟩ := (hZ2.below hbr).nth hlt
      obtain ⟨qb, qo, rfl, lqb0, qk0, qk1⟩ := (hQ.below hbr).nth hlt
      rw [spans_at sp hlt] at qk0 qk1
      have HA : Hid (fitR ar pl sp room k = true → allTo (fitR ar pl sp room) (k + 1) = true) := fun h => allTo_succ hall h
      have HF : Hid (fitR ar pl sp room k = false → fitsR ar pl sp room N = false) := fun h => allTo_not hlt h
      have HFK : Hid (_) := HFR.out k
      have HAK : Hid (∀ j, apartR ar pl sp k j = _) := fun j => HAR2.out k j
      have hyb := HPB.out k hlt
      have hzb := HZB.out _ (getD_mem (l := zs) (k := k) (by omega) Sz.zero)
      have hab := area_bd hzb
      have hark := HAR.out k
      unfold areaZ at hab hark
      have hkI : (k : Int) < (N : Int) := by omega
      have hk0 : (0 : Int) ≤ (k : Int) := by omega
      obtain ⟨⟨kw, kh⟩, HZK⟩ : ∃ z : Sz, Hid (zs.getD k Sz.zero = z) := ⟨_, rfl⟩
      rw [HZK.out] at zk0 zk1 hzb hab hark
      dsimp only at zk0 zk1 hab hark
      obtain ⟨yk, HYK⟩ : ∃ y, Hid (pl.getD k 0 = y) := ⟨_, rfl⟩
      rw [HYK.out] at hpk HFK HAK hyb
      obtain ⟨s1, hs1⟩ : ∃ s, s = (sp k).1 := ⟨_, rfl⟩
      obtain ⟨s2, hs2⟩ : ∃ s, s = (sp k).2 := ⟨_, rfl⟩
      rw [← hs1] at qk0
      rw [← hs2] at qk1
      have HSK : Hid (sp k = (s1, s2)) := by show _ = _; rw [hs1, hs2]
      rw [HSK.out] at HAK
      rw [hark] at HFK HAK
      have hwk : IntKind.i64.wrap (kw * kh) = kw * kh := by rw [IntKind.wrap_i64]; omega
      have hak := fun wx => area_any kw kh wx hwk
      generalize kw * kh = ak at hab hak HFK HAK hark hwk
      clear hs1 hs2 hwk hark hzb hall
      by_cases hyk : yk = -1
      · subst hyk
        go_wp2
        go_roundw
        case rel => exact ⟨k + 1, by omega, by go_num, HA.out (by rw [HFK.out]; rfl), hbr⟩
        case measure => simp [intOf]; omega
      · have hyb2 := hyb.resolve_left hyk
        rw [decide_eq_false hyk, decide_eq_true hyb2.1] at HFK
        have hwr : IntKind.i64.wrap (room - ak) = room - ak := by rw [IntKind.wrap_i64]; omega
        have hwi := fun wx => within_any yk 0 (room - ak) wx
        unfold withinB at hwi
        rw [decide_eq_true hyb2.1, Bool.true_and] at hwi
        have hd := (Below.refl wr.heap.size wr).drew
        have kq : ∀ w', Below wr.heap.size wr w' → w'.cell? ⟨w.heap.size + 1, 1, none⟩ = some (.slice (some ⟨pb, po, none⟩) N pcap) ∧ w'.cell? ⟨pb, po + k, none⟩ = some (.int .i64 yk) ∧ w'.cell? ⟨zb, zo + k * 2, none⟩ = some (.int .i64 kw) ∧ w'.cell? ⟨zb, zo + k * 2 + 1, none⟩ = some (.int .i64 kh) := fun w' h => ⟨(h.cell (p := ⟨w.heap.size + 1, 1, none⟩) hPr.lt).trans h1, (h.cell (p := ⟨pb, po + k, none⟩) lpb0).trans hpk, (h.cell (p := ⟨zb, zo + k * 2, none⟩) lzb0).trans zk0, (h.cell (p := ⟨zb, zo + k * 2 + 1, none⟩) lzb0).trans zk1⟩
        by_cases hfit : yk ≤ room - ak
        case neg =>
          rw [decide_eq_false hfit] at hwi HFK
          clear qk0 qk1
          go_wp2
          go_region_held3 (fun w' => w'.cell? ⟨w.heap.size + 1, 1, none⟩ = some (.slice (some ⟨pb, po, none⟩) N pcap) ∧ w'.cell? ⟨pb, po + k, none⟩ = some (.int .i64 yk) ∧ w'.cell? ⟨zb, zo + k * 2, none⟩ = some (.int .i64 kw) ∧ w'.cell? ⟨zb, zo + k * 2 + 1, none⟩ = some (.int .i64 kh))
            (first | exact kq _ hd | exact kq _ B3)
            (first | (go_at_call 47; refine (hak _).mono ?_; rintro e w3 ⟨rfl, b3⟩; have B3 := hd.trans b3) | (go_at_call 42; refine (hwi _).mono ?_; rintro e w4 ⟨rfl, rfl⟩))
          go_wp2
          go_ret
          exact ⟨by rw [HF.out (by rw [HFK.out]; rfl)]; rfl, below_step hb1 (below_step hbr B3)⟩
        rw [decide_eq_true hfit] at hwi HFK
        replace HFK : Hid (fitR ar pl sp room k = allTo (apartR ar pl sp k) k) := by show _ = _; rw [HFK.out]; rfl
        go_wp2
        go_region_held3 (fun w' => w'.cell? ⟨w.heap.size + 1, 1, none⟩ = some (.slice (some ⟨pb, po, none⟩) N pcap) ∧ w'.cell? ⟨pb, po + k, none⟩ = some (.int .i64 yk) ∧ w'.cell? ⟨zb, zo + k * 2, none⟩ = some (.int .i64 kw) ∧ w'.cell? ⟨zb, zo + k * 2 + 1, none⟩ = some (.int .i64 kh))
          (first | exact kq _ hd | exact kq _ B3)
          (first | (go_at_call 47; refine (hak _).mono ?_; rintro e w3 ⟨rfl, b3⟩; have B3 := hd.trans b3) | (go_at_call 42; refine (hwi _).mono ?_; rintro e w4 ⟨rfl, rfl⟩))
        have hb3 := below_step hbr B3
        clear kq hd hwi hwr hbr B3 b3 h0 h1 hpk zk0 zk1 qk0 qk1 hPr lpb0 lzb0 lqb0
        go_wp2
        go_loopw [11] (fun i ws => ∃ j : Nat, j ≤ k ∧ i = .int .i64 j ∧ allTo (apartR ar pl sp k) j = true ∧ Below w2.heap.size w2 ws) (fun i _ => k - (intOf i).toNat)
        case atStart => exact ⟨0, Nat.zero_le _, rfl, rfl, hb3⟩
        case round =>
          obtain ⟨j, hj, rfl, hallj, hbr0⟩ := hrel
          clear hb3
          by_cases hjl : j < k
          · have hPr := hP2.below hbr0
            obtain ⟨lpl, h0, h1⟩ := id hPr
            have hjN : j < N := by omega
            have same : ∀ {x y : Addr}, (some x : Option Addr) = some y → x = y := fun h => by injection h
            obtain ⟨pb', po', he, lpb, hpk⟩ := (hL2.below (Nat.le_refl _) hbr0).nth' hlt
            cases same he
            obtain ⟨zb', zo', he, lzb, zk0, zk1⟩ := (hZ2.below hbr0).nth hlt
            cases same he
            obtain ⟨qb', qo', he, lqb, qk0, qk1⟩ := (hQ.below hbr0).nth hlt
            cases same he
            obtain ⟨pb', po', he, _, hpj⟩ := (hL2.below (Nat.le_refl _) hbr0).nth' hjN
            cases same he
            obtain ⟨zb', zo', he, _, zj0, zj1⟩ := (hZ2.below hbr0).nth hjN
            cases same he
            obtain ⟨qb', qo', he, _, qj0, qj1⟩ := (hQ.below hbr0).nth hjN
            cases same he
            rw [HYK.out] at hpk
            rw [HZK.out] at zk0 zk1
            rw [spans_at sp hlt, HSK.out] at qk0 qk1
            rw [spans_at sp hjN] at qj0 qj1
            have hyjb := HPB.out j hjN
            have hzb := HZB.out _ (getD_mem (l := zs) (k := j) (by omega) Sz.zero)
            have habj := area_bd hzb
            have harj := HAR.out j
            unfold areaZ at habj harj
            have hjI : (j : Int) < (N : Int) := by omega
            have hj0 : (0 : Int) ≤ (j : Int) := by omega
            have hjk : (j : Int) < (k : Int) := by omega
            have HAP := HAK.out j
            generalize zs.getD j Sz.zero = z at zj0 zj1 hzb habj harj
            obtain ⟨jw, jh⟩ := z
            generalize pl.getD j 0 = yj at hpj HAP hyjb
            dsimp only at zk0 zk1 zj0 zj1 habj harj qk0 qk1
            obtain ⟨r, hr⟩ : ∃ r, r = meetB (s1, s2) (sp j) := ⟨_, rfl⟩
            rw [← hr, harj] at HAP
            have hme := fun wx => meetRef_any s1 s2 (sp j).1 (sp j).2 wx
            rw [show meetB (s1, s2) ((sp j).1, (sp j).2) = r from hr.symm] at hme
            generalize (sp j).1 = t1 at qj0 hme
            generalize (sp j).2 = t2 at qj1 hme
            have hwj : IntKind.i64.wrap (jw * jh) = jw * jh := by rw [IntKind.wrap_i64]; omega
            have haj := fun wx => area_any jw jh wx hwj
            generalize jw * jh = aj at habj haj HAP harj hwj
            have hw1 : IntKind.i64.wrap (yj + aj) = yj + aj := by rw [IntKind.wrap_i64]; omega
            have hw2 : IntKind.i64.wrap (yk + ak) = yk + ak := by rw [IntKind.wrap_i64]; omega
            have HA1 : Hid (apartR ar pl sp k j = true → allTo (apartR ar pl sp k) (j + 1) = true) := fun h => allTo_succ hallj h
            have HF1 : Hid (apartR ar pl sp k j = false → allTo (apartR ar pl sp k) k = false) := fun h => allTo_not hjl h
            replace HAP : Hid (_) := HAP
            have kp : ∀ w', Below wr.heap.size wr w' → Below wr.heap.size wr w' ∧ w'.cell? ⟨w.heap.size + 1, 1, none⟩ = some (.slice (some ⟨pb, po, none⟩) N pcap) ∧ w'.cell? ⟨pb, po + j, none⟩ = some (.int .i64 yj) ∧ w'.cell? ⟨pb, po + k, none⟩ = some (.int .i64 yk) ∧ w'.cell? ⟨qb, qo + k * 2, none⟩ = some (.int .i64 s1) ∧ w'.cell? ⟨qb, qo + k * 2 + 1, none⟩ = some (.int .i64 s2) ∧ w'.cell? ⟨qb, qo + j * 2, none⟩ = some (.int .i64 t1) ∧ w'.cell? ⟨qb, qo + j * 2 + 1, none⟩ = some (.int .i64 t2) ∧ w'.cell? ⟨zb, zo + j * 2, none⟩ = some (.int .i64 jw) ∧ w'.cell? ⟨zb, zo + j * 2 + 1, none⟩ = some (.int .i64 jh) ∧ w'.cell? ⟨zb, zo + k * 2, none⟩ = some (.int .i64 kw) ∧ w'.cell? ⟨zb, zo + k * 2 + 1, none⟩ = some (.int .i64 kh) := fun w' h => ⟨h, (h.cell (p := ⟨w.heap.size + 1, 1, none⟩) lpl).trans h1, (h.cell (p := ⟨pb, po + j, none⟩) lpb).trans hpj, (h.cell (p := ⟨pb, po + k, none⟩) lpb).trans hpk, (h.cell (p := ⟨qb, qo + k * 2, none⟩) lqb).trans qk0, (h.cell (p := ⟨qb, qo + k * 2 + 1, none⟩) lqb).trans qk1, (h.cell (p := ⟨qb, qo + j * 2, none⟩) lqb).trans qj0, (h.cell (p := ⟨qb, qo + j * 2 + 1, none⟩) lqb).trans qj1, (h.cell (p := ⟨zb, zo + j * 2, none⟩) lzb).trans zj0, (h.cell (p := ⟨zb, zo + j * 2 + 1, none⟩) lzb).trans zj1, (h.cell (p := ⟨zb, zo + k * 2, none⟩) lzb).trans zk0, (h.cell (p := ⟨zb, zo + k * 2 + 1, none⟩) lzb).trans zk1⟩
            clear hr harj hwj hallj hzb hyjb h0 HAK
            by_cases hn : yj = -1
            · subst hn
              rw [decide_eq_true rfl] at HAP
              clear hme haj hw1 hw2
              go_wp2
              refine wp_region_held_drew (S := (fun w' => Below wr.heap.size wr w' ∧ w'.cell? ⟨w.heap.size + 1, 1, none⟩ = some (.slice (some ⟨pb, po, none⟩) N pcap) ∧ w'.cell? ⟨pb, po + j, none⟩ = some (.int .i64 (-1)) ∧ w'.cell? ⟨pb, po + k, none⟩ = some (.int .i64 yk) ∧ w'.cell? ⟨qb, qo + k * 2, none⟩ = some (.int .i64 s1) ∧ w'.cell? ⟨qb, qo + k * 2 + 1, none⟩ = some (.int .i64 s2) ∧ w'.cell? ⟨qb, qo + j * 2, none⟩ = some (.int .i64 t1) ∧ w'.cell? ⟨qb, qo + j * 2 + 1, none⟩ = some (.int .i64 t2) ∧ w'.cell? ⟨zb, zo + j * 2, none⟩ = some (.int .i64 jw) ∧ w'.cell? ⟨zb, zo + j * 2 + 1, none⟩ = some (.int .i64 jh) ∧ w'.cell? ⟨zb, zo + k * 2, none⟩ = some (.int .i64 kw) ∧ w'.cell? ⟨zb, zo + k * 2 + 1, none⟩ = some (.int .i64 kh))) (by kernel_rfl) (kp _ (Below.refl _ _).drew) (fun hHeld => ?_)
              refine wpAnyH_take (i := 0) (oi := fO0) (v := .pointer (some ⟨w.heap.size + 1, 1, none⟩)) rfl (by kernel_rfl) (by kernel_rfl) (by kernel_rfl) (fun _ _ _ h => h) (Or.inl ⟨by rfl, fun wz hSw => ?_⟩) hHeld ?_
              · obtain ⟨_, r0, r1, r2, r3, r4, r5, r6, r7, r8, r9, r10⟩ := hSw
                go_simp
              simp only [Act.put, fOA, fOZ, fOS]
              refine wpAnyH_take (i := 1) (oi := fO1) (v := .slice (some ⟨pb, po, none⟩) N pcap) rfl (by kernel_rfl) (by kernel_rfl) (by kernel_rfl) (fun _ _ _ h => h) (Or.inl ⟨by rfl, fun wz hSw => ?_⟩) hHeld ?_
              · obtain ⟨_, r0, r1, r2, r3, r4, r5, r6, r7, r8, r9, r10⟩ := hSw
                go_simp
              simp only [Act.put, fOA, fOZ, fOS]
              refine wpAnyH_take (i := 2) (oi := fO2) (v := .int .i64 j) rfl (by kernel_rfl) (by kernel_rfl) (by kernel_rfl) (fun _ _ _ h => h) (Or.inl ⟨by rfl, fun wz hSw => ?_⟩) hHeld ?_
              · obtain ⟨_, r0, r1, r2, r3, r4, r5, r6, r7, r8, r9, r10⟩ := hSw
                go_simp
              simp only [Act.put, fOA, fOZ, fOS]
              refine wpAnyH_take (i := 3) (oi := fO3) (v := .pointer (some ⟨pb, po + j, none⟩)) rfl (by kernel_rfl) (by kernel_rfl) (by kernel_rfl) (fun _ _ _ h => h) (Or.inl ⟨by rfl, fun wz hSw => ?_⟩) hHeld ?_
              · obtain ⟨_, r0, r1, r2, r3, r4, r5, r6, r7, r8, r9, r10⟩ := hSw
                go_simp
              simp only [Act.put, fOA, fOZ, fOS]
              refine wpAnyH_take (i := 4) (oi := fO4) (v := .int .i64 (-1)) rfl (by kernel_rfl) (by kernel_rfl) (by kernel_rfl) (fun _ _ _ h => h) (Or.inl ⟨by rfl, fun wz hSw => ?_⟩) hHeld ?_
              · obtain ⟨_, r0, r1, r2, r3, r4, r5, r6, r7, r8, r9, r10⟩ := hSw
                go_simp
              simp only [Act.put, fOA, fOZ, fOS]
              refine wpAnyH_take (i := 5) (oi := fO5) (v := .bool false) rfl (by kernel_rfl) (by kernel_rfl) (by kernel_rfl) (fun _ _ _ h => h) (Or.inl ⟨by rfl, fun wz hSw => ?_⟩) hHeld ?_
              · obtain ⟨_, r0, r1, r2, r3, r4, r5, r6, r7, r8, r9, r10⟩ := hSw
                go_simp
              simp only [Act.put, fOA, fOZ, fOS]
              refine wpAnyH_take (i := 6) (oi := fO6) (v := .bool false) rfl (by kernel_rfl) (by kernel_rfl) (by kernel_rfl) (fun _ _ _ h => h) (Or.inl ⟨by rfl, fun wz hSw => ?_⟩) hHeld ?_
              · obtain ⟨_, r0, r1, r2, r3, r4, r5, r6, r7, r8, r9, r10⟩ := hSw
                go_simp
              simp only [Act.put, fOA, fOZ, fOS]
              refine wpAnyH_take (i := 7) (oi := fO7) (v := undef) rfl (by kernel_rfl) (by kernel_rfl) (by kernel_rfl) (fun _ _ _ h => h) (Or.inr ⟨by rfl, rfl⟩) hHeld ?_
              simp only [Act.put, fOA, fOZ, fOS]
              refine wpAnyH_take (i := 8) (oi := fO8) (v := undef) rfl (by kernel_rfl) (by kernel_rfl) (by kernel_rfl) (fun _ _ _ h => h) (Or.inr ⟨by rfl, rfl⟩) hHeld ?_
              simp only [Act.put, fOA, fOZ, fOS]
              refine wpAnyH_take (i := 9) (oi := fO9) (v := undef) rfl (by kernel_rfl) (by kernel_rfl) (by kernel_rfl) (fun _ _ _ h => h) (Or.inr ⟨by rfl, rfl⟩) hHeld ?_
              simp only [Act.put, fOA, fOZ, fOS]
              refine wpAnyH_take (i := 10) (oi := fO10) (v := undef) rfl (by kernel_rfl) (by kernel_rfl) (by kernel_rfl) (fun _ _ _ h => h) (Or.inr ⟨by rfl, rfl⟩) hHeld ?_
              simp only [Act.put, fOA, fOZ, fOS]
              refine wpAnyH_take (i := 11) (oi := fO11) (v := undef) rfl (by kernel_rfl) (by kernel_rfl) (by kernel_rfl) (fun _ _ _ h => h) (Or.inr ⟨by rfl, rfl⟩) hHeld ?_
              simp only [Act.put, fOA, fOZ, fOS]
              refine wpAnyH_take (i := 12) (oi := fO12) (v := undef) rfl (by kernel_rfl) (by kernel_rfl) (by kernel_rfl) (fun _ _ _ h => h) (Or.inr ⟨by rfl, rfl⟩) hHeld ?_
              simp only [Act.put, fOA, fOZ, fOS]
              refine wpAnyH_take (i := 13) (oi := fO13) (v := undef) rfl (by kernel_rfl) (by kernel_rfl) (by kernel_rfl) (fun _ _ _ h => h) (Or.inr ⟨by rfl, rfl⟩) hHeld ?_
              simp only [Act.put, fOA, fOZ, fOS]
              refine wpAnyH_take (i := 14) (oi := fO14) (v := undef) rfl (by kernel_rfl) (by kernel_rfl) (by kernel_rfl) (fun _ _ _ h => h) (Or.inr ⟨by rfl, rfl⟩) hHeld ?_
              simp only [Act.put, fOA, fOZ, fOS]
              refine wpAnyH_take (i := 15) (oi := fO15) (v := undef) rfl (by kernel_rfl) (by kernel_rfl) (by kernel_rfl) (fun _ _ _ h => h) (Or.inr ⟨by rfl, rfl⟩) hHeld ?_
              simp only [Act.put, fOA, fOZ, fOS]
              refine wpAnyH_take (i := 16) (oi := fO16) (v := .bool false) rfl (by kernel_rfl) (by kernel_rfl) (by kernel_rfl) (fun _ _ _ h => h) (Or.inl ⟨by rfl, fun wz hSw => ?_⟩) hHeld ?_
              · obtain ⟨_, r0, r1, r2, r3, r4, r5, r6, r7, r8, r9, r10⟩ := hSw
                go_simp
              simp only [Act.put, fOA, fOZ, fOS]
              refine wpAnyH_take (i := 17) (oi := fO17) (v := .bool false) rfl (by kernel_rfl) (by kernel_rfl) (by kernel_rfl) (fun _ _ _ h => h) (Or.inl ⟨by rfl, fun wz hSw => ?_⟩) hHeld ?_
              · obtain ⟨_, r0, r1, r2, r3, r4, r5, r6, r7, r8, r9, r10⟩ := hSw
                go_simp
              simp only [Act.put, fOA, fOZ, fOS]
              refine wpAnyH_take (i := 18) (oi := fO18) (v := undef) rfl (by kernel_rfl) (by kernel_rfl) (by kernel_rfl) (fun _ _ _ h => h) (Or.inr ⟨by rfl, rfl⟩) hHeld ?_
              simp only [Act.put, fOA, fOZ, fOS]
              refine wpAnyH_take (i := 19) (oi := fO19) (v := undef) rfl (by kernel_rfl) (by kernel_rfl) (by kernel_rfl) (fun _ _ _ h => h) (Or.inr ⟨by rfl, rfl⟩) hHeld ?_
              simp only [Act.put, fOA, fOZ, fOS]
              refine wpAnyH_take (i := 20) (oi := fO20) (v := undef) rfl (by kernel_rfl) (by kernel_rfl) (by kernel_rfl) (fun _ _ _ h => h) (Or.inr ⟨by rfl, rfl⟩) hHeld ?_
              simp only [Act.put, fOA, fOZ, fOS]
              refine wpAnyH_take (i := 21) (oi := fO21) (v := undef) rfl (by kernel_rfl) (by kernel_rfl) (by kernel_rfl) (fun _ _ _ h => h) (Or.inr ⟨by rfl, rfl⟩) hHeld ?_
              simp only [Act.put, fOA, fOZ, fOS]
              refine wpAnyH_take (i := 22) (oi := fO22) (v := undef) rfl (by kernel_rfl) (by kernel_rfl) (by kernel_rfl) (fun _ _ _ h => h) (Or.inr ⟨by rfl, rfl⟩) hHeld ?_
              simp only [Act.put, fOA, fOZ, fOS]
              refine wpAnyH_take (i := 23) (oi := fO23) (v := undef) rfl (by kernel_rfl) (by kernel_rfl) (by kernel_rfl) (fun _ _ _ h => h) (Or.inr ⟨by rfl, rfl⟩) hHeld ?_
              simp only [Act.put, fOA, fOZ, fOS]
              refine wpAnyH_take (i := 24) (oi := fO24) (v := undef) rfl (by kernel_rfl) (by kernel_rfl) (by kernel_rfl) (fun _ _ _ h => h) (Or.inr ⟨by rfl, rfl⟩) hHeld ?_
              simp only [Act.put, fOA, fOZ, fOS]
              refine wpAnyH_take (i := 25) (oi := fO25) (v := undef) rfl (by kernel_rfl) (by kernel_rfl) (by kernel_rfl) (fun _ _ _ h => h) (Or.inr ⟨by rfl, rfl⟩) hHeld ?_
              simp only [Act.put, fOA, fOZ, fOS]
              refine wpAnyH_take (i := 26) (oi := fO26) (v := undef) rfl (by kernel_rfl) (by kernel_rfl) (by kernel_rfl) (fun _ _ _ h => h) (Or.inr ⟨by rfl, rfl⟩) hHeld ?_
              simp only [Act.put, fOA, fOZ, fOS]
              refine wpAnyH_take (i := 27) (oi := fO27) (v := undef) rfl (by kernel_rfl) (by kernel_rfl) (by kernel_rfl) (fun _ _ _ h => h) (Or.inr ⟨by rfl, rfl⟩) hHeld ?_
              simp only [Act.put, fOA, fOZ, fOS]
              refine wpAnyH_take (i := 28) (oi := fO28) (v := undef) rfl (by kernel_rfl) (by kernel_rfl) (by kernel_rfl) (fun _ _ _ h => h) (Or.inr ⟨by rfl, rfl⟩) hHeld ?_
              simp only [Act.put, fOA, fOZ, fOS]
              refine wpAnyH_take (i := 29) (oi := fO29) (v := undef) rfl (by kernel_rfl) (by kernel_rfl) (by kernel_rfl) (fun _ _ _ h => h) (Or.inr ⟨by rfl, rfl⟩) hHeld ?_
              simp only [Act.put, fOA, fOZ, fOS]
              refine wpAnyH_take (i := 30) (oi := fO30) (v := undef) rfl (by kernel_rfl) (by kernel_rfl) (by kernel_rfl) (fun _ _ _ h => h) (Or.inr ⟨by rfl, rfl⟩) hHeld ?_
              simp only [Act.put, fOA, fOZ, fOS]
              refine wpAnyH_take (i := 31) (oi := fO31) (v := undef) rfl (by kernel_rfl) (by kernel_rfl) (by kernel_rfl) (fun _ _ _ h => h) (Or.inr ⟨by rfl, rfl⟩) hHeld ?_
              simp only [Act.put, fOA, fOZ, fOS]
              refine wpAnyH_take (i := 32) (oi := fO32) (v := undef) rfl (by kernel_rfl) (by kernel_rfl) (by kernel_rfl) (fun _ _ _ h => h) (Or.inr ⟨by rfl, rfl⟩) hHeld ?_
              simp only [Act.put, fOA, fOZ, fOS]
              refine wpAnyH_take (i := 33) (oi := fO33) (v := undef) rfl (by kernel_rfl) (by kernel_rfl) (by kernel_rfl) (fun _ _ _ h => h) (Or.inr ⟨by rfl, rfl⟩) hHeld ?_
              simp only [Act.put, fOA, fOZ, fOS]
              refine wpAnyH_take (i := 34) (oi := fO34) (v := undef) rfl (by kernel_rfl) (by kernel_rfl) (by kernel_rfl) (fun _ _ _ h => h) (Or.inr ⟨by rfl, rfl⟩) hHeld ?_
              simp only [Act.put, fOA, fOZ, fOS]
              refine wpAnyH_take (i := 35) (oi := fO35) (v := .bool false) rfl (by kernel_rfl) (by kernel_rfl) (by kernel_rfl) (fun _ _ _ h => h) (Or.inl ⟨by rfl, fun wz hSw => ?_⟩) hHeld ?_
              · obtain ⟨_, r0, r1, r2, r3, r4, r5, r6, r7, r8, r9, r10⟩ := hSw
                go_simp
              simp only [Act.put, fOA, fOZ, fOS]
              refine wpAnyH_take (i := 36) (oi := fO36) (v := .bool false) rfl (by kernel_rfl) (by kernel_rfl) (by kernel_rfl) (fun _ _ _ h => h) (Or.inl ⟨by rfl, fun wz hSw => ?_⟩) hHeld ?_
              · obtain ⟨_, r0, r1, r2, r3, r4, r5, r6, r7, r8, r9, r10⟩ := hSw
                go_simp
              simp only [Act.put, fOA, fOZ, fOS]
              refine wpAnyH_take (i := 37) (oi := fO37) (v := undef) rfl (by kernel_rfl) (by kernel_rfl) (by kernel_rfl) (fun _ _ _ h => h) (Or.inr ⟨by rfl, rfl⟩) hHeld ?_
              simp only [Act.put, fOA, fOZ, fOS]
              refine wpAnyH_take (i := 38) (oi := fO38) (v := undef) rfl (by kernel_rfl) (by kernel_rfl) (by kernel_rfl) (fun _ _ _ h => h) (Or.inr ⟨by rfl, rfl⟩) hHeld ?_
              simp only [Act.put, fOA, fOZ, fOS]
              refine wpAnyH_take (i := 39) (oi := fO39) (v := undef) rfl (by kernel_rfl) (by kernel_rfl) (by kernel_rfl) (fun _ _ _ h => h) (Or.inr ⟨by rfl, rfl⟩) hHeld ?_
              simp only [Act.put, fOA, fOZ, fOS]
              refine wpAnyH_take (i := 40) (oi := fO40) (v := undef) rfl (by kernel_rfl) (by kernel_rfl) (by kernel_rfl) (fun _ _ _ h => h) (Or.inr ⟨by rfl, rfl⟩) hHeld ?_
              simp only [Act.put, fOA, fOZ, fOS]
              refine wpAnyH_take (i := 41) (oi := fO41) (v := undef) rfl (by kernel_rfl) (by kernel_rfl) (by kernel_rfl) (fun _ _ _ h => h) (Or.inr ⟨by rfl, rfl⟩) hHeld ?_
              simp only [Act.put, fOA, fOZ, fOS]
              refine wpAnyH_take (i := 42) (oi := fO42) (v := undef) rfl (by kernel_rfl) (by kernel_rfl) (by kernel_rfl) (fun _ _ _ h => h) (Or.inr ⟨by rfl, rfl⟩) hHeld ?_
              simp only [Act.put, fOA, fOZ, fOS]
              refine wpAnyH_take (i := 43) (oi := fO43) (v := undef) rfl (by kernel_rfl) (by kernel_rfl) (by kernel_rfl) (fun _ _ _ h => h) (Or.inr ⟨by rfl, rfl⟩) hHeld ?_
              simp only [Act.put, fOA, fOZ, fOS]
              refine wpAnyH_take (i := 44) (oi := fO44) (v := undef) rfl (by kernel_rfl) (by kernel_rfl) (by kernel_rfl) (fun _ _ _ h => h) (Or.inr ⟨by rfl, rfl⟩) hHeld ?_
              simp only [Act.put, fOA, fOZ, fOS]
              refine wpAnyH_take (i := 45) (oi := fO45) (v := undef) rfl (by kernel_rfl) (by kernel_rfl) (by kernel_rfl) (fun _ _ _ h => h) (Or.inr ⟨by rfl, rfl⟩) hHeld ?_
              simp only [Act.put, fOA, fOZ, fOS]
              refine wpAnyH_take (i := 46) (oi := fO46) (v := undef) rfl (by kernel_rfl) (by kernel_rfl) (by kernel_rfl) (fun _ _ _ h => h) (Or.inr ⟨by rfl, rfl⟩) hHeld ?_
              simp only [Act.put, fOA, fOZ, fOS]
              refine wpAnyH_take (i := 47) (oi := fO47) (v := undef) rfl (by kernel_rfl) (by kernel_rfl) (by kernel_rfl) (fun _ _ _ h => h) (Or.inr ⟨by rfl, rfl⟩) hHeld ?_
              simp only [Act.put, fOA, fOZ, fOS]
              refine wpAnyH_take (i := 48) (oi := fO48) (v := undef) rfl (by kernel_rfl) (by kernel_rfl) (by kernel_rfl) (fun _ _ _ h => h) (Or.inr ⟨by rfl, rfl⟩) hHeld ?_
              simp only [Act.put, fOA, fOZ, fOS]
              refine wpAnyH_take (i := 49) (oi := fO49) (v := undef) rfl (by kernel_rfl) (by kernel_rfl) (by kernel_rfl) (fun _ _ _ h => h) (Or.inr ⟨by rfl, rfl⟩) hHeld ?_
              simp only [Act.put, fOA, fOZ, fOS]
              refine wpAnyH_take (i := 50) (oi := fO50) (v := undef) rfl (by kernel_rfl) (by kernel_rfl) (by kernel_rfl) (fun _ _ _ h => h) (Or.inr ⟨by rfl, rfl⟩) hHeld ?_
              simp only [Act.put, fOA, fOZ, fOS]
              refine wpAnyH_take (i := 51) (oi := fO51) (v := undef) rfl (by kernel_rfl) (by kernel_rfl) (by kernel_rfl) (fun _ _ _ h => h) (Or.inr ⟨by rfl, rfl⟩) hHeld ?_
              simp only [Act.put, fOA, fOZ, fOS]
              refine wpAnyH_take (i := 52) (oi := fO52) (v := undef) rfl (by kernel_rfl) (by kernel_rfl) (by kernel_rfl) (fun _ _ _ h => h) (Or.inr ⟨by rfl, rfl⟩) hHeld ?_
              simp only [Act.put, fOA, fOZ, fOS]
              refine wpAnyH_take (i := 53) (oi := fO53) (v := undef) rfl (by kernel_rfl) (by kernel_rfl) (by kernel_rfl) (fun _ _ _ h => h) (Or.inr ⟨by rfl, rfl⟩) hHeld ?_
              simp only [Act.put, fOA, fOZ, fOS]
              refine wpAnyH_take (i := 54) (oi := fO54) (v := .bool false) rfl (by kernel_rfl) (by kernel_rfl) (by kernel_rfl) (fun _ _ _ h => h) (Or.inl ⟨by rfl, fun wz hSw => ?_⟩) hHeld ?_
              · obtain ⟨_, r0, r1, r2, r3, r4, r5, r6, r7, r8, r9, r10⟩ := hSw
                go_simp
              simp only [Act.put, fOA, fOZ, fOS]
              refine wpAnyH_done (by kernel_rfl) ?_ _
              go_wp2
              go_roundw
              case rel => exact ⟨j + 1, by omega, by go_num, HA1.out (by rw [HAP.out] <;> first | rfl | simp), below_step hbr0 ((Below.refl wr.heap.size wr).drew)⟩
              case measure => simp [intOf]; omega
            · rw [decide_eq_false hn] at HAP
              cases r with
              | false =>
                clear haj hw1 hw2
                go_wp2
                refine wp_region_held_drew (S := (fun w' => Below wr.heap.size wr w' ∧ w'.cell? ⟨w.heap.size + 1, 1, none⟩ = some (.slice (some ⟨pb, po, none⟩) N pcap) ∧ w'.cell? ⟨pb, po + j, none⟩ = some (.int .i64 yj) ∧ w'.cell? ⟨pb, po + k, none⟩ = some (.int .i64 yk) ∧ w'.cell? ⟨qb, qo + k * 2, none⟩ = some (.int .i64 s1) ∧ w'.cell? ⟨qb, qo + k * 2 + 1, none⟩ = some (.int .i64 s2) ∧ w'.cell? ⟨qb, qo + j * 2, none⟩ = some (.int .i64 t1) ∧ w'.cell? ⟨qb, qo + j * 2 + 1, none⟩ = some (.int .i64 t2) ∧ w'.cell? ⟨zb, zo + j * 2, none⟩ = some (.int .i64 jw) ∧ w'.cell? ⟨zb, zo + j * 2 + 1, none⟩ = some (.int .i64 jh) ∧ w'.cell? ⟨zb, zo + k * 2, none⟩ = some (.int .i64 kw) ∧ w'.cell? ⟨zb, zo + k * 2 + 1, none⟩ = some (.int .i64 kh))) (by kernel_rfl) (kp _ (Below.refl _ _).drew) (fun hHeld => ?_)
                refine wpAnyH_take (i := 0) (oi := fO0) (v := .pointer (some ⟨w.heap.size + 1, 1, none⟩)) rfl (by kernel_rfl) (by kernel_rfl) (by kernel_rfl) (fun _ _ _ h => h) (Or.inl ⟨by rfl, fun wz hSw => ?_⟩) hHeld ?_
                · obtain ⟨_, r0, r1, r2, r3, r4, r5, r6, r7, r8, r9, r10⟩ := hSw
                  go_simp
                simp only [Act.put, fOA, fOZ, fOS]
                refine wpAnyH_take (i := 1) (oi := fO1) (v := .slice (some ⟨pb, po, none⟩) N pcap) rfl (by kernel_rfl) (by kernel_rfl) (by kernel_rfl) (fun _ _ _ h => h) (Or.inl ⟨by rfl, fun wz hSw => ?_⟩) hHeld ?_
                · obtain ⟨_, r0, r1, r2, r3, r4, r5, r6, r7, r8, r9, r10⟩ := hSw
                  go_simp
                simp only [Act.put, fOA, fOZ, fOS]
                refine wpAnyH_take (i := 2) (oi := fO2) (v := .int .i64 j) rfl (by kernel_rfl) (by kernel_rfl) (by kernel_rfl) (fun _ _ _ h => h) (Or.inl ⟨by rfl, fun wz hSw => ?_⟩) hHeld ?_
                · obtain ⟨_, r0, r1, r2, r3, r4, r5, r6, r7, r8, r9, r10⟩ := hSw
                  go_simp
                simp only [Act.put, fOA, fOZ, fOS]
                refine wpAnyH_take (i := 3) (oi := fO3) (v := .pointer (some ⟨pb, po + j, none⟩)) rfl (by kernel_rfl) (by kernel_rfl) (by kernel_rfl) (fun _ _ _ h => h) (Or.inl ⟨by rfl, fun wz hSw => ?_⟩) hHeld ?_
                · obtain ⟨_, r0, r1, r2, r3, r4, r5, r6, r7, r8, r9, r10⟩ := hSw
                  go_simp
                simp only [Act.put, fOA, fOZ, fOS]
                refine wpAnyH_take (i := 4) (oi := fO4) (v := .int .i64 yj) rfl (by kernel_rfl) (by kernel_rfl) (by kernel_rfl) (fun _ _ _ h => h) (Or.inl ⟨by rfl, fun wz hSw => ?_⟩) hHeld ?_
                · obtain ⟨_, r0, r1, r2, r3, r4, r5, r6, r7, r8, r9, r10⟩ := hSw
                  go_simp
                simp only [Act.put, fOA, fOZ, fOS]
                refine wpAnyH_take (i := 5) (oi := fO5) (v := .bool true) rfl (by kernel_rfl) (by kernel_rfl) (by kernel_rfl) (fun _ _ _ h => h) (Or.inl ⟨by rfl, fun wz hSw => ?_⟩) hHeld ?_
                · obtain ⟨_, r0, r1, r2, r3, r4, r5, r6, r7, r8, r9, r10⟩ := hSw
                  go_simp
                simp only [Act.put, fOA, fOZ, fOS]
                refine wpAnyH_take (i := 6) (oi := fO6) (v := .bool true) rfl (by kernel_rfl) (by kernel_rfl) (by kernel_rfl) (fun _ _ _ h => h) (Or.inl ⟨by rfl, fun wz hSw => ?_⟩) hHeld ?_
                · obtain ⟨_, r0, r1, r2, r3, r4, r5, r6, r7, r8, r9, r10⟩ := hSw
                  go_simp
                simp only [Act.put, fOA, fOZ, fOS]
                refine wpAnyH_take (i := 7) (oi := fO7) (v := .slice (some ⟨qb, qo, none⟩) N qc) rfl (by kernel_rfl) (by kernel_rfl) (by kernel_rfl) (fun _ _ _ h => h) (Or.inl ⟨by rfl, fun wz hSw => ?_⟩) hHeld ?_
                · obtain ⟨_, r0, r1, r2, r3, r4, r5, r6, r7, r8, r9, r10⟩ := hSw
                  go_simp
                simp only [Act.put, fOA, fOZ, fOS]
                refine wpAnyH_take (i := 8) (oi := fO8) (v := .int .i64 k) rfl (by kernel_rfl) (by kernel_rfl) (by kernel_rfl) (fun _ _ _ h => h) (Or.inl ⟨by rfl, fun wz hSw => ?_⟩) hHeld ?_
                · obtain ⟨_, r0, r1, r2, r3, r4, r5, r6, r7, r8, r9, r10⟩ := hSw
                  go_simp
                simp only [Act.put, fOA, fOZ, fOS]
                refine wpAnyH_take (i := 9) (oi := fO9) (v := .pointer (some ⟨qb, qo + k * 2, none⟩)) rfl (by kernel_rfl) (by kernel_rfl) (by kernel_rfl) (fun _ _ _ h => h) (Or.inl ⟨by rfl, fun wz hSw => ?_⟩) hHeld ?_
                · obtain ⟨_, r0, r1, r2, r3, r4, r5, r6, r7, r8, r9, r10⟩ := hSw
                  go_simp
                simp only [Act.put, fOA, fOZ, fOS]
                refine wpAnyH_take (i := 10) (oi := fO10) (v := .agg #[.int .i64 s1, .int .i64 s2]) rfl (by kernel_rfl) (by kernel_rfl) (by kernel_rfl) (fun _ _ _ h => h) (Or.inl ⟨by rfl, fun wz hSw => ?_⟩) hHeld ?_
                · obtain ⟨_, r0, r1, r2, r3, r4, r5, r6, r7, r8, r9, r10⟩ := hSw
                  go_simp
                simp only [Act.put, fOA, fOZ, fOS]
                refine wpAnyH_take (i := 11) (oi := fO11) (v := .slice (some ⟨qb, qo, none⟩) N qc) rfl (by kernel_rfl) (by kernel_rfl) (by kernel_rfl) (fun _ _ _ h => h) (Or.inl ⟨by rfl, fun wz hSw => ?_⟩) hHeld ?_
                · obtain ⟨_, r0, r1, r2, r3, r4, r5, r6, r7, r8, r9, r10⟩ := hSw
                  go_simp
                simp only [Act.put, fOA, fOZ, fOS]
                refine wpAnyH_take (i := 12) (oi := fO12) (v := .int .i64 j) rfl (by kernel_rfl) (by kernel_rfl) (by kernel_rfl) (fun _ _ _ h => h) (Or.inl ⟨by rfl, fun wz hSw => ?_⟩) hHeld ?_
                · obtain ⟨_, r0, r1, r2, r3, r4, r5, r6, r7, r8, r9, r10⟩ := hSw
                  go_simp
                simp only [Act.put, fOA, fOZ, fOS]
                refine wpAnyH_take (i := 13) (oi := fO13) (v := .pointer (some ⟨qb, qo + j * 2, none⟩)) rfl (by kernel_rfl) (by kernel_rfl) (by kernel_rfl) (fun _ _ _ h => h) (Or.inl ⟨by rfl, fun wz hSw => ?_⟩) hHeld ?_
                · obtain ⟨_, r0, r1, r2, r3, r4, r5, r6, r7, r8, r9, r10⟩ := hSw
                  go_simp
                simp only [Act.put, fOA, fOZ, fOS]
                refine wpAnyH_take (i := 14) (oi := fO14) (v := .agg #[.int .i64 t1, .int .i64 t2]) rfl (by kernel_rfl) (by kernel_rfl) (by kernel_rfl) (fun _ _ _ h => h) (Or.inl ⟨by rfl, fun wz hSw => ?_⟩) hHeld ?_
                · obtain ⟨_, r0, r1, r2, r3, r4, r5, r6, r7, r8, r9, r10⟩ := hSw
                  go_simp
                simp only [Act.put, fOA, fOZ, fOS]
                refine wpAnyH_ready (rs := [15]) (by kernel_rfl) (by simp) ?_
                refine AllReadyH.cons (o := fO15) rfl (fun K hK => ?_) AllReadyH.nil
                rw [if_pos (by rfl)]
                go_simp
                go_at_call 84
                refine (hme _).mono ?_
                rintro e w2 ⟨rfl, b2⟩
                go_simp
                have B2 : Below wr.heap.size wr w2 := ((Below.refl wr.heap.size wr).drew).trans b2
                refine hK.out _ _ (kp _ B2) (fun hHeld2 => ?_)
                clear hK K
                refine wpAnyH_take (i := 16) (oi := fO16) (v := .bool false) rfl (by kernel_rfl) (by kernel_rfl) (by kernel_rfl) (fun _ _ _ h => h) (Or.inl ⟨by rfl, fun wz hSw => ?_⟩) hHeld2 ?_
                · obtain ⟨_, r0, r1, r2, r3, r4, r5, r6, r7, r8, r9, r10⟩ := hSw
                  go_simp
                simp only [Act.put, fOA, fOZ, fOS]
                refine wpAnyH_take (i := 17) (oi := fO17) (v := .bool false) rfl (by kernel_rfl) (by kernel_rfl) (by kernel_rfl) (fun _ _ _ h => h) (Or.inl ⟨by rfl, fun wz hSw => ?_⟩) hHeld2 ?_
                · obtain ⟨_, r0, r1, r2, r3, r4, r5, r6, r7, r8, r9, r10⟩ := hSw
                  go_simp
                simp only [Act.put, fOA, fOZ, fOS]
                refine wpAnyH_take (i := 18) (oi := fO18) (v := undef) rfl (by kernel_rfl) (by kernel_rfl) (by kernel_rfl) (fun _ _ _ h => h) (Or.inr ⟨by rfl, rfl⟩) hHeld2 ?_
                simp only [Act.put, fOA, fOZ, fOS]
                refine wpAnyH_take (i := 19) (oi := fO19) (v := undef) rfl (by kernel_rfl) (by kernel_rfl) (by kernel_rfl) (fun _ _ _ h => h) (Or.inr ⟨by rfl, rfl⟩) hHeld2 ?_
                simp only [Act.put, fOA, fOZ, fOS]
                refine wpAnyH_take (i := 20) (oi := fO20) (v := undef) rfl (by kernel_rfl) (by kernel_rfl) (by kernel_rfl) (fun _ _ _ h => h) (Or.inr ⟨by rfl, rfl⟩) hHeld2 ?_
                simp only [Act.put, fOA, fOZ, fOS]
                refine wpAnyH_take (i := 21) (oi := fO21) (v := undef) rfl (by kernel_rfl) (by kernel_rfl) (by kernel_rfl) (fun _ _ _ h => h) (Or.inr ⟨by rfl, rfl⟩) hHeld2 ?_
                simp only [Act.put, fOA, fOZ, fOS]
                refine wpAnyH_take (i := 22) (oi := fO22) (v := undef) rfl (by kernel_rfl) (by kernel_rfl) (by kernel_rfl) (fun _ _ _ h => h) (Or.inr ⟨by rfl, rfl⟩) hHeld2 ?_
                simp only [Act.put, fOA, fOZ, fOS]
                refine wpAnyH_take (i := 23) (oi := fO23) (v := undef) rfl (by kernel_rfl) (by kernel_rfl) (by kernel_rfl) (fun _ _ _ h => h) (Or.inr ⟨by rfl, rfl⟩) hHeld2 ?_
                simp only [Act.put, fOA, fOZ, fOS]
                refine wpAnyH_take (i := 24) (oi := fO24) (v := undef) rfl (by kernel_rfl) (by kernel_rfl) (by kernel_rfl) (fun _ _ _ h => h) (Or.inr ⟨by rfl, rfl⟩) hHeld2 ?_
                simp only [Act.put, fOA, fOZ, fOS]
                refine wpAnyH_take (i := 25) (oi := fO25) (v := undef) rfl (by kernel_rfl) (by kernel_rfl) (by kernel_rfl) (fun _ _ _ h => h) (Or.inr ⟨by rfl, rfl⟩) hHeld2 ?_
                simp only [Act.put, fOA, fOZ, fOS]
                refine wpAnyH_take (i := 26) (oi := fO26) (v := undef) rfl (by kernel_rfl) (by kernel_rfl) (by kernel_rfl) (fun _ _ _ h => h) (Or.inr ⟨by rfl, rfl⟩) hHeld2 ?_
                simp only [Act.put, fOA, fOZ, fOS]
                refine wpAnyH_take (i := 27) (oi := fO27) (v := undef) rfl (by kernel_rfl) (by kernel_rfl) (by kernel_rfl) (fun _ _ _ h => h) (Or.inr ⟨by rfl, rfl⟩) hHeld2 ?_
                simp only [Act.put, fOA, fOZ, fOS]
                refine wpAnyH_take (i := 28) (oi := fO28) (v := undef) rfl (by kernel_rfl) (by kernel_rfl) (by kernel_rfl) (fun _ _ _ h => h) (Or.inr ⟨by rfl, rfl⟩) hHeld2 ?_
                simp only [Act.put, fOA, fOZ, fOS]
                refine wpAnyH_take (i := 29) (oi := fO29) (v := undef) rfl (by kernel_rfl) (by kernel_rfl) (by kernel_rfl) (fun _ _ _ h => h) (Or.inr ⟨by rfl, rfl⟩) hHeld2 ?_
                simp only [Act.put, fOA, fOZ, fOS]
                refine wpAnyH_take (i := 30) (oi := fO30) (v := undef) rfl (by kernel_rfl) (by kernel_rfl) (by kernel_rfl) (fun _ _ _ h => h) (Or.inr ⟨by rfl, rfl⟩) hHeld2 ?_
                simp only [Act.put, fOA, fOZ, fOS]
                refine wpAnyH_take (i := 31) (oi := fO31) (v := undef) rfl (by kernel_rfl) (by kernel_rfl) (by kernel_rfl) (fun _ _ _ h => h) (Or.inr ⟨by rfl, rfl⟩) hHeld2 ?_
                simp only [Act.put, fOA, fOZ, fOS]
                refine wpAnyH_take (i := 32) (oi := fO32) (v := undef) rfl (by kernel_rfl) (by kernel_rfl) (by kernel_rfl) (fun _ _ _ h => h) (Or.inr ⟨by rfl, rfl⟩) hHeld2 ?_
                simp only [Act.put, fOA, fOZ, fOS]
                refine wpAnyH_take (i := 33) (oi := fO33) (v := undef) rfl (by kernel_rfl) (by kernel_rfl) (by kernel_rfl) (fun _ _ _ h => h) (Or.inr ⟨by rfl, rfl⟩) hHeld2 ?_
                simp only [Act.put, fOA, fOZ, fOS]
                refine wpAnyH_take (i := 34) (oi := fO34) (v := undef) rfl (by kernel_rfl) (by kernel_rfl) (by kernel_rfl) (fun _ _ _ h => h) (Or.inr ⟨by rfl, rfl⟩) hHeld2 ?_
                simp only [Act.put, fOA, fOZ, fOS]
                refine wpAnyH_take (i := 35) (oi := fO35) (v := .bool false) rfl (by kernel_rfl) (by kernel_rfl) (by kernel_rfl) (fun _ _ _ h => h) (Or.inl ⟨by rfl, fun wz hSw => ?_⟩) hHeld2 ?_
                · obtain ⟨_, r0, r1, r2, r3, r4, r5, r6, r7, r8, r9, r10⟩ := hSw
                  go_simp
                simp only [Act.put, fOA, fOZ, fOS]
                refine wpAnyH_take (i := 36) (oi := fO36) (v := .bool false) rfl (by kernel_rfl) (by kernel_rfl) (by kernel_rfl) (fun _ _ _ h => h) (Or.inl ⟨by rfl, fun wz hSw => ?_⟩) hHeld2 ?_
                · obtain ⟨_, r0, r1, r2, r3, r4, r5, r6, r7, r8, r9, r10⟩ := hSw
                  go_simp
                simp only [Act.put, fOA, fOZ, fOS]
                refine wpAnyH_take (i := 37) (oi := fO37) (v := undef) rfl (by kernel_rfl) (by kernel_rfl) (by kernel_rfl) (fun _ _ _ h => h) (Or.inr ⟨by rfl, rfl⟩) hHeld2 ?_
                simp only [Act.put, fOA, fOZ, fOS]
                refine wpAnyH_take (i := 38) (oi := fO38) (v := undef) rfl (by kernel_rfl) (by kernel_rfl) (by kernel_rfl) (fun _ _ _ h => h) (Or.inr ⟨by rfl, rfl⟩) hHeld2 ?_
                simp only [Act.put, fOA, fOZ, fOS]
                refine wpAnyH_take (i := 39) (oi := fO39) (v := undef) rfl (by kernel_rfl) (by kernel_rfl) (by kernel_rfl) (fun _ _ _ h => h) (Or.inr ⟨by rfl, rfl⟩) hHeld2 ?_
                simp only [Act.put, fOA, fOZ, fOS]
                refine wpAnyH_take (i := 40) (oi := fO40) (v := undef) rfl (by kernel_rfl) (by kernel_rfl) (by kernel_rfl) (fun _ _ _ h => h) (Or.inr ⟨by rfl, rfl⟩) hHeld2 ?_
                simp only [Act.put, fOA, fOZ, fOS]
                refine wpAnyH_take (i := 41) (oi := fO41) (v := undef) rfl (by kernel_rfl) (by kernel_rfl) (by kernel_rfl) (fun _ _ _ h => h) (Or.inr ⟨by rfl, rfl⟩) hHeld2 ?_
                simp only [Act.put, fOA, fOZ, fOS]
                refine wpAnyH_take (i := 42) (oi := fO42) (v := undef) rfl (by kernel_rfl) (by kernel_rfl) (by kernel_rfl) (fun _ _ _ h => h) (Or.inr ⟨by rfl, rfl⟩) hHeld2 ?_
                simp only [Act.put, fOA, fOZ, fOS]
                refine wpAnyH_take (i := 43) (oi := fO43) (v := undef) rfl (by kernel_rfl) (by kernel_rfl) (by kernel_rfl) (fun _ _ _ h => h) (Or.inr ⟨by rfl, rfl⟩) hHeld2 ?_
                simp only [Act.put, fOA, fOZ, fOS]
                refine wpAnyH_take (i := 44) (oi := fO44) (v := undef) rfl (by kernel_rfl) (by kernel_rfl) (by kernel_rfl) (fun _ _ _ h => h) (Or.inr ⟨by rfl, rfl⟩) hHeld2 ?_
                simp only [Act.put, fOA, fOZ, fOS]
                refine wpAnyH_take (i := 45) (oi := fO45) (v := undef) rfl (by kernel_rfl) (by kernel_rfl) (by kernel_rfl) (fun _ _ _ h => h) (Or.inr ⟨by rfl, rfl⟩) hHeld2 ?_
                simp only [Act.put, fOA, fOZ, fOS]
                refine wpAnyH_take (i := 46) (oi := fO46) (v := undef) rfl (by kernel_rfl) (by kernel_rfl) (by kernel_rfl) (fun _ _ _ h => h) (Or.inr ⟨by rfl, rfl⟩) hHeld2 ?_
                simp only [Act.put, fOA, fOZ, fOS]
                refine wpAnyH_take (i := 47) (oi := fO47) (v := undef) rfl (by kernel_rfl) (by kernel_rfl) (by kernel_rfl) (fun _ _ _ h => h) (Or.inr ⟨by rfl, rfl⟩) hHeld2 ?_
                simp only [Act.put, fOA, fOZ, fOS]
                refine wpAnyH_take (i := 48) (oi := fO48) (v := undef) rfl (by kernel_rfl) (by kernel_rfl) (by kernel_rfl) (fun _ _ _ h => h) (Or.inr ⟨by rfl, rfl⟩) hHeld2 ?_
                simp only [Act.put, fOA, fOZ, fOS]
                refine wpAnyH_take (i := 49) (oi := fO49) (v := undef) rfl (by kernel_rfl) (by kernel_rfl) (by kernel_rfl) (fun _ _ _ h => h) (Or.inr ⟨by rfl, rfl⟩) hHeld2 ?_
                simp only [Act.put, fOA, fOZ, fOS]
                refine wpAnyH_take (i := 50) (oi := fO50) (v := undef) rfl (by kernel_rfl) (by kernel_rfl) (by kernel_rfl) (fun _ _ _ h => h) (Or.inr ⟨by rfl, rfl⟩) hHeld2 ?_
                simp only [Act.put, fOA, fOZ, fOS]
                refine wpAnyH_take (i := 51) (oi := fO51) (v := undef) rfl (by kernel_rfl) (by kernel_rfl) (by kernel_rfl) (fun _ _ _ h => h) (Or.inr ⟨by rfl, rfl⟩) hHeld2 ?_
                simp only [Act.put, fOA, fOZ, fOS]
                refine wpAnyH_take (i := 52) (oi := fO52) (v := undef) rfl (by kernel_rfl) (by kernel_rfl) (by kernel_rfl) (fun _ _ _ h => h) (Or.inr ⟨by rfl, rfl⟩) hHeld2 ?_
                simp only [Act.put, fOA, fOZ, fOS]
                refine wpAnyH_take (i := 53) (oi := fO53) (v := undef) rfl (by kernel_rfl) (by kernel_rfl) (by kernel_rfl) (fun _ _ _ h => h) (Or.inr ⟨by rfl, rfl⟩) hHeld2 ?_
                simp only [Act.put, fOA, fOZ, fOS]
                refine wpAnyH_take (i := 54) (oi := fO54) (v := .bool false) rfl (by kernel_rfl) (by kernel_rfl) (by kernel_rfl) (fun _ _ _ h => h) (Or.inl ⟨by rfl, fun wz hSw => ?_⟩) hHeld2 ?_
                · obtain ⟨_, r0, r1, r2, r3, r4, r5, r6, r7, r8, r9, r10⟩ := hSw
                  go_simp
                simp only [Act.put, fOA, fOZ, fOS]
                refine wpAnyH_done (by kernel_rfl) ?_ _
                go_wp2
                go_roundw
                case rel => exact ⟨j + 1, by omega, by go_num, HA1.out (by rw [HAP.out] <;> first | rfl | simp), below_step hbr0 B2⟩
                case measure => simp [intOf]; omega
              | true =>
                by_cases hl1 : yk < yj + aj
                · rw [decide_eq_true hl1] at HAP
                  by_cases hl2 : yj < yk + ak
                  · rw [decide_eq_true hl2] at HAP
                    go_wp2
                    refine wp_region_held_drew (S := (fun w' => Below wr.heap.size wr w' ∧ w'.cell? ⟨w.heap.size + 1, 1, none⟩ = some (.slice (some ⟨pb, po, none⟩) N pcap) ∧ w'.cell? ⟨pb, po + j, none⟩ = some (.int .i64 yj) ∧ w'.cell? ⟨pb, po + k, none⟩ = some (.int .i64 yk) ∧ w'.cell? ⟨qb, qo + k * 2, none⟩ = some (.int .i64 s1) ∧ w'.cell? ⟨qb, qo + k * 2 + 1, none⟩ = some (.int .i64 s2) ∧ w'.cell? ⟨qb, qo + j * 2, none⟩ = some (.int .i64 t1) ∧ w'.cell? ⟨qb, qo + j * 2 + 1, none⟩ = some (.int .i64 t2) ∧ w'.cell? ⟨zb, zo + j * 2, none⟩ = some (.int .i64 jw) ∧ w'.cell? ⟨zb, zo + j * 2 + 1, none⟩ = some (.int .i64 jh) ∧ w'.cell? ⟨zb, zo + k * 2, none⟩ = some (.int .i64 kw) ∧ w'.cell? ⟨zb, zo + k * 2 + 1, none⟩ = some (.int .i64 kh))) (by kernel_rfl) (kp _ (Below.refl _ _).drew) (fun hHeld => ?_)
                    refine wpAnyH_take (i := 0) (oi := fO0) (v := .pointer (some ⟨w.heap.size + 1, 1, none⟩)) rfl (by kernel_rfl) (by kernel_rfl) (by kernel_rfl) (fun _ _ _ h => h) (Or.inl ⟨by rfl, fun wz hSw => ?_⟩) hHeld ?_
                    · obtain ⟨_, r0, r1, r2, r3, r4, r5, r6, r7, r8, r9, r10⟩ := hSw
                      go_simp
                    simp only [Act.put, fOA, fOZ, fOS]
                    refine wpAnyH_take (i := 1) (oi := fO1) (v := .slice (some ⟨pb, po, none⟩) N pcap) rfl (by kernel_rfl) (by kernel_rfl) (by kernel_rfl) (fun _ _ _ h => h) (Or.inl ⟨by rfl, fun wz hSw => ?_⟩) hHeld ?_
                    · obtain ⟨_, r0, r1, r2, r3, r4, r5, r6, r7, r8, r9, r10⟩ := hSw
                      go_simp
                    simp only [Act.put, fOA, fOZ, fOS]
                    refine wpAnyH_take (i := 2) (oi := fO2) (v := .int .i64 j) rfl (by kernel_rfl) (by kernel_rfl) (by kernel_rfl) (fun _ _ _ h => h) (Or.inl ⟨by rfl, fun wz hSw => ?_⟩) hHeld ?_
                    · obtain ⟨_, r0, r1, r2, r3, r4, r5, r6, r7, r8, r9, r10⟩ := hSw
                      go_simp
                    simp only [Act.put, fOA, fOZ, fOS]
                    refine wpAnyH_take (i := 3) (oi := fO3) (v := .pointer (some ⟨pb, po + j, none⟩)) rfl (by kernel_rfl) (by kernel_rfl) (by kernel_rfl) (fun _ _ _ h => h) (Or.inl ⟨by rfl, fun wz hSw => ?_⟩) hHeld ?_
                    · obtain ⟨_, r0, r1, r2, r3, r4, r5, r6, r7, r8, r9, r10⟩ := hSw
                      go_simp
                    simp only [Act.put, fOA, fOZ, fOS]
                    refine wpAnyH_take (i := 4) (oi := fO4) (v := .int .i64 yj) rfl (by kernel_rfl) (by kernel_rfl) (by kernel_rfl) (fun _ _ _ h => h) (Or.inl ⟨by rfl, fun wz hSw => ?_⟩) hHeld ?_
                    · obtain ⟨_, r0, r1, r2, r3, r4, r5, r6, r7, r8, r9, r10⟩ := hSw
                      go_simp
                    simp only [Act.put, fOA, fOZ, fOS]
                    refine wpAnyH_take (i := 5) (oi := fO5) (v := .bool true) rfl (by kernel_rfl) (by kernel_rfl) (by kernel_rfl) (fun _ _ _ h => h) (Or.inl ⟨by rfl, fun wz hSw => ?_⟩) hHeld ?_
                    · obtain ⟨_, r0, r1, r2, r3, r4, r5, r6, r7, r8, r9, r10⟩ := hSw
                      go_simp
                    simp only [Act.put, fOA, fOZ, fOS]
                    refine wpAnyH_take (i := 6) (oi := fO6) (v := .bool true) rfl (by kernel_rfl) (by kernel_rfl) (by kernel_rfl) (fun _ _ _ h => h) (Or.inl ⟨by rfl, fun wz hSw => ?_⟩) hHeld ?_
                    · obtain ⟨_, r0, r1, r2, r3, r4, r5, r6, r7, r8, r9, r10⟩ := hSw
                      go_simp
                    simp only [Act.put, fOA, fOZ, fOS]
                    refine wpAnyH_take (i := 7) (oi := fO7) (v := .slice (some ⟨qb, qo, none⟩) N qc) rfl (by kernel_rfl) (by kernel_rfl) (by kernel_rfl) (fun _ _ _ h => h) (Or.inl ⟨by rfl, fun wz hSw => ?_⟩) hHeld ?_
                    · obtain ⟨_, r0, r1, r2, r3, r4, r5, r6, r7, r8, r9, r10⟩ := hSw
                      go_simp
                    simp only [Act.put, fOA, fOZ, fOS]
                    refine wpAnyH_take (i := 8) (oi := fO8) (v := .int .i64 k) rfl (by kernel_rfl) (by kernel_rfl) (by kernel_rfl) (fun _ _ _ h => h) (Or.inl ⟨by rfl, fun wz hSw => ?_⟩) hHeld ?_
                    · obtain ⟨_, r0, r1, r2, r3, r4, r5, r6, r7, r8, r9, r10⟩ := hSw
                      go_simp
                    simp only [Act.put, fOA, fOZ, fOS]
                    refine wpAnyH_take (i := 9) (oi := fO9) (v := .pointer (some ⟨qb, qo + k * 2, none⟩)) rfl (by kernel_rfl) (by kernel_rfl) (by kernel_rfl) (fun _ _ _ h => h) (Or.inl ⟨by rfl, fun wz hSw => ?_⟩) hHeld ?_
                    · obtain ⟨_, r0, r1, r2, r3, r4, r5, r6, r7, r8, r9, r10⟩ := hSw
                      go_simp
                    simp only [Act.put, fOA, fOZ, fOS]
                    refine wpAnyH_take (i := 10) (oi := fO10) (v := .agg #[.int .i64 s1, .int .i64 s2]) rfl (by kernel_rfl) (by kernel_rfl) (by kernel_rfl) (fun _ _ _ h => h) (Or.inl ⟨by rfl, fun wz hSw => ?_⟩) hHeld ?_
                    · obtain ⟨_, r0, r1, r2, r3, r4, r5, r6, r7, r8, r9, r10⟩ := hSw
                      go_simp
                    simp only [Act.put, fOA, fOZ, fOS]
                    refine wpAnyH_take (i := 11) (oi := fO11) (v := .slice (some ⟨qb, qo, none⟩) N qc) rfl (by kernel_rfl) (by kernel_rfl) (by kernel_rfl) (fun _ _ _ h => h) (Or.inl ⟨by rfl, fun wz hSw => ?_⟩) hHeld ?_
                    · obtain ⟨_, r0, r1, r2, r3, r4, r5, r6, r7, r8, r9, r10⟩ := hSw
                      go_simp
                    simp only [Act.put, fOA, fOZ, fOS]
                    refine wpAnyH_take (i := 12) (oi := fO12) (v := .int .i64 j) rfl (by kernel_rfl) (by kernel_rfl) (by kernel_rfl) (fun _ _ _ h => h) (Or.inl ⟨by rfl, fun wz hSw => ?_⟩) hHeld ?_
                    · obtain ⟨_, r0, r1, r2, r3, r4, r5, r6, r7, r8, r9, r10⟩ := hSw
                      go_simp
                    simp only [Act.put, fOA, fOZ, fOS]
                    refine wpAnyH_take (i := 13) (oi := fO13) (v := .pointer (some ⟨qb, qo + j * 2, none⟩)) rfl (by kernel_rfl) (by kernel_rfl) (by kernel_rfl) (fun _ _ _ h => h) (Or.inl ⟨by rfl, fun wz hSw => ?_⟩) hHeld ?_
                    · obtain ⟨_, r0, r1, r2, r3, r4, r5, r6, r7, r8, r9, r10⟩ := hSw
                      go_simp
                    simp only [Act.put, fOA, fOZ, fOS]
                    refine wpAnyH_take (i := 14) (oi := fO14) (v := .agg #[.int .i64 t1, .int .i64 t2]) rfl (by kernel_rfl) (by kernel_rfl) (by kernel_rfl) (fun _ _ _ h => h) (Or.inl ⟨by rfl, fun wz hSw => ?_⟩) hHeld ?_
                    · obtain ⟨_, r0, r1, r2, r3, r4, r5, r6, r7, r8, r9, r10⟩ := hSw
                      go_simp
                    simp only [Act.put, fOA, fOZ, fOS]
                    refine wpAnyH_ready (rs := [15]) (by kernel_rfl) (by simp) ?_
                    refine AllReadyH.cons (o := fO15) rfl (fun K hK => ?_) AllReadyH.nil
                    rw [if_pos (by rfl)]
                    go_simp
                    go_at_call 84
                    refine (hme _).mono ?_
                    rintro e w2 ⟨rfl, b2⟩
                    go_simp
                    have B2 : Below wr.heap.size wr w2 := ((Below.refl wr.heap.size wr).drew).trans b2
                    refine hK.out _ _ (kp _ B2) (fun hHeld2 => ?_)
                    clear hK K
                    refine wpAnyH_take (i := 16) (oi := fO16) (v := .bool true) rfl (by kernel_rfl) (by kernel_rfl) (by kernel_rfl) (fun _ _ _ h => h) (Or.inl ⟨by rfl, fun wz hSw => ?_⟩) hHeld2 ?_
                    · obtain ⟨_, r0, r1, r2, r3, r4, r5, r6, r7, r8, r9, r10⟩ := hSw
                      go_simp
                    simp only [Act.put, fOA, fOZ, fOS]
                    refine wpAnyH_take (i := 17) (oi := fO17) (v := .bool true) rfl (by kernel_rfl) (by kernel_rfl) (by kernel_rfl) (fun _ _ _ h => h) (Or.inl ⟨by rfl, fun wz hSw => ?_⟩) hHeld2 ?_
                    · obtain ⟨_, r0, r1, r2, r3, r4, r5, r6, r7, r8, r9, r10⟩ := hSw
                      go_simp
                    simp only [Act.put, fOA, fOZ, fOS]
                    refine wpAnyH_take (i := 18) (oi := fO18) (v := .pointer (some ⟨w.heap.size + 1, 1, none⟩)) rfl (by kernel_rfl) (by kernel_rfl) (by kernel_rfl) (fun _ _ _ h => h) (Or.inl ⟨by rfl, fun wz hSw => ?_⟩) hHeld2 ?_
                    · obtain ⟨_, r0, r1, r2, r3, r4, r5, r6, r7, r8, r9, r10⟩ := hSw
                      go_simp
                    simp only [Act.put, fOA, fOZ, fOS]
                    refine wpAnyH_take (i := 19) (oi := fO19) (v := .slice (some ⟨pb, po, none⟩) N pcap) rfl (by kernel_rfl) (by kernel_rfl) (by kernel_rfl) (fun _ _ _ h => h) (Or.inl ⟨by rfl, fun wz hSw => ?_⟩) hHeld2 ?_
                    · obtain ⟨_, r0, r1, r2, r3, r4, r5, r6, r7, r8, r9, r10⟩ := hSw
                      go_simp
                    simp only [Act.put, fOA, fOZ, fOS]
                    refine wpAnyH_take (i := 20) (oi := fO20) (v := .int .i64 k) rfl (by kernel_rfl) (by kernel_rfl) (by kernel_rfl) (fun _ _ _ h => h) (Or.inl ⟨by rfl, fun wz hSw => ?_⟩) hHeld2 ?_
                    · obtain ⟨_, r0, r1, r2, r3, r4, r5, r6, r7, r8, r9, r10⟩ := hSw
                      go_simp
                    simp only [Act.put, fOA, fOZ, fOS]
                    refine wpAnyH_take (i := 21) (oi := fO21) (v := .pointer (some ⟨pb, po + k, none⟩)) rfl (by kernel_rfl) (by kernel_rfl) (by kernel_rfl) (fun _ _ _ h => h) (Or.inl ⟨by rfl, fun wz hSw => ?_⟩) hHeld2 ?_
                    · obtain ⟨_, r0, r1, r2, r3, r4, r5, r6, r7, r8, r9, r10⟩ := hSw
                      go_simp
                    simp only [Act.put, fOA, fOZ, fOS]
                    refine wpAnyH_take (i := 22) (oi := fO22) (v := .int .i64 yk) rfl (by kernel_rfl) (by kernel_rfl) (by kernel_rfl) (fun _ _ _ h => h) (Or.inl ⟨by rfl, fun wz hSw => ?_⟩) hHeld2 ?_
                    · obtain ⟨_, r0, r1, r2, r3, r4, r5, r6, r7, r8, r9, r10⟩ := hSw
                      go_simp
                    simp only [Act.put, fOA, fOZ, fOS]
                    refine wpAnyH_take (i := 23) (oi := fO23) (v := .pointer (some ⟨w.heap.size + 1, 1, none⟩)) rfl (by kernel_rfl) (by kernel_rfl) (by kernel_rfl) (fun _ _ _ h => h) (Or.inl ⟨by rfl, fun wz hSw => ?_⟩) hHeld2 ?_
                    · obtain ⟨_, r0, r1, r2, r3, r4, r5, r6, r7, r8, r9, r10⟩ := hSw
                      go_simp
                    simp only [Act.put, fOA, fOZ, fOS]
                    refine wpAnyH_take (i := 24) (oi := fO24) (v := .slice (some ⟨pb, po, none⟩) N pcap) rfl (by kernel_rfl) (by kernel_rfl) (by kernel_rfl) (fun _ _ _ h => h) (Or.inl ⟨by rfl, fun wz hSw => ?_⟩) hHeld2 ?_
                    · obtain ⟨_, r0, r1, r2, r3, r4, r5, r6, r7, r8, r9, r10⟩ := hSw
                      go_simp
                    simp only [Act.put, fOA, fOZ, fOS]
                    refine wpAnyH_take (i := 25) (oi := fO25) (v := .int .i64 j) rfl (by kernel_rfl) (by kernel_rfl) (by kernel_rfl) (fun _ _ _ h => h) (Or.inl ⟨by rfl, fun wz hSw => ?_⟩) hHeld2 ?_
                    · obtain ⟨_, r0, r1, r2, r3, r4, r5, r6, r7, r8, r9, r10⟩ := hSw
                      go_simp
                    simp only [Act.put, fOA, fOZ, fOS]
                    refine wpAnyH_take (i := 26) (oi := fO26) (v := .pointer (some ⟨pb, po + j, none⟩)) rfl (by kernel_rfl) (by kernel_rfl) (by kernel_rfl) (fun _ _ _ h => h) (Or.inl ⟨by rfl, fun wz hSw => ?_⟩) hHeld2 ?_
                    · obtain ⟨_, r0, r1, r2, r3, r4, r5, r6, r7, r8, r9, r10⟩ := hSw
                      go_simp
                    simp only [Act.put, fOA, fOZ, fOS]
                    refine wpAnyH_take (i := 27) (oi := fO27) (v := .int .i64 yj) rfl (by kernel_rfl) (by kernel_rfl) (by kernel_rfl) (fun _ _ _ h => h) (Or.inl ⟨by rfl, fun wz hSw => ?_⟩) hHeld2 ?_
                    · obtain ⟨_, r0, r1, r2, r3, r4, r5, r6, r7, r8, r9, r10⟩ := hSw
                      go_simp
                    simp only [Act.put, fOA, fOZ, fOS]
                    refine wpAnyH_take (i := 28) (oi := fO28) (v := .slice (some ⟨zb, zo, none⟩) N zc) rfl (by kernel_rfl) (by kernel_rfl) (by kernel_rfl) (fun _ _ _ h => h) (Or.inl ⟨by rfl, fun wz hSw => ?_⟩) hHeld2 ?_
                    · obtain ⟨_, r0, r1, r2, r3, r4, r5, r6, r7, r8, r9, r10⟩ := hSw
                      go_simp
                    simp only [Act.put, fOA, fOZ, fOS]
                    refine wpAnyH_take (i := 29) (oi := fO29) (v := .int .i64 j) rfl (by kernel_rfl) (by kernel_rfl) (by kernel_rfl) (fun _ _ _ h => h) (Or.inl ⟨by rfl, fun wz hSw => ?_⟩) hHeld2 ?_
                    · obtain ⟨_, r0, r1, r2, r3, r4, r5, r6, r7, r8, r9, r10⟩ := hSw
                      go_simp
                    simp only [Act.put, fOA, fOZ, fOS]
                    refine wpAnyH_take (i := 30) (oi := fO30) (v := .pointer (some ⟨zb, zo + j * 2, none⟩)) rfl (by kernel_rfl) (by kernel_rfl) (by kernel_rfl) (fun _ _ _ h => h) (Or.inl ⟨by rfl, fun wz hSw => ?_⟩) hHeld2 ?_
                    · obtain ⟨_, r0, r1, r2, r3, r4, r5, r6, r7, r8, r9, r10⟩ := hSw
                      go_simp
                    simp only [Act.put, fOA, fOZ, fOS]
                    refine wpAnyH_take (i := 31) (oi := fO31) (v := .agg #[.int .i64 jw, .int .i64 jh]) rfl (by kernel_rfl) (by kernel_rfl) (by kernel_rfl) (fun _ _ _ h => h) (Or.inl ⟨by rfl, fun wz hSw => ?_⟩) hHeld2 ?_
                    · obtain ⟨_, r0, r1, r2, r3, r4, r5, r6, r7, r8, r9, r10⟩ := hSw
                      go_simp
                    simp only [Act.put, fOA, fOZ, fOS]
                    refine wpAnyH_ready (rs := [32]) (by kernel_rfl) (by simp) ?_
                    refine AllReadyH.cons (o := fO32) rfl (fun K hK => ?_) AllReadyH.nil
                    rw [if_pos (by rfl)]
                    go_simp
                    go_at_call 47
                    refine (haj _).mono ?_
                    rintro e w3 ⟨rfl, b3⟩
                    go_simp
                    have B3 := below_step B2 b3
                    refine hK.out _ _ (kp _ B3) (fun hHeld3 => ?_)
                    clear hK K
                    refine wpAnyH_take (i := 33) (oi := fO33) (v := .int .i64 (yj + aj)) rfl (by kernel_rfl) (by kernel_rfl) (by kernel_rfl) (fun _ _ _ h => h) (Or.inl ⟨by rfl, fun wz hSw => ?_⟩) hHeld3 ?_
                    · obtain ⟨_, r0, r1, r2, r3, r4, r5, r6, r7, r8, r9, r10⟩ := hSw
                      go_simp
                    simp only [Act.put, fOA, fOZ, fOS]
                    refine wpAnyH_take (i := 34) (oi := fO34) (v := .bool true) rfl (by kernel_rfl) (by kernel_rfl) (by kernel_rfl) (fun _ _ _ h => h) (Or.inl ⟨by rfl, fun wz hSw => ?_⟩) hHeld3 ?_
                    · obtain ⟨_, r0, r1, r2, r3, r4, r5, r6, r7, r8, r9, r10⟩ := hSw
                      go_simp
                    simp only [Act.put, fOA, fOZ, fOS]
                    refine wpAnyH_take (i := 35) (oi := fO35) (v := .bool true) rfl (by kernel_rfl) (by kernel_rfl) (by kernel_rfl) (fun _ _ _ h => h) (Or.inl ⟨by rfl, fun wz hSw => ?_⟩) hHeld3 ?_
                    · obtain ⟨_, r0, r1, r2, r3, r4, r5, r6, r7, r8, r9, r10⟩ := hSw
                      go_simp
                    simp only [Act.put, fOA, fOZ, fOS]
                    refine wpAnyH_take (i := 36) (oi := fO36) (v := .bool true) rfl (by kernel_rfl) (by kernel_rfl) (by kernel_rfl) (fun _ _ _ h => h) (Or.inl ⟨by rfl, fun wz hSw => ?_⟩) hHeld3 ?_
                    · obtain ⟨_, r0, r1, r2, r3, r4, r5, r6, r7, r8, r9, r10⟩ := hSw
                      go_simp
                    simp only [Act.put, fOA, fOZ, fOS]
                    refine wpAnyH_take (i := 37) (oi := fO37) (v := .pointer (some ⟨w.heap.size + 1, 1, none⟩)) rfl (by kernel_rfl) (by kernel_rfl) (by kernel_rfl) (fun _ _ _ h => h) (Or.inl ⟨by rfl, fun wz hSw => ?_⟩) hHeld3 ?_
                    · obtain ⟨_, r0, r1, r2, r3, r4, r5, r6, r7, r8, r9, r10⟩ := hSw
                      go_simp
                    simp only [Act.put, fOA, fOZ, fOS]
                    refine wpAnyH_take (i := 38) (oi := fO38) (v := .slice (some ⟨pb, po, none⟩) N pcap) rfl (by kernel_rfl) (by kernel_rfl) (by kernel_rfl) (fun _ _ _ h => h) (Or.inl ⟨by rfl, fun wz hSw => ?_⟩) hHeld3 ?_
                    · obtain ⟨_, r0, r1, r2, r3, r4, r5, r6, r7, r8, r9, r10⟩ := hSw
                      go_simp
                    simp only [Act.put, fOA, fOZ, fOS]
                    refine wpAnyH_take (i := 39) (oi := fO39) (v := .int .i64 j) rfl (by kernel_rfl) (by kernel_rfl) (by kernel_rfl) (fun _ _ _ h => h) (Or.inl ⟨by rfl, fun wz hSw => ?_⟩) hHeld3 ?_
                    · obtain ⟨_, r0, r1, r2, r3, r4, r5, r6, r7, r8, r9, r10⟩ := hSw
                      go_simp
                    simp only [Act.put, fOA, fOZ, fOS]
                    refine wpAnyH_take (i := 40) (oi := fO40) (v := .pointer (some ⟨pb, po + j, none⟩)) rfl (by kernel_rfl) (by kernel_rfl) (by kernel_rfl) (fun _ _ _ h => h) (Or.inl ⟨by rfl, fun wz hSw => ?_⟩) hHeld3 ?_
                    · obtain ⟨_, r0, r1, r2, r3, r4, r5, r6, r7, r8, r9, r10⟩ := hSw
                      go_simp
                    simp only [Act.put, fOA, fOZ, fOS]
                    refine wpAnyH_take (i := 41) (oi := fO41) (v := .int .i64 yj) rfl (by kernel_rfl) (by kernel_rfl) (by kernel_rfl) (fun _ _ _ h => h) (Or.inl ⟨by rfl, fun wz hSw => ?_⟩) hHeld3 ?_
                    · obtain ⟨_, r0, r1, r2, r3, r4, r5, r6, r7, r8, r9, r10⟩ := hSw
                      go_simp
                    simp only [Act.put, fOA, fOZ, fOS]
                    refine wpAnyH_take (i := 42) (oi := fO42) (v := .pointer (some ⟨w.heap.size + 1, 1, none⟩)) rfl (by kernel_rfl) (by kernel_rfl) (by kernel_rfl) (fun _ _ _ h => h) (Or.inl ⟨by rfl, fun wz hSw => ?_⟩) hHeld3 ?_
                    · obtain ⟨_, r0, r1, r2, r3, r4, r5, r6, r7, r8, r9, r10⟩ := hSw
                      go_simp
                    simp only [Act.put, fOA, fOZ, fOS]
                    refine wpAnyH_take (i := 43) (oi := fO43) (v := .slice (some ⟨pb, po, none⟩) N pcap) rfl (by kernel_rfl) (by kernel_rfl) (by kernel_rfl) (fun _ _ _ h => h) (Or.inl ⟨by rfl, fun wz hSw => ?_⟩) hHeld3 ?_
                    · obtain ⟨_, r0, r1, r2, r3, r4, r5, r6, r7, r8, r9, r10⟩ := hSw
                      go_simp
                    simp only [Act.put, fOA, fOZ, fOS]
                    refine wpAnyH_take (i := 44) (oi := fO44) (v := .int .i64 k) rfl (by kernel_rfl) (by kernel_rfl) (by kernel_rfl) (fun _ _ _ h => h) (Or.inl ⟨by rfl, fun wz hSw => ?_⟩) hHeld3 ?_
                    · obtain ⟨_, r0, r1, r2, r3, r4, r5, r6, r7, r8, r9, r10⟩ := hSw
                      go_simp
                    simp only [Act.put, fOA, fOZ, fOS]
                    refine wpAnyH_take (i := 45) (oi := fO45) (v := .pointer (some ⟨pb, po + k, none⟩)) rfl (by kernel_rfl) (by kernel_rfl) (by kernel_rfl) (fun _ _ _ h => h) (Or.inl ⟨by rfl, fun wz hSw => ?_⟩) hHeld3 ?_
                    · obtain ⟨_, r0, r1, r2, r3, r4, r5, r6, r7, r8, r9, r10⟩ := hSw
                      go_simp
                    simp only [Act.put, fOA, fOZ, fOS]
                    refine wpAnyH_take (i := 46) (oi := fO46) (v := .int .i64 yk) rfl (by kernel_rfl) (by kernel_rfl) (by kernel_rfl) (fun _ _ _ h => h) (Or.inl ⟨by rfl, fun wz hSw => ?_⟩) hHeld3 ?_
                    · obtain ⟨_, r0, r1, r2, r3, r4, r5, r6, r7, r8, r9, r10⟩ := hSw
                      go_simp
                    simp only [Act.put, fOA, fOZ, fOS]
                    refine wpAnyH_take (i := 47) (oi := fO47) (v := .slice (some ⟨zb, zo, none⟩) N zc) rfl (by kernel_rfl) (by kernel_rfl) (by kernel_rfl) (fun _ _ _ h => h) (Or.inl ⟨by rfl, fun wz hSw => ?_⟩) hHeld3 ?_
                    · obtain ⟨_, r0, r1, r2, r3, r4, r5, r6, r7, r8, r9, r10⟩ := hSw
                      go_simp
                    simp only [Act.put, fOA, fOZ, fOS]
                    refine wpAnyH_take (i := 48) (oi := fO48) (v := .int .i64 k) rfl (by kernel_rfl) (by kernel_rfl) (by kernel_rfl) (fun _ _ _ h => h) (Or.inl ⟨by rfl, fun wz hSw => ?_⟩) hHeld3 ?_
                    · obtain ⟨_, r0, r1, r2, r3, r4, r5, r6, r7, r8, r9, r10⟩ := hSw
                      go_simp
                    simp only [Act.put, fOA, fOZ, fOS]
                    refine wpAnyH_take (i := 49) (oi := fO49) (v := .pointer (some ⟨zb, zo + k * 2, none⟩)) rfl (by kernel_rfl) (by kernel_rfl) (by kernel_rfl) (fun _ _ _ h => h) (Or.inl ⟨by rfl, fun wz hSw => ?_⟩) hHeld3 ?_
                    · obtain ⟨_, r0, r1, r2, r3, r4, r5, r6, r7, r8, r9, r10⟩ := hSw
                      go_simp
                    simp only [Act.put, fOA, fOZ, fOS]
                    refine wpAnyH_take (i := 50) (oi := fO50) (v := .agg #[.int .i64 kw, .int .i64 kh]) rfl (by kernel_rfl) (by kernel_rfl) (by kernel_rfl) (fun _ _ _ h => h) (Or.inl ⟨by rfl, fun wz hSw => ?_⟩) hHeld3 ?_
                    · obtain ⟨_, r0, r1, r2, r3, r4, r5, r6, r7, r8, r9, r10⟩ := hSw
                      go_simp
                    simp only [Act.put, fOA, fOZ, fOS]
                    refine wpAnyH_ready (rs := [51]) (by kernel_rfl) (by simp) ?_
                    refine AllReadyH.cons (o := fO51) rfl (fun K hK => ?_) AllReadyH.nil
                    rw [if_pos (by rfl)]
                    go_simp
                    go_at_call 47
                    refine (hak _).mono ?_
                    rintro e w4 ⟨rfl, b4⟩
                    go_simp
                    have B4 := below_step B3 b4
                    refine hK.out _ _ (kp _ B4) (fun hHeld4 => ?_)
                    clear hK K
                    refine wpAnyH_take (i := 52) (oi := fO52) (v := .int .i64 (yk + ak)) rfl (by kernel_rfl) (by kernel_rfl) (by kernel_rfl) (fun _ _ _ h => h) (Or.inl ⟨by rfl, fun wz hSw => ?_⟩) hHeld4 ?_
                    · obtain ⟨_, r0, r1, r2, r3, r4, r5, r6, r7, r8, r9, r10⟩ := hSw
                      go_simp
                    simp only [Act.put, fOA, fOZ, fOS]
                    refine wpAnyH_take (i := 53) (oi := fO53) (v := .bool true) rfl (by kernel_rfl) (by kernel_rfl) (by kernel_rfl) (fun _ _ _ h => h) (Or.inl ⟨by rfl, fun wz hSw => ?_⟩) hHeld4 ?_
                    · obtain ⟨_, r0, r1, r2, r3, r4, r5, r6, r7, r8, r9, r10⟩ := hSw
                      go_simp
                    simp only [Act.put, fOA, fOZ, fOS]
                    refine wpAnyH_take (i := 54) (oi := fO54) (v := .bool true) rfl (by kernel_rfl) (by kernel_rfl) (by kernel_rfl) (fun _ _ _ h => h) (Or.inl ⟨by rfl, fun wz hSw => ?_⟩) hHeld4 ?_
                    · obtain ⟨_, r0, r1, r2, r3, r4, r5, r6, r7, r8, r9, r10⟩ := hSw
                      go_simp
                    simp only [Act.put, fOA, fOZ, fOS]
                    refine wpAnyH_done (by kernel_rfl) ?_ _
                    go_wp2
                    go_ret
                    exact ⟨by rw [HF.out (by rw [HFK.out, HF1.out (by rw [HAP.out]; rfl)])]; rfl, below_step hb1 (below_step hbr0 B4)⟩
                  · rw [decide_eq_false hl2] at HAP
                    go_wp2
                    refine wp_region_held_drew (S := (fun w' => Below wr.heap.size wr w' ∧ w'.cell? ⟨w.heap.size + 1, 1, none⟩ = some (.slice (some ⟨pb, po, none⟩) N pcap) ∧ w'.cell? ⟨pb, po + j, none⟩ = some (.int .i64 yj) ∧ w'.cell? ⟨pb, po + k, none⟩ = some (.int .i64 yk) ∧ w'.cell? ⟨qb, qo + k * 2, none⟩ = some (.int .i64 s1) ∧ w'.cell? ⟨qb, qo + k * 2 + 1, none⟩ = some (.int .i64 s2) ∧ w'.cell? ⟨qb, qo + j * 2, none⟩ = some (.int .i64 t1) ∧ w'.cell? ⟨qb, qo + j * 2 + 1, none⟩ = some (.int .i64 t2) ∧ w'.cell? ⟨zb, zo + j * 2, none⟩ = some (.int .i64 jw) ∧ w'.cell? ⟨zb, zo + j * 2 + 1, none⟩ = some (.int .i64 jh) ∧ w'.cell? ⟨zb, zo + k * 2, none⟩ = some (.int .i64 kw) ∧ w'.cell? ⟨zb, zo + k * 2 + 1, none⟩ = some (.int .i64 kh))) (by kernel_rfl) (kp _ (Below.refl _ _).drew) (fun hHeld => ?_)
                    refine wpAnyH_take (i := 0) (oi := fO0) (v := .pointer (some ⟨w.heap.size + 1, 1, none⟩)) rfl (by kernel_rfl) (by kernel_rfl) (by kernel_rfl) (fun _ _ _ h => h) (Or.inl ⟨by rfl, fun wz hSw => ?_⟩) hHeld ?_
                    · obtain ⟨_, r0, r1, r2, r3, r4, r5, r6, r7, r8, r9, r10⟩ := hSw
                      go_simp
                    simp only [Act.put, fOA, fOZ, fOS]
                    refine wpAnyH_take (i := 1) (oi := fO1) (v := .slice (some ⟨pb, po, none⟩) N pcap) rfl (by kernel_rfl) (by kernel_rfl) (by kernel_rfl) (fun _ _ _ h => h) (Or.inl ⟨by rfl, fun wz hSw => ?_⟩) hHeld ?_
                    · obtain ⟨_, r0, r1, r2, r3, r4, r5, r6, r7, r8, r9, r10⟩ := hSw
                      go_simp
                    simp only [Act.put, fOA, fOZ, fOS]
                    refine wpAnyH_take (i := 2) (oi := fO2) (v := .int .i64 j) rfl (by kernel_rfl) (by kernel_rfl) (by kernel_rfl) (fun _ _ _ h => h) (Or.inl ⟨by rfl, fun wz hSw => ?_⟩) hHeld ?_
                    · obtain ⟨_, r0, r1, r2, r3, r4, r5, r6, r7, r8, r9, r10⟩ := hSw
                      go_simp
                    simp only [Act.put, fOA, fOZ, fOS]
                    refine wpAnyH_take (i := 3) (oi := fO3) (v := .pointer (some ⟨pb, po + j, none⟩)) rfl (by kernel_rfl) (by kernel_rfl) (by kernel_rfl) (fun _ _ _ h => h) (Or.inl ⟨by rfl, fun wz hSw => ?_⟩) hHeld ?_
                    · obtain ⟨_, r0, r1, r2, r3, r4, r5, r6, r7, r8, r9, r10⟩ := hSw
                      go_simp
                    simp only [Act.put, fOA, fOZ, fOS]
                    refine wpAnyH_take (i := 4) (oi := fO4) (v := .int .i64 yj) rfl (by kernel_rfl) (by kernel_rfl) (by kernel_rfl) (fun _ _ _ h => h) (Or.inl ⟨by rfl, fun wz hSw => ?_⟩) hHeld ?_
                    · obtain ⟨_, r0, r1, r2, r3, r4, r5, r6, r7, r8, r9, r10⟩ := hSw
                      go_simp
                    simp only [Act.put, fOA, fOZ, fOS]
                    refine wpAnyH_take (i := 5) (oi := fO5) (v := .bool true) rfl (by kernel_rfl) (by kernel_rfl) (by kernel_rfl) (fun _ _ _ h => h) (Or.inl ⟨by rfl, fun wz hSw => ?_⟩) hHeld ?_
                    · obtain ⟨_, r0, r1, r2, r3, r4, r5, r6, r7, r8, r9, r10⟩ := hSw
                      go_simp
                    simp only [Act.put, fOA, fOZ, fOS]
                    refine wpAnyH_take (i := 6) (oi := fO6) (v := .bool true) rfl (by kernel_rfl) (by kernel_rfl) (by kernel_rfl) (fun _ _ _ h => h) (Or.inl ⟨by rfl, fun wz hSw => ?_⟩) hHeld ?_
                    · obtain ⟨_, r0, r1, r2, r3, r4, r5, r6, r7, r8, r9, r10⟩ := hSw
                      go_simp
                    simp only [Act.put, fOA, fOZ, fOS]
                    refine wpAnyH_take (i := 7) (oi := fO7) (v := .slice (some ⟨qb, qo, none⟩) N qc) rfl (by kernel_rfl) (by kernel_rfl) (by kernel_rfl) (fun _ _ _ h => h) (Or.inl ⟨by rfl, fun wz hSw => ?_⟩) hHeld ?_
                    · obtain ⟨_, r0, r1, r2, r3, r4, r5, r6, r7, r8, r9, r10⟩ := hSw
                      go_simp
                    simp only [Act.put, fOA, fOZ, fOS]
                    refine wpAnyH_take (i := 8) (oi := fO8) (v := .int .i64 k) rfl (by kernel_rfl) (by kernel_rfl) (by kernel_rfl) (fun _ _ _ h => h) (Or.inl ⟨by rfl, fun wz hSw => ?_⟩) hHeld ?_
                    · obtain ⟨_, r0, r1, r2, r3, r4, r5, r6, r7, r8, r9, r10⟩ := hSw
                      go_simp
                    simp only [Act.put, fOA, fOZ, fOS]
                    refine wpAnyH_take (i := 9) (oi := fO9) (v := .pointer (some ⟨qb, qo + k * 2, none⟩)) rfl (by kernel_rfl) (by kernel_rfl) (by kernel_rfl) (fun _ _ _ h => h) (Or.inl ⟨by rfl, fun wz hSw => ?_⟩) hHeld ?_
                    · obtain ⟨_, r0, r1, r2, r3, r4, r5, r6, r7, r8, r9, r10⟩ := hSw
                      go_simp
                    simp only [Act.put, fOA, fOZ, fOS]
                    refine wpAnyH_take (i := 10) (oi := fO10) (v := .agg #[.int .i64 s1, .int .i64 s2]) rfl (by kernel_rfl) (by kernel_rfl) (by kernel_rfl) (fun _ _ _ h => h) (Or.inl ⟨by rfl, fun wz hSw => ?_⟩) hHeld ?_
                    · obtain ⟨_, r0, r1, r2, r3, r4, r5, r6, r7, r8, r9, r10⟩ := hSw
                      go_simp
                    simp only [Act.put, fOA, fOZ, fOS]
                    refine wpAnyH_take (i := 11) (oi := fO11) (v := .slice (some ⟨qb, qo, none⟩) N qc) rfl (by kernel_rfl) (by kernel_rfl) (by kernel_rfl) (fun _ _ _ h => h) (Or.inl ⟨by rfl, fun wz hSw => ?_⟩) hHeld ?_
                    · obtain ⟨_, r0, r1, r2, r3, r4, r5, r6, r7, r8, r9, r10⟩ := hSw
                      go_simp
                    simp only [Act.put, fOA, fOZ, fOS]
                    refine wpAnyH_take (i := 12) (oi := fO12) (v := .int .i64 j) rfl (by kernel_rfl) (by kernel_rfl) (by kernel_rfl) (fun _ _ _ h => h) (Or.inl ⟨by rfl, fun wz hSw => ?_⟩) hHeld ?_
                    · obtain ⟨_, r0, r1, r2, r3, r4, r5, r6, r7, r8, r9, r10⟩ := hSw
                      go_simp
                    simp only [Act.put, fOA, fOZ, fOS]
                    refine wpAnyH_take (i := 13) (oi := fO13) (v := .pointer (some ⟨qb, qo + j * 2, none⟩)) rfl (by kernel_rfl) (by kernel_rfl) (by kernel_rfl) (fun _ _ _ h => h) (Or.inl ⟨by rfl, fun wz hSw => ?_⟩) hHeld ?_
                    · obtain ⟨_, r0, r1, r2, r3, r4, r5, r6, r7, r8, r9, r10⟩ := hSw
                      go_simp
                    simp only [Act.put, fOA, fOZ, fOS]
                    refine wpAnyH_take (i := 14) (oi := fO14) (v := .agg #[.int .i64 t1, .int .i64 t2]) rfl (by kernel_rfl) (by kernel_rfl) (by kernel_rfl) (fun _ _ _ h => h) (Or.inl ⟨by rfl, fun wz hSw => ?_⟩) hHeld ?_
                    · obtain ⟨_, r0, r1, r2, r3, r4, r5, r6, r7, r8, r9, r10⟩ := hSw
                      go_simp
                    simp only [Act.put, fOA, fOZ, fOS]
                    refine wpAnyH_ready (rs := [15]) (by kernel_rfl) (by simp) ?_
                    refine AllReadyH.cons (o := fO15) rfl (fun K hK => ?_) AllReadyH.nil
                    rw [if_pos (by rfl)]
                    go_simp
                    go_at_call 84
                    refine (hme _).mono ?_
                    rintro e w2 ⟨rfl, b2⟩
                    go_simp
                    have B2 : Below wr.heap.size wr w2 := ((Below.refl wr.heap.size wr).drew).trans b2
                    refine hK.out _ _ (kp _ B2) (fun hHeld2 => ?_)
                    clear hK K
                    refine wpAnyH_take (i := 16) (oi := fO16) (v := .bool true) rfl (by kernel_rfl) (by kernel_rfl) (by kernel_rfl) (fun _ _ _ h => h) (Or.inl ⟨by rfl, fun wz hSw => ?_⟩) hHeld2 ?_
                    · obtain ⟨_, r0, r1, r2, r3, r4, r5, r6, r7, r8, r9, r10⟩ := hSw
                      go_simp
                    simp only [Act.put, fOA, fOZ, fOS]
                    refine wpAnyH_take (i := 17) (oi := fO17) (v := .bool true) rfl (by kernel_rfl) (by kernel_rfl) (by kernel_rfl) (fun _ _ _ h => h) (Or.inl ⟨by rfl, fun wz hSw => ?_⟩) hHeld2 ?_
                    · obtain ⟨_, r0, r1, r2, r3, r4, r5, r6, r7, r8, r9, r10⟩ := hSw
                      go_simp
                    simp only [Act.put, fOA, fOZ, fOS]
                    refine wpAnyH_take (i := 18) (oi := fO18) (v := .pointer (some ⟨w.heap.size + 1, 1, none⟩)) rfl (by kernel_rfl) (by kernel_rfl) (by kernel_rfl) (fun _ _ _ h => h) (Or.inl ⟨by rfl, fun wz hSw => ?_⟩) hHeld2 ?_
                    · obtain ⟨_, r0, r1, r2, r3, r4, r5, r6, r7, r8, r9, r10⟩ := hSw
                      go_simp
                    simp only [Act.put, fOA, fOZ, fOS]
                    refine wpAnyH_take (i := 19) (oi := fO19) (v := .slice (some ⟨pb, po, none⟩) N pcap) rfl (by kernel_rfl) (by kernel_rfl) (by kernel_rfl) (fun _ _ _ h => h) (Or.inl ⟨by rfl, fun wz hSw => ?_⟩) hHeld2 ?_
                    · obtain ⟨_, r0, r1, r2, r3, r4, r5, r6, r7, r8, r9, r10⟩ := hSw
                      go_simp
                    simp only [Act.put, fOA, fOZ, fOS]
                    refine wpAnyH_take (i := 20) (oi := fO20) (v := .int .i64 k) rfl (by kernel_rfl) (by kernel_rfl) (by kernel_rfl) (fun _ _ _ h => h) (Or.inl ⟨by rfl, fun wz hSw => ?_⟩) hHeld2 ?_
                    · obtain ⟨_, r0, r1, r2, r3, r4, r5, r6, r7, r8, r9, r10⟩ := hSw
                      go_simp
                    simp only [Act.put, fOA, fOZ, fOS]
                    refine wpAnyH_take (i := 21) (oi := fO21) (v := .pointer (some ⟨pb, po + k, none⟩)) rfl (by kernel_rfl) (by kernel_rfl) (by kernel_rfl) (fun _ _ _ h => h) (Or.inl ⟨by rfl, fun wz hSw => ?_⟩) hHeld2 ?_
                    · obtain ⟨_, r0, r1, r2, r3, r4, r5, r6, r7, r8, r9, r10⟩ := hSw
                      go_simp
                    simp only [Act.put, fOA, fOZ, fOS]
                    refine wpAnyH_take (i := 22) (oi := fO22) (v := .int .i64 yk) rfl (by kernel_rfl) (by kernel_rfl) (by kernel_rfl) (fun _ _ _ h => h) (Or.inl ⟨by rfl, fun wz hSw => ?_⟩) hHeld2 ?_
                    · obtain ⟨_, r0, r1, r2, r3, r4, r5, r6, r7, r8, r9, r10⟩ := hSw
                      go_simp
                    simp only [Act.put, fOA, fOZ, fOS]
                    refine wpAnyH_take (i := 23) (oi := fO23) (v := .pointer (some ⟨w.heap.size + 1, 1, none⟩)) rfl (by kernel_rfl) (by kernel_rfl) (by kernel_rfl) (fun _ _ _ h => h) (Or.inl ⟨by rfl, fun wz hSw => ?_⟩) hHeld2 ?_
                    · obtain ⟨_, r0, r1, r2, r3, r4, r5, r6, r7, r8, r9, r10⟩ := hSw
                      go_simp
                    simp only [Act.put, fOA, fOZ, fOS]
                    refine wpAnyH_take (i := 24) (oi := fO24) (v := .slice (some ⟨pb, po, none⟩) N pcap) rfl (by kernel_rfl) (by kernel_rfl) (by kernel_rfl) (fun _ _ _ h => h) (Or.inl ⟨by rfl, fun wz hSw => ?_⟩) hHeld2 ?_
                    · obtain ⟨_, r0, r1, r2, r3, r4, r5, r6, r7, r8, r9, r10⟩ := hSw
                      go_simp
                    simp only [Act.put, fOA, fOZ, fOS]
                    refine wpAnyH_take (i := 25) (oi := fO25) (v := .int .i64 j) rfl (by kernel_rfl) (by kernel_rfl) (by kernel_rfl) (fun _ _ _ h => h) (Or.inl ⟨by rfl, fun wz hSw => ?_⟩) hHeld2 ?_
                    · obtain ⟨_, r0, r1, r2, r3, r4, r5, r6, r7, r8, r9, r10⟩ := hSw
                      go_simp
                    simp only [Act.put, fOA, fOZ, fOS]
                    refine wpAnyH_take (i := 26) (oi := fO26) (v := .pointer (some ⟨pb, po + j, none⟩)) rfl (by kernel_rfl) (by kernel_rfl) (by kernel_rfl) (fun _ _ _ h => h) (Or.inl ⟨by rfl, fun wz hSw => ?_⟩) hHeld2 ?_
                    · obtain ⟨_, r0, r1, r2, r3, r4, r5, r6, r7, r8, r9, r10⟩ := hSw
                      go_simp
                    simp only [Act.put, fOA, fOZ, fOS]
                    refine wpAnyH_take (i := 27) (oi := fO27) (v := .int .i64 yj) rfl (by kernel_rfl) (by kernel_rfl) (by kernel_rfl) (fun _ _ _ h => h) (Or.inl ⟨by rfl, fun wz hSw => ?_⟩) hHeld2 ?_
                    · obtain ⟨_, r0, r1, r2, r3, r4, r5, r6, r7, r8, r9, r10⟩ := hSw
                      go_simp
                    simp only [Act.put, fOA, fOZ, fOS]
                    refine wpAnyH_take (i := 28) (oi := fO28) (v := .slice (some ⟨zb, zo, none⟩) N zc) rfl (by kernel_rfl) (by kernel_rfl) (by kernel_rfl) (fun _ _ _ h => h) (Or.inl ⟨by rfl, fun wz hSw => ?_⟩) hHeld2 ?_
                    · obtain ⟨_, r0, r1, r2, r3, r4, r5, r6, r7, r8, r9, r10⟩ := hSw
                      go_simp
                    simp only [Act.put, fOA, fOZ, fOS]
                    refine wpAnyH_take (i := 29) (oi := fO29) (v := .int .i64 j) rfl (by kernel_rfl) (by kernel_rfl) (by kernel_rfl) (fun _ _ _ h => h) (Or.inl ⟨by rfl, fun wz hSw => ?_⟩) hHeld2 ?_
                    · obtain ⟨_, r0, r1, r2, r3, r4, r5, r6, r7, r8, r9, r10⟩ := hSw
                      go_simp
                    simp only [Act.put, fOA, fOZ, fOS]
                    refine wpAnyH_take (i := 30) (oi := fO30) (v := .pointer (some ⟨zb, zo + j * 2, none⟩)) rfl (by kernel_rfl) (by kernel_rfl) (by kernel_rfl) (fun _ _ _ h => h) (Or.inl ⟨by rfl, fun wz hSw => ?_⟩) hHeld2 ?_
                    · obtain ⟨_, r0, r1, r2, r3, r4, r5, r6, r7, r8, r9, r10⟩ := hSw
                      go_simp
                    simp only [Act.put, fOA, fOZ, fOS]
                    refine wpAnyH_take (i := 31) (oi := fO31) (v := .agg #[.int .i64 jw, .int .i64 jh]) rfl (by kernel_rfl) (by kernel_rfl) (by kernel_rfl) (fun _ _ _ h => h) (Or.inl ⟨by rfl, fun wz hSw => ?_⟩) hHeld2 ?_
                    · obtain ⟨_, r0, r1, r2, r3, r4, r5, r6, r7, r8, r9, r10⟩ := hSw
                      go_simp
                    simp only [Act.put, fOA, fOZ, fOS]
                    refine wpAnyH_ready (rs := [32]) (by kernel_rfl) (by simp) ?_
                    refine AllReadyH.cons (o := fO32) rfl (fun K hK => ?_) AllReadyH.nil
                    rw [if_pos (by rfl)]
                    go_simp
                    go_at_call 47
                    refine (haj _).mono ?_
                    rintro e w3 ⟨rfl, b3⟩
                    go_simp
                    have B3 := below_step B2 b3
                    refine hK.out _ _ (kp _ B3) (fun hHeld3 => ?_)
                    clear hK K
                    refine wpAnyH_take (i := 33) (oi := fO33) (v := .int .i64 (yj + aj)) rfl (by kernel_rfl) (by kernel_rfl) (by kernel_rfl) (fun _ _ _ h => h) (Or.inl ⟨by rfl, fun wz hSw => ?_⟩) hHeld3 ?_
                    · obtain ⟨_, r0, r1, r2, r3, r4, r5, r6, r7, r8, r9, r10⟩ := hSw
                      go_simp
                    simp only [Act.put, fOA, fOZ, fOS]
                    refine wpAnyH_take (i := 34) (oi := fO34) (v := .bool true) rfl (by kernel_rfl) (by kernel_rfl) (by kernel_rfl) (fun _ _ _ h => h) (Or.inl ⟨by rfl, fun wz hSw => ?_⟩) hHeld3 ?_
                    · obtain ⟨_, r0, r1, r2, r3, r4, r5, r6, r7, r8, r9, r10⟩ := hSw
                      go_simp
                    simp only [Act.put, fOA, fOZ, fOS]
                    refine wpAnyH_take (i := 35) (oi := fO35) (v := .bool true) rfl (by kernel_rfl) (by kernel_rfl) (by kernel_rfl) (fun _ _ _ h => h) (Or.inl ⟨by rfl, fun wz hSw => ?_⟩) hHeld3 ?_
                    · obtain ⟨_, r0, r1, r2, r3, r4, r5, r6, r7, r8, r9, r10⟩ := hSw
                      go_simp
                    simp only [Act.put, fOA, fOZ, fOS]
                    refine wpAnyH_take (i := 36) (oi := fO36) (v := .bool true) rfl (by kernel_rfl) (by kernel_rfl) (by kernel_rfl) (fun _ _ _ h => h) (Or.inl ⟨by rfl, fun wz hSw => ?_⟩) hHeld3 ?_
                    · obtain ⟨_, r0, r1, r2, r3, r4, r5, r6, r7, r8, r9, r10⟩ := hSw
                      go_simp
                    simp only [Act.put, fOA, fOZ, fOS]
                    refine wpAnyH_take (i := 37) (oi := fO37) (v := .pointer (some ⟨w.heap.size + 1, 1, none⟩)) rfl (by kernel_rfl) (by kernel_rfl) (by kernel_rfl) (fun _ _ _ h => h) (Or.inl ⟨by rfl, fun wz hSw => ?_⟩) hHeld3 ?_
                    · obtain ⟨_, r0, r1, r2, r3, r4, r5, r6, r7, r8, r9, r10⟩ := hSw
                      go_simp
                    simp only [Act.put, fOA, fOZ, fOS]
                    refine wpAnyH_take (i := 38) (oi := fO38) (v := .slice (some ⟨pb, po, none⟩) N pcap) rfl (by kernel_rfl) (by kernel_rfl) (by kernel_rfl) (fun _ _ _ h => h) (Or.inl ⟨by rfl, fun wz hSw => ?_⟩) hHeld3 ?_
                    · obtain ⟨_, r0, r1, r2, r3, r4, r5, r6, r7, r8, r9, r10⟩ := hSw
                      go_simp
                    simp only [Act.put, fOA, fOZ, fOS]
                    refine wpAnyH_take (i := 39) (oi := fO39) (v := .int .i64 j) rfl (by kernel_rfl) (by kernel_rfl) (by kernel_rfl) (fun _ _ _ h => h) (Or.inl ⟨by rfl, fun wz hSw => ?_⟩) hHeld3 ?_
                    · obtain ⟨_, r0, r1, r2, r3, r4, r5, r6, r7, r8, r9, r10⟩ := hSw
                      go_simp
                    simp only [Act.put, fOA, fOZ, fOS]
                    refine wpAnyH_take (i := 40) (oi := fO40) (v := .pointer (some ⟨pb, po + j, none⟩)) rfl (by kernel_rfl) (by kernel_rfl) (by kernel_rfl) (fun _ _ _ h => h) (Or.inl ⟨by rfl, fun wz hSw => ?_⟩) hHeld3 ?_
                    · obtain ⟨_, r0, r1, r2, r3, r4, r5, r6, r7, r8, r9, r10⟩ := hSw
                      go_simp
                    simp only [Act.put, fOA, fOZ, fOS]
                    refine wpAnyH_take (i := 41) (oi := fO41) (v := .int .i64 yj) rfl (by kernel_rfl) (by kernel_rfl) (by kernel_rfl) (fun _ _ _ h => h) (Or.inl ⟨by rfl, fun wz hSw => ?_⟩) hHeld3 ?_
                    · obtain ⟨_, r0, r1, r2, r3, r4, r5, r6, r7, r8, r9, r10⟩ := hSw
                      go_simp
                    simp only [Act.put, fOA, fOZ, fOS]
                    refine wpAnyH_take (i := 42) (oi := fO42) (v := .pointer (some ⟨w.heap.size + 1, 1, none⟩)) rfl (by kernel_rfl) (by kernel_rfl) (by kernel_rfl) (fun _ _ _ h => h) (Or.inl ⟨by rfl, fun wz hSw => ?_⟩) hHeld3 ?_
                    · obtain ⟨_, r0, r1, r2, r3, r4, r5, r6, r7, r8, r9, r10⟩ := hSw
                      go_simp
                    simp only [Act.put, fOA, fOZ, fOS]
                    refine wpAnyH_take (i := 43) (oi := fO43) (v := .slice (some ⟨pb, po, none⟩) N pcap) rfl (by kernel_rfl) (by kernel_rfl) (by kernel_rfl) (fun _ _ _ h => h) (Or.inl ⟨by rfl, fun wz hSw => ?_⟩) hHeld3 ?_
                    · obtain ⟨_, r0, r1, r2, r3, r4, r5, r6, r7, r8, r9, r10⟩ := hSw
                      go_simp
                    simp only [Act.put, fOA, fOZ, fOS]
                    refine wpAnyH_take (i := 44) (oi := fO44) (v := .int .i64 k) rfl (by kernel_rfl) (by kernel_rfl) (by kernel_rfl) (fun _ _ _ h => h) (Or.inl ⟨by rfl, fun wz hSw => ?_⟩) hHeld3 ?_
                    · obtain ⟨_, r0, r1, r2, r3, r4, r5, r6, r7, r8, r9, r10⟩ := hSw
                      go_simp
                    simp only [Act.put, fOA, fOZ, fOS]
                    refine wpAnyH_take (i := 45) (oi := fO45) (v := .pointer (some ⟨pb, po + k, none⟩)) rfl (by kernel_rfl) (by kernel_rfl) (by kernel_rfl) (fun _ _ _ h => h) (Or.inl ⟨by rfl, fun wz hSw => ?_⟩) hHeld3 ?_
                    · obtain ⟨_, r0, r1, r2, r3, r4, r5, r6, r7, r8, r9, r10⟩ := hSw
                      go_simp
                    simp only [Act.put, fOA, fOZ, fOS]
                    refine wpAnyH_take (i := 46) (oi := fO46) (v := .int .i64 yk) rfl (by kernel_rfl) (by kernel_rfl) (by kernel_rfl) (fun _ _ _ h => h) (Or.inl ⟨by rfl, fun wz hSw => ?_⟩) hHeld3 ?_
                    · obtain ⟨_, r0, r1, r2, r3, r4, r5, r6, r7, r8, r9, r10⟩ := hSw
                      go_simp
                    simp only [Act.put, fOA, fOZ, fOS]
                    refine wpAnyH_take (i := 47) (oi := fO47) (v := .slice (some ⟨zb, zo, none⟩) N zc) rfl (by kernel_rfl) (by kernel_rfl) (by kernel_rfl) (fun _ _ _ h => h) (Or.inl ⟨by rfl, fun wz hSw => ?_⟩) hHeld3 ?_
                    · obtain ⟨_, r0, r1, r2, r3, r4, r5, r6, r7, r8, r9, r10⟩ := hSw
                      go_simp
                    simp only [Act.put, fOA, fOZ, fOS]
                    refine wpAnyH_take (i := 48) (oi := fO48) (v := .int .i64 k) rfl (by kernel_rfl) (by kernel_rfl) (by kernel_rfl) (fun _ _ _ h => h) (Or.inl ⟨by rfl, fun wz hSw => ?_⟩) hHeld3 ?_
                    · obtain ⟨_, r0, r1, r2, r3, r4, r5, r6, r7, r8, r9, r10⟩ := hSw
                      go_simp
                    simp only [Act.put, fOA, fOZ, fOS]
                    refine wpAnyH_take (i := 49) (oi := fO49) (v := .pointer (some ⟨zb, zo + k * 2, none⟩)) rfl (by kernel_rfl) (by kernel_rfl) (by kernel_rfl) (fun _ _ _ h => h) (Or.inl ⟨by rfl, fun wz hSw => ?_⟩) hHeld3 ?_
                    · obtain ⟨_, r0, r1, r2, r3, r4, r5, r6, r7, r8, r9, r10⟩ := hSw
                      go_simp
                    simp only [Act.put, fOA, fOZ, fOS]
                    refine wpAnyH_take (i := 50) (oi := fO50) (v := .agg #[.int .i64 kw, .int .i64 kh]) rfl (by kernel_rfl) (by kernel_rfl) (by kernel_rfl) (fun _ _ _ h => h) (Or.inl ⟨by rfl, fun wz hSw => ?_⟩) hHeld3 ?_
                    · obtain ⟨_, r0, r1, r2, r3, r4, r5, r6, r7, r8, r9, r10⟩ := hSw
                      go_simp
                    simp only [Act.put, fOA, fOZ, fOS]
                    refine wpAnyH_ready (rs := [51]) (by kernel_rfl) (by simp) ?_
                    refine AllReadyH.cons (o := fO51) rfl (fun K hK => ?_) AllReadyH.nil
                    rw [if_pos (by rfl)]
                    go_simp
                    go_at_call 47
                    refine (hak _).mono ?_
                    rintro e w4 ⟨rfl, b4⟩
                    go_simp
                    have B4 := below_step B3 b4
                    refine hK.out _ _ (kp _ B4) (fun hHeld4 => ?_)
                    clear hK K
                    refine wpAnyH_take (i := 52) (oi := fO52) (v := .int .i64 (yk + ak)) rfl (by kernel_rfl) (by kernel_rfl) (by kernel_rfl) (fun _ _ _ h => h) (Or.inl ⟨by rfl, fun wz hSw => ?_⟩) hHeld4 ?_
                    · obtain ⟨_, r0, r1, r2, r3, r4, r5, r6, r7, r8, r9, r10⟩ := hSw
                      go_simp
                    simp only [Act.put, fOA, fOZ, fOS]
                    refine wpAnyH_take (i := 53) (oi := fO53) (v := .bool false) rfl (by kernel_rfl) (by kernel_rfl) (by kernel_rfl) (fun _ _ _ h => h) (Or.inl ⟨by rfl, fun wz hSw => ?_⟩) hHeld4 ?_
                    · obtain ⟨_, r0, r1, r2, r3, r4, r5, r6, r7, r8, r9, r10⟩ := hSw
                      go_simp
                    simp only [Act.put, fOA, fOZ, fOS]
                    refine wpAnyH_take (i := 54) (oi := fO54) (v := .bool false) rfl (by kernel_rfl) (by kernel_rfl) (by kernel_rfl) (fun _ _ _ h => h) (Or.inl ⟨by rfl, fun wz hSw => ?_⟩) hHeld4 ?_
                    · obtain ⟨_, r0, r1, r2, r3, r4, r5, r6, r7, r8, r9, r10⟩ := hSw
                      go_simp
                    simp only [Act.put, fOA, fOZ, fOS]
                    refine wpAnyH_done (by kernel_rfl) ?_ _
                    go_wp2
                    go_roundw
                    case rel => exact ⟨j + 1, by omega, by go_num, HA1.out (by rw [HAP.out] <;> first | rfl | simp), below_step hbr0 B4⟩
                    case measure => simp [intOf]; omega
                · rw [decide_eq_false hl1] at HAP
                  clear hw2
                  go_wp2
                  refine wp_region_held_drew (S := (fun w' => Below wr.heap.size wr w' ∧ w'.cell? ⟨w.heap.size + 1, 1, none⟩ = some (.slice (some ⟨pb, po, none⟩) N pcap) ∧ w'.cell? ⟨pb, po + j, none⟩ = some (.int .i64 yj) ∧ w'.cell? ⟨pb, po + k, none⟩ = some (.int .i64 yk) ∧ w'.cell? ⟨qb, qo + k * 2, none⟩ = some (.int .i64 s1) ∧ w'.cell? ⟨qb, qo + k * 2 + 1, none⟩ = some (.int .i64 s2) ∧ w'.cell? ⟨qb, qo + j * 2, none⟩ = some (.int .i64 t1) ∧ w'.cell? ⟨qb, qo + j * 2 + 1, none⟩ = some (.int .i64 t2) ∧ w'.cell? ⟨zb, zo + j * 2, none⟩ = some (.int .i64 jw) ∧ w'.cell? ⟨zb, zo + j * 2 + 1, none⟩ = some (.int .i64 jh) ∧ w'.cell? ⟨zb, zo + k * 2, none⟩ = some (.int .i64 kw) ∧ w'.cell? ⟨zb, zo + k * 2 + 1, none⟩ = some (.int .i64 kh))) (by kernel_rfl) (kp _ (Below.refl _ _).drew) (fun hHeld => ?_)
                  refine wpAnyH_take (i := 0) (oi := fO0) (v := .pointer (some ⟨w.heap.size + 1, 1, none⟩)) rfl (by kernel_rfl) (by kernel_rfl) (by kernel_rfl) (fun _ _ _ h => h) (Or.inl ⟨by rfl, fun wz hSw => ?_⟩) hHeld ?_
                  · obtain ⟨_, r0, r1, r2, r3, r4, r5, r6, r7, r8, r9, r10⟩ := hSw
                    go_simp
                  simp only [Act.put, fOA, fOZ, fOS]
                  refine wpAnyH_take (i := 1) (oi := fO1) (v := .slice (some ⟨pb, po, none⟩) N pcap) rfl (by kernel_rfl) (by kernel_rfl) (by kernel_rfl) (fun _ _ _ h => h) (Or.inl ⟨by rfl, fun wz hSw => ?_⟩) hHeld ?_
                  · obtain ⟨_, r0, r1, r2, r3, r4, r5, r6, r7, r8, r9, r10⟩ := hSw
                    go_simp
                  simp only [Act.put, fOA, fOZ, fOS]
                  refine wpAnyH_take (i := 2) (oi := fO2) (v := .int .i64 j) rfl (by kernel_rfl) (by kernel_rfl) (by kernel_rfl) (fun _ _ _ h => h) (Or.inl ⟨by rfl, fun wz hSw => ?_⟩) hHeld ?_
                  · obtain ⟨_, r0, r1, r2, r3, r4, r5, r6, r7, r8, r9, r10⟩ := hSw
                    go_simp
                  simp only [Act.put, fOA, fOZ, fOS]
                  refine wpAnyH_take (i := 3) (oi := fO3) (v := .pointer (some ⟨pb, po + j, none⟩)) rfl (by kernel_rfl) (by kernel_rfl) (by kernel_rfl) (fun _ _ _ h => h) (Or.inl ⟨by rfl, fun wz hSw => ?_⟩) hHeld ?_
                  · obtain ⟨_, r0, r1, r2, r3, r4, r5, r6, r7, r8, r9, r10⟩ := hSw
                    go_simp
                  simp only [Act.put, fOA, fOZ, fOS]
                  refine wpAnyH_take (i := 4) (oi := fO4) (v := .int .i64 yj) rfl (by kernel_rfl) (by kernel_rfl) (by kernel_rfl) (fun _ _ _ h => h) (Or.inl ⟨by rfl, fun wz hSw => ?_⟩) hHeld ?_
                  · obtain ⟨_, r0, r1, r2, r3, r4, r5, r6, r7, r8, r9, r10⟩ := hSw
                    go_simp
                  simp only [Act.put, fOA, fOZ, fOS]
                  refine wpAnyH_take (i := 5) (oi := fO5) (v := .bool true) rfl (by kernel_rfl) (by kernel_rfl) (by kernel_rfl) (fun _ _ _ h => h) (Or.inl ⟨by rfl, fun wz hSw => ?_⟩) hHeld ?_
                  · obtain ⟨_, r0, r1, r2, r3, r4, r5, r6, r7, r8, r9, r10⟩ := hSw
                    go_simp
                  simp only [Act.put, fOA, fOZ, fOS]
                  refine wpAnyH_take (i := 6) (oi := fO6) (v := .bool true) rfl (by kernel_rfl) (by kernel_rfl) (by kernel_rfl) (fun _ _ _ h => h) (Or.inl ⟨by rfl, fun wz hSw => ?_⟩) hHeld ?_
                  · obtain ⟨_, r0, r1, r2, r3, r4, r5, r6, r7, r8, r9, r10⟩ := hSw
                    go_simp
                  simp only [Act.put, fOA, fOZ, fOS]
                  refine wpAnyH_take (i := 7) (oi := fO7) (v := .slice (some ⟨qb, qo, none⟩) N qc) rfl (by kernel_rfl) (by kernel_rfl) (by kernel_rfl) (fun _ _ _ h => h) (Or.inl ⟨by rfl, fun wz hSw => ?_⟩) hHeld ?_
                  · obtain ⟨_, r0, r1, r2, r3, r4, r5, r6, r7, r8, r9, r10⟩ := hSw
                    go_simp
                  simp only [Act.put, fOA, fOZ, fOS]
                  refine wpAnyH_take (i := 8) (oi := fO8) (v := .int .i64 k) rfl (by kernel_rfl) (by kernel_rfl) (by kernel_rfl) (fun _ _ _ h => h) (Or.inl ⟨by rfl, fun wz hSw => ?_⟩) hHeld ?_
                  · obtain ⟨_, r0, r1, r2, r3, r4, r5, r6, r7, r8, r9, r10⟩ := hSw
                    go_simp
                  simp only [Act.put, fOA, fOZ, fOS]
                  refine wpAnyH_take (i := 9) (oi := fO9) (v := .pointer (some ⟨qb, qo + k * 2, none⟩)) rfl (by kernel_rfl) (by kernel_rfl) (by kernel_rfl) (fun _ _ _ h => h) (Or.inl ⟨by rfl, fun wz hSw => ?_⟩) hHeld ?_
                  · obtain ⟨_, r0, r1, r2, r3, r4, r5, r6, r7, r8, r9, r10⟩ := hSw
                    go_simp
                  simp only [Act.put, fOA, fOZ, fOS]
                  refine wpAnyH_take (i := 10) (oi := fO10) (v := .agg #[.int .i64 s1, .int .i64 s2]) rfl (by kernel_rfl) (by kernel_rfl) (by kernel_rfl) (fun _ _ _ h => h) (Or.inl ⟨by rfl, fun wz hSw => ?_⟩) hHeld ?_
                  · obtain ⟨_, r0, r1, r2, r3, r4, r5, r6, r7, r8, r9, r10⟩ := hSw
                    go_simp
                  simp only [Act.put, fOA, fOZ, fOS]
                  refine wpAnyH_take (i := 11) (oi := fO11) (v := .slice (some ⟨qb, qo, none⟩) N qc) rfl (by kernel_rfl) (by kernel_rfl) (by kernel_rfl) (fun _ _ _ h => h) (Or.inl ⟨by rfl, fun wz hSw => ?_⟩) hHeld ?_
                  · obtain ⟨_, r0, r1, r2, r3, r4, r5, r6, r7, r8, r9, r10⟩ := hSw
                    go_simp
                  simp only [Act.put, fOA, fOZ, fOS]
                  refine wpAnyH_take (i := 12) (oi := fO12) (v := .int .i64 j) rfl (by kernel_rfl) (by kernel_rfl) (by kernel_rfl) (fun _ _ _ h => h) (Or.inl ⟨by rfl, fun wz hSw => ?_⟩) hHeld ?_
                  · obtain ⟨_, r0, r1, r2, r3, r4, r5, r6, r7, r8, r9, r10⟩ := hSw
                    go_simp
                  simp only [Act.put, fOA, fOZ, fOS]
                  refine wpAnyH_take (i := 13) (oi := fO13) (v := .pointer (some ⟨qb, qo + j * 2, none⟩)) rfl (by kernel_rfl) (by kernel_rfl) (by kernel_rfl) (fun _ _ _ h => h) (Or.inl ⟨by rfl, fun wz hSw => ?_⟩) hHeld ?_
                  · obtain ⟨_, r0, r1, r2, r3, r4, r5, r6, r7, r8, r9, r10⟩ := hSw
                    go_simp
                  simp only [Act.put, fOA, fOZ, fOS]
                  refine wpAnyH_take (i := 14) (oi := fO14) (v := .agg #[.int .i64 t1, .int .i64 t2]) rfl (by kernel_rfl) (by kernel_rfl) (by kernel_rfl) (fun _ _ _ h => h) (Or.inl ⟨by rfl, fun wz hSw => ?_⟩) hHeld ?_
                  · obtain ⟨_, r0, r1, r2, r3, r4, r5, r6, r7, r8, r9, r10⟩ := hSw
                    go_simp
                  simp only [Act.put, fOA, fOZ, fOS]
                  refine wpAnyH_ready (rs := [15]) (by kernel_rfl) (by simp) ?_
                  refine AllReadyH.cons (o := fO15) rfl (fun K hK => ?_) AllReadyH.nil
                  rw [if_pos (by rfl)]
                  go_simp
                  go_at_call 84
                  refine (hme _).mono ?_
                  rintro e w2 ⟨rfl, b2⟩
                  go_simp
                  have B2 : Below wr.heap.size wr w2 := ((Below.refl wr.heap.size wr).drew).trans b2
                  refine hK.out _ _ (kp _ B2) (fun hHeld2 => ?_)
                  clear hK K
                  refine wpAnyH_take (i := 16) (oi := fO16) (v := .bool true) rfl (by kernel_rfl) (by kernel_rfl) (by kernel_rfl) (fun _ _ _ h => h) (Or.inl ⟨by rfl, fun wz hSw => ?_⟩) hHeld2 ?_
                  · obtain ⟨_, r0, r1, r2, r3, r4, r5, r6, r7, r8, r9, r10⟩ := hSw
                    go_simp
                  simp only [Act.put, fOA, fOZ, fOS]
                  refine wpAnyH_take (i := 17) (oi := fO17) (v := .bool true) rfl (by kernel_rfl) (by kernel_rfl) (by kernel_rfl) (fun _ _ _ h => h) (Or.inl ⟨by rfl, fun wz hSw => ?_⟩) hHeld2 ?_
                  · obtain ⟨_, r0, r1, r2, r3, r4, r5, r6, r7, r8, r9, r10⟩ := hSw
                    go_simp
                  simp only [Act.put, fOA, fOZ, fOS]
                  refine wpAnyH_take (i := 18) (oi := fO18) (v := .pointer (some ⟨w.heap.size + 1, 1, none⟩)) rfl (by kernel_rfl) (by kernel_rfl) (by kernel_rfl) (fun _ _ _ h => h) (Or.inl ⟨by rfl, fun wz hSw => ?_⟩) hHeld2 ?_
                  · obtain ⟨_, r0, r1, r2, r3, r4, r5, r6, r7, r8, r9, r10⟩ := hSw
                    go_simp
                  simp only [Act.put, fOA, fOZ, fOS]
                  refine wpAnyH_take (i := 19) (oi := fO19) (v := .slice (some ⟨pb, po, none⟩) N pcap) rfl (by kernel_rfl) (by kernel_rfl) (by kernel_rfl) (fun _ _ _ h => h) (Or.inl ⟨by rfl, fun wz hSw => ?_⟩) hHeld2 ?_
                  · obtain ⟨_, r0, r1, r2, r3, r4, r5, r6, r7, r8, r9, r10⟩ := hSw
                    go_simp
                  simp only [Act.put, fOA, fOZ, fOS]
                  refine wpAnyH_take (i := 20) (oi := fO20) (v := .int .i64 k) rfl (by kernel_rfl) (by kernel_rfl) (by kernel_rfl) (fun _ _ _ h => h) (Or.inl ⟨by rfl, fun wz hSw => ?_⟩) hHeld2 ?_
                  · obtain ⟨_, r0, r1, r2, r3, r4, r5, r6, r7, r8, r9, r10⟩ := hSw
                    go_simp
                  simp only [Act.put, fOA, fOZ, fOS]
                  refine wpAnyH_take (i := 21) (oi := fO21) (v := .pointer (some ⟨pb, po + k, none⟩)) rfl (by kernel_rfl) (by kernel_rfl) (by kernel_rfl) (fun _ _ _ h => h) (Or.inl ⟨by rfl, fun wz hSw => ?_⟩) hHeld2 ?_
                  · obtain ⟨_, r0, r1, r2, r3, r4, r5, r6, r7, r8, r9, r10⟩ := hSw
                    go_simp
                  simp only [Act.put, fOA, fOZ, fOS]
                  refine wpAnyH_take (i := 22) (oi := fO22) (v := .int .i64 yk) rfl (by kernel_rfl) (by kernel_rfl) (by kernel_rfl) (fun _ _ _ h => h) (Or.inl ⟨by rfl, fun wz hSw => ?_⟩) hHeld2 ?_
                  · obtain ⟨_, r0, r1, r2, r3, r4, r5, r6, r7, r8, r9, r10⟩ := hSw
                    go_simp
                  simp only [Act.put, fOA, fOZ, fOS]
                  refine wpAnyH_take (i := 23) (oi := fO23) (v := .pointer (some ⟨w.heap.size + 1, 1, none⟩)) rfl (by kernel_rfl) (by kernel_rfl) (by kernel_rfl) (fun _ _ _ h => h) (Or.inl ⟨by rfl, fun wz hSw => ?_⟩) hHeld2 ?_
                  · obtain ⟨_, r0, r1, r2, r3, r4, r5, r6, r7, r8, r9, r10⟩ := hSw
                    go_simp
                  simp only [Act.put, fOA, fOZ, fOS]
                  refine wpAnyH_take (i := 24) (oi := fO24) (v := .slice (some ⟨pb, po, none⟩) N pcap) rfl (by kernel_rfl) (by kernel_rfl) (by kernel_rfl) (fun _ _ _ h => h) (Or.inl ⟨by rfl, fun wz hSw => ?_⟩) hHeld2 ?_
                  · obtain ⟨_, r0, r1, r2, r3, r4, r5, r6, r7, r8, r9, r10⟩ := hSw
                    go_simp
                  simp only [Act.put, fOA, fOZ, fOS]
                  refine wpAnyH_take (i := 25) (oi := fO25) (v := .int .i64 j) rfl (by kernel_rfl) (by kernel_rfl) (by kernel_rfl) (fun _ _ _ h => h) (Or.inl ⟨by rfl, fun wz hSw => ?_⟩) hHeld2 ?_
                  · obtain ⟨_, r0, r1, r2, r3, r4, r5, r6, r7, r8, r9, r10⟩ := hSw
                    go_simp
                  simp only [Act.put, fOA, fOZ, fOS]
                  refine wpAnyH_take (i := 26) (oi := fO26) (v := .pointer (some ⟨pb, po + j, none⟩)) rfl (by kernel_rfl) (by kernel_rfl) (by kernel_rfl) (fun _ _ _ h => h) (Or.inl ⟨by rfl, fun wz hSw => ?_⟩) hHeld2 ?_
                  · obtain ⟨_, r0, r1, r2, r3, r4, r5, r6, r7, r8, r9, r10⟩ := hSw
                    go_simp
                  simp only [Act.put, fOA, fOZ, fOS]
                  refine wpAnyH_take (i := 27) (oi := fO27) (v := .int .i64 yj) rfl (by kernel_rfl) (by kernel_rfl) (by kernel_rfl) (fun _ _ _ h => h) (Or.inl ⟨by rfl, fun wz hSw => ?_⟩) hHeld2 ?_
                  · obtain ⟨_, r0, r1, r2, r3, r4, r5, r6, r7, r8, r9, r10⟩ := hSw
                    go_simp
                  simp only [Act.put, fOA, fOZ, fOS]
                  refine wpAnyH_take (i := 28) (oi := fO28) (v := .slice (some ⟨zb, zo, none⟩) N zc) rfl (by kernel_rfl) (by kernel_rfl) (by kernel_rfl) (fun _ _ _ h => h) (Or.inl ⟨by rfl, fun wz hSw => ?_⟩) hHeld2 ?_
                  · obtain ⟨_, r0, r1, r2, r3, r4, r5, r6, r7, r8, r9, r10⟩ := hSw
                    go_simp
                  simp only [Act.put, fOA, fOZ, fOS]
                  refine wpAnyH_take (i := 29) (oi := fO29) (v := .int .i64 j) rfl (by kernel_rfl) (by kernel_rfl) (by kernel_rfl) (fun _ _ _ h => h) (Or.inl ⟨by rfl, fun wz hSw => ?_⟩) hHeld2 ?_
                  · obtain ⟨_, r0, r1, r2, r3, r4, r5, r6, r7, r8, r9, r10⟩ := hSw
                    go_simp
                  simp only [Act.put, fOA, fOZ, fOS]
                  refine wpAnyH_take (i := 30) (oi := fO30) (v := .pointer (some ⟨zb, zo + j * 2, none⟩)) rfl (by kernel_rfl) (by kernel_rfl) (by kernel_rfl) (fun _ _ _ h => h) (Or.inl ⟨by rfl, fun wz hSw => ?_⟩) hHeld2 ?_
                  · obtain ⟨_, r0, r1, r2, r3, r4, r5, r6, r7, r8, r9, r10⟩ := hSw
                    go_simp
                  simp only [Act.put, fOA, fOZ, fOS]
                  refine wpAnyH_take (i := 31) (oi := fO31) (v := .agg #[.int .i64 jw, .int .i64 jh]) rfl (by kernel_rfl) (by kernel_rfl) (by kernel_rfl) (fun _ _ _ h => h) (Or.inl ⟨by rfl, fun wz hSw => ?_⟩) hHeld2 ?_
                  · obtain ⟨_, r0, r1, r2, r3, r4, r5, r6, r7, r8, r9, r10⟩ := hSw
                    go_simp
                  simp only [Act.put, fOA, fOZ, fOS]
                  refine wpAnyH_ready (rs := [32]) (by kernel_rfl) (by simp) ?_
                  refine AllReadyH.cons (o := fO32) rfl (fun K hK => ?_) AllReadyH.nil
                  rw [if_pos (by rfl)]
                  go_simp
                  go_at_call 47
                  refine (haj _).mono ?_
                  rintro e w3 ⟨rfl, b3⟩
                  go_simp
                  have B3 := below_step B2 b3
                  refine hK.out _ _ (kp _ B3) (fun hHeld3 => ?_)
                  clear hK K
                  refine wpAnyH_take (i := 33) (oi := fO33) (v := .int .i64 (yj + aj)) rfl (by kernel_rfl) (by kernel_rfl) (by kernel_rfl) (fun _ _ _ h => h) (Or.inl ⟨by rfl, fun wz hSw => ?_⟩) hHeld3 ?_
                  · obtain ⟨_, r0, r1, r2, r3, r4, r5, r6, r7, r8, r9, r10⟩ := hSw
                    go_simp
                  simp only [Act.put, fOA, fOZ, fOS]
                  refine wpAnyH_take (i := 34) (oi := fO34) (v := .bool false) rfl (by kernel_rfl) (by kernel_rfl) (by kernel_rfl) (fun _ _ _ h => h) (Or.inl ⟨by rfl, fun wz hSw => ?_⟩) hHeld3 ?_
                  · obtain ⟨_, r0, r1, r2, r3, r4, r5, r6, r7, r8, r9, r10⟩ := hSw
                    go_simp
                  simp only [Act.put, fOA, fOZ, fOS]
                  refine wpAnyH_take (i := 35) (oi := fO35) (v := .bool false) rfl (by kernel_rfl) (by kernel_rfl) (by kernel_rfl) (fun _ _ _ h => h) (Or.inl ⟨by rfl, fun wz hSw => ?_⟩) hHeld3 ?_
                  · obtain ⟨_, r0, r1, r2, r3, r4, r5, r6, r7, r8, r9, r10⟩ := hSw
                    go_simp
                  simp only [Act.put, fOA, fOZ, fOS]
                  refine wpAnyH_take (i := 36) (oi := fO36) (v := .bool false) rfl (by kernel_rfl) (by kernel_rfl) (by kernel_rfl) (fun _ _ _ h => h) (Or.inl ⟨by rfl, fun wz hSw => ?_⟩) hHeld3 ?_
                  · obtain ⟨_, r0, r1, r2, r3, r4, r5, r6, r7, r8, r9, r10⟩ := hSw
                    go_simp
                  simp only [Act.put, fOA, fOZ, fOS]
                  refine wpAnyH_take (i := 37) (oi := fO37) (v := undef) rfl (by kernel_rfl) (by kernel_rfl) (by kernel_rfl) (fun _ _ _ h => h) (Or.inr ⟨by rfl, rfl⟩) hHeld3 ?_
                  simp only [Act.put, fOA, fOZ, fOS]
                  refine wpAnyH_take (i := 38) (oi := fO38) (v := undef) rfl (by kernel_rfl) (by kernel_rfl) (by kernel_rfl) (fun _ _ _ h => h) (Or.inr ⟨by rfl, rfl⟩) hHeld3 ?_
                  simp only [Act.put, fOA, fOZ, fOS]
                  refine wpAnyH_take (i := 39) (oi := fO39) (v := undef) rfl (by kernel_rfl) (by kernel_rfl) (by kernel_rfl) (fun _ _ _ h => h) (Or.inr ⟨by rfl, rfl⟩) hHeld3 ?_
                  simp only [Act.put, fOA, fOZ, fOS]
                  refine wpAnyH_take (i := 40) (oi := fO40) (v := undef) rfl (by kernel_rfl) (by kernel_rfl) (by kernel_rfl) (fun _ _ _ h => h) (Or.inr ⟨by rfl, rfl⟩) hHeld3 ?_
                  simp only [Act.put, fOA, fOZ, fOS]
                  refine wpAnyH_take (i := 41) (oi := fO41) (v := undef) rfl (by kernel_rfl) (by kernel_rfl) (by kernel_rfl) (fun _ _ _ h => h) (Or.inr ⟨by rfl, rfl⟩) hHeld3 ?_
                  simp only [Act.put, fOA, fOZ, fOS]
                  refine wpAnyH_take (i := 42) (oi := fO42) (v := undef) rfl (by kernel_rfl) (by kernel_rfl) (by kernel_rfl) (fun _ _ _ h => h) (Or.inr ⟨by rfl, rfl⟩) hHeld3 ?_
                  simp only [Act.put, fOA, fOZ, fOS]
                  refine wpAnyH_take (i := 43) (oi := fO43) (v := undef) rfl (by kernel_rfl) (by kernel_rfl) (by kernel_rfl) (fun _ _ _ h => h) (Or.inr ⟨by rfl, rfl⟩) hHeld3 ?_
                  simp only [Act.put, fOA, fOZ, fOS]
                  refine wpAnyH_take (i := 44) (oi := fO44) (v := undef) rfl (by kernel_rfl) (by kernel_rfl) (by kernel_rfl) (fun _ _ _ h => h) (Or.inr ⟨by rfl, rfl⟩) hHeld3 ?_
                  simp only [Act.put, fOA, fOZ, fOS]
                  refine wpAnyH_take (i := 45) (oi := fO45) (v := undef) rfl (by kernel_rfl) (by kernel_rfl) (by kernel_rfl) (fun _ _ _ h => h) (Or.inr ⟨by rfl, rfl⟩) hHeld3 ?_
                  simp only [Act.put, fOA, fOZ, fOS]
                  refine wpAnyH_take (i := 46) (oi := fO46) (v := undef) rfl (by kernel_rfl) (by kernel_rfl) (by kernel_rfl) (fun _ _ _ h => h) (Or.inr ⟨by rfl, rfl⟩) hHeld3 ?_
                  simp only [Act.put, fOA, fOZ, fOS]
                  refine wpAnyH_take (i := 47) (oi := fO47) (v := undef) rfl (by kernel_rfl) (by kernel_rfl) (by kernel_rfl) (fun _ _ _ h => h) (Or.inr ⟨by rfl, rfl⟩) hHeld3 ?_
                  simp only [Act.put, fOA, fOZ, fOS]
                  refine wpAnyH_take (i := 48) (oi := fO48) (v := undef) rfl (by kernel_rfl) (by kernel_rfl) (by kernel_rfl) (fun _ _ _ h => h) (Or.inr ⟨by rfl, rfl⟩) hHeld3 ?_
                  simp only [Act.put, fOA, fOZ, fOS]
                  refine wpAnyH_take (i := 49) (oi := fO49) (v := undef) rfl (by kernel_rfl) (by kernel_rfl) (by kernel_rfl) (fun _ _ _ h => h) (Or.inr ⟨by rfl, rfl⟩) hHeld3 ?_
                  simp only [Act.put, fOA, fOZ, fOS]
                  refine wpAnyH_take (i := 50) (oi := fO50) (v := undef) rfl (by kernel_rfl) (by kernel_rfl) (by kernel_rfl) (fun _ _ _ h => h) (Or.inr ⟨by rfl, rfl⟩) hHeld3 ?_
                  simp only [Act.put, fOA, fOZ, fOS]
                  refine wpAnyH_take (i := 51) (oi := fO51) (v := undef) rfl (by kernel_rfl) (by kernel_rfl) (by kernel_rfl) (fun _ _ _ h => h) (Or.inr ⟨by rfl, rfl⟩) hHeld3 ?_
                  simp only [Act.put, fOA, fOZ, fOS]
                  refine wpAnyH_take (i := 52) (oi := fO52) (v := undef) rfl (by kernel_rfl) (by kernel_rfl) (by kernel_rfl) (fun _ _ _ h => h) (Or.inr ⟨by rfl, rfl⟩) hHeld3 ?_
                  simp only [Act.put, fOA, fOZ, fOS]
                  refine wpAnyH_take (i := 53) (oi := fO53) (v := undef) rfl (by kernel_rfl) (by kernel_rfl) (by kernel_rfl) (fun _ _ _ h => h) (Or.inr ⟨by rfl, rfl⟩) hHeld3 ?_
                  simp only [Act.put, fOA, fOZ, fOS]
                  refine wpAnyH_take (i := 54) (oi := fO54) (v := .bool false) rfl (by kernel_rfl) (by kernel_rfl) (by kernel_rfl) (fun _ _ _ h => h) (Or.inl ⟨by rfl, fun wz hSw => ?_⟩) hHeld3 ?_
                  · obtain ⟨_, r0, r1, r2, r3, r4, r5, r6, r7, r8, r9, r10⟩ := hSw
                    go_simp
                  simp only [Act.put, fOA, fOZ, fOS]
                  refine wpAnyH_done (by kernel_rfl) ?_ _
                  go_wp2
                  go_roundw
                  case rel => exact ⟨j + 1, by omega, by go_num, HA1.out (by rw [HAP.out] <;> first | rfl | simp), below_step hbr0 B3⟩
                  case measure => simp [intOf]; omega
          · have hje : j = k := by omega
            subst hje
            go_wp2
            go_roundw
            case rel => exact ⟨j + 1, by omega, by go_num, HA.out (by rw [HFK.out, hallj]), hbr0⟩
            case measure => simp [intOf]; omega
    · have hke : k = N := by omega
      subst hke
      go_wp2
      go_ret
      exact ⟨by rw [HFT.out, hall]; rfl, below_step hb1 hbr⟩
end Go.Proofs.YtihliofhhjjeaaaGreat
