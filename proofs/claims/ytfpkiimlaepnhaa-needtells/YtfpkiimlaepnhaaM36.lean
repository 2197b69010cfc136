/- HasRef, SourcesRef, ImagesRef: joined, in this order. -/
import Derived.Test.YtfpkiimlaepnhaaM33
import Derived.Test.YtfpkiimlaepnhaaM30
import Derived.Test.YtfpkiimlaepnhaaM34
import Derived.Test.YtfpkiimlaepnhaaM35
import Derived.Deep.RegionLaw
/-
  HASREF: the reference's has, and the slots of a pass.
-/
namespace Go.Proofs.Ytfpkiimlaepnhaa
set_option maxRecDepth 100000
open Go.RowKit Im

theorem has_any (op : Int) (w : World) : Calls Try.prog 86 #[.int .i64 op] w fun e w' => e = .returned (.tuple #[.bool (hasA op), .bool (hasB op), .bool (hasK op), .bool (hasL op)]) ∧ w = w' := by
  have hA : withinB op 3 13 = hasA op := rfl
  have hw := fun wx => within_any op 3 13 wx
  have ht := fun wx => isTwo_any' op wx
  rw [hA] at hw
  by_cases hk : knownB op = true
  · rcases op_cases hk with rfl | rfl | rfl | rfl | rfl | rfl | rfl | rfl | rfl | rfl | rfl | rfl | rfl
    all_goals
      clear hk hA
      go_enter Try.func86, Try.ntmps86
      go_wp2_with (first
        | (go_at_call 61; refine (hw _).mono ?_; rintro e w' ⟨rfl, rfl⟩)
        | (go_at_call 26; refine (ht _).mono ?_; rintro e w' ⟨rfl, rfl⟩))
      exact bodyPost_ret (by simp [results, Try.results86, go_sem]; decide) rfl ⟨rfl, rfl⟩
  · have hn : op < 1 ∨ 13 < op := by simp [knownB, withinB] at hk; omega
    have e3 : hasK op = false := by simp [hasK]; omega
    have e4 : hasL op = false := by simp [hasL]; omega
    have n1 : ¬ op = 1 := by omega
    have n2 : ¬ op = 2 := by omega
    have n8 : ¬ op = 8 := by omega
    have n9 : ¬ op = 9 := by omega
    have n13 : ¬ op = 13 := by omega
    have m13 : (op == 13) = false := by simpa using n13
    rw [e3, e4]
    clear hn e3 e4 hk hA
    go_enter Try.func86, Try.ntmps86
    go_wp2_with (first
      | (go_at_call 61; refine (hw _).mono ?_; rintro e w' ⟨rfl, rfl⟩)
      | (go_at_call 26; refine (ht _).mono ?_; rintro e w' ⟨rfl, rfl⟩))
    exact bodyPost_ret (by simp [results, Try.results86, go_sem]; exact ⟨⟨⟨n1, n2⟩, n8⟩, n9⟩) rfl ⟨rfl, rfl⟩
theorem slot_any (W H S O : Int) (a : Option Addr) (len cap : Nat) (w : World) (b : Nat) (n : Int) (hB : FBox w b W H S O a len cap) (hS : 1 ≤ S ∧ S ≤ 8) : Calls Try.prog 113 #[.int .i64 n, .pointer (some ⟨b, 0, none⟩)] w fun e w' => e = .returned (.bool (slotB n S)) ∧ w = w' := by
  obtain ⟨_, g0, g1, g2, g3, g4⟩ := hB
  have hw : IntKind.i64.wrap (S - 1) = S - 1 := by rw [IntKind.wrap_i64]; omega
  go_enter Try.func113, Try.ntmps113
  go_wp2_with (go_at_call 61; refine (within_any _ _ _ _).mono ?_; rintro e w' ⟨rfl, rfl⟩)
  go_ret
  exact ⟨rfl, rfl⟩
end Go.Proofs.Ytfpkiimlaepnhaa
/-
  SOURCESREF: the reference's SourcesOf: of each pass, which passes made what it takes.
-/
namespace Go.Proofs.Ytfpkiimlaepnhaa
set_option maxRecDepth 100000
open Go.RowKit Im

theorem ll_push {base : Nat} {wr w3 : World} {v2 v' u : Value} {ss : List (List Int)} {is : List Int} {us : List Value} (hu : Owns base wr u is) (hg : wr.grownBy w3 v2.ownBlock) (hus : wr.ownsRow base 22 1 v2 ss.length us) (hul : us.length = ss.length)
    (hue : ∀ (j : Nat) (x : List Int), ss[j]? = some x → ∃ u, us[j]? = some u ∧ Owns base wr u x) (h' : w3.ownsRow base 22 1 v' (ss.length + 1) (us ++ [u])) : OwnsLL base w3 v' (ss ++ [is]) := by
  have keep : ∀ {u : Value} {is : List Int}, Owns base wr u is → Owns base w3 u is := fun ho => World.ownsRow.kept ho hg (rows_apart ho hus (by decide))
  refine ⟨us ++ [u], by simpa using h', by simp [hul], fun j x hj => ?_⟩
  by_cases hjl : j < ss.length
  · rw [List.getElem?_append_left hjl] at hj
    obtain ⟨u', hu', ho'⟩ := hue j x hj
    exact ⟨u', by rw [List.getElem?_append_left (by omega)]; exact hu', keep ho'⟩
  · have hje : j = ss.length := by
      rcases Nat.lt_or_ge j (ss ++ [is]).length with hh | hh
      · simp at hh; omega
      · rw [List.getElem?_eq_none hh] at hj; cases hj
    subst hje
    have : x = is := by simpa using hj.symm
    subst this
    exact ⟨u, by rw [← hul]; simp, keep hu⟩
/-- The call's end tells the lists ss, in a slice of its own. -/
def ToldLL (w : World) (ss : List (List Int)) (e : Ending) (w' : World) : Prop :=
  (∃ v, e = .returned v ∧ OwnsLL w.heap.size w' v ss) ∧ Below w.heap.size w w'
set_option maxHeartbeats 4000000 in
theorem sourcesOfRef_any (W H S O : Int) (a : Option Addr) (len cap : Nat) (ps : List Ps) (w : World) (hp : Passes w a len ps) (hlen : len ≤ 12) :
    Calls Try.prog 42 #[.agg #[.int .i64 W, .int .i64 H, .int .i64 S, .int .i64 O, .slice a len cap]] w (ToldLL w (srcs ps len)) := by
  obtain ⟨i0, hi, hz0, hz1, hz2⟩ := info_parts Try.info3
  obtain ⟨l0, li, lz0, lz1, lz2⟩ := info_parts Try.infoInts
  have hB := FBox.new w W H S O a len cap
  have hb0 := below_box (Below.refl w.heap.size w) (.cells #[.int .i64 W, .int .i64 H, .int .i64 S, .int .i64 O, .slice a len cap] 63)
  have hp1 := hp.below hb0
  have hs1 : (w.alloc (.cells #[.int .i64 W, .int .i64 H, .int .i64 S, .int .i64 O, .slice a len cap] 63)).heap.size = w.heap.size + 1 := by simp
  clear hp
  go_enter Try.func42, Try.ntmps42
  go_wp2
  generalize w.alloc (.cells #[.int .i64 W, .int .i64 H, .int .i64 S, .int .i64 O, .slice a len cap] 63) = w1 at hB hb0 hp1 hs1 ⊢
  go_loopw [3, 4] (fun v i wr => ∃ k : Nat, k ≤ len ∧ i = .int .i64 k ∧ OwnsLL w1.heap.size wr v (srcs ps k) ∧ Below w1.heap.size w1 wr) (fun _ i _ => len - (intOf i).toNat)
  case atStart => exact ⟨0, Nat.zero_le _, rfl, OwnsLL.nil _ _, Below.refl _ _⟩
  case round =>
    obtain ⟨k, hk, rfl, hown, hbr⟩ := hrel
    have hBr := hB.below hbr
    have hpr := hp1.below hbr
    by_cases hlt : k < len
    · have H7 : Hid (srcOf ps k = (takesP (ps.getD k Ps.zero)).map (wrt ps k)) := rfl
      have H8 : Hid (srcs ps (k + 1) = srcs ps k ++ [srcOf ps k]) := srcs_succ ps k
      have H13 : Hid ((srcs ps k).length = k) := srcs_length _ _
      have hwr := fun (s : Int) wx (hx : Passes wx a len ps) => writer_any W H S O a len cap ps k s wx hx (by omega)
      generalize wrt ps k = q at hwr H7
      generalize srcs ps k = ss at hown H8 H13
      generalize srcOf ps k = sr at H7 H8
      obtain ⟨b, off, la, ll, lc, rfl, p0, p1, p2, p3, p4, p5, hLi⟩ := hpr.nth hlt
      generalize ps.getD k Ps.zero = p at p0 p1 p2 p3 p4 p5 hLi H7
      obtain ⟨Op, To, A, B, K, ls⟩ := p
      dsimp only at p0 p1 p2 p3 p4 p5 hLi
      have hh := fun wx => has_any Op wx
      have hab : hasB Op = true → hasA Op = true := by simp [hasA, hasB, withinB]; omega
      have hBp := hBr.alloc (.cells #[.int .i64 Op, .int .i64 To, .int .i64 A, .int .i64 B, .int .i64 K, .slice la ll lc] 88)
      have hPp := PBox.new wr Op To A B K la ll lc
      have hpp := hpr.below ((Below.refl _ _).alloc (Nat.le_refl _) (.cells #[.int .i64 Op, .int .i64 To, .int .i64 A, .int .i64 B, .int .i64 K, .slice la ll lc] 88))
      have hbp := hbr.alloc hbr.size (.cells #[.int .i64 Op, .int .i64 To, .int .i64 A, .int .i64 B, .int .i64 K, .slice la ll lc] 88)
      have howp := hown.below ((Below.refl _ _).alloc (Nat.le_refl _) (.cells #[.int .i64 Op, .int .i64 To, .int .i64 A, .int .i64 B, .int .i64 K, .slice la ll lc] 88))
      obtain ⟨_, g0, g1, g2, g3, g4⟩ := id hBr
      unfold takesP at H7
      dsimp only at H7
      generalize hasA Op = xa at hh H7 hab
      generalize hasB Op = xb at hh H7 hab
      generalize hasK Op = xk at hh
      generalize hasL Op = xl at hh
      go_upto_region 8 with (go_at_call 86; refine (hh _).mono ?_; rintro e w' ⟨rfl, rfl⟩)
      clear g0 g1 g2 g3 g4 p0 p1 p2 p3 p4 p5 hh hBr hpr hown hbr hLi
      generalize wr.alloc (.cells #[.int .i64 Op, .int .i64 To, .int .i64 A, .int .i64 B, .int .i64 K, .slice la ll lc] 88) = wA at hBp hPp hpp hbp howp ⊢
      cases xa
      · have hxb : xb = false := by cases xb; · rfl
                                    · exact absurd (hab rfl) (by decide)
        subst hxb
        have H7' : Hid (sr = []) := H7
        go_upto_region 12 with fail
        have hsr := H7'.out
        subst hsr
        have hfX := (howp).below ((Below.refl _ wA).alloc (Nat.le_refl _) (.cells #[.slice none 0 0] 22))
        have huX := World.ownsRow.alloc (World.ownsRow_nil wA w1.heap.size 3 1) (.cells #[.slice none 0 0] 22)
        have hbX : Below w1.heap.size w1 wA := hbp
        have hsX := hbX.size
        obtain ⟨us, hus, hul, hue⟩ := hfX
        go_wp2_with (at_builtin; refine wpList_append_own _ rfl _ _ 67 rfl w1.heap.size 22 l0 _ 1 24 Try.underlying67 li lz0 lz1 lz2 rfl (by decide) _ _ _ rfl hus ⟨wA.heap.size, 0, none⟩ 1 1 [.slice none 0 0] rfl rfl (cell_one_new _ _ _) (by intro u hu; simp at hu; subst hu; rfl) (by rw [H13.out]; unfold maxLen; omega) (by rw [H13.out]; omega) (by simp; omega) ?_; intro vY wY hownY hgrowY _)
        have RR := ll_push (is := []) (show Owns w1.heap.size _ _ [] from huX) hgrowY hus hul hue hownY
        have hbY := (hbX.alloc hsX (.cells #[.slice none 0 0] 22)).grown hgrowY (by simp; omega) (fun j hj => (World.ownsRow.lt hus j hj).1)
        go_roundw
        case rel => exact ⟨k + 1, by omega, by go_num, by rw [H8.out]; exact RR, hbY⟩
        case measure => simp [intOf]; omega
      · obtain ⟨_, g0, g1, g2, g3, g4⟩ := id hBp
        obtain ⟨_, p0, p1, p2, p3, p4, p5⟩ := id hPp
        go_upto_region 10 with (first
          | (go_at_call 87; refine (hwr _ _ hpp).mono ?_; rintro e wB ⟨rfl, bB⟩)
          | (at_builtin; refine wpList_append_own _ rfl _ _ 22 rfl wB.heap.size 3 i0 (.int .i64 0) 1 8 Try.underlying22 hi hz0 hz1 hz2 rfl (by decide) _ _ _ rfl (World.ownsRow_nil _ _ _ _) ⟨wB.heap.size, 0, none⟩ 1 1 [.int .i64 (q A)] rfl rfl (cell_one_new _ _ _) (by intro u hu; simp at hu; subst hu; rfl) (by unfold maxLen; omega) (by omega) (by simp; try omega) ?_; intro vC wC hownC hgrowC _; obtain ⟨aC, capC, hvC⟩ := owns_slice hownC; subst hvC))
        have bC : Below wB.heap.size wB wC := ((Below.refl _ wB).alloc (Nat.le_refl _) _).grown hgrowC (by simp) (fun j hj => by cases hj)
        clear g0 g1 g2 g3 g4 p0 p1 p2 p3 p4 p5 hgrowC
        have bAC := below_step bB bC
        have hsz : w1.heap.size ≤ wB.heap.size := Nat.le_trans hbp.size bB.size
        have howC := (howp.below bB).below bC
        cases xb
        · have H7' : Hid (sr = [q A]) := H7
          go_upto_region 12 with fail
          have hsr := H7'.out
          subst hsr
          have hfX := (howC).below ((Below.refl _ wC).alloc (Nat.le_refl _) (.cells #[.slice aC (0 + 1) capC] 22))
          have huX := World.ownsRow.alloc (row_mono hownC hsz) (.cells #[.slice aC (0 + 1) capC] 22)
          have hbX : Below w1.heap.size w1 wC := hbp.trans (bAC.mono hbp.size)
          have hsX := hbX.size
          obtain ⟨us, hus, hul, hue⟩ := hfX
          go_wp2_with (at_builtin; refine wpList_append_own _ rfl _ _ 67 rfl w1.heap.size 22 l0 _ 1 24 Try.underlying67 li lz0 lz1 lz2 rfl (by decide) _ _ _ rfl hus ⟨wC.heap.size, 0, none⟩ 1 1 [.slice aC (0 + 1) capC] rfl rfl (cell_one_new _ _ _) (by intro u hu; simp at hu; subst hu; rfl) (by rw [H13.out]; unfold maxLen; omega) (by rw [H13.out]; omega) (by simp; omega) ?_; intro vY wY hownY hgrowY _)
          have RR := ll_push (is := [q A]) (show Owns w1.heap.size _ _ [q A] from huX) hgrowY hus hul hue hownY
          have hbY := (hbX.alloc hsX (.cells #[.slice aC (0 + 1) capC] 22)).grown hgrowY (by simp; omega) (fun j hj => (World.ownsRow.lt hus j hj).1)
          go_roundw
          case rel => exact ⟨k + 1, by omega, by go_num, by rw [H8.out]; exact RR, hbY⟩
          case measure => simp [intOf]; omega
        · have H7' : Hid (sr = [q A, q B]) := H7
          obtain ⟨_, g0, g1, g2, g3, g4⟩ := hBp.below bAC
          obtain ⟨_, p0, p1, p2, p3, p4, p5⟩ := hPp.below bAC
          have hpC := hpp.below bAC
          go_upto_region 12 with (first
            | (go_at_call 87; refine (hwr _ _ hpC).mono ?_; rintro e wD ⟨rfl, bD⟩)
            | (at_builtin; refine wpList_append_own _ rfl _ _ 22 rfl wB.heap.size 3 i0 (.int .i64 0) 1 8 Try.underlying22 hi hz0 hz1 hz2 rfl (by decide) _ _ _ rfl (World.ownsRow.alloc (ownsRow_below hownC bD (Nat.le_refl _)) _) ⟨wD.heap.size, 0, none⟩ 1 1 [.int .i64 (q B)] rfl rfl (cell_one_new _ _ _) (by intro u hu; simp at hu; subst hu; rfl) (by unfold maxLen; omega) (by omega) (by have h1 := bC.size; have h2 := bD.size; simp; omega) ?_; intro vE wE hownE hgrowE _; obtain ⟨aE, capE, hvE⟩ := owns_slice hownE; subst hvE))
          have bE : Below wB.heap.size wB wE := ((bC.trans (bD.mono bC.size)).alloc (Nat.le_trans bC.size bD.size) _).grown hgrowE (by have h1 := bC.size; have h2 := bD.size; simp; omega) (fun j hj => (World.ownsRow.lt (w := wC) hownC j hj).1)
          clear g0 g1 g2 g3 g4 p0 p1 p2 p3 p4 p5 hgrowE
          have hsr := H7'.out
          subst hsr
          have hfX := (((howp.below bB).below bE)).below ((Below.refl _ wE).alloc (Nat.le_refl _) (.cells #[.slice aE (0 + 1 + 1) capE] 22))
          have huX := World.ownsRow.alloc (row_mono hownE hsz) (.cells #[.slice aE (0 + 1 + 1) capE] 22)
          have hbX : Below w1.heap.size w1 wE := hbp.trans ((below_step bB bE).mono hbp.size)
          have hsX := hbX.size
          obtain ⟨us, hus, hul, hue⟩ := hfX
          go_wp2_with (at_builtin; refine wpList_append_own _ rfl _ _ 67 rfl w1.heap.size 22 l0 _ 1 24 Try.underlying67 li lz0 lz1 lz2 rfl (by decide) _ _ _ rfl hus ⟨wE.heap.size, 0, none⟩ 1 1 [.slice aE (0 + 1 + 1) capE] rfl rfl (cell_one_new _ _ _) (by intro u hu; simp at hu; subst hu; rfl) (by rw [H13.out]; unfold maxLen; omega) (by rw [H13.out]; omega) (by simp; omega) ?_; intro vY wY hownY hgrowY _)
          have RR := ll_push (is := [q A, q B]) (show Owns w1.heap.size _ _ [q A, q B] from huX) hgrowY hus hul hue hownY
          have hbY := (hbX.alloc hsX (.cells #[.slice aE (0 + 1 + 1) capE] 22)).grown hgrowY (by simp; omega) (fun j hj => (World.ownsRow.lt hus j hj).1)
          go_roundw
          case rel => exact ⟨k + 1, by omega, by go_num, by rw [H8.out]; exact RR, hbY⟩
          case measure => simp [intOf]; omega
    · have hke : k = len := by omega
      subst hke
      obtain ⟨a2, c2, rfl⟩ : ∃ a cap, _ = Value.slice a (srcs ps k).length cap := by obtain ⟨us, h1, _⟩ := id hown; exact owns_slice h1
      obtain ⟨_, g0, g1, g2, g3, g4⟩ := id hBr
      go_wp2
      go_ret
      exact ⟨⟨_, rfl, hown.mono hb0.size⟩, below_step hb0 hbr⟩
end Go.Proofs.Ytfpkiimlaepnhaa
/-
  IMAGESREF: the reference's Images.
-/
namespace Go.Proofs.Ytfpkiimlaepnhaa
set_option maxRecDepth 100000
open Go.RowKit Im

/-- An append to a row of the call's own, as one step of a region that draws; and where the row lies behind it. -/
theorem step_append_at {P : Program} {ops : Array Oper} {o : Oper} {a : Act} {w : World} {K : Act → World → Prop} {Q : Exit → Act → World → Prop} {E : Prop}
    (hg : o.guard = none) (s x : Operand) (t : TypeId) (ho : o.op = .call { callee := .builtin .append, args := #[s, x], argTypes := #[t, t] })
    (base : Nat) (e : TypeId) (i : TypeInfo) (z : Value) (size bytes : Nat) (ht : P.underlying t = some (.slice e)) (hi : P.info? e = some i) (hz : i.zero = some z)
    (hsize : i.size = size) (hby : i.bytes = bytes) (hzs : z.cells.size = size) (hsz : 0 < size)
    (v : Value) (n : Nat) (xs : List Value) (hs : a.eval s = v) (hown : w.ownsRow base e size v n xs)
    (ad : Addr) (m c : Nat) (news : List Value) (hx : a.eval x = .slice (some ad) m c) (hl : news.length = m * size) (hnews : ∀ j u, news[j]? = some u → w.cell? (ad.add j) = some u) (h1 : ∀ u ∈ news, u.oneCell' = true)
    (h63 : n + m ≤ maxLen) (hbytes : (n + m) * bytes ≤ 140737488355328) (hbase : base ≤ w.heap.size)
    (hK : ∀ v' w', w'.ownsRow base e size v' (n + m) (xs ++ news) → w.grownBy w' v.ownBlock → (v'.ownBlock = v.ownBlock ∨ v'.ownBlock = some w.heap.size) → K (a.put o.dst v') w') :
    if Region.wanted o (yielded ops a.tmps) = true then Oper.wp P o a w K Q else E := by
  have hw : Region.wanted o (yielded ops a.tmps) = true := by simp [Region.wanted, hg]
  rw [if_pos hw]
  obtain ⟨v', w', hr, h2, h3, h4, h5⟩ := run_append_own_at (P := P) w base t o.type e i z size bytes ht hi hz hsize hby hzs hsz v n xs hown ad m c news hl hnews h1 h63 hbytes hbase
  unfold Oper.wp execOp
  simp only [ho, resolve, invoke, builtin, Sem.run_bind, Sem.run_pure, Result.andThen_ok, List.map_toArray, List.map_cons, List.map_nil, hs, hx, hr]
  exact hK _ _ h2 h3 h5
/-- An image's numbers lie in memory, in no block of the row v. -/
def Px (base : Nat) (w : World) (v : Value) (x : Res × Option Addr × Nat) : Prop :=
  x.1.ps.length ≤ 9223372036854775807 ∧ (x.1.ps = [] ∨ ∃ b off, x.2.1 = some ⟨b, off, none⟩ ∧ base ≤ b ∧ b < w.heap.size ∧ v.ownBlock ≠ some b ∧ ∀ j, j < x.1.ps.length → w.cell? ⟨b, off + j, none⟩ = some (.int .i64 (x.1.ps.getD j 0)))
theorem Px.ints {base : Nat} {w : World} {v : Value} {x : Res × Option Addr × Nat} (h : Px base w v x) : Ints base w x.2.1 x.1.ps.length x.1.ps := by
  obtain ⟨h0, h1⟩ := h
  refine ⟨rfl, h0, ?_⟩
  rcases h1 with h1 | ⟨b, off, ha, hB, hb, _, hc⟩
  · exact .inl h1
  · exact .inr ⟨b, off, ha, hB, hb, hc⟩
theorem Px.mono {base base' : Nat} {w : World} {v : Value} {x : Res × Option Addr × Nat} (h : Px base w v x) (hb : base' ≤ base) : Px base' w v x := by
  obtain ⟨h0, h1⟩ := h
  refine ⟨h0, ?_⟩
  rcases h1 with h1 | ⟨b, off, ha, hB, r⟩
  · exact .inl h1
  · exact .inr ⟨b, off, ha, Nat.le_trans hb hB, r⟩
theorem Px.of {base : Nat} {w : World} {v : Value} {B : Nat} {r : Res} {a : Option Addr} {c : Nat} (h : Ints B w a r.ps.length r.ps) (hB : base ≤ B) (hv : ∀ j, v.ownBlock = some j → j < B) : Px base w v (r, a, c) := by
  refine ⟨h.big, ?_⟩
  rcases h.cells with h1 | ⟨b, off, ha, hb0, hb, hc⟩
  · exact .inl h1
  · exact .inr ⟨b, off, ha, Nat.le_trans hB hb0, hb, fun e => by have := hv b e; omega, hc⟩
theorem Px.below {base : Nat} {w w' : World} {v : Value} {x : Res × Option Addr × Nat} (h : Px base w v x) (hb : Below w.heap.size w w') : Px base w' v x := by
  obtain ⟨h0, h1⟩ := h
  refine ⟨h0, ?_⟩
  rcases h1 with h1 | ⟨b, off, ha, hB, hl, hv, hc⟩
  · exact .inl h1
  · exact .inr ⟨b, off, ha, hB, Nat.lt_of_lt_of_le hl hb.size, hv, fun j hj => (hb.cell (p := ⟨b, off + j, none⟩) hl).trans (hc j hj)⟩
theorem Px.grown {base : Nat} {w w' : World} {v v' : Value} {x : Res × Option Addr × Nat} (h : Px base w v x) (hg : w.grownBy w' v.ownBlock) (hv' : v'.ownBlock = v.ownBlock ∨ v'.ownBlock = some w.heap.size) : Px base w' v' x := by
  obtain ⟨h0, h1⟩ := h
  refine ⟨h0, ?_⟩
  rcases h1 with h1 | ⟨b, off, ha, hB, hl, hv, hc⟩
  · exact .inl h1
  · refine .inr ⟨b, off, ha, hB, Nat.lt_of_lt_of_le hl hg.size, ?_, fun j hj => (grown_cell hg hl (fun e => hv e.symm) (off + j)).1.trans (hc j hj)⟩
    rcases hv' with e | e
    · rw [e]; exact hv
    · rw [e]; intro e'; injection e' with e'; omega
/-- The row v of images, and their numbers. -/
def RowI (base : Nat) (w : World) (v : Value) (L : Lr) : Prop := OwnsR base w v L ∧ ∀ x ∈ L, Px base w v x
theorem RowI.below {base : Nat} {w w' : World} {v : Value} {L : Lr} (h : RowI base w v L) (hb : Below w.heap.size w w') : RowI base w' v L :=
  ⟨ownsRow_below h.1 hb (Nat.le_refl _), fun x hx => (h.2 x hx).below hb⟩
theorem RowI.nil (base : Nat) (w : World) : RowI base w (.slice none 0 0) [] := ⟨World.ownsRow_nil _ _ _ _, fun x hx => by cases hx⟩
theorem RowI.lt {base : Nat} {w : World} {v : Value} {L : Lr} (h : RowI base w v L) : ∀ j, v.ownBlock = some j → base ≤ j ∧ j < w.heap.size := fun j hj => World.ownsRow.lt (w := w) h.1 j hj
theorem RowI.push {base : Nat} {w w1 : World} {v v' : Value} {L : Lr} {x : Res × Option Addr × Nat} (h : RowI base w v L) (hx : Px base w v x)
    (h' : w1.ownsRow base 24 3 v' (L.length + 1) (rcells L ++ [.int .i64 x.1.W, .int .i64 x.1.H, .slice x.2.1 x.1.ps.length x.2.2])) (hg : w.grownBy w1 v.ownBlock) (hl : v'.ownBlock = v.ownBlock ∨ v'.ownBlock = some w.heap.size) : RowI base w1 v' (L ++ [x]) := by
  refine ⟨by unfold OwnsR; rw [rcells_snoc]; simpa using h', fun y hy => ?_⟩
  rcases List.mem_append.1 hy with h1 | h1
  · exact (h.2 y h1).grown hg hl
  · rw [List.mem_singleton] at h1; subst h1; exact hx.grown hg hl
/-- The reference's Made. -/
theorem made_any (W H S O : Int) (a : Option Addr) (len cap : Nat) {Op : Int} (To A B : Int) {K : Int} {la : Option Addr} {ll : Nat} (lc : Nat) {ls : List Lt} {fa : Option Addr} {flen : Nat} (fcap : Nat) {fr : List Res} {bi : Nat} {w : World} {z : Sz} (hk : knownB Op = true) (hL : Lights w la ll ls) (hI : Imgs bi w fa flen fr) (hA : hasA Op = true → 1 ≤ flen) (hB : hasB Op = true → 2 ≤ flen) (hz : Op = 1 ∨ Op = 2 → z = (W, H)) (hr : (paintRes ⟨Op, To, A, B, K, ls⟩ z fr).E = 0) :
    Calls Try.prog 115 #[.agg #[.int .i64 W, .int .i64 H, .int .i64 S, .int .i64 O, .slice a len cap], .agg #[.int .i64 Op, .int .i64 To, .int .i64 A, .int .i64 B, .int .i64 K, .slice la ll lc], .slice fa flen fcap] w (ToldM w (paintRes ⟨Op, To, A, B, K, ls⟩ z fr)) := by
  unfold paintRes at hr ⊢
  by_cases h12 : Op = 1 ∨ Op = 2
  · rw [if_pos h12] at hr ⊢
    rw [hz h12] at hr ⊢
    exact made_make W H S O a len cap Op To A B K la ll lc fa flen fcap w h12 hr
  · have hA1 : hasA Op = true := by simp [knownB, withinB] at hk; simp [hasA, withinB]; omega
    have hfl := hA hA1
    obtain ⟨b, off, pa, pc, rfl, hb, d0, d1, d2, hi⟩ := hI.nth (k := 0) (by omega)
    rw [Nat.zero_mul, Nat.add_zero] at d0 d1 d2
    rw [if_neg h12] at hr ⊢
    by_cases hB1 : hasB Op = true
    · have hf2 := hB hB1
      obtain ⟨b', off', qa, qc, e, _, g0, g1, g2, hj⟩ := hI.nth (k := 1) (by omega)
      injection e with e
      injection e with e1 e2
      subst e1 e2
      rw [Nat.one_mul] at g0 g1 g2
      have hop : Op = 4 ∨ Op = 5 ∨ Op = 6 ∨ Op = 7 := by simp [hasB, withinB] at hB1; omega
      rw [if_pos hB1] at hr ⊢
      exact made_two W H S O a len cap Op To A B K la ll lc flen fcap w hop b off hb (by omega) (by omega) _ _ pa pc _ d0 d1 d2 (hi.mono (Nat.zero_le _)) _ _ qa qc _ g0 g1 g2 (hj.mono (Nat.zero_le _)) hr
    · rw [if_neg hB1] at hr ⊢
      by_cases h13 : Op = 13
      · subst h13
        rw [if_pos rfl] at hr ⊢
        exact made_lit W H S O a len cap To A B K la ll lc ls flen fcap w hL b off hb (by omega) _ _ pa pc _ d0 d1 d2 (hi.mono (Nat.zero_le _)) hr
      · rw [if_neg h13] at hr ⊢
        have hop : Op = 3 ∨ Op = 8 ∨ Op = 9 ∨ Op = 10 ∨ Op = 11 ∨ Op = 12 := by simp [hasA, withinB] at hA1; simp [hasB, withinB] at hB1; omega
        exact made_one W H S O a len cap Op To A B K la ll lc flen fcap w hop b off hb (by omega) _ _ pa pc _ d0 d1 d2 (hi.mono (Nat.zero_le _)) hr
end Go.Proofs.Ytfpkiimlaepnhaa
