/- ImagesRef, ImagesRef2, LastRef: joined, in this order. -/
import Derived.Test.YtfpkiimlaepnhaaM38
import Derived.Test.YtfpkiimlaepnhaaM30
import Derived.Test.YtfpkiimlaepnhaaM36
import Derived.Deep.RegionLaw
import Derived.Test.YtfpkiimlaepnhaaM31
/-
  IMAGESREF: the reference's Images.
-/
namespace Go.Proofs.Ytfpkiimlaepnhaa
set_option maxRecDepth 100000
open Go.RowKit Im

/-- An append to a row of the call's own, as one step of a region that draws; and where the row lies behind it. -/
theorem step_append_at {P : Program} {ops : Array Oper} {o : Oper} {a : Act} {w : World} {K : Act → World → Prop} {Q : Exit → Act → World → Prop} {E : Prop}
    (hg : o.guard = none) (s x : Operand) (t : TypeId) (ho : o.op = .call { callee := .builtin .append, args := #[s, x], argTypes := #[t, t] })
    (base : Nat) (e : TypeId) (i : TypeInfo) (z : Value) (size bytes : Nat) (ht : P.underlying t = some (.slice e)) (hi : P.info? e = some i) (hz : i.zero = some z)
    (hsize : i.size = size) (hby : i.bytes = bytes) (hzs : z.cells.size = size) (hsz : 0 < size)
    (v : Value) (n : Nat) (xs : List Value) (hs : a.eval s = v) (hown : w.ownsRow base e size v n xs)
    (ad : Addr) (m c : Nat) (news : List Value) (hx : a.eval x = .slice (some ad) m c) (hl : news.length = m * size) (hnews : ∀ j u, news[j]? = some u → w.cell? (ad.add j) = some u) (h1 : ∀ u ∈ news, u.oneCell' = true)
    (h63 : n + m ≤ maxLen) (hbytes : (n + m) * bytes ≤ 140737488355328) (hbase : base ≤ w.heap.size)
    (hK : ∀ v' w', w'.ownsRow base e size v' (n + m) (xs ++ news) → w.grownBy w' v.ownBlock → (v'.ownBlock = v.ownBlock ∨ v'.ownBlock = some w.heap.size) → K (a.put o.dst v') w') :
    if Region.wanted o (yielded ops a.tmps) = true then Oper.wp P o a w K Q else E := by
  have hw : Region.wanted o (yielded ops a.tmps) = true := by simp [Region.wanted, hg]
  rw [if_pos hw]
  obtain ⟨v', w', hr, h2, h3, h4, h5⟩ := run_append_own_at (P := P) w base t o.type e i z size bytes ht hi hz hsize hby hzs hsz v n xs hown ad m c news hl hnews h1 h63 hbytes hbase
  unfold Oper.wp execOp
  simp only [ho, resolve, invoke, builtin, Sem.run_bind, Sem.run_pure, Result.andThen_ok, List.map_toArray, List.map_cons, List.map_nil, hs, hx, hr]
  exact hK _ _ h2 h3 h5
/-- An image's numbers lie in memory, in no block of the row v. -/
def Px (base : Nat) (w : World) (v : Value) (x : Res × Option Addr × Nat) : Prop :=
  x.1.ps.length ≤ 9223372036854775807 ∧ (x.1.ps = [] ∨ ∃ b off, x.2.1 = some ⟨b, off, none⟩ ∧ base ≤ b ∧ b < w.heap.size ∧ v.ownBlock ≠ some b ∧ ∀ j, j < x.1.ps.length → w.cell? ⟨b, off + j, none⟩ = some (.int .i64 (x.1.ps.getD j 0)))
theorem Px.ints {base : Nat} {w : World} {v : Value} {x : Res × Option Addr × Nat} (h : Px base w v x) : Ints base w x.2.1 x.1.ps.length x.1.ps := by
  obtain ⟨h0, h1⟩ := h
  refine ⟨rfl, h0, ?_⟩
  rcases h1 with h1 | ⟨b, off, ha, hB, hb, _, hc⟩
  · exact .inl h1
  · exact .inr ⟨b, off, ha, hB, hb, hc⟩
theorem Px.mono {base base' : Nat} {w : World} {v : Value} {x : Res × Option Addr × Nat} (h : Px base w v x) (hb : base' ≤ base) : Px base' w v x := by
  obtain ⟨h0, h1⟩ := h
  refine ⟨h0, ?_⟩
  rcases h1 with h1 | ⟨b, off, ha, hB, r⟩
  · exact .inl h1
  · exact .inr ⟨b, off, ha, Nat.le_trans hb hB, r⟩
theorem Px.of {base : Nat} {w : World} {v : Value} {B : Nat} {r : Res} {a : Option Addr} {c : Nat} (h : Ints B w a r.ps.length r.ps) (hB : base ≤ B) (hv : ∀ j, v.ownBlock = some j → j < B) : Px base w v (r, a, c) := by
  refine ⟨h.big, ?_⟩
  rcases h.cells with h1 | ⟨b, off, ha, hb0, hb, hc⟩
  · exact .inl h1
  · exact .inr ⟨b, off, ha, Nat.le_trans hB hb0, hb, fun e => by have := hv b e; omega, hc⟩
theorem Px.below {base : Nat} {w w' : World} {v : Value} {x : Res × Option Addr × Nat} (h : Px base w v x) (hb : Below w.heap.size w w') : Px base w' v x := by
  obtain ⟨h0, h1⟩ := h
  refine ⟨h0, ?_⟩
  rcases h1 with h1 | ⟨b, off, ha, hB, hl, hv, hc⟩
  · exact .inl h1
  · exact .inr ⟨b, off, ha, hB, Nat.lt_of_lt_of_le hl hb.size, hv, fun j hj => (hb.cell (p := ⟨b, off + j, none⟩) hl).trans (hc j hj)⟩
theorem Px.grown {base : Nat} {w w' : World} {v v' : Value} {x : Res × Option Addr × Nat} (h : Px base w v x) (hg : w.grownBy w' v.ownBlock) (hv' : v'.ownBlock = v.ownBlock ∨ v'.ownBlock = some w.heap.size) : Px base w' v' x := by
  obtain ⟨h0, h1⟩ := h
  refine ⟨h0, ?_⟩
  rcases h1 with h1 | ⟨b, off, ha, hB, hl, hv, hc⟩
  · exact .inl h1
  · refine .inr ⟨b, off, ha, hB, Nat.lt_of_lt_of_le hl hg.size, ?_, fun j hj => (grown_cell hg hl (fun e => hv e.symm) (off + j)).1.trans (hc j hj)⟩
    rcases hv' with e | e
    · rw [e]; exact hv
    · rw [e]; intro e'; injection e' with e'; omega
/-- The row v of images, and their numbers. -/
def RowI (base : Nat) (w : World) (v : Value) (L : Lr) : Prop := OwnsR base w v L ∧ ∀ x ∈ L, Px base w v x
theorem RowI.below {base : Nat} {w w' : World} {v : Value} {L : Lr} (h : RowI base w v L) (hb : Below w.heap.size w w') : RowI base w' v L :=
  ⟨ownsRow_below h.1 hb (Nat.le_refl _), fun x hx => (h.2 x hx).below hb⟩
theorem RowI.nil (base : Nat) (w : World) : RowI base w (.slice none 0 0) [] := ⟨World.ownsRow_nil _ _ _ _, fun x hx => by cases hx⟩
theorem RowI.lt {base : Nat} {w : World} {v : Value} {L : Lr} (h : RowI base w v L) : ∀ j, v.ownBlock = some j → base ≤ j ∧ j < w.heap.size := fun j hj => World.ownsRow.lt (w := w) h.1 j hj
theorem RowI.push {base : Nat} {w w1 : World} {v v' : Value} {L : Lr} {x : Res × Option Addr × Nat} (h : RowI base w v L) (hx : Px base w v x)
    (h' : w1.ownsRow base 24 3 v' (L.length + 1) (rcells L ++ [.int .i64 x.1.W, .int .i64 x.1.H, .slice x.2.1 x.1.ps.length x.2.2])) (hg : w.grownBy w1 v.ownBlock) (hl : v'.ownBlock = v.ownBlock ∨ v'.ownBlock = some w.heap.size) : RowI base w1 v' (L ++ [x]) := by
  refine ⟨by unfold OwnsR; rw [rcells_snoc]; simpa using h', fun y hy => ?_⟩
  rcases List.mem_append.1 hy with h1 | h1
  · exact (h.2 y h1).grown hg hl
  · rw [List.mem_singleton] at h1; subst h1; exact hx.grown hg hl
/-- The reference's Made. -/
theorem made_any (W H S O : Int) (a : Option Addr) (len cap : Nat) {Op : Int} (To A B : Int) {K : Int} {la : Option Addr} {ll : Nat} (lc : Nat) {ls : List Lt} {fa : Option Addr} {flen : Nat} (fcap : Nat) {fr : List Res} {bi : Nat} {w : World} {z : Sz} (hk : knownB Op = true) (hL : Lights w la ll ls) (hI : Imgs bi w fa flen fr) (hA : hasA Op = true → 1 ≤ flen) (hB : hasB Op = true → 2 ≤ flen) (hz : Op = 1 ∨ Op = 2 → z = (W, H)) (hr : (paintRes ⟨Op, To, A, B, K, ls⟩ z fr).E = 0) :
    Calls Try.prog 115 #[.agg #[.int .i64 W, .int .i64 H, .int .i64 S, .int .i64 O, .slice a len cap], .agg #[.int .i64 Op, .int .i64 To, .int .i64 A, .int .i64 B, .int .i64 K, .slice la ll lc], .slice fa flen fcap] w (ToldM w (paintRes ⟨Op, To, A, B, K, ls⟩ z fr)) := by
  unfold paintRes at hr ⊢
  by_cases h12 : Op = 1 ∨ Op = 2
  · rw [if_pos h12] at hr ⊢
    rw [hz h12] at hr ⊢
    exact made_make W H S O a len cap Op To A B K la ll lc fa flen fcap w h12 hr
  · have hA1 : hasA Op = true := by simp [knownB, withinB] at hk; simp [hasA, withinB]; omega
    have hfl := hA hA1
    obtain ⟨b, off, pa, pc, rfl, hb, d0, d1, d2, hi⟩ := hI.nth (k := 0) (by omega)
    rw [Nat.zero_mul, Nat.add_zero] at d0 d1 d2
    rw [if_neg h12] at hr ⊢
    by_cases hB1 : hasB Op = true
    · have hf2 := hB hB1
      obtain ⟨b', off', qa, qc, e, _, g0, g1, g2, hj⟩ := hI.nth (k := 1) (by omega)
      injection e with e
      injection e with e1 e2
      subst e1 e2
      rw [Nat.one_mul] at g0 g1 g2
      have hop : Op = 4 ∨ Op = 5 ∨ Op = 6 ∨ Op = 7 := by simp [hasB, withinB] at hB1; omega
      rw [if_pos hB1] at hr ⊢
      exact made_two W H S O a len cap Op To A B K la ll lc flen fcap w hop b off hb (by omega) (by omega) _ _ pa pc _ d0 d1 d2 (hi.mono (Nat.zero_le _)) _ _ qa qc _ g0 g1 g2 (hj.mono (Nat.zero_le _)) hr
    · rw [if_neg hB1] at hr ⊢
      by_cases h13 : Op = 13
      · subst h13
        rw [if_pos rfl] at hr ⊢
        exact made_lit W H S O a len cap To A B K la ll lc ls flen fcap w hL b off hb (by omega) _ _ pa pc _ d0 d1 d2 (hi.mono (Nat.zero_le _)) hr
      · rw [if_neg h13] at hr ⊢
        have hop : Op = 3 ∨ Op = 8 ∨ Op = 9 ∨ Op = 10 ∨ Op = 11 ∨ Op = 12 := by simp [hasA, withinB] at hA1; simp [hasB, withinB] at hB1; omega
        exact made_one W H S O a len cap Op To A B K la ll lc flen fcap w hop b off hb (by omega) _ _ pa pc _ d0 d1 d2 (hi.mono (Nat.zero_le _)) hr
end Go.Proofs.Ytfpkiimlaepnhaa
/-
  IMAGESREF2: the reference's Images, walked.
-/
namespace Go.Proofs.Ytfpkiimlaepnhaa
set_option maxRecDepth 100000
open Go.RowKit Im

/-- The call's end tells the images rs, in a row of its own. -/
def ToldIm (w : World) (rs : List Res) (e : Ending) (w' : World) : Prop :=
  (∃ v L, e = .returned v ∧ RowI w.heap.size w' v L ∧ L.map Prod.fst = rs) ∧ Below w.heap.size w w'
theorem row_imgs {base : Nat} {w : World} {v : Value} {L : Lr} {rs : List Res} (h : RowI base w v L) (he : L.map Prod.fst = rs) (hb : L.length ≤ 12) : ∃ a cap, v = .slice a rs.length cap ∧ Imgs base w a rs.length rs := h.1.imgs he (fun x hx => (h.2 x hx).ints) hb
theorem Passes.blk {w : World} {b off len : Nat} {ps : List Ps} (h : Passes w (some ⟨b, off, none⟩) len ps) {k : Nat} (hk : k < len) : b < w.heap.size := by
  rcases h.cells with e | ⟨b', off', ha, hl, _⟩
  · have := h.leng; subst e; simp at this; omega
  · injection ha with ha
    injection ha with e1 e2
    subst e1
    exact hl
set_option maxHeartbeats 4000000 in
theorem images_any (W H S O : Int) (a : Option Addr) (len cap : Nat) (ps : List Ps) (w : World) (hp : Passes w a len ps) (hE : frameE ⟨W, H, S, O, ps⟩ = 0) :
    Calls Try.prog 91 #[.agg #[.int .i64 W, .int .i64 H, .int .i64 S, .int .i64 O, .slice a len cap]] w (ToldIm w (pics ⟨W, H, S, O, ps⟩ len)) := by
  obtain rfl := hp.leng
  obtain ⟨hbnd, hfirst, hsh⟩ := frameE_zero hE
  dsimp only at hfirst
  obtain ⟨_, _, _, _, hL⟩ := boundsE_zero hbnd
  dsimp only at hL
  obtain ⟨i0, hi, hz0, hz1, hz2⟩ := info_parts Try.infoImage
  have hb0 := below_box (Below.refl w.heap.size w) (.cells #[.int .i64 W, .int .i64 H, .int .i64 S, .int .i64 O, .slice a ps.length cap] 63)
  have hB := FBox.new w W H S O a ps.length cap
  have hsr := sourcesOfRef_any W H S O a ps.length cap ps _ (hp.below hb0) hL.2
  have hs2 : ∀ x ∈ srcs ps ps.length, x.length ≤ 2 := by
    intro x hx
    unfold srcs at hx
    rw [List.mem_map] at hx
    obtain ⟨n, _, rfl⟩ := hx
    unfold srcOf
    rw [List.length_map]
    exact takesP_len _
  go_enter Try.func91, Try.ntmps91
  go_wp2_with fail
  refine hsr.mono ?_
  clear hsr
  rintro e w1 ⟨⟨v1, rfl, hLL⟩, b1⟩
  obtain ⟨sa, scap, rfl, hSs⟩ := hLL.lls hs2
  rw [srcs_length] at hSs ⊢
  have hB1 := hB.below b1
  have hb1 := below_step hb0 b1
  have hp1 := hp.below hb1
  clear hB hb0 b1 hLL hs2 hp
  go_wp2
  go_loopw [4, 5] (fun v i wr => ∃ (k : Nat) (L : Lr), k ≤ ps.length ∧ i = .int .i64 k ∧ RowI w1.heap.size wr v L ∧ L.map Prod.fst = pics ⟨W, H, S, O, ps⟩ k ∧ Below w1.heap.size w1 wr) (fun _ i _ => ps.length - (intOf i).toNat)
  case atStart => exact ⟨0, [], Nat.zero_le _, rfl, RowI.nil _ _, rfl, Below.refl _ _⟩
  case round =>
    obtain ⟨k, L, hk, rfl, hrow, hmap, hbr⟩ := hrel
    have hBr := hB1.below hbr
    have hpr := hp1.below hbr
    have hSr := hSs.below hbr
    obtain ⟨_, g0, g1, g2, g3, g4⟩ := id hBr
    have hLl : L.length = k := by have := congrArg List.length hmap; simpa [pics_length] using this
    by_cases hlt : k < ps.length
    · have hfk := firstE_down ⟨W, H, S, O, ps⟩ hfirst (k := k) (by omega)
      have hpE : passE ⟨W, H, S, O, ps⟩ k = 0 := (firstE_at ⟨W, H, S, O, ps⟩ hfk).symm.trans (firstE_down ⟨W, H, S, O, ps⟩ hfirst (k := k + 1) (by omega))
      have hRR := paint_right hbnd hpE (pics_right hbnd hfk)
      obtain ⟨o1, o2, _⟩ := passE_zero hpE
      obtain ⟨hkn, _⟩ := ownE_zero o1
      have hin := src_bd o2
      have hsl : (srcOf ps k).length ≤ 2 := by unfold srcOf; rw [List.length_map]; exact takesP_len _
      have hAl : hasA (ps.getD k Ps.zero).Op = true → 1 ≤ (srcOf ps k).length := fun hA => by
        obtain ⟨r, hr⟩ := takes_pos hA
        unfold srcOf; rw [List.length_map, hr]; simp
      have hBl : hasB (ps.getD k Ps.zero).Op = true → 2 ≤ (srcOf ps k).length := fun hB => by
        unfold srcOf; rw [List.length_map, takes_two' hB]; simp
      have HG : Hid (pics ⟨W, H, S, O, ps⟩ (k + 1) = pics ⟨W, H, S, O, ps⟩ k ++ [paintRes (ps.getD k Ps.zero) (sizeN ⟨W, H, S, O, ps⟩ k) (pickR (pics ⟨W, H, S, O, ps⟩ k) (srcOf ps k))]) := rfl
      have hzz : (ps.getD k Ps.zero).Op = 1 ∨ (ps.getD k Ps.zero).Op = 2 → sizeN ⟨W, H, S, O, ps⟩ k = (W, H) := fun h => by unfold sizeN sizeP; rw [if_pos h]
      obtain ⟨va, vc, rfl, hImg⟩ := row_imgs hrow hmap (by omega)
      obtain ⟨b, off, la, ll, lc, rfl, p0, p1, p2, p3, p4, p5, hLi⟩ := hpr.nth hlt
      obtain ⟨sb, so, ua, uc, rfl, hsb, q0, hUI⟩ := hSr.nth hlt
      rw [srcs_at _ hlt] at q0 hUI
      have hblk := hpr.blk hlt
      have hpicl : (pics ⟨W, H, S, O, ps⟩ k).length = k := pics_length _ _
      dsimp only at hRR hkn
      generalize pics ⟨W, H, S, O, ps⟩ k = rs at hrow hmap HG hRR hImg hpicl ⊢
      generalize sizeN ⟨W, H, S, O, ps⟩ k = z at HG hRR hzz
      generalize srcOf ps k = sr at HG hRR hAl hBl q0 hUI hsl hin
      generalize ps.getD k Ps.zero = p at p0 p1 p2 p3 p4 p5 hLi hRR hkn hAl hBl HG hzz
      obtain ⟨Op, To, A, B, K, ls⟩ := p
      dsimp only at p0 p1 p2 p3 p4 p5 hLi hkn hAl hBl hzz
      have hpl : (pickR rs sr).length = sr.length := by simp [pickR]
      have hso := fun w' (pa : Option Addr) (pcap : Nat) (hz : Imgs 0 w' pa (pickR rs sr).length (pickR rs sr)) (hb : Below wr.heap.size wr w') => made_any W H S O (some ⟨b, off, none⟩) ps.length cap (Op := Op) To A B (K := K) lc pcap hkn (hLi.below hb) hz (by rw [hpl]; exact hAl) (by rw [hpl]; exact hBl) hzz hRR.1
      have HRR : Hid (_) := hRR
      have HMAP : Hid (_) := hmap
      have HLL : Hid (_) := hLl
      clear hRR hkn hAl hBl hzz hmap hLl hfk hpE o1 o2
      obtain rfl : k = rs.length := hpicl.symm
      obtain ⟨wO, e0⟩ : ∃ z, z = wr := ⟨_, rfl⟩
      subst e0
      go_wp2_with fail
      go_loopw [6, 7] (fun v i ws => ∃ (j : Nat) (M : Lr), j ≤ sr.length ∧ i = .int .i64 j ∧ OwnsR wO.heap.size ws v M ∧ M.map Prod.fst = pickR rs (sr.take j) ∧ (∀ x ∈ M, Ints 0 wO x.2.1 x.1.ps.length x.1.ps) ∧ Below wO.heap.size wO ws) (fun _ i _ => sr.length - (intOf i).toNat)
      case atStart => exact ⟨0, [], Nat.zero_le _, rfl, World.ownsRow_nil _ _ _ _, rfl, (fun x hx => by cases hx), Below.refl _ _⟩
      case round =>
        obtain ⟨j, M, hj, rfl, hown, hmapM, hintsM, hbs⟩ := hrel
        have hMl : M.length = j := by
          have := congrArg List.length hmapM
          simp [pickR] at this
          omega
        clear g0 g1 g2 g3 g4
        have q1 := (hbs.cell (p := ⟨sb, so + rs.length, none⟩) hsb).trans q0
        have hsz := hbs.size
        have hU1 := hUI.below (Nat.le_refl _) hbs
        have HM : Hid (_) := hmapM
        have HML : Hid (_) := hMl
        have HI : Hid (_) := hintsM
        clear hmapM hMl hintsM
        by_cases hjl : j < sr.length
        · obtain ⟨bu, ou, rfl, hcx⟩ := hU1.nth hjl
          have hr := hin _ (getD_mem hjl 0)
          have HS := pickR_succ rs sr j hjl
          generalize sr.getD j 0 = n at hcx hr HS
          obtain ⟨m, rfl⟩ := Int.eq_ofNat_of_zero_le hr.1
          obtain ⟨b', off', pa, pcap, rfl, hb', d0, d1, d2, hpi⟩ := hImg.nth (k := m) (by omega)
          replace d0 := (hbs.cell (p := ⟨b', off' + m * 3, none⟩) hb').trans d0
          replace d1 := (hbs.cell (p := ⟨b', off' + m * 3 + 1, none⟩) hb').trans d1
          replace d2 := (hbs.cell (p := ⟨b', off' + m * 3 + 2, none⟩) hb').trans d2
          rw [Int.toNat_natCast] at HS
          have HS' : Hid (pickR rs (sr.take (j + 1)) = pickR rs (sr.take j) ++ [rs.getD m (noRes 0)]) := HS
          have HP : Hid (_) := hpi.mono (Nat.zero_le _)
          have hmr : (m : Int) < (rs.length : Int) := hr.2
          clear HS hpi hso hImg hU1 hUI hLi hpr hp1 hSr hSs hBr hB1 hr p0 p1 p2 p3 p4 p5
          generalize rs.getD m (noRes 0) = r at d0 d1 d2 HS' HP
          go_wp2_with (at_builtin; refine wpList_append_own _ rfl _ _ 122 rfl wO.heap.size 24 i0 _ 3 40 Try.underlying122 hi hz0 hz1 hz2 rfl (by decide) _ _ _ rfl (World.ownsRow.alloc hown _) ⟨wr.heap.size, 0, none⟩ 1 1 [.int .i64 r.W, .int .i64 r.H, .slice pa r.ps.length pcap] rfl rfl (cell_three_new _ _ _ _ _) (by intro u hu; simp at hu; rcases hu with rfl | rfl | rfl <;> rfl) (by rw [HML.out]; unfold maxLen; omega) (by rw [HML.out]; omega) (by simp; omega) ?_; intro v' w9 hown9 hgrow9 _)
          have RR := OwnsR.push (x := (r, pa, pcap)) hown hbs hsz hown9 rfl hgrow9
          go_roundw
          case rel => exact ⟨j + 1, M ++ [(r, pa, pcap)], by omega, by go_num, RR.1, by rw [HS'.out, List.map_append, HM.out]; rfl, (fun x hx => by rcases List.mem_append.1 hx with h | h; exact HI.out x h; rw [List.mem_singleton] at h; subst h; exact HP.out), RR.2⟩
          case measure => simp [intOf]; omega
        · have hje : j = sr.length := by omega
          have hmM := HM.out
          rw [hje, List.take_length] at hmM
          have hML2 : M.length ≤ 12 := by rw [HML.out]; omega
          obtain ⟨na, ncap, rfl, hN⟩ := hown.imgs hmM (fun x hx => (HI.out x hx).below (Nat.le_refl _) hbs) hML2
          rw [hpl] at hN ⊢
          rw [hpl] at hso
          have hbD : Below wO.heap.size wO wr.drew := hbs.drew
          have hcall := hso _ na ncap (hN.below (Below.refl _ _).drew) hbD
          obtain ⟨_, g0, g1, g2, g3, g4⟩ := hBr.below hbs
          replace p0 := (hbs.cell (p := ⟨b, off + rs.length * 6, none⟩) hblk).trans p0
          replace p1 := (hbs.cell (p := ⟨b, off + rs.length * 6 + 1, none⟩) hblk).trans p1
          replace p2 := (hbs.cell (p := ⟨b, off + rs.length * 6 + 2, none⟩) hblk).trans p2
          replace p3 := (hbs.cell (p := ⟨b, off + rs.length * 6 + 3, none⟩) hblk).trans p3
          replace p4 := (hbs.cell (p := ⟨b, off + rs.length * 6 + 4, none⟩) hblk).trans p4
          replace p5 := (hbs.cell (p := ⟨b, off + rs.length * 6 + 5, none⟩) hblk).trans p5
          generalize paintRes ⟨Op, To, A, B, K, ls⟩ z (pickR rs sr) = r at hcall HG HRR
          have HROW : Hid (RowI w1.heap.size wO (.slice va rs.length vc) L) := hrow
          have hrl := hrow.lt
          have HRL : Hid (_) := hrl
          clear hso hImg hU1 hUI hLi hpr hp1 hSr hSs hBr hB1 hN hmM hML2 hin hown q0 HRR hrow hrl
          go_wp2_with fail
          go_region_law (first
            | (go_simp; go_at_call 115; refine hcall.mono ?_; rintro e w3 ⟨ra, rc, rfl, hri, hb3⟩; have hbO3 := below_step hbD hb3; have hrow3 := HROW.out.below hbO3; have hpx3 := Px.of (v := .slice va rs.length vc) (c := rc) hri (show w1.heap.size ≤ _ from Nat.le_trans hbr.size hbD.size) (fun j hj => Nat.lt_of_lt_of_le (HRL.out j hj).2 hbD.size); go_wp2_with fail)
            | (refine step_append_at rfl _ _ 122 rfl w1.heap.size 24 i0 (.agg #[.int .i64 0, .int .i64 0, .slice none 0 0]) 3 40 Try.underlying122 hi hz0 hz1 hz2 rfl (by decide) (.slice va rs.length vc) L.length (rcells L) rfl (hrow3.below ((Below.refl _ _).alloc (Nat.le_refl _) _)).1 ⟨w3.heap.size, 0, none⟩ 1 1 [.int .i64 r.W, .int .i64 r.H, .slice ra r.ps.length rc] rfl rfl (cell_three_new _ _ _ _ _) (by intro u hu; simp at hu; rcases hu with rfl | rfl | rfl <;> rfl) (by rw [HLL.out]; unfold maxLen; omega) (by rw [HLL.out]; omega) (by have h1 := hbr.size; have h2 := hbO3.size; simp; omega) ?_; intro v' w9 hown9 hgrow9 hloc9))
          all_goals
            have bA := (Below.refl w3.heap.size w3).alloc (Nat.le_refl _) (.cells #[.int .i64 r.W, .int .i64 r.H, .slice ra r.ps.length rc] 24)
            have RR := (hrow3.below bA).push (x := (r, ra, rc)) (hpx3.below bA) hown9 hgrow9 hloc9
            have h1 := hbr.size
            have h2 := hbO3.size
            have hb9 : Below w1.heap.size w1 w9 := ((hbr.trans (hbO3.mono hbr.size)).alloc (by omega) (.cells #[.int .i64 r.W, .int .i64 r.H, .slice ra r.ps.length rc] 24)).grown hgrow9 (by simp; omega) (fun j hj => (HRL.out j hj).1)
            go_wp2
            exact ⟨⟨rs.length + 1, L ++ [(r, ra, rc)], by omega, by go_num, RR, by rw [HG.out, List.map_append, HMAP.out]; rfl, hb9⟩, by simp [intOf]; omega⟩
    · have hke : k = ps.length := by omega
      subst hke
      have HROW : Hid (_) := hrow
      have HMAP : Hid (_) := hmap
      clear hrow hmap hLl hpr hSr hBr
      go_wp2
      go_ret
      exact ⟨⟨_, L, rfl, ⟨row_mono HROW.out.1 hb1.size, fun x hx => (HROW.out.2 x hx).mono hb1.size⟩, HMAP.out⟩, below_step hb1 hbr⟩
end Go.Proofs.Ytfpkiimlaepnhaa
/-
  LASTREF: the reference's LastOf: the pass that made what is shown.
-/
namespace Go.Proofs.Ytfpkiimlaepnhaa
set_option maxRecDepth 100000
open Go.RowKit Im

theorem lastOf_any (W H S O : Int) (a : Option Addr) (len cap : Nat) (ps : List Ps) (w : World) (hp : Passes w a len ps) :
    Calls Try.prog 50 #[.agg #[.int .i64 W, .int .i64 H, .int .i64 S, .int .i64 O, .slice a len cap]] w fun e w' => e = .returned (.int .i64 (shownP ⟨W, H, S, O, ps⟩)) ∧ Below w.heap.size w w' := by
  have hsh : shownP ⟨W, H, S, O, ps⟩ = wrt ps len O := by unfold shownP; rw [← hp.leng]
  have hb0 := below_box (Below.refl w.heap.size w) (.cells #[.int .i64 W, .int .i64 H, .int .i64 S, .int .i64 O, .slice a len cap] 63)
  have hw := writer_any W H S O a len cap ps len O _ (hp.below hb0) (Nat.le_refl _)
  rw [hsh]
  clear hsh
  generalize wrt ps len O = n at hw
  go_enter Try.func50, Try.ntmps50
  go_wp2_with (go_at_call 87; refine hw.mono ?_; rintro e w' ⟨rfl, hb⟩)
  go_ret
  exact ⟨rfl, below_step hb0 hb⟩
end Go.Proofs.Ytfpkiimlaepnhaa
