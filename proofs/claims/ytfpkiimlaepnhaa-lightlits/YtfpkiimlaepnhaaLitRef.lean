/-
  LITREF: the reference's LitOf.
-/
import Derived.Test.YtfpkiimlaepnhaaNearRef
import Derived.Test.YtfpkiimlaepnhaaOneRef
import Derived.Test.YtfpkiimlaepnhaaLit
import Derived.Deep.RegionLaw
namespace Go.Proofs.Ytfpkiimlaepnhaa
set_option maxRecDepth 100000
open Go.RowKit Im

/-- An append to a row of the call's own, as one step of a region that draws. -/
theorem step_append_mine {P : Program} {ops : Array Oper} {o : Oper} {a : Act} {w : World} {K : Act → World → Prop} {Q : Exit → Act → World → Prop} {E : Prop}
    (hg : o.guard = none) (s x : Operand) (t : TypeId) (ho : o.op = .call { callee := .builtin .append, args := #[s, x], argTypes := #[t, t] })
    (base : Nat) (e : TypeId) (i : TypeInfo) (z : Value) (size bytes : Nat) (ht : P.underlying t = some (.slice e)) (hi : P.info? e = some i) (hz : i.zero = some z)
    (hsize : i.size = size) (hby : i.bytes = bytes) (hzs : z.cells.size = size) (hsz : 0 < size)
    (v : Value) (n : Nat) (xs : List Value) (hs : a.eval s = v) (hown : w.ownsRow base e size v n xs)
    (ad : Addr) (m c : Nat) (news : List Value) (hx : a.eval x = .slice (some ad) m c) (hl : news.length = m * size) (hnews : ∀ j u, news[j]? = some u → w.cell? (ad.add j) = some u) (h1 : ∀ u ∈ news, u.oneCell' = true)
    (h63 : n + m ≤ maxLen) (hbytes : (n + m) * bytes ≤ 140737488355328) (hbase : base ≤ w.heap.size)
    (hK : ∀ v' w', w'.ownsRow base e size v' (n + m) (xs ++ news) → w.grownBy w' v.ownBlock → K (a.put o.dst v') w') :
    if Region.wanted o (yielded ops a.tmps) = true then Oper.wp P o a w K Q else E := by
  have hw : Region.wanted o (yielded ops a.tmps) = true := by simp [Region.wanted, hg]
  rw [if_pos hw]
  exact wp_append_own w s x t ho base e i z size bytes ht hi hz hsize hby hzs hsz v n xs hs hown ad m c news hx hl hnews h1 h63 hbytes hbase fun v' w' h2 h3 _ => hK v' w' h2 h3

/-- Behind a call from the round on. -/
theorem Acc.call {c : Nat} {w0 wr w1 w2 : World} {W H : Int} {v : Value} {qs : List Int} (h : Acc c w0 wr W H v qs) (h1 : Below wr.heap.size wr w1) (h2 : Below w1.heap.size w1 w2) : Below wr.heap.size wr w2 ∧ w2.cell? ⟨c, 2, none⟩ = some v ∧ c < w2.heap.size := by
  have hb := below_stepL h1 h2
  have ha := h.below hb
  exact ⟨hb, ha.cells.2.2.1, ha.siz⟩

set_option maxRecDepth 100000 in
set_option maxHeartbeats 2000000 in
theorem litOf_any {w : World} {b off cap W H : Nat} {ps : List Int} {la : Option Addr} {llen : Nat} (lcap : Nat) {ls : List Lt} (hF : Fine w b off W H ps) (hl : Lights w la llen ls) (h8 : ls.length ≤ 8) (hr : ls.all rightB = true) :
    Calls Try.prog 38 #[.agg #[.int .i64 W, .int .i64 H, .slice (some ⟨b, off, none⟩) (W * H) cap], .slice la llen lcap] w fun e w' =>
      ∃ a cap', e = .returned (.agg #[.int .i64 W, .int .i64 H, .slice a (W * H) cap']) ∧ Ints w.heap.size w' a (W * H) (pix W (litG W ps ls) (W * H)) ∧ Below w.heap.size w w' := by
  obtain ⟨i0, hi, hz0, hz1, hz2⟩ := info_parts Try.info3
  obtain ⟨hw1, hw2⟩ := hF.hW
  obtain ⟨hh1, hh2⟩ := hF.hH
  have hWH : W * H ≤ 256 := Nat.mul_le_mul hw2 hh2
  have hB0 : Below w.heap.size w (((w.alloc (.cells #[.int .i64 W, .int .i64 H, .slice (some ⟨b, off, none⟩) (W * H) cap] 24)).alloc (.cells #[.int .i64 0, .int .i64 0, .slice none 0 0] 24)).alloc (.cells #[.int .i64 W, .int .i64 H, .slice none 0 0] 24)) := lit_B w _ _ _
  have hBx : Boxed (((w.alloc (.cells #[.int .i64 W, .int .i64 H, .slice (some ⟨b, off, none⟩) (W * H) cap] 24)).alloc (.cells #[.int .i64 0, .int .i64 0, .slice none 0 0] 24)).alloc (.cells #[.int .i64 W, .int .i64 H, .slice none 0 0] 24)) w.heap.size b off cap W H := ⟨by simp; omega, by simp [go_sem], by simp [go_sem], by simp [go_sem]⟩
  have hst := Acc.start ((w.alloc (.cells #[.int .i64 W, .int .i64 H, .slice (some ⟨b, off, none⟩) (W * H) cap] 24)).alloc (.cells #[.int .i64 0, .int .i64 0, .slice none 0 0] 24)) (w.heap.size + 1 + 1) W H (by simp)
  have z0 : (((w.alloc (.cells #[.int .i64 W, .int .i64 H, .slice (some ⟨b, off, none⟩) (W * H) cap] 24)).alloc (.cells #[.int .i64 0, .int .i64 0, .slice none 0 0] 24)).alloc (.cells #[.int .i64 W, .int .i64 H, .slice none 0 0] 24)).cell? ⟨w.heap.size + 1, 0, none⟩ = some (.int .i64 0) := by simp [go_sem]
  have z1 : (((w.alloc (.cells #[.int .i64 W, .int .i64 H, .slice (some ⟨b, off, none⟩) (W * H) cap] 24)).alloc (.cells #[.int .i64 0, .int .i64 0, .slice none 0 0] 24)).alloc (.cells #[.int .i64 W, .int .i64 H, .slice none 0 0] 24)).cell? ⟨w.heap.size + 1, 1, none⟩ = some (.int .i64 0) := by simp [go_sem]
  have z2 : (((w.alloc (.cells #[.int .i64 W, .int .i64 H, .slice (some ⟨b, off, none⟩) (W * H) cap] 24)).alloc (.cells #[.int .i64 0, .int .i64 0, .slice none 0 0] 24)).alloc (.cells #[.int .i64 W, .int .i64 H, .slice none 0 0] 24)).cell? ⟨w.heap.size + 1, 2, none⟩ = some (.slice none 0 0) := by simp [go_sem]
  have y0 : ∀ o, (((w.alloc (.cells #[.int .i64 W, .int .i64 H, .slice (some ⟨b, off, none⟩) (W * H) cap] 24)).alloc (.cells #[.int .i64 0, .int .i64 0, .slice none 0 0] 24)).alloc (.cells #[.int .i64 W, .int .i64 H, .slice none 0 0] 24)).frozen? ⟨w.heap.size + 1, o, none⟩ = false := fun o => by simp [go_sem]
  go_enter Try.func38, Try.ntmps38
  go_wp2
  generalize hw0 : (((w.alloc (.cells #[.int .i64 W, .int .i64 H, .slice (some ⟨b, off, none⟩) (W * H) cap] 24)).alloc (.cells #[.int .i64 0, .int .i64 0, .slice none 0 0] 24)).alloc (.cells #[.int .i64 W, .int .i64 H, .slice none 0 0] 24)) = w0 at hB0 hBx hst z0 z1 z2 y0 ⊢
  clear hw0
  go_loopw [6] (fun i wr => ∃ (y : Nat) (v : Value), y ≤ H ∧ i = .int .i64 y ∧ Acc (w.heap.size + 1 + 1) w0 wr W H v (pix W (litG W ps ls) (y * W))) (fun i _ => H - (intOf i).toNat)
  case atStart => exact ⟨0, .slice none 0 0, Nat.zero_le _, rfl, by rw [Nat.zero_mul]; exact hst⟩
  case round =>
    obtain ⟨y, v, hy, rfl, hacc⟩ := hrel
    obtain ⟨q0, q1, q2, qf⟩ := hacc.cells
    obtain ⟨_, k0, k1, k2⟩ := hBx.belowN hacc.bel (by omega)
    by_cases hlt : y < H
    · go_wp2
      go_loopw [7] (fun i ws => ∃ (x : Nat) (v : Value), x ≤ W ∧ i = .int .i64 x ∧ Acc (w.heap.size + 1 + 1) w0 ws W H v (pix W (litG W ps ls) (y * W + x))) (fun i _ => W - (intOf i).toNat)
      case atStart => exact ⟨0, v, Nat.zero_le _, rfl, hacc⟩
      case round =>
        obtain ⟨x, v2, hx, rfl, hacs⟩ := hrel
        obtain ⟨w1, e1⟩ : ∃ z, z = wr := ⟨_, rfl⟩
        subst e1
        clear k0 k1 k2 q0 q1 q2 qf
        obtain ⟨c0, c1, c2, cf⟩ := hacs.cells
        have hBr := hBx.belowN hacs.bel (by omega)
        by_cases hlx : x < W
        · have hsz := hacs.siz
          have hbW : Below w.heap.size w w1 := hB0.trans (hacs.bel.mono (by omega))
          have hFr := hF.below hbW
          have hLr := hl.below hbW
          obtain ⟨_, k0, k1, k2⟩ := id hBr
          have hpl : y * W + x < W * H := place_lt hlx hlt
          have hlen : (pix W (litG W ps ls) (y * W + x)).length = y * W + x := pix_length _ _ _
          have hpb := hFr.px_bd x y hlx hlt
          have hsb := sumG_bd x y (by omega) (by omega) ls hr
          obtain ⟨pv, hpv⟩ : ∃ pv, pv = px W ps x y := ⟨_, rfl⟩
          obtain ⟨sv, hsv⟩ : ∃ sv, sv = sumG x y ls := ⟨_, rfl⟩
          have hcall1 := fun w' hb' => at_any (cap := cap) (hFr.below (w' := w') hb') x y x y rfl rfl hlx hlt
          have hcall2 := fun w' hb' => lightAt_any lcap x y (hLr.below (w' := w') hb') h8 hr (by omega) (by omega)
          obtain ⟨gx, hgx⟩ : ∃ gx, (if pv + sv < 65535 then pv + sv else 65535) = gx := ⟨_, rfl⟩
          have HG : Hid (gx = litG W ps ls x y) := by show gx = _; rw [← hgx, hpv, hsv]; unfold litG; split <;> omega
          rw [← hpv] at hcall1 hpb
          rw [← hsv] at hcall2 hsb
          clear hpv hsv
          have hwr : IntKind.i64.wrap (pv + sv) = pv + sv := by rw [IntKind.wrap_i64]; omega
          have hb1 : Below w1.heap.size w1 w1.drew := (Below.refl _ _).drew
          go_wp2
          go_region_law (first
              | (go_simp; go_at_call 67; refine (hcall1 _ (by assumption)).mono ?_; rintro e w2 ⟨rfl, hb2⟩; obtain ⟨hbn, hvn, hsn⟩ := hacs.call (by assumption) hb2; go_wp2_with fail)
              | (go_simp; go_at_call 32; refine (hcall2 _ (by assumption)).mono ?_; rintro e w3 ⟨rfl, hb3⟩; obtain ⟨hbm, hvm, hsm⟩ := hacs.call (by assumption) hb3; go_wp2_with fail)
              | (refine step_append_mine rfl _ _ 22 rfl (w.heap.size + 1 + 1 + 1) 3 i0 (.int .i64 0) 1 8 Try.underlying22 hi hz0 hz1 hz2 rfl (by decide) v2 _ _ rfl (World.ownsRow.alloc (hacs.below hbm).own _) ⟨w3.heap.size, 0, none⟩ 1 1 [.int .i64 gx] rfl rfl (cell_one_new _ _ _) (by intro u hu; simp at hu; subst hu; rfl) (by rw [hlen]; unfold maxLen; omega) (by rw [hlen]; omega) (by simp; omega) ?_; intro v' w9 hown9 hgrow9; obtain ⟨hm, m2, m3⟩ := (hacs.below hbm).mid hgrow9; have R := (hacs.below hbm).push hgrow9 hown9; obtain ⟨a', cap', hv'⟩ := owns_slice hown9; subst hv'))
          all_goals go_wp2
          all_goals rw [hlen] at R
          all_goals refine ⟨⟨x + 1, _, by omega, by go_num, by rw [← Nat.add_assoc, pix_succ W _ x y hlx, ← HG.out]; exact R⟩, by simp [intOf]; omega⟩
        · have hxW : x = W := by omega
          subst hxW
          obtain ⟨_, k0, k1, k2⟩ := hBr
          go_wp2
          go_roundw
          case rel => exact ⟨y + 1, v2, by omega, by go_num, by rw [Nat.add_mul, Nat.one_mul]; exact hacs⟩
          case measure => simp [intOf]; omega
    · have hyH : y = H := by omega
      subst hyH
      have hlen : (pix W (litG W ps ls) (y * W)).length = y * W := pix_length _ _ _
      obtain ⟨a, cap', rfl, hints⟩ := hacc.ints (by rw [hlen, Nat.mul_comm]; omega)
      have hsz := hacc.siz
      have d0 : wr.cell? ⟨w.heap.size + 1, 0, none⟩ = some (.int .i64 0) := (hacc.bel.cell (by simp)).trans z0
      have d1 : wr.cell? ⟨w.heap.size + 1, 1, none⟩ = some (.int .i64 0) := (hacc.bel.cell (by simp)).trans z1
      have d2 : wr.cell? ⟨w.heap.size + 1, 2, none⟩ = some (.slice none 0 0) := (hacc.bel.cell (by simp)).trans z2
      have f0 : wr.frozen? ⟨w.heap.size + 1, 0, none⟩ = false := (hacc.bel.frozen (by simp)).trans (y0 0)
      have f1 : wr.frozen? ⟨w.heap.size + 1, 1, none⟩ = false := (hacc.bel.frozen (by simp)).trans (y0 1)
      have f2 : wr.frozen? ⟨w.heap.size + 1, 2, none⟩ = false := (hacc.bel.frozen (by simp)).trans (y0 2)
      go_wp2
      rw [hlen, Nat.mul_comm] at hints
      refine bodyPost_ret (v := .agg #[.int .i64 W, .int .i64 y, .slice a (W * y) cap']) (by simp [results, Try.results38, go_sem, d0, d1, d2]; exact Nat.mul_comm _ _) rfl ⟨a, cap', rfl, ?_, ?_⟩
      · exact (((hints.setCell (by simp) _).setCell (by simp) _).setCell (by simp) _).mono (by omega)
      · exact (((hB0.trans (hacc.bel.mono (by omega))).setCell (by simp) _).setCell (by simp) _).setCell (by simp) _
end Go.Proofs.Ytfpkiimlaepnhaa
