/- RestA, RestB: joined, in this order. -/
import Derived.Test.YtihliofhhjjeaaaGreatM29
import Derived.Test.YtihliofhhjjeaaaGreatM25
import Derived.Test.YtihliofhhjjeaaaGreatM26
import Derived.Test.YtihliofhhjjeaaaGreatM22
import Derived.Deep.RegionHeld3
import Derived.Deep.CutRange
import Derived.BigQuiet
set_option maxRecDepth 100000
namespace Go.Proofs.YtihliofhhjjeaaaGreat
open Go.RowKit Im Go.Maps
theorem Ints.own {base : Nat} {w : World} {a : Option Addr} {len : Nat} {qs : List Int} (h : Ints base w a len qs) (hb : 0 < base) {k : Nat} (hk : k < len) :
    ∃ b off, a = some ⟨b, off, none⟩ ∧ base ≤ b ∧ b < w.heap.size ∧ w.cell? ⟨b, off + k, none⟩ = some (.int .i64 (qs.getD k 0)) ∧ w.frozen? ⟨b, off + k, none⟩ = false := by
  have hl := h.leng
  have hne : qs ≠ [] := fun e => by rw [e] at hl; simp at hl; omega
  rcases h.cells with e | ⟨b, off, ha, h0, hlt, hc⟩
  · exact absurd e hne
  · rcases h.free hb with e | hf
    · exact absurd e hne
    · exact ⟨b, off, ha, h0, hlt, hc k hk, hf b off ha k hk⟩
theorem Ints.store {base : Nat} {w : World} {b off len : Nat} {qs : List Int} (h : Ints base w (some ⟨b, off, none⟩) len qs) {k : Nat} (hk : k < len) (x : Int) : Ints base (w.setCell ⟨b, off + k, none⟩ (.int .i64 x)) (some ⟨b, off, none⟩) len (qs.set k x) := by
  have hl := h.leng
  have hne : qs ≠ [] := fun e => by rw [e] at hl; simp at hl; omega
  refine ⟨by rw [List.length_set]; exact hl, h.big, ?_, fun h0 => ?_⟩
  · rcases h.cells with e | ⟨b', off', ha, h0, hlt, hc⟩
    · exact absurd e hne
    · injection ha with ha
      injection ha with e1 e2
      subst e1 e2
      refine .inr ⟨b, off, rfl, h0, by simpa using hlt, fun j hj => ?_⟩
      by_cases hjk : j = k
      · subst hjk
        rw [set_same (hc j hj), List.getD_eq_getElem?_getD, List.getElem?_set_self (by omega)]
        rfl
      · rw [set_other _ (fun e => hjk (by injection e with _ e; omega)), hc j hj, List.getD_eq_getElem?_getD, List.getD_eq_getElem?_getD, List.getElem?_set_ne (fun e => hjk e.symm)]
  · rcases h.free h0 with e | hf
    · exact absurd e hne
    · exact .inr fun b' off' ha j hj => by rw [World.frozen?_setCell]; exact hf b' off' ha j hj
theorem PlBox.set {w : World} {b : Nat} {v0 v1 : Value} (h : PlBox w b v0 v1) {p : Addr} (hp : p.block ≠ b) (u : Value) : PlBox (w.setCell p u) b v0 v1 := by
  have hn : ∀ o, p ≠ (⟨b, o, none⟩ : Addr) := fun o e => hp (by rw [e])
  exact ⟨by simpa using h.lt, (set_other _ (hn 0)).trans h.c0, (set_other _ (hn 1)).trans h.c1⟩
theorem list_append_copy {w0 : World} {ops : Array Oper} {rest : List Oper} {o : Oper} {a : Act} {Q : Exit → Act → World → Prop} (hgd : o.guard = none) (s x : Operand)
    (ho : o.op = .call { callee := .builtin .append, args := #[s, x], argTypes := #[25, 25] }) (hs : a.eval s = .slice (some ⟨w0.heap.size, 0, none⟩) 0 0) (aa : Option Addr) (alen ac : Nat) (hx : a.eval x = .slice aa alen ac) (A : List Int) (hA : Ints 0 (w0.alloc (.cells #[] 3)) aa alen A) (h8 : alen * 8 ≤ 140737488351232)
    (h : ∀ la lc w', Ints 0 w' la A.length A → Below w0.heap.size w0 w' → wpList Tryz.prog ops Q rest (a.put o.dst (.slice la A.length lc)) w') : wpList Tryz.prog ops Q (o :: rest) a (w0.alloc (.cells #[] 3)) := by
  obtain ⟨i0, hi, hz0, hz1, hz2⟩ := info_parts Tryz.info3
  have hb0 := below_box (Below.refl w0.heap.size w0) (.cells #[] 3)
  obtain rfl := hA.leng
  by_cases hn : A = []
  · subst hn
    refine list_append_nothing hgd s x 25 ho 3 i0 Tryz.underlying25 hi (some ⟨w0.heap.size, 0, none⟩) 0 0 (Nat.le_refl _) hs aa ac hx ?_
    exact h (some ⟨w0.heap.size, 0, none⟩) 0 _ ⟨rfl, by simp, .inl rfl, fun _ => .inl rfl⟩ hb0
  · rcases hA.cells with e | ⟨b, off, rfl, _, hb, hc⟩
    · exact absurd e hn
    · have hlit := World.ownsRow_lit (base := w0.heap.size) (e := 3) (size := 1) w0 #[] 0 (Nat.le_refl _) (by unfold maxLen; omega) rfl
      refine wpList_append_own _ hgd s x 25 ho w0.heap.size 3 i0 _ 1 8 Tryz.underlying25 hi hz0 hz1 hz2 rfl (by decide) (.slice (some ⟨w0.heap.size, 0, none⟩) 0 0) 0 [] hs hlit ⟨b, off, none⟩ A.length ac (A.map (Value.int .i64)) hx (by simp) (fun j u hu => ?_) (fun u hu => ?_) (by unfold maxLen; omega) (by omega) (by simp) ?_
      · have hj : j < A.length := by
          rcases Nat.lt_or_ge j A.length with h | h
          · exact h
          · rw [List.getElem?_eq_none (by simpa using h)] at hu; cases hu
        have := hc j hj
        simp only [List.getElem?_map, List.getElem?_eq_getElem hj, Option.map_some, Option.some.injEq] at hu
        rw [List.getD_eq_getElem?_getD, List.getElem?_eq_getElem hj] at this
        subst hu
        rw [addr_add]
        exact this
      · obtain ⟨n, _, rfl⟩ := List.mem_map.1 hu
        rfl
      · intro v' w' hown hgrow _
        rw [Nat.zero_add, List.nil_append] at hown
        have hO : Owns w0.heap.size w' v' A := hown
        obtain ⟨la, lc, hv, hI⟩ := hO.ints (by omega)
        subst hv
        exact h la lc w' (hI.mono (Nat.zero_le _)) (hb0.grown hgrow (by simp) (fun j hj => by cases hj; exact Nat.le_refl _))
theorem comp_full {w w' : World} {f : Fr} {e : Ending} (h : ToldComp w f e w') : ∃ qa qc ra rl rc qs rs, e = .returned (.tuple #[.agg #[.slice qa qs.length qc, .slice ra rl rc], .int .i64 (frameE f)]) ∧ Ints w.heap.size w' qa qs.length qs ∧ Ints 0 w' ra rl rs ∧ (frameE f = 0 → qs = cOrd (gpOf f) f.ps.length ∧ rs = cPl (gpOf f)) ∧ Below w.heap.size w w' := by
  obtain ⟨⟨hE, v, pb, rfl, hpb, hO, hN⟩ | ⟨hE, rfl⟩, hb⟩ := h
  · have h12 : f.ps.length ≤ 12 := (gp_right hE).hN.2
    have hol : (cOrd (gpOf f) f.ps.length).length ≤ 12 := Nat.le_trans (cOrd_len _ _) h12
    have hpl : (cPl (gpOf f)).length = f.ps.length := (comp_plan hE).2
    obtain ⟨qa, qc, rfl, hI⟩ := hO.ints (by omega)
    exact ⟨qa, qc, some ⟨pb, 0, none⟩, f.ps.length, f.ps.length, _, _, by rw [hE], hI.mono (by omega), Nm.list hN hpl (by omega), fun _ => ⟨rfl, rfl⟩, hb⟩
  · exact ⟨none, 0, none, 0, 0, [], [], rfl, Ints.nil _ _, Ints.nil _ _, fun h => absurd h hE, hb⟩
theorem comp_ref {w w' : World} {f : Fr} {e : Ending} (hE : frameE f = 0) (h : ToldCR w f e w') : ∃ qa qc ra rl rc, e = .returned (.agg #[.slice qa (cOrd (gpOf f) f.ps.length).length qc, .slice ra rl rc]) ∧ Ints 0 w' qa (cOrd (gpOf f) f.ps.length).length (cOrd (gpOf f) f.ps.length) ∧ Ints 0 w' ra rl (cPl (gpOf f)) ∧ Below w.heap.size w w' := by
  obtain ⟨⟨v, pb, rfl, hpb, hO, hN⟩, hb⟩ := h
  have h12 : f.ps.length ≤ 12 := (gp_right hE).hN.2
  have hol : (cOrd (gpOf f) f.ps.length).length ≤ 12 := Nat.le_trans (cOrd_len _ _) h12
  have hpl : (cPl (gpOf f)).length = f.ps.length := (comp_plan hE).2
  obtain ⟨qa, qc, rfl, hI⟩ := hO.ints (by omega)
  exact ⟨qa, qc, some ⟨pb, 0, none⟩, f.ps.length, f.ps.length, rfl, hI.mono (Nat.zero_le _), Nm.list hN hpl (by omega), hb⟩
theorem Ints.ahead {base : Nat} {w : World} {a : Option Addr} {len : Nat} {qs : List Int} (h : Ints base w a len qs) : ∀ b off, a = some ⟨b, off, none⟩ → 0 < len → b < w.heap.size := by
  intro b off ha hl
  rcases h.cells with e | ⟨b', off', ha', _, hlt, _⟩
  · have := h.leng; rw [e] at this; simp at this; omega
  · rw [ha] at ha'
    injection ha' with ha'
    injection ha' with e1 _
    omega
structure RBase (w : World) (W H S O : Int) (a : Option Addr) (len cap : Nat) (vo vp : Value) (bW : Nat) (aw : Option Addr) (cw : Nat) (ps : List Ps) (la : Option Addr) (A : List Int) (wx : World) : Prop where
  bel : Below w.heap.size w wx
  f : FBox wx w.heap.size W H S O a len cap
  p : PlBox wx (w.heap.size + 1) vo vp
  was : FBox wx bW W H S O aw len cw
  wps : Passes wx aw len ps
  lay : Ints 0 wx la A.length A
theorem RBase.below {w : World} {W H S O : Int} {a : Option Addr} {len cap : Nat} {vo vp : Value} {bW : Nat} {aw : Option Addr} {cw : Nat} {ps : List Ps} {la : Option Addr} {A : List Int} {wx wy : World} (h : RBase w W H S O a len cap vo vp bW aw cw ps la A wx) (hb : Below wx.heap.size wx wy) : RBase w W H S O a len cap vo vp bW aw cw ps la A wy :=
  ⟨below_step h.bel hb, h.f.below hb, h.p.below hb, h.was.below hb, h.wps.below hb, h.lay.below (Nat.le_refl _) hb⟩
theorem RBase.pos {w : World} {W H S O : Int} {a : Option Addr} {len cap : Nat} {vo vp : Value} {bW : Nat} {aw : Option Addr} {cw : Nat} {ps : List Ps} {la : Option Addr} {A : List Int} {wx : World} (h : RBase w W H S O a len cap vo vp bW aw cw ps la A wx) : 0 < wx.heap.size := by have := h.f.lt; omega
structure RLast (bc : Nat) (r : Res) (ca : Option Addr) (cc : Nat) (bq : Nat) (qb : Option Addr) (qd : Nat) (rb : Option Addr) (rm rd : Nat) (qs rs : List Int) (bd : Nat) (R : Res) (da : Option Addr) (dc : Nat) (wx : World) : Prop where
  jc : JBox wx bc r.W r.H (.slice ca r.ps.length cc)
  ic : Ints 0 wx ca r.ps.length r.ps
  q : PlBox wx bq (.slice qb qs.length qd) (.slice rb rm rd)
  iq : Ints 0 wx qb qs.length qs
  ir : Ints 0 wx rb rm rs
  jd : JBox wx bd R.W R.H (.slice da R.ps.length dc)
  id : Ints 0 wx da R.ps.length R.ps
theorem RLast.below {bc : Nat} {r : Res} {ca : Option Addr} {cc : Nat} {bq : Nat} {qb : Option Addr} {qd : Nat} {rb : Option Addr} {rm rd : Nat} {qs rs : List Int} {bd : Nat} {R : Res} {da : Option Addr} {dc : Nat} {wx wy : World} (h : RLast bc r ca cc bq qb qd rb rm rd qs rs bd R da dc wx) (hb : Below wx.heap.size wx wy) : RLast bc r ca cc bq qb qd rb rm rd qs rs bd R da dc wy :=
  ⟨h.jc.below hb, h.ic.below (Nat.le_refl _) hb, h.q.below hb, h.iq.below (Nat.le_refl _) hb, h.ir.below (Nat.le_refl _) hb, h.jd.below hb, h.id.below (Nat.le_refl _) hb⟩
theorem tenR {W0 : World} {b b' c : Nat} {W H S O W' H' : Int} {a : Option Addr} {len cap : Nat} {v0 v1 v : Value} (hF : FBox W0 b W H S O a len cap) (hP : PlBox W0 b' v0 v1) (hJ : JBox W0 c W' H' v) {w' : World} (h : Below W0.heap.size W0 w') :
    w'.cell? ⟨b, 0, none⟩ = some (.int .i64 W) ∧ w'.cell? ⟨b, 1, none⟩ = some (.int .i64 H) ∧ w'.cell? ⟨b, 2, none⟩ = some (.int .i64 S) ∧ w'.cell? ⟨b, 3, none⟩ = some (.int .i64 O) ∧ w'.cell? ⟨b, 4, none⟩ = some (.slice a len cap) ∧ w'.cell? ⟨b', 0, none⟩ = some v0 ∧ w'.cell? ⟨b', 1, none⟩ = some v1 ∧ w'.cell? ⟨c, 0, none⟩ = some (.int .i64 W') ∧ w'.cell? ⟨c, 1, none⟩ = some (.int .i64 H') ∧ w'.cell? ⟨c, 2, none⟩ = some v := by
  obtain ⟨_, c0, c1, c2, c3, c4⟩ := hF.below h
  obtain ⟨_, p0, p1⟩ := hP.below h
  obtain ⟨_, j0, j1, j2⟩ := hJ.below h
  exact ⟨c0, c1, c2, c3, c4, p0, p1, j0, j1, j2⟩
theorem sevenR {W0 : World} {b b' : Nat} {W H S O : Int} {a : Option Addr} {len cap : Nat} {v0 v1 : Value} (hF : FBox W0 b W H S O a len cap) (hP : PlBox W0 b' v0 v1) {w' : World} (h : Below W0.heap.size W0 w') :
    Below W0.heap.size W0 w' ∧ w'.cell? ⟨b, 0, none⟩ = some (.int .i64 W) ∧ w'.cell? ⟨b, 1, none⟩ = some (.int .i64 H) ∧ w'.cell? ⟨b, 2, none⟩ = some (.int .i64 S) ∧ w'.cell? ⟨b, 3, none⟩ = some (.int .i64 O) ∧ w'.cell? ⟨b, 4, none⟩ = some (.slice a len cap) ∧ w'.cell? ⟨b', 0, none⟩ = some v0 ∧ w'.cell? ⟨b', 1, none⟩ = some v1 := by
  obtain ⟨_, c0, c1, c2, c3, c4⟩ := hF.below h
  obtain ⟨_, p0, p1⟩ := hP.below h
  exact ⟨h, c0, c1, c2, c3, c4, p0, p1⟩
theorem render_fine {f : Fr} (hE : frameE f = 0) : fineB (renderP f).W (renderP f).H (renderP f).ps = true := by
  obtain ⟨h1, h2, h3⟩ := frameE_zero hE
  obtain ⟨N, hN⟩ := Int.eq_ofNat_of_zero_le h3
  have hl : N < f.ps.length := by
    have := (wrt_bd f.ps f.ps.length f.O).2
    have e : shownP f = wrt f.ps f.ps.length f.O := rfl
    omega
  unfold renderP
  rw [if_pos hE, hN, Int.toNat_natCast]
  exact (pics_right h1 h2 N hl).2.1
end Go.Proofs.YtihliofhhjjeaaaGreat
namespace Go.Proofs.YtihliofhhjjeaaaGreat
open Go.RowKit Im Go.Maps
set_option maxHeartbeats 16000000 in
theorem restFrames_any (W H S O : Int) (a : Option Addr) (len cap : Nat) (ps : List Ps) (oa : Option Addr) (olen ocap : Nat) (os : List Int) (pa : Option Addr) (plen pcap : Nat) (pl : List Int) (aa : Option Addr) (alen ac : Nat) (A : List Int) (w : World) (hp : Passes w a len ps) (hO : Ints 0 w oa olen os) (hcap : olen ≤ ocap) (hL : Ints 0 w pa plen pl) (hac : alen ≤ ac) (hA : Ints 0 w aa alen A)
    (hN : ps.length * 64 ≤ 140737488351232) (hfew : ∀ k, k < ps.length → (ps.getD k Ps.zero).ls.length * 32 ≤ 140737488351232) (h8 : alen * 8 ≤ 140737488351232) :
    Calls Tryz.prog 3 #[.agg #[.int .i64 W, .int .i64 H, .int .i64 S, .int .i64 O, .slice a len cap], .agg #[.slice oa olen ocap, .slice pa plen pcap], .slice aa alen ac] w fun e w' => e = .returned (.bool true) ∧ Below w.heap.size w w' := by
  obtain rfl := hA.leng
  obtain rfl := hO.leng
  obtain rfl := hp.leng
  obtain ⟨hb0, hF0, hP0⟩ := boxes2 w W H S O a ps.length cap (.slice oa os.length ocap) (.slice pa plen pcap)
  have HRU : Hid (_) := fun wx (h : Below w.heap.size w wx) => run_any W H S O a ps.length cap ps wx (hp.below h) oa os.length ocap pa plen pcap os pl (hO.below (Nat.le_refl _) h) (hL.below (Nat.le_refl _) h) hcap aa A.length ac A (hA.below (Nat.le_refl _) h)
  have HCO : Hid (_) := fun wx (h : Below w.heap.size w wx) => compile_any W H S O a ps.length cap ps wx (hp.below h)
  have HRE : Hid (_) := fun wx (h : Below w.heap.size w wx) => render_any W H S O a ps.length cap ps wx (hp.below h)
  have HOW : Hid (_) := fun wx (h : Below w.heap.size w wx) => ownFrame_big W H S O a ps.length cap ps wx (hp.below h) hN hfew
  have HSF : Hid (_) := fun wx (h : Below w.heap.size w wx) (aw : Option Addr) (cw : Nat) (hw : Passes wx aw ps.length ps) => sameFrames_any W H S O cap cw (hp.below h) hw
  have HSA : Hid (∀ wx, Below w.heap.size w wx → ∀ (la : Option Addr) (lc : Nat), Ints 0 wx la A.length A → Calls Tryz.prog 11 #[.slice aa A.length ac, .slice la A.length lc] wx fun e w' => e = .returned (.bool true) ∧ Below wx.heap.size wx w') := fun wx h la lc hl => by
    have := sameInts_any ac lc (hA.below (Nat.le_refl _) h) hl
    rwa [decide_eq_true rfl] at this
  have HEE : Hid (_) := fun wx (h : Below w.heap.size w wx) => execError_any W H S O a ps.length cap ps wx (hp.below h) oa os.length ocap pa plen pcap os pl (hO.below (Nat.le_refl _) h) (hL.below (Nat.le_refl _) h) aa A.length ac A (hA.below (Nat.le_refl _) h)
  have HRO : Hid (_) := fun wx (h : Below w.heap.size w wx) (hF : FitA ⟨W, H, S, O, ps⟩ os pl A) => runOf_any W H S O a ps.length cap ps wx (hp.below h) oa os.length ocap pa plen pcap os pl (hO.below (Nat.le_refl _) h) (hL.below (Nat.le_refl _) h) aa ac A (hA.below (Nat.le_refl _) h) hac hF
  have HCF : Hid (_) := fun wx (h : Below w.heap.size w wx) => checkFrame_any W H S O a ps.length cap ps wx (hp.below h)
  have HCR : Hid (_) := fun wx (h : Below w.heap.size w wx) (hE : frameE ⟨W, H, S, O, ps⟩ = 0) => compileOf_any W H S O a ps.length cap ps wx (hp.below h) hE
  have HRR : Hid (_) := fun wx (h : Below w.heap.size w wx) (hE : frameE ⟨W, H, S, O, ps⟩ = 0) => renderOf_any W H S O a ps.length cap ps wx (hp.below h) hE
  have HA : Hid (_) := fun wx (h : Below w.heap.size w wx) => hA.below (Nat.le_refl _) h
  have H8 : Hid (_) := h8
  have HN : Hid (_) := hN
  have HXE : Hid (_) := runP_E ⟨W, H, S, O, ps⟩ os pl A
  have HXR : Hid (execE ⟨W, H, S, O, ps⟩ os pl A = 0 → runP ⟨W, H, S, O, ps⟩ os pl A = runR ⟨W, H, S, O, ps⟩ os pl A) := fun h => by unfold runP; rw [if_pos h]
  have HDE : Hid (_) := renderP_E ⟨W, H, S, O, ps⟩
  have HDF : Hid (_) := fun hE : frameE ⟨W, H, S, O, ps⟩ = 0 => render_fine hE
  have HXF : Hid (_) := fun hX : execE ⟨W, H, S, O, ps⟩ os pl A = 0 => fit_of (exec_zero hX).1 (exec_zero hX).2
  clear hp hO hL hA hfew h8 hN hac hcap
  generalize runP ⟨W, H, S, O, ps⟩ os pl A = r at *
  generalize renderP ⟨W, H, S, O, ps⟩ = R at *
  go_enter Tryz.func3, Tryz.ntmps3
  go_wp2_with fail
  generalize (w.alloc (.cells #[.int .i64 W, .int .i64 H, .int .i64 S, .int .i64 O, .slice a ps.length cap] 24)).alloc (.cells #[.slice oa os.length ocap, .slice pa plen pcap] 27) = w1 at *
  refine (execBegun_any _).mono ?_
  rintro e w2 ⟨rfl, b2⟩
  go_wp2_with fail
  refine (fitBegun_any _).mono ?_
  rintro e w3 ⟨rfl, b3⟩
  have b13 := below_step b2 b3
  have hF3 := hF0.below b13
  have hP3 := hP0.below b13
  have hb3 := below_step hb0 b13
  obtain ⟨_, g0, g1, g2, g3, g4⟩ := id hF3
  clear hF0 hP0 hb0 b13 b2 b3
  go_wp2_with fail
  refine (HOW.out _ hb3).mono ?_
  rintro e w4 ⟨⟨aw, cw, L, rfl, hRow, hmap⟩, b4⟩
  obtain ⟨aw', cw', hv, hPw⟩ := hRow.passes hmap (by have h1 := congrArg List.length hmap; simp at h1; have := HN.out; omega)
  injection hv with e1 _ e3
  subst e1 e3
  have hFw := FBox.new w4 W H S O aw ps.length cw
  have bA := (Below.refl w4.heap.size w4).alloc (Nat.le_refl _) (.cells #[.int .i64 W, .int .i64 H, .int .i64 S, .int .i64 O, .slice aw ps.length cw] 24)
  have hPw5 := hPw.below bA
  have b35 := below_step b4 bA
  have hF5 := hF3.below b35
  have hP5 := hP3.below b35
  have hb5 := below_step hb3 b35
  clear g0 g1 g2 g3 g4 hRow hmap hPw b4 bA hF3 hP3 b35
  go_upto_region 4 with fail
  generalize w4.alloc (.cells #[.int .i64 W, .int .i64 H, .int .i64 S, .int .i64 O, .slice aw ps.length cw] 24) = w5 at *
  have hA5 := (HA.out _ hb5).below (Nat.le_refl _) ((Below.refl w5.heap.size w5).alloc (Nat.le_refl _) (.cells #[] 3))
  go_upto_region 5 with (at_builtin; refine list_append_copy rfl _ _ rfl rfl aa A.length ac rfl A hA5 H8.out ?_; intro la lc w6 hLay b6)
  have hB : RBase w W H S O a ps.length cap (.slice oa os.length ocap) (.slice pa plen pcap) w4.heap.size aw cw ps la A w6 := ⟨below_step hb5 b6, hF5.below b6, hP5.below b6, hFw.below b6, hPw5.below b6, hLay⟩
  clear hF5 hP5 hFw hPw5 hLay hA5 hb5 b6 hb3
  have hpos := hB.pos
  obtain ⟨_, g0, g1, g2, g3, g4⟩ := id hB.f
  obtain ⟨_, e0, e1⟩ := id hB.p
  go_wp2_with fail
  refine (HRU.out _ hB.bel).mono ?_
  clear g0 g1 g2 g3 g4 e0 e1
  rintro e w7 ⟨ia, ic, rfl, hI7, b7⟩
  have hah := hI7.ahead
  have hJ7 := JBox.new w7 r.W r.H (.slice ia r.ps.length ic)
  have bB := (Below.refl w7.heap.size w7).alloc (Nat.le_refl _) (.cells #[.int .i64 r.W, .int .i64 r.H, .slice ia r.ps.length ic] 31)
  have hI8 := hI7.below (Nat.le_refl _) bB
  have b68 := below_step b7 bB
  have hbig := hI7.big
  clear hI7 b7 bB
  go_wp2_with fail
  generalize w7.alloc (.cells #[.int .i64 r.W, .int .i64 r.H, .slice ia r.ps.length ic] 31) = w8 at *
  go_loopw [11] (fun i wr => ∃ (k : Nat) (qs : List Int), k ≤ r.ps.length ∧ i = .int .i64 k ∧ Ints w6.heap.size wr ia r.ps.length qs ∧ JBox wr w7.heap.size r.W r.H (.slice ia r.ps.length ic) ∧ Below w6.heap.size w6 wr) (fun i _ => r.ps.length - (intOf i).toNat)
  case atStart => exact ⟨0, r.ps, Nat.zero_le _, rfl, hI8, hJ7, b68⟩
  case round =>
    obtain ⟨k, qs, hk, rfl, hIr, hJr, hbr⟩ := hrel
    obtain ⟨_, j0, j1, j2⟩ := id hJr
    by_cases hlt : k < r.ps.length
    · obtain ⟨b, off, rfl, hbb, hbl, hc, hf⟩ := hIr.own hpos hlt
      have hb7 := hah b off rfl (by omega)
      have hSt := hIr.store hlt (-1)
      have hJs := hJr.set (p := ⟨b, off + k, none⟩) (show b ≠ w7.heap.size by omega) (.int .i64 (-1))
      have hbs := hbr.setCell (p := ⟨b, off + k, none⟩) hbb (.int .i64 (-1))
      clear hI8 hIr hJr hah hJ7 b68
      go_wp2
      go_roundw
      case rel => exact ⟨k + 1, _, by omega, by go_num, hSt, hJs, hbs⟩
      case measure => simp [intOf]; omega
    · have hke : k = r.ps.length := by omega
      subst hke
      replace hB := hB.below hbr
      clear hIr hI8 hah hJ7 b68 hbr hlt hk hbig hpos hJr
      obtain ⟨wA, eA⟩ : ∃ z, z = wr := ⟨_, rfl⟩
      subst eA
      obtain ⟨_, g0, g1, g2, g3, g4⟩ := id hB.f
      go_wp2_with fail
      refine (HCO.out _ hB.bel).mono ?_
      clear g0 g1 g2 g3 g4 j0 j1 j2
      intro e w9 hco
      obtain ⟨qa, qc, ra, rl, rc, qs1, rs1, rfl, hI9, _, _, b9⟩ := comp_full hco
      have hpos := hB.pos
      have hah := hI9.ahead
      have hQ9 := PlBox.new w9 (.slice qa qs1.length qc) (.slice ra rl rc) 27
      have bC := (Below.refl w9.heap.size w9).alloc (Nat.le_refl _) (.cells #[.slice qa qs1.length qc, .slice ra rl rc] 27)
      have hI10 := hI9.below (Nat.le_refl _) bC
      have b10 := below_step b9 bC
      have hbig := hI9.big
      clear hI9 b9 bC hco
      go_wp2_with fail
      generalize w9.alloc (.cells #[.slice qa qs1.length qc, .slice ra rl rc] 27) = w10 at *
      go_loopw [14] (fun i wr => ∃ (k : Nat) (ts : List Int), k ≤ qs1.length ∧ i = .int .i64 k ∧ Ints wA.heap.size wr qa qs1.length ts ∧ PlBox wr w9.heap.size (.slice qa qs1.length qc) (.slice ra rl rc) ∧ Below wA.heap.size wA wr) (fun i _ => qs1.length - (intOf i).toNat)
      case atStart => exact ⟨0, qs1, Nat.zero_le _, rfl, hI10, hQ9, b10⟩
      case round =>
        obtain ⟨k, ts, hk, rfl, hIr, hQr, hbr⟩ := hrel
        obtain ⟨_, j0, j1⟩ := id hQr
        by_cases hlt : k < qs1.length
        · obtain ⟨b, off, rfl, hbb, hbl, hc, hf⟩ := hIr.own hpos hlt
          have hb9 := hah b off rfl (by omega)
          have hSt := hIr.store hlt (-1)
          have hQs := hQr.set (p := ⟨b, off + k, none⟩) (show b ≠ w9.heap.size by omega) (.int .i64 (-1))
          have hbs := hbr.setCell (p := ⟨b, off + k, none⟩) hbb (.int .i64 (-1))
          clear hI10 hIr hQr hah hQ9 b10
          go_wp2
          go_roundw
          case rel => exact ⟨k + 1, _, by omega, by go_num, hSt, hQs, hbs⟩
          case measure => simp [intOf]; omega
        · have hke : k = qs1.length := by omega
          subst hke
          replace hB := hB.below hbr
          clear hIr hI10 hah hQ9 b10 hbr hlt hk hbig hpos hQr
          obtain ⟨wC, eC⟩ : ∃ z, z = wr := ⟨_, rfl⟩
          subst eC
          obtain ⟨_, g0, g1, g2, g3, g4⟩ := id hB.f
          go_wp2_with fail
          refine (HRE.out _ hB.bel).mono ?_
          clear g0 g1 g2 g3 g4 j0 j1
          rintro e w11 ⟨ja, jc, rfl, hI11, b11⟩
          have hpos := hB.pos
          have hah := hI11.ahead
          have hJ11 := JBox.new w11 R.W R.H (.slice ja R.ps.length jc)
          have bD := (Below.refl w11.heap.size w11).alloc (Nat.le_refl _) (.cells #[.int .i64 R.W, .int .i64 R.H, .slice ja R.ps.length jc] 31)
          have hI12 := hI11.below (Nat.le_refl _) bD
          have b12 := below_step b11 bD
          have hbig := hI11.big
          clear hI11 b11 bD
          go_wp2_with fail
          generalize w11.alloc (.cells #[.int .i64 R.W, .int .i64 R.H, .slice ja R.ps.length jc] 31) = w12 at *
          go_loopw [17] (fun i wr => ∃ (k : Nat) (ts : List Int), k ≤ R.ps.length ∧ i = .int .i64 k ∧ Ints wC.heap.size wr ja R.ps.length ts ∧ JBox wr w11.heap.size R.W R.H (.slice ja R.ps.length jc) ∧ Below wC.heap.size wC wr) (fun i _ => R.ps.length - (intOf i).toNat)
          case atStart => exact ⟨0, R.ps, Nat.zero_le _, rfl, hI12, hJ11, b12⟩
          case round =>
            obtain ⟨k, ts, hk, rfl, hIr, hJr, hbr⟩ := hrel
            obtain ⟨_, j0, j1, j2⟩ := id hJr
            by_cases hlt : k < R.ps.length
            · obtain ⟨b, off, rfl, hbb, hbl, hc, hf⟩ := hIr.own hpos hlt
              have hb11 := hah b off rfl (by omega)
              have hSt := hIr.store hlt (-1)
              have hJs := hJr.set (p := ⟨b, off + k, none⟩) (show b ≠ w11.heap.size by omega) (.int .i64 (-1))
              have hbs := hbr.setCell (p := ⟨b, off + k, none⟩) hbb (.int .i64 (-1))
              clear hI12 hIr hJr hah hJ11 b12
              go_wp2
              go_roundw
              case rel => exact ⟨k + 1, _, by omega, by go_num, hSt, hJs, hbs⟩
              case measure => simp [intOf]; omega
            · have hke : k = R.ps.length := by omega
              subst hke
              replace hB := hB.below hbr
              clear hIr hI12 hah hJ11 b12 hbr hlt hk hbig hpos hJr
              obtain ⟨wD, eD⟩ : ∃ z, z = wr := ⟨_, rfl⟩
              subst eD
              obtain ⟨_, g0, g1, g2, g3, g4⟩ := id hB.f
              obtain ⟨_, e0, e1⟩ := id hB.p
              go_wp2_with fail
              refine (HRU.out _ hB.bel).mono ?_
              clear g0 g1 g2 g3 g4 e0 e1 j0 j1 j2
              rintro e w13 ⟨ca, cc, rfl, hIc, b13⟩
              have hJc := JBox.new w13 r.W r.H (.slice ca r.ps.length cc)
              have bE := (Below.refl w13.heap.size w13).alloc (Nat.le_refl _) (.cells #[.int .i64 r.W, .int .i64 r.H, .slice ca r.ps.length cc] 31)
              have hIc2 := (hIc.below (Nat.le_refl _) bE).mono (Nat.zero_le _)
              replace hB := hB.below (below_step b13 bE)
              clear hIc b13 bE
              obtain ⟨_, g0, g1, g2, g3, g4⟩ := id hB.f
              go_wp2_with fail
              generalize w13.alloc (.cells #[.int .i64 r.W, .int .i64 r.H, .slice ca r.ps.length cc] 31) = w14 at *
              refine (HCO.out _ hB.bel).mono ?_
              clear g0 g1 g2 g3 g4
              intro e w15 hco
              obtain ⟨qb, qd, rb, rm, rd, qs2, rs2, rfl, hIq, hIr, heq, b15⟩ := comp_full hco
              have HEQ : Hid (_) := heq
              have hQ15 := PlBox.new w15 (.slice qb qs2.length qd) (.slice rb rm rd) 27
              have bF := (Below.refl w15.heap.size w15).alloc (Nat.le_refl _) (.cells #[.slice qb qs2.length qd, .slice rb rm rd] 27)
              have b16 := below_step b15 bF
              have hIq2 := (hIq.below (Nat.le_refl _) bF).mono (Nat.zero_le _)
              have hIr2 := hIr.below (Nat.le_refl _) bF
              have hJc2 := hJc.below b16
              have hIc3 := hIc2.below (Nat.le_refl _) b16
              replace hB := hB.below b16
              clear hIq hIr heq hco b15 bF hJc hIc2 b16
              obtain ⟨_, g0, g1, g2, g3, g4⟩ := id hB.f
              go_wp2_with fail
              generalize w15.alloc (.cells #[.slice qb qs2.length qd, .slice rb rm rd] 27) = w16 at *
              refine (HRE.out _ hB.bel).mono ?_
              clear g0 g1 g2 g3 g4
              rintro e w17 ⟨da, dc, rfl, hId, b17⟩
              have hJd := JBox.new w17 R.W R.H (.slice da R.ps.length dc)
              have bG := (Below.refl w17.heap.size w17).alloc (Nat.le_refl _) (.cells #[.int .i64 R.W, .int .i64 R.H, .slice da R.ps.length dc] 31)
              have b18 := below_step b17 bG
              have hId2 := (hId.below (Nat.le_refl _) bG).mono (Nat.zero_le _)
              have hIq3 := hIq2.below (Nat.le_refl _) b18
              have hIr3 := hIr2.below (Nat.le_refl _) b18
              have hQ18 := hQ15.below b18
              have hJc3 := hJc2.below b18
              have hIc4 := hIc3.below (Nat.le_refl _) b18
              replace hB := hB.below b18
              have hT : RLast w13.heap.size r ca cc w15.heap.size qb qd rb rm rd qs2 rs2 w17.heap.size R da dc _ := ⟨hJc3, hIc4, hQ18, hIq3, hIr3, hJd, hId2⟩
              clear hId b17 bG hIq2 hIr2 hQ15 hJc2 hIc3 b18 hJc3 hIc4 hQ18 hIq3 hIr3 hJd hId2
              rw [HDE.out, HXE.out]
              generalize hGE : frameE ⟨W, H, S, O, ps⟩ = E at *
              generalize hGX : execE ⟨W, H, S, O, ps⟩ os pl A = X at *
              have HGE : Hid (_) := hGE
              have HGX : Hid (_) := hGX
              clear hGE hGX
              obtain ⟨_, g0, g1, g2, g3, g4⟩ := id hB.f
              obtain ⟨_, e0, e1, e2, e3, e4⟩ := id hB.was
              go_wp2_with fail
              generalize w17.alloc (.cells #[.int .i64 R.W, .int .i64 R.H, .slice da R.ps.length dc] 31) = w18 at *
              refine (HSF.out _ hB.bel aw cw hB.wps).mono ?_
              clear g0 g1 g2 g3 g4 e0 e1 e2 e3 e4
              rintro e w19 ⟨rfl, b19⟩
              replace hB := hB.below b19
              replace hT := hT.below b19
              clear b19
              go_wp2_with fail
              refine (HSA.out _ hB.bel la lc hB.lay).mono ?_
              rintro e w20 ⟨rfl, b20⟩
              replace hB := hB.below b20
              replace hT := hT.below b20
              clear b20
              go_upto_region 25 with fail
              have hee := HEE.out
              go_cut [149] from 129 to 149 (fun s wc => s = .bool false ∧ Below w20.heap.size w20 wc)
              case first =>
                by_cases hX : X = 0
                · subst hX
                  have hro := fun wx h => HRO.out wx h (HXF.out rfl)
                  rw [← HXR.out rfl] at hro
                  have hd := (Below.refl w20.heap.size w20).drew
                  have hF := hB.f
                  have hP := hB.p
                  have hJ := hT.jc
                  have hIc := hT.ic
                  have hbl := hB.bel
                  clear hB hT HRU HCO HRE HOW HSF HSA HEE HRO HCF HCR HRR HA H8 HN HXE HXR HDE HDF HXF HEQ HGE HGX
                  go_region_held3 (fun w' => w'.cell? ⟨w.heap.size, 0, none⟩ = some (.int .i64 W) ∧ w'.cell? ⟨w.heap.size, 1, none⟩ = some (.int .i64 H) ∧ w'.cell? ⟨w.heap.size, 2, none⟩ = some (.int .i64 S) ∧ w'.cell? ⟨w.heap.size, 3, none⟩ = some (.int .i64 O) ∧ w'.cell? ⟨w.heap.size, 4, none⟩ = some (.slice a ps.length cap) ∧ w'.cell? ⟨w.heap.size + 1, 0, none⟩ = some (.slice oa os.length ocap) ∧ w'.cell? ⟨w.heap.size + 1, 1, none⟩ = some (.slice pa plen pcap) ∧ w'.cell? ⟨w13.heap.size, 0, none⟩ = some (.int .i64 r.W) ∧ w'.cell? ⟨w13.heap.size, 1, none⟩ = some (.int .i64 r.H) ∧ w'.cell? ⟨w13.heap.size, 2, none⟩ = some (.slice ca r.ps.length cc))
                    (first | exact tenR hF hP hJ hd | exact tenR hF hP hJ B1 | exact tenR hF hP hJ B2 | exact tenR hF hP hJ B3)
                    (first
                      | (go_at_call 12; (with_reducible refine (hee _ (below_step hbl hd)).mono ?_); rintro e w21 ⟨rfl, b21⟩; have B1 := hd.trans b21)
                      | (go_at_call 14; (with_reducible refine (hro _ (below_step hbl B1)).mono ?_); rintro e w22 ⟨va, vc, rfl, hI22, b22⟩; have B2 := below_step B1 b22)
                      | (go_at_call 13; (with_reducible refine (sameImages_any r.W r.H r.W r.H cc vc (hIc.below (Nat.le_refl _) B2) (hI22.mono (Nat.zero_le _))).mono ?_); rintro e w23 ⟨rfl, b23⟩; have B3 := below_step B2 b23))
                  all_goals (go_wp2_with fail; go_meet)
                  all_goals exact ⟨by simp, B3⟩
                · have hX0 : (X == 0) = false := by simpa using hX
                  clear hT HRU HCO HRE HOW HSF HSA HEE HRO HCF HCR HRR HA H8 HN HXE HXR HDE HDF HXF HEQ HGE HGX
                  have kp : ∀ w', Below w20.heap.size w20 w' → Below w20.heap.size w20 w' ∧ w'.cell? ⟨w.heap.size, 0, none⟩ = some (.int .i64 W) ∧ w'.cell? ⟨w.heap.size, 1, none⟩ = some (.int .i64 H) ∧ w'.cell? ⟨w.heap.size, 2, none⟩ = some (.int .i64 S) ∧ w'.cell? ⟨w.heap.size, 3, none⟩ = some (.int .i64 O) ∧ w'.cell? ⟨w.heap.size, 4, none⟩ = some (.slice a ps.length cap) ∧ w'.cell? ⟨w.heap.size + 1, 0, none⟩ = some (.slice oa os.length ocap) ∧ w'.cell? ⟨w.heap.size + 1, 1, none⟩ = some (.slice pa plen pcap) := fun w' h => sevenR hB.f hB.p h
                  refine wp_region_held_drew (S := (fun w' => Below w20.heap.size w20 w' ∧ w'.cell? ⟨w.heap.size, 0, none⟩ = some (.int .i64 W) ∧ w'.cell? ⟨w.heap.size, 1, none⟩ = some (.int .i64 H) ∧ w'.cell? ⟨w.heap.size, 2, none⟩ = some (.int .i64 S) ∧ w'.cell? ⟨w.heap.size, 3, none⟩ = some (.int .i64 O) ∧ w'.cell? ⟨w.heap.size, 4, none⟩ = some (.slice a ps.length cap) ∧ w'.cell? ⟨w.heap.size + 1, 0, none⟩ = some (.slice oa os.length ocap) ∧ w'.cell? ⟨w.heap.size + 1, 1, none⟩ = some (.slice pa plen pcap))) (by kernel_rfl) (kp _ (Below.refl _ _).drew) (fun hHeld => ?_)
                  refine wpAnyH_take (i := 0) (oi := { dst := some 129, op := Go.Op.move (Go.Operand.tmp 19), type := 32, pos := "two.go:278", after := #[], guard := none }) (v := .int .i64 X) rfl (by kernel_rfl) (by kernel_rfl) (by kernel_rfl) (fun _ _ _ h => h) (Or.inl ⟨by rfl, fun wz hSw => ?_⟩) hHeld ?_
                  · obtain ⟨_, r0, r1, r2, r3, r4, r5, r6⟩ := hSw
                    go_simp
                  simp only [Act.put, List.setIfInBounds_toArray, List.set_cons_zero, List.set_cons_succ]
                  refine wpAnyH_take (i := 1) (oi := { dst := some 130, op := Go.Op.binOp Go.BinOp.eql 32 (Go.Operand.tmp 129) (Go.Operand.const (Go.Value.int Go.IntKind.i64 0)) 32, type := 4, pos := "two.go:278", after := #[{ on := 0, ground := Go.Ground.data }], guard := none }) (v := .bool false) rfl (by kernel_rfl) (by kernel_rfl) (by kernel_rfl) (fun _ _ _ h => h) (Or.inl ⟨by rfl, fun wz hSw => ?_⟩) hHeld ?_
                  · obtain ⟨_, r0, r1, r2, r3, r4, r5, r6⟩ := hSw
                    go_simp
                  simp only [Act.put, List.setIfInBounds_toArray, List.set_cons_zero, List.set_cons_succ]
                  refine wpAnyH_take (i := 2) (oi := { dst := some 131, op := Go.Op.load 24 (Go.Operand.tmp 3), type := 24, pos := "two.go:278", after := #[], guard := none }) (v := .agg #[.int .i64 W, .int .i64 H, .int .i64 S, .int .i64 O, .slice a ps.length cap]) rfl (by kernel_rfl) (by kernel_rfl) (by kernel_rfl) (fun _ _ _ h => h) (Or.inl ⟨by rfl, fun wz hSw => ?_⟩) hHeld ?_
                  · obtain ⟨_, r0, r1, r2, r3, r4, r5, r6⟩ := hSw
                    go_simp
                  simp only [Act.put, List.setIfInBounds_toArray, List.set_cons_zero, List.set_cons_succ]
                  refine wpAnyH_take (i := 3) (oi := { dst := some 132, op := Go.Op.load 27 (Go.Operand.tmp 4), type := 27, pos := "two.go:278", after := #[], guard := none }) (v := .agg #[.slice oa os.length ocap, .slice pa plen pcap]) rfl (by kernel_rfl) (by kernel_rfl) (by kernel_rfl) (fun _ _ _ h => h) (Or.inl ⟨by rfl, fun wz hSw => ?_⟩) hHeld ?_
                  · obtain ⟨_, r0, r1, r2, r3, r4, r5, r6⟩ := hSw
                    go_simp
                  simp only [Act.put, List.setIfInBounds_toArray, List.set_cons_zero, List.set_cons_succ]
                  refine wpAnyH_take (i := 4) (oi := { dst := some 133, op := Go.Op.move (Go.Operand.tmp 2), type := 25, pos := "two.go:278", after := #[], guard := none }) (v := .slice aa A.length ac) rfl (by kernel_rfl) (by kernel_rfl) (by kernel_rfl) (fun _ _ _ h => h) (Or.inl ⟨by rfl, fun wz hSw => ?_⟩) hHeld ?_
                  · obtain ⟨_, r0, r1, r2, r3, r4, r5, r6⟩ := hSw
                    go_simp
                  simp only [Act.put, List.setIfInBounds_toArray, List.set_cons_zero, List.set_cons_succ]
                  refine wpAnyH_ready (rs := [5]) (by kernel_rfl) (by simp) ?_
                  refine AllReadyH.cons (o := { dst := some 134, op := Go.Op.call { callee := Go.Callee.value (Go.Operand.func 12), args := #[Go.Operand.tmp 131, Go.Operand.tmp 132, Go.Operand.tmp 133], argTypes := #[24, 27, 25] }, type := 32, pos := "two.go:278", after := #[{ on := 2, ground := Go.Ground.data }, { on := 3, ground := Go.Ground.data }, { on := 4, ground := Go.Ground.data }], guard := none }) rfl (fun K hK => ?_) AllReadyH.nil
                  rw [if_pos (by rfl)]
                  go_simp
                  go_at_call 12
                  refine (hee _ (below_step hB.bel (Below.refl _ _).drew)).mono ?_
                  rintro e w21 ⟨rfl, b21⟩
                  go_simp
                  have B21 : Below w20.heap.size w20 w21 := ((Below.refl w20.heap.size w20).drew).trans b21
                  refine hK.out _ _ (kp _ B21) (fun hHeld2 => ?_)
                  clear hK K
                  refine wpAnyH_take (i := 6) (oi := { dst := some 135, op := Go.Op.binOp Go.BinOp.eql 32 (Go.Operand.tmp 134) (Go.Operand.const (Go.Value.int Go.IntKind.i64 0)) 32, type := 4, pos := "two.go:278", after := #[{ on := 5, ground := Go.Ground.data }], guard := none }) (v := .bool false) rfl (by kernel_rfl) (by kernel_rfl) (by kernel_rfl) (fun _ _ _ h => h) (Or.inl ⟨by rfl, fun wz hSw => ?_⟩) hHeld2 ?_
                  · obtain ⟨_, r0, r1, r2, r3, r4, r5, r6⟩ := hSw
                    go_simp
                  simp only [Act.put, List.setIfInBounds_toArray, List.set_cons_zero, List.set_cons_succ]
                  refine wpAnyH_take (i := 7) (oi := { dst := some 136, op := Go.Op.binOp Go.BinOp.neq 4 (Go.Operand.tmp 130) (Go.Operand.tmp 135) 4, type := 4, pos := "two.go:278", after := #[{ on := 1, ground := Go.Ground.data }, { on := 6, ground := Go.Ground.data }], guard := none }) (v := .bool false) rfl (by kernel_rfl) (by kernel_rfl) (by kernel_rfl) (fun _ _ _ h => h) (Or.inl ⟨by rfl, fun wz hSw => ?_⟩) hHeld2 ?_
                  · obtain ⟨_, r0, r1, r2, r3, r4, r5, r6⟩ := hSw
                    go_simp
                  simp only [Act.put, List.setIfInBounds_toArray, List.set_cons_zero, List.set_cons_succ]
                  refine wpAnyH_take (i := 8) (oi := { dst := some 137, op := Go.Op.move (Go.Operand.tmp 136), type := 4, pos := "two.go:278", after := #[{ on := 7, ground := Go.Ground.data }, { on := 5, ground := Go.Ground.chain }], guard := none }) (v := .bool false) rfl (by kernel_rfl) (by kernel_rfl) (by kernel_rfl) (fun _ _ _ h => h) (Or.inl ⟨by rfl, fun wz hSw => ?_⟩) hHeld2 ?_
                  · obtain ⟨_, r0, r1, r2, r3, r4, r5, r6⟩ := hSw
                    go_simp
                  simp only [Act.put, List.setIfInBounds_toArray, List.set_cons_zero, List.set_cons_succ]
                  refine wpAnyH_take (i := 9) (oi := { dst := some 138, op := Go.Op.move (Go.Operand.tmp 19), type := 32, pos := "two.go:278", after := #[{ on := 8, ground := Go.Ground.guard }], guard := some (8, false) }) (v := .int .i64 X) rfl (by kernel_rfl) (by kernel_rfl) (by kernel_rfl) (fun _ _ _ h => h) (Or.inl ⟨by rfl, fun wz hSw => ?_⟩) hHeld2 ?_
                  · obtain ⟨_, r0, r1, r2, r3, r4, r5, r6⟩ := hSw
                    go_simp
                  simp only [Act.put, List.setIfInBounds_toArray, List.set_cons_zero, List.set_cons_succ]
                  refine wpAnyH_take (i := 10) (oi := { dst := some 139, op := Go.Op.binOp Go.BinOp.eql 32 (Go.Operand.tmp 138) (Go.Operand.const (Go.Value.int Go.IntKind.i64 0)) 32, type := 4, pos := "two.go:278", after := #[{ on := 9, ground := Go.Ground.data }, { on := 8, ground := Go.Ground.guard }], guard := some (8, false) }) (v := .bool false) rfl (by kernel_rfl) (by kernel_rfl) (by kernel_rfl) (fun _ _ _ h => h) (Or.inl ⟨by rfl, fun wz hSw => ?_⟩) hHeld2 ?_
                  · obtain ⟨_, r0, r1, r2, r3, r4, r5, r6⟩ := hSw
                    go_simp
                  simp only [Act.put, List.setIfInBounds_toArray, List.set_cons_zero, List.set_cons_succ]
                  refine wpAnyH_take (i := 11) (oi := { dst := some 140, op := Go.Op.move (Go.Operand.tmp 139), type := 4, pos := "two.go:278", after := #[{ on := 10, ground := Go.Ground.data }, { on := 8, ground := Go.Ground.chain }, { on := 8, ground := Go.Ground.guard }], guard := some (8, false) }) (v := .bool false) rfl (by kernel_rfl) (by kernel_rfl) (by kernel_rfl) (fun _ _ _ h => h) (Or.inl ⟨by rfl, fun wz hSw => ?_⟩) hHeld2 ?_
                  · obtain ⟨_, r0, r1, r2, r3, r4, r5, r6⟩ := hSw
                    go_simp
                  simp only [Act.put, List.setIfInBounds_toArray, List.set_cons_zero, List.set_cons_succ]
                  refine wpAnyH_take (i := 12) (oi := { dst := some 141, op := Go.Op.load 31 (Go.Operand.tmp 18), type := 31, pos := "two.go:278", after := #[{ on := 11, ground := Go.Ground.guard }], guard := some (11, true) }) (v := undef) rfl (by kernel_rfl) (by kernel_rfl) (by kernel_rfl) (fun _ _ _ h => h) (Or.inr ⟨by rfl, rfl⟩) hHeld2 ?_
                  simp only [Act.put, List.setIfInBounds_toArray, List.set_cons_zero, List.set_cons_succ]
                  refine wpAnyH_take (i := 13) (oi := { dst := some 142, op := Go.Op.load 24 (Go.Operand.tmp 3), type := 24, pos := "two.go:278", after := #[{ on := 11, ground := Go.Ground.guard }], guard := some (11, true) }) (v := undef) rfl (by kernel_rfl) (by kernel_rfl) (by kernel_rfl) (fun _ _ _ h => h) (Or.inr ⟨by rfl, rfl⟩) hHeld2 ?_
                  simp only [Act.put, List.setIfInBounds_toArray, List.set_cons_zero, List.set_cons_succ]
                  refine wpAnyH_take (i := 14) (oi := { dst := some 143, op := Go.Op.load 27 (Go.Operand.tmp 4), type := 27, pos := "two.go:278", after := #[{ on := 11, ground := Go.Ground.guard }], guard := some (11, true) }) (v := undef) rfl (by kernel_rfl) (by kernel_rfl) (by kernel_rfl) (fun _ _ _ h => h) (Or.inr ⟨by rfl, rfl⟩) hHeld2 ?_
                  simp only [Act.put, List.setIfInBounds_toArray, List.set_cons_zero, List.set_cons_succ]
                  refine wpAnyH_take (i := 15) (oi := { dst := some 144, op := Go.Op.move (Go.Operand.tmp 2), type := 25, pos := "two.go:278", after := #[{ on := 11, ground := Go.Ground.guard }], guard := some (11, true) }) (v := undef) rfl (by kernel_rfl) (by kernel_rfl) (by kernel_rfl) (fun _ _ _ h => h) (Or.inr ⟨by rfl, rfl⟩) hHeld2 ?_
                  simp only [Act.put, List.setIfInBounds_toArray, List.set_cons_zero, List.set_cons_succ]
                  refine wpAnyH_take (i := 16) (oi := { dst := some 145, op := Go.Op.call { callee := Go.Callee.value (Go.Operand.func 14), args := #[Go.Operand.tmp 142, Go.Operand.tmp 143, Go.Operand.tmp 144], argTypes := #[24, 27, 25] }, type := 31, pos := "two.go:278", after := #[{ on := 13, ground := Go.Ground.data }, { on := 14, ground := Go.Ground.data }, { on := 15, ground := Go.Ground.data }, { on := 11, ground := Go.Ground.chain }, { on := 11, ground := Go.Ground.guard }], guard := some (11, true) }) (v := undef) rfl (by kernel_rfl) (by kernel_rfl) (by kernel_rfl) (fun _ _ _ h => h) (Or.inr ⟨by rfl, rfl⟩) hHeld2 ?_
                  simp only [Act.put, List.setIfInBounds_toArray, List.set_cons_zero, List.set_cons_succ]
                  refine wpAnyH_take (i := 17) (oi := { dst := some 146, op := Go.Op.call { callee := Go.Callee.value (Go.Operand.func 13), args := #[Go.Operand.tmp 141, Go.Operand.tmp 145], argTypes := #[31, 31] }, type := 4, pos := "two.go:278", after := #[{ on := 12, ground := Go.Ground.data }, { on := 16, ground := Go.Ground.data }, { on := 16, ground := Go.Ground.chain }, { on := 11, ground := Go.Ground.guard }], guard := some (11, true) }) (v := undef) rfl (by kernel_rfl) (by kernel_rfl) (by kernel_rfl) (fun _ _ _ h => h) (Or.inr ⟨by rfl, rfl⟩) hHeld2 ?_
                  simp only [Act.put, List.setIfInBounds_toArray, List.set_cons_zero, List.set_cons_succ]
                  refine wpAnyH_take (i := 18) (oi := { dst := some 147, op := Go.Op.unOp Go.UnOp.not 4 (Go.Operand.tmp 146), type := 4, pos := "two.go:278", after := #[{ on := 17, ground := Go.Ground.data }, { on := 11, ground := Go.Ground.guard }], guard := some (11, true) }) (v := undef) rfl (by kernel_rfl) (by kernel_rfl) (by kernel_rfl) (fun _ _ _ h => h) (Or.inr ⟨by rfl, rfl⟩) hHeld2 ?_
                  simp only [Act.put, List.setIfInBounds_toArray, List.set_cons_zero, List.set_cons_succ]
                  refine wpAnyH_take (i := 19) (oi := { dst := some 148, op := Go.Op.pick (Go.Operand.tmp 140) (Go.Operand.tmp 147) (Go.Operand.const (Go.Value.bool false)), type := 4, pos := "two.go:278", after := #[{ on := 11, ground := Go.Ground.data }, { on := 18, ground := Go.Ground.data }, { on := 8, ground := Go.Ground.guard }], guard := some (8, false) }) (v := .bool false) rfl (by kernel_rfl) (by kernel_rfl) (by kernel_rfl) (fun _ _ _ h => h) (Or.inl ⟨by rfl, fun wz hSw => ?_⟩) hHeld2 ?_
                  · obtain ⟨_, r0, r1, r2, r3, r4, r5, r6⟩ := hSw
                    go_simp
                  simp only [Act.put, List.setIfInBounds_toArray, List.set_cons_zero, List.set_cons_succ]
                  refine wpAnyH_take (i := 20) (oi := { dst := some 149, op := Go.Op.pick (Go.Operand.tmp 137) (Go.Operand.const (Go.Value.bool true)) (Go.Operand.tmp 148), type := 4, pos := "two.go:278", after := #[{ on := 8, ground := Go.Ground.data }, { on := 19, ground := Go.Ground.data }], guard := none }) (v := .bool false) rfl (by kernel_rfl) (by kernel_rfl) (by kernel_rfl) (fun _ _ _ h => h) (Or.inl ⟨by rfl, fun wz hSw => ?_⟩) hHeld2 ?_
                  · obtain ⟨_, r0, r1, r2, r3, r4, r5, r6⟩ := hSw
                    go_simp
                  simp only [Act.put, List.setIfInBounds_toArray, List.set_cons_zero, List.set_cons_succ]
                  refine wpAnyH_done (by kernel_rfl) ?_ _
                  go_wp2_with fail
                  go_meet
                  all_goals exact ⟨rfl, B21⟩
              case rest =>
                obtain ⟨rfl, b24⟩ := hcut
                obtain ⟨w24, e24⟩ : ∃ z, z = wc := ⟨_, rfl⟩
                subst e24
                replace hB := hB.below b24
                replace hT := hT.below b24
                clear b24 hee
                obtain ⟨_, g0, g1, g2, g3, g4⟩ := id hB.f
                go_wp2_with fail
                refine (HCF.out _ hB.bel).mono ?_
                clear g0 g1 g2 g3 g4
                rintro e w25 ⟨⟨v, rfl, hZ⟩, b25⟩
                obtain ⟨za, zc, rfl⟩ := owns_slice hZ
                rw [HGE.out]
                replace hB := hB.below b25
                replace hT := hT.below b25
                clear b25 hZ
                go_upto_region 28 with fail
                by_cases hE : E = 0
                · subst hE
                  obtain ⟨eq1, eq2⟩ := HEQ.out rfl
                  have hcr := fun wx h => HCR.out wx h rfl
                  have hrr := fun wx h => HRR.out wx h rfl
                  have HCE : Hid (_) := HGE.out
                  have HFI : Hid (_) := HDF.out rfl
                  have hd := (Below.refl w25.heap.size w25).drew
                  have hF := hB.f
                  have hQ := hT.q
                  have hJ := hT.jd
                  have hIq := hT.iq
                  have hIr := hT.ir
                  have hId := hT.id
                  have hbl := hB.bel
                  clear hB hT HRU HCO HRE HOW HSF HSA HEE HRO HCF HCR HRR HA H8 HN HXE HXR HDE HDF HXF HEQ HGE HGX
                  subst eq1 eq2
                  go_region_held3 (fun w' => w'.cell? ⟨w.heap.size, 0, none⟩ = some (.int .i64 W) ∧ w'.cell? ⟨w.heap.size, 1, none⟩ = some (.int .i64 H) ∧ w'.cell? ⟨w.heap.size, 2, none⟩ = some (.int .i64 S) ∧ w'.cell? ⟨w.heap.size, 3, none⟩ = some (.int .i64 O) ∧ w'.cell? ⟨w.heap.size, 4, none⟩ = some (.slice a ps.length cap) ∧ w'.cell? ⟨w15.heap.size, 0, none⟩ = some (.slice qb (cOrd (gpOf ⟨W, H, S, O, ps⟩) ps.length).length qd) ∧ w'.cell? ⟨w15.heap.size, 1, none⟩ = some (.slice rb rm rd) ∧ w'.cell? ⟨w17.heap.size, 0, none⟩ = some (.int .i64 R.W) ∧ w'.cell? ⟨w17.heap.size, 1, none⟩ = some (.int .i64 R.H) ∧ w'.cell? ⟨w17.heap.size, 2, none⟩ = some (.slice da R.ps.length dc))
                    (first | exact tenR hF hQ hJ hd | exact tenR hF hQ hJ B1 | exact tenR hF hQ hJ B2 | exact tenR hF hQ hJ B3 | exact tenR hF hQ hJ B4)
                    (first
                      | (go_at_call 17; (with_reducible refine (hcr _ (below_step hbl hd)).mono ?_); intro e w26 hcc; obtain ⟨qe, qf, re, rn, rf, rfl, hI26, hK26, b26⟩ := comp_ref HCE.out hcc; have B1 := hd.trans b26)
                      | (go_at_call 16; (with_reducible refine (samePlans_any qd qf rd rf (hIq.below (Nat.le_refl _) B1) hI26 (hIr.below (Nat.le_refl _) B1) hK26).mono ?_); rintro e w27 ⟨rfl, b27⟩; have B2 := below_step B1 b27)
                      | (go_at_call 18; (with_reducible refine (hrr _ (below_step hbl B2)).mono ?_); rintro e w28 ⟨va, vc, rfl, hI28, b28⟩; have B3 := below_step B2 b28)
                      | (go_at_call 13; (with_reducible refine (sameImages_any R.W R.H R.W R.H dc vc (hId.below (Nat.le_refl _) B3) (hI28.mono (Nat.zero_le _))).mono ?_); rintro e w29 ⟨rfl, b29⟩; have B4 := below_step B3 b29))
                  have hId4 := hId.below (Nat.le_refl _) B4
                  have hJ4 := hJ.below B4
                  have hb4 := below_step hbl B4
                  clear hF hQ hJ hIq hIr hId hcr hrr hI28 hI26 hK26
                  go_wp2_with fail
                  refine (execBegun_any _).mono ?_
                  rintro e w30 ⟨rfl, b30⟩
                  obtain ⟨_, j0, j1, j2⟩ := hJ4.below b30
                  have hb5 := below_step hb4 b30
                  have hck := check_fine dc (hId4.below (Nat.le_refl _) b30) HFI.out
                  go_wp2_with fail
                  refine hck.mono ?_
                  clear hck
                  rintro e w31 ⟨rfl, b31⟩
                  go_wp2
                  go_ret
                  exact ⟨rfl, below_step hb5 b31⟩
                · have hE0 : (E == 0) = false := by simpa using hE
                  have hE1 : decide (E = 0) = false := by simpa using hE
                  have hbl := hB.bel
                  clear hB hT HRU HCO HRE HOW HSF HSA HEE HRO HCF HCR HRR HA H8 HN HXE HXR HDE HDF HXF HEQ HGE HGX
                  go_quiet (fail)
                  go_wp2_with fail
                  refine (execBegun_any _).mono ?_
                  rintro e w30 ⟨rfl, b30⟩
                  go_wp2
                  go_ret
                  exact ⟨rfl, below_step (below_drewN hbl _) b30⟩
end Go.Proofs.YtihliofhhjjeaaaGreat
