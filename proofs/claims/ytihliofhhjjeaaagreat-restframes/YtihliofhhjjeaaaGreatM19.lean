/- Open, ExecA, ExecB, ExecC: joined, in this order. -/
import Derived.Test.YtihliofhhjjeaaaGreatM01
import Derived.ProofKit
import Derived.OpenShut
import Derived.ShutString
import Derived.ChangeOld
import Derived.Below
import Derived.Lib.SmallJoins
import Derived.Test.YtihliofhhjjeaaaGreatM18
import Derived.Test.YtihliofhhjjeaaaGreatM17
import Derived.Laws.CopyOwn
import Derived.Deep.Upon
import Derived.Deep.RegionHeld3
import Derived.Deep.CutRange
set_option maxRecDepth 100000
namespace Go.Proofs.YtihliofhhjjeaaaGreat
open Go.ChangeShapes Go.WideShapes Go.ChangeAt Go.RowKit Go.Joins
theorem own : ownKnob Tryz.prog.godebug = none := by kernel_rfl
theorem laidOut : laidOutB Tryz.prog = true := by kernel_rfl
theorem cellsInt : Tryz.prog.cellsOf 3 = 1 := by kernel_rfl
theorem addr_add (b off j : Nat) : (⟨b, off, none⟩ : Addr).add j = ⟨b, off + j, none⟩ := by
  simp only [Addr.add]; split <;> simp_all
theorem ints_in {H : Type} {enc : TypeId × Value → H} {W : World} {n : Nat} {v : Value} {y : DataW H × List MemPlace} (h : DataW.trod enc Tryz.prog W 0 (fun _ => true) true n 25 [v] = some y) :
    ∃ a len cap ps, v = .slice a len cap ∧ Ints 0 W a len ps := by
  rcases open_ints Tryz.underlying25 Tryz.underlying3 cellsInt h with ⟨hcs, _⟩ | ⟨x, l, c, zs, hcs, _, hl, hm, hz, _, hcell, _⟩
  · simp at hcs
    exact ⟨none, 0, 0, [], hcs, Ints.nil 0 W⟩
  · simp at hcs
    simp at hz
    unfold maxLen at hm
    refine ⟨some x, l, c, zs.take l, hcs, by simp; omega, by omega, ?_, fun h0 => absurd h0 (Nat.lt_irrefl 0)⟩
    by_cases h0 : l = 0
    · subst h0; exact .inl (by simp)
    · right
      obtain ⟨b, off, spot⟩ := x
      have hc := hcell 0 (by omega)
      have hspot : spot = none := by simpa [Addr.add] using World.cell?_spot hc
      subst hspot
      refine ⟨b, off, rfl, Nat.zero_le _, ?_, fun j hj => ?_⟩
      · have := World.block_lt_of_cell? W _ hc
        simpa [Addr.add] using this
      · have := hcell j (by omega)
        rw [List.getD_eq_getElem?_getD, List.getElem?_take_of_lt hj]
        rw [addr_add] at this
        simpa using this
end Go.Proofs.YtihliofhhjjeaaaGreat
namespace Go.Proofs.YtihliofhhjjeaaaGreat
open Go.RowKit Im
def ToldOw (w : World) (A : List Int) (e : Ending) (w' : World) : Prop := (∃ v, e = .returned v ∧ Owns w.heap.size w' v A) ∧ Below w.heap.size w w'
theorem ints_one (A : List Int) : ∀ u ∈ A.map (Value.int .i64), u.oneCell' = true := by
  intro u hu
  obtain ⟨n, _, rfl⟩ := List.mem_map.1 hu
  rfl
theorem ints_news {base : Nat} {w : World} {b off len : Nat} {A : List Int} (h : Ints base w (some ⟨b, off, none⟩) len A) : ∀ (j : Nat) (u : Value), (A.map (Value.int .i64))[j]? = some u → w.cell? ((⟨b, off, none⟩ : Addr).add j) = some u := by
  intro j u hu
  have hj : j < A.length := by
    rcases Nat.lt_or_ge j A.length with h | h
    · exact h
    · rw [List.getElem?_eq_none (by simpa using h)] at hu; cases hu
  obtain ⟨b', off', e, hc⟩ := h.nth (by rw [← h.leng]; exact hj)
  injection e with e
  injection e with e1 e2
  subst e1 e2
  rw [addr_add, hc, ← hu]
  simp [hj]
set_option maxHeartbeats 2000000 in
theorem cloneI_any {a : Option Addr} {len : Nat} (cap : Nat) {A : List Int} {base : Nat} {w : World} (h : Ints base w a len A) (hl : A.length ≤ 4096) :
    Calls Tryz.prog 58 #[.slice a len cap] w (ToldOw w A) := by
  obtain rfl := h.leng
  obtain ⟨i0, hi, hz0, hz1, hz2⟩ := info_parts Tryz.info3
  have q22 : ∀ (w : World) (a : Option Addr) (n c n' c' : Nat), (binOp .eql 25 (.slice a n c) (.slice none n' c')).run Tryz.prog w = .ok (.bool a.isNone) w := fun w a n c n' c' => Lib.run_eql_slice_nil w _ _ a n c n' c' Tryz.underlying25
  have hlit : (w.alloc (.cells #[] 3)).ownsRow w.heap.size 3 1 (.slice (some ⟨w.heap.size, 0, none⟩) 0 0) 0 [] := World.ownsRow_lit w #[] 0 (Nat.le_refl _) (by unfold maxLen; omega) rfl
  by_cases hL : A = []
  · subst hL
    cases a with
    | none =>
      go_enter Tryz.func58, Tryz.ntmps58
      go_wp2
      go_ret
      exact ⟨⟨_, rfl, World.ownsRow_nil _ _ _ _⟩, Below.refl _ _⟩
    | some x =>
      have HLIT : Hid (Owns w.heap.size (w.alloc (.cells #[] 3)) (.slice (some ⟨w.heap.size, 0, none⟩) 0 0) []) := hlit
      clear hlit
      go_enter Tryz.func58, Tryz.ntmps58
      go_wp2_with (at_builtin; refine list_append_nothing rfl _ _ 25 rfl 3 i0 Tryz.underlying25 hi (some ⟨w.heap.size, 0, none⟩) 0 0 (Nat.le_refl _) rfl (some x) cap rfl ?_)
      go_ret
      exact ⟨⟨_, rfl, HLIT.out⟩, below_box (Below.refl _ _) _⟩
  · rcases h.cells with e | ⟨b, off, rfl, _, hb, hc⟩
    · exact absurd e hL
    have hpos : 0 < A.length := List.length_pos_iff.2 hL
    have hzA := ints_news (h.below (Nat.le_refl _) (below_box (Below.refl w.heap.size w) (.cells #[] 3)))
    have HLC : Hid ((A.map (Value.int .i64)).length = A.length * 1) := by show _ = _; simp
    clear hL hc
    go_enter Tryz.func58, Tryz.ntmps58
    go_wp2_with (at_builtin; refine wpList_append_own _ rfl _ _ 25 rfl w.heap.size 3 i0 _ 1 8 Tryz.underlying25 hi hz0 hz1 hz2 rfl (by decide) (.slice (some ⟨w.heap.size, 0, none⟩) 0 0) 0 [] rfl hlit ⟨b, off, none⟩ A.length cap (A.map (Value.int .i64)) rfl (by rw [HLC.out]) hzA (ints_one A) (by unfold maxLen; omega) (by omega) (by simp) ?_; intro v' w9 hown9 hgrow9 _)
    have hb9 : Below w.heap.size w w9 := (below_box (Below.refl w.heap.size w) (.cells #[] 3)).grown hgrow9 (by simp) (fun k hk => by cases hk; exact Nat.le_refl _)
    rw [Nat.zero_add, List.nil_append] at hown9
    have HO : Hid (Owns w.heap.size w9 v' A) := hown9
    clear hown9 hgrow9 h hzA
    go_wp2
    go_ret
    exact ⟨⟨_, rfl, HO.out⟩, hb9⟩
theorem Ints.cut {base : Nat} {w : World} {b off len : Nat} {A : List Int} (h : Ints base w (some ⟨b, off, none⟩) len A) {p n : Nat} (hp : p + n ≤ len) : Ints base w (some ⟨b, off + p, none⟩) n (getA A p n) := by
  have hl : (getA A p n).length = n := getA_len (by rw [h.leng]; exact hp)
  refine ⟨hl, by have := h.big; omega, ?_, fun h0 => (h.free h0).imp (fun e => List.length_eq_zero_iff.1 (by have := h.leng; rw [e] at this; simp at this; omega)) fun hf b' off' ha j hj => by injection ha with ha; injection ha with e1 e2; subst e1 e2; rw [Nat.add_assoc]; exact hf b off rfl (p + j) (by omega)⟩
  rcases h.cells with e | ⟨b', off', e, h1, h2, h3⟩
  · left
    have : len = 0 := by rw [← h.leng, e]; rfl
    exact List.length_eq_zero_iff.1 (by omega)
  · injection e with e
    injection e with e1 e2
    subst e1 e2
    refine .inr ⟨_, _, rfl, h1, h2, fun j hj => ?_⟩
    have := h3 (p + j) (by omega)
    rw [Nat.add_assoc, this]
    congr 2
    rw [List.getD_eq_getElem?_getD, List.getD_eq_getElem?_getD, getA_get hj]
theorem Owns.block {base : Nat} {w : World} {v : Value} {A : List Int} (h : Owns base w v A) (hne : A ≠ []) : ∃ g c, v = .slice (some ⟨g, 0, none⟩) A.length c ∧ base ≤ g ∧ g < w.heap.size ∧ A.length ≤ c := by
  have hlt := World.ownsRow.lt (w := w) h
  obtain ⟨h1, h2⟩ := h
  rcases h2 with ⟨_, h0⟩ | ⟨g, cap, cur, rfl, hg, hh, hc, hm, hs, ht⟩
  · exact absurd (List.length_eq_zero_iff.1 h0) hne
  · exact ⟨g, cap, rfl, hg, (hlt g rfl).2, hc⟩
theorem take_put {α : Type} (C L : List α) {off n : Nat} (h : off + L.length ≤ n) (hn : n ≤ C.length) : (C.take off ++ (L ++ C.drop (off + L.length))).take n = (C.take n).take off ++ (L ++ (C.take n).drop (off + L.length)) := by
  have h1 : (C.take off).length = off := by simp; omega
  have e1 : min n off = off := by omega
  have e2 : min off n = off := by omega
  rw [List.take_append, h1, List.take_append, List.take_take, List.take_take, List.drop_take, e1, e2, List.take_of_length_le (show L.length ≤ n - off by omega)]
  congr 3
  omega
theorem owns_put {base : Nat} {w : World} {g n c : Nat} {A l : List Int} {off : Nat} (h : Owns base w (.slice (some ⟨g, 0, none⟩) n c) A) (hfit : off + l.length ≤ A.length) :
    ∃ cur : Array Value, w.heap[g]? = some (.cells cur 3 (0, 0)) ∧ off + l.length ≤ cur.size ∧ Owns base (w.setRow g (cur.toList.take off ++ (l.map (Value.int .i64) ++ cur.toList.drop (off + (l.map (Value.int .i64)).length))).toArray) (.slice (some ⟨g, 0, none⟩) n c) (putA A off l) := by
  obtain ⟨h1, h2⟩ := h
  rcases h2 with ⟨e, _⟩ | ⟨g', cap, cur, e, hg, hh, hc, hm, hs, ht⟩
  · cases e
  · injection e with e1 e2 e3
    injection e1 with e1
    injection e1 with e1
    subst e1 e3 e2
    have hl : (putA A off l).length = A.length := putA_len hfit
    have hsz : A.length ≤ cur.size := by omega
    refine ⟨cur, hh, by omega, ?_⟩
    unfold Owns
    rw [hl]
    refine ⟨by simpa using hl, .inr ⟨g, c, _, rfl, hg, setRow_heap w g _ _ _ _ hh, hc, hm, ?_, ?_⟩⟩
    · simp; omega
    · rw [List.toList_toArray, Nat.mul_one, take_put _ _ (by simpa using hfit) (by rw [Array.length_toList]; omega)]
      rw [Nat.mul_one] at ht
      rw [ht]
      unfold putA
      simp [List.map_append, List.map_take, List.map_drop]
end Go.Proofs.YtihliofhhjjeaaaGreat
namespace Go.Proofs.YtihliofhhjjeaaaGreat
open Go.RowKit Im
theorem step_copy_ints {P : Program} {ops : Array Oper} {o : Oper} {a : Act} {w : World} {K : Act → World → Prop} {Q : Exit → Act → World → Prop} {E : Prop} (hgd : o.guard = none) (d s : Operand) (dT sT : TypeId)
    (ho : o.op = .call { callee := .builtin .copy, args := #[d, s], argTypes := #[dT, sT] }) (hu : P.underlying dT = some (.slice 3)) (hsz : (P.info? 3).map (·.size) = some 1)
    (g off dLen dCap : Nat) (ad : Addr) (sCap : Nat) (l : List Int) (hd : a.eval d = .slice (some ⟨g, off, none⟩) dLen dCap) (hs : a.eval s = .slice (some ad) l.length sCap)
    (base : Nat) (n c : Nat) (A : List Int) (hown : Owns base w (.slice (some ⟨g, 0, none⟩) n c) A) (hsrc : ∀ (j : Nat) (u : Value), (l.map (Value.int .i64))[j]? = some u → w.cell? (ad.add j) = some u) (hfit : off + l.length ≤ A.length) (hdl : l.length ≤ dLen)
    (h : ∀ w', Owns base w' (.slice (some ⟨g, 0, none⟩) n c) (putA A off l) → w.grownBy w' (some g) → K (a.put o.dst (goInt l.length)) w') :
    if Region.wanted o (yielded ops a.tmps) = true then Oper.wp P o a w K Q else E := by
  have hw : Region.wanted o (yielded ops a.tmps) = true := by simp [Region.wanted, hgd]
  rw [if_pos hw]
  obtain ⟨cur, hg, hf, hO⟩ := owns_put hown hfit
  have hrun := run_copy_row (P := P) w dT sT o.type 3 g off dLen dCap ad l.length sCap cur 3 (l.map (Value.int .i64)) hu hsz hg (by rw [List.length_map]; show l.length = min l.length dLen; omega) hsrc (by simpa using hf) (ints_one l)
  unfold Oper.wp
  simp only [execOp, ho, resolve, invoke, builtin, Sem.run_bind, Sem.run_pure, Result.andThen_ok, List.map_toArray, List.map_cons, List.map_nil, hd, hs, hrun]
  rw [List.length_map] at hO ⊢
  rw [← List.append_assoc] at hO
  exact h _ hO ⟨rfl, rfl, rfl, by simp [World.setRow], fun k hk hr => setRow_other w g k _ (fun e => hr (by rw [e]))⟩
theorem grown_put {w w' : World} {b : Nat} (h : w.grownBy w' (some b)) (o : Nat) (v : Value) : w.grownBy (w'.setCell ⟨b, o, none⟩ v) (some b) :=
  ⟨h.os, h.tape, h.output, by simpa using h.size, fun k hk hr => (show (w'.setCell ⟨b, o, none⟩ v).heap[k]? = w'.heap[k]? by
    have hne : ¬ b = k := fun e => hr (by rw [e])
    simp only [World.setCell, Array.getElem?_modify, hne, if_false]).trans (h.block k hk hr)⟩
theorem below_grown {w w' : World} (h : Below w.heap.size w w') (row : Option Nat) : w.grownBy w' row := ⟨h.os, h.tape, h.output, h.size, fun k hk _ => h.block k hk⟩
structure WkBox (w : World) (b : Nat) (v0 v1 v2 v3 v4 : Value) : Prop where
  lt : b < w.heap.size
  c0 : w.cell? ⟨b, 0, none⟩ = some v0
  c1 : w.cell? ⟨b, 1, none⟩ = some v1
  c2 : w.cell? ⟨b, 2, none⟩ = some v2
  c3 : w.cell? ⟨b, 3, none⟩ = some v3
  c4 : w.cell? ⟨b, 4, none⟩ = some v4
theorem WkBox.new (w : World) (v0 v1 v2 v3 v4 : Value) (t : TypeId) : WkBox (w.alloc (.cells #[v0, v1, v2, v3, v4] t)) w.heap.size v0 v1 v2 v3 v4 :=
  ⟨by simp, by simp [go_sem], by simp [go_sem], by simp [go_sem], by simp [go_sem], by simp [go_sem]⟩
theorem WkBox.below {w w' : World} {b B : Nat} {v0 v1 v2 v3 v4 : Value} (h : WkBox w b v0 v1 v2 v3 v4) (hb : Below B w w') (hB : b < B) (hs : w.heap.size ≤ w'.heap.size) : WkBox w' b v0 v1 v2 v3 v4 :=
  ⟨Nat.lt_of_lt_of_le h.lt hs, (hb.cell (p := ⟨b, 0, none⟩) hB).trans h.c0, (hb.cell (p := ⟨b, 1, none⟩) hB).trans h.c1, (hb.cell (p := ⟨b, 2, none⟩) hB).trans h.c2, (hb.cell (p := ⟨b, 3, none⟩) hB).trans h.c3, (hb.cell (p := ⟨b, 4, none⟩) hB).trans h.c4⟩
set_option maxHeartbeats 4000000 in
theorem image_any (v0 v3 : Value) (ra : Option Addr) (rlen rc : Nat) (za : Option Addr) (zlen zc : Nat) (aa : Option Addr) (alen ac : Nat) {pl A : List Int} {zs : List Sz} {w : World} {b1 b2 : Nat} (hP : Ints b1 w ra rlen pl) (hZ : Zs w za zlen zs) (hA : Ints b2 w aa alen A) (hac : alen ≤ ac) (hal : alen ≤ 4096)
    {k : Nat} (hkr : k < rlen) (hkz : k < zlen) {p zw zh n : Nat} (hp : pl.getD k 0 = p) (hz : zs.getD k Sz.zero = ((zw : Int), (zh : Int))) (hn : zw * zh = n) (h1 : 1 ≤ n) (hfit : p + n ≤ alen) :
    Calls Tryz.prog 27 #[.agg #[v0, .slice ra rlen rc, .slice za zlen zc, v3, .slice aa alen ac], .int .i64 k] w (ToldM w ⟨0, zw, zh, getA A p n⟩) := by
  have hbx := below_box (below_box (Below.refl w.heap.size w) (.cells #[v0, .slice ra rlen rc, .slice za zlen zc, v3, .slice aa alen ac] 65)) (.cells #[.int .i64 0, .int .i64 0, .slice none 0 0] 31)
  have hK := (WkBox.new w v0 (.slice ra rlen rc) (.slice za zlen zc) v3 (.slice aa alen ac) 65).below ((Below.refl _ _).alloc (Nat.le_refl _) (.cells #[.int .i64 0, .int .i64 0, .slice none 0 0] 31)) (by simp) (by simp)
  have hsz2 : w.heap.size + 2 ≤ ((w.alloc (.cells #[v0, .slice ra rlen rc, .slice za zlen zc, v3, .slice aa alen ac] 65)).alloc (.cells #[.int .i64 0, .int .i64 0, .slice none 0 0] 31)).heap.size := by simp
  have hI0x := IBox.new (w.alloc (.cells #[v0, .slice ra rlen rc, .slice za zlen zc, v3, .slice aa alen ac] 65))
  rw [World.size_alloc] at hI0x
  obtain ⟨ab, ao, rfl, hA2⟩ : ∃ ab ao, aa = some ⟨ab, ao, none⟩ ∧ ab < w.heap.size := by
    obtain ⟨ab, ao, e, hc⟩ := hA.nth (k := 0) (by omega)
    exact ⟨ab, ao, e, World.block_lt_of_cell? w _ hc⟩
  obtain ⟨rb, ro, rfl, hr0⟩ := (hP.below (Nat.le_refl _) hbx).nth hkr
  obtain ⟨zb, zo, rfl, hzb, z0, z1⟩ := (hZ.below hbx).nth hkz
  rw [hp] at hr0
  rw [hz] at z0 z1
  dsimp only at z0 z1
  have hcut := (hA.below (Nat.le_refl _) hbx).cut (p := p) (n := n) hfit
  have hI0 : (0 : Int) ≤ (k : Int) := by omega
  have hkrI : (k : Int) < (rlen : Int) := by omega
  have hkzI : (k : Int) < (zlen : Int) := by omega
  have hmul : IntKind.i64.wrap ((zw : Int) * (zh : Int)) = (n : Int) := by rw [← Int.natCast_mul, hn, IntKind.wrap_i64]; omega
  have hadd : IntKind.i64.wrap ((p : Int) + (n : Int)) = (p : Int) + (n : Int) := by rw [IntKind.wrap_i64]; omega
  have hq0 : (0 : Int) ≤ (p : Int) := by omega
  have hq1 : (p : Int) ≤ (p : Int) + (n : Int) := by omega
  have hq2 : (p : Int) + (n : Int) ≤ (ac : Int) := by omega
  have hq3 : ¬ ac = p := by omega
  have hq4 : ((p : Int) + (n : Int)).toNat = p + n := by omega
  have hrbl : rb < w.heap.size + 2 := by have := World.block_lt_of_cell? _ _ hr0; simpa using this
  obtain ⟨_, k0, k1, k2, k3, k4⟩ := id hK
  go_enter Tryz.func27, Tryz.ntmps27
  go_upto_region 1 with fail
  generalize (w.alloc (.cells #[v0, .slice (some ⟨rb, ro, none⟩) rlen rc, .slice (some ⟨zb, zo, none⟩) zlen zc, v3, .slice (some ⟨ab, ao, none⟩) alen ac] 65)).alloc (.cells #[.int .i64 0, .int .i64 0, .slice none 0 0] 31) = w0 at *
  have held : ∀ wx, Below w0.heap.size w0 wx → wx.cell? ⟨w.heap.size, 1, none⟩ = some (.slice (some ⟨rb, ro, none⟩) rlen rc) ∧ wx.cell? ⟨w.heap.size, 2, none⟩ = some (.slice (some ⟨zb, zo, none⟩) zlen zc) ∧ wx.cell? ⟨rb, ro + k, none⟩ = some (.int .i64 p) ∧ wx.cell? ⟨zb, zo + k * 2, none⟩ = some (.int .i64 zw) ∧ wx.cell? ⟨zb, zo + k * 2 + 1, none⟩ = some (.int .i64 zh) := fun wx h =>
    ⟨(h.cell (p := ⟨w.heap.size, 1, none⟩) hK.lt).trans k1, (h.cell (p := ⟨w.heap.size, 2, none⟩) hK.lt).trans k2, (h.cell (p := ⟨rb, ro + k, none⟩) (World.block_lt_of_cell? _ _ hr0)).trans hr0, (h.cell (p := ⟨zb, zo + k * 2, none⟩) hzb).trans z0, (h.cell (p := ⟨zb, zo + k * 2 + 1, none⟩) hzb).trans z1⟩
  have hd := (Below.refl w0.heap.size w0).drew
  go_region_held3 (fun wx => wx.cell? ⟨w.heap.size, 1, none⟩ = some (.slice (some ⟨rb, ro, none⟩) rlen rc) ∧ wx.cell? ⟨w.heap.size, 2, none⟩ = some (.slice (some ⟨zb, zo, none⟩) zlen zc) ∧ wx.cell? ⟨rb, ro + k, none⟩ = some (.int .i64 p) ∧ wx.cell? ⟨zb, zo + k * 2, none⟩ = some (.int .i64 zw) ∧ wx.cell? ⟨zb, zo + k * 2 + 1, none⟩ = some (.int .i64 zh))
    (first | exact held _ hd | exact held _ (hd.alloc (Nat.le_refl _) _) | exact held _ ((hd.alloc (Nat.le_refl _) _).setCell (Nat.le_refl _) _) | exact held _ (((hd.alloc (Nat.le_refl _) _).setCell (Nat.le_refl _) _).setCell (Nat.le_refl _) _))
    ((fail))
  have b1x := ((Below.refl w0.heap.size w0).alloc (Nat.le_refl _) (.cells #[.int .i64 zw, .int .i64 zh] 80)).drew
  have s0 : (w0.alloc (.cells #[.int .i64 zw, .int .i64 zh] 80)).drew.cell? ⟨w0.heap.size, 0, none⟩ = some (.int .i64 zw) := by
    show (w0.alloc (.cells #[.int .i64 zw, .int .i64 zh] 80)).cell? ⟨w0.heap.size, 0, none⟩ = _
    simp [go_sem]
  have s1 : (w0.alloc (.cells #[.int .i64 zw, .int .i64 zh] 80)).drew.cell? ⟨w0.heap.size, 1, none⟩ = some (.int .i64 zh) := by
    show (w0.alloc (.cells #[.int .i64 zw, .int .i64 zh] 80)).cell? ⟨w0.heap.size, 1, none⟩ = _
    simp [go_sem]
  have hs1 : w0.heap.size < (w0.alloc (.cells #[.int .i64 zw, .int .i64 zh] 80)).drew.heap.size := by
    show _ < (w0.alloc (.cells #[.int .i64 zw, .int .i64 zh] 80)).heap.size
    simp
  clear held
  generalize (w0.alloc (.cells #[.int .i64 zw, .int .i64 zh] 80)).drew = w1 at *
  have hcut1 := hcut.below (Nat.le_refl _) b1x
  have hI1 := hI0x.below b1x hI0x.lt b1x.size
  have j4 := (b1x.cell (p := ⟨w.heap.size, 4, none⟩) hK.lt).trans k4
  have hbw1 := below_step hbx b1x
  have hwl : w.heap.size < w1.heap.size := Nat.lt_of_lt_of_le hK.lt b1x.size
  clear hP hZ hA hr0 z0 z1 k0 k1 k2 k3 k4 hcut
  go_upto_region 2 with fail
  have hd1 := (Below.refl w1.heap.size w1).drew
  have hcl := cloneI_any (ac - p) (hcut1.below (Nat.le_refl _) hd1) (by rw [hcut1.leng]; omega)
  have hne0 : some w0.heap.size ≠ some (w.heap.size + 1) := fun e => by injection e with e; omega
  have hne1 : some w.heap.size ≠ some (w.heap.size + 1) := fun e => by injection e with e; omega
  have held : ∀ wx, w1.grownBy wx (some (w.heap.size + 1)) → wx.cell? ⟨w0.heap.size, 0, none⟩ = some (.int .i64 zw) ∧ wx.cell? ⟨w0.heap.size, 1, none⟩ = some (.int .i64 zh) ∧ wx.cell? ⟨w.heap.size, 4, none⟩ = some (.slice (some ⟨ab, ao, none⟩) alen ac) := fun wx h =>
    ⟨(grown_cell h hs1 hne0 0).1.trans s0, (grown_cell h hs1 hne0 1).1.trans s1, (grown_cell h hwl hne1 4).1.trans j4⟩
  have hg1 := below_grown hd1 (some (w.heap.size + 1))
  go_region_held3 (fun wx => wx.cell? ⟨w0.heap.size, 0, none⟩ = some (.int .i64 zw) ∧ wx.cell? ⟨w0.heap.size, 1, none⟩ = some (.int .i64 zh) ∧ wx.cell? ⟨w.heap.size, 4, none⟩ = some (.slice (some ⟨ab, ao, none⟩) alen ac))
    (first | exact held _ hg1 | exact held _ g2 | exact held _ (grown_put (grown_put (grown_put g2 0 _) 1 _) 2 _))
    ((go_at_call 58; refine hcl.mono ?_; rintro e w2 ⟨⟨v, rfl, hO⟩, b2'⟩; have b2 := below_step hd1 b2'; have g2 := below_grown b2 (some (w.heap.size + 1)); obtain ⟨va, vc, rfl, hIv⟩ := hO.ints (by rw [hcut1.leng]; omega); obtain ⟨_, c0, c1, c2, f0, f1, f2⟩ := hI1.below b2 hI1.lt b2.size))
  all_goals
    have HT : Hid (ToldM w ⟨0, zw, zh, getA A p n⟩ (.returned (.agg #[.int .i64 zw, .int .i64 zh, .slice va (getA A p n).length vc])) (((w2.setCell ⟨w.heap.size + 1, 0, none⟩ (.int .i64 zw)).setCell ⟨w.heap.size + 1, 1, none⟩ (.int .i64 zh)).setCell ⟨w.heap.size + 1, 2, none⟩ (.slice va (getA A p n).length vc))) :=
      ⟨va, vc, rfl, (((hIv.setCell (p := ⟨w.heap.size + 1, 0, none⟩) hI1.lt _).setCell (p := ⟨w.heap.size + 1, 1, none⟩) hI1.lt _).setCell (p := ⟨w.heap.size + 1, 2, none⟩) hI1.lt _).mono (Nat.le_of_lt hwl), (((below_step hbw1 b2).setCell (p := ⟨w.heap.size + 1, 0, none⟩) (Nat.le_succ _) _).setCell (p := ⟨w.heap.size + 1, 1, none⟩) (Nat.le_succ _) _).setCell (p := ⟨w.heap.size + 1, 2, none⟩) (Nat.le_succ _) _⟩
    clear hIv hO b2' hcl hcut1 held
    go_wp2
    exact bodyPost_ret (v := .agg #[.int .i64 zw, .int .i64 zh, .slice va (getA A p n).length vc]) (by simp [results, Tryz.results27, go_sem, c0, c1, c2]) rfl HT.out
end Go.Proofs.YtihliofhhjjeaaaGreat
namespace Go.Proofs.YtihliofhhjjeaaaGreat
open Go.RowKit Im
theorem src_two (ps : List Ps) (k : Nat) : (srcOf ps k).length ≤ 2 := by
  unfold srcOf
  rw [List.length_map]
  unfold takesP
  split
  · simp
  · split <;> simp
theorem image_lies {f : Fr} {os pl A : List Int} (hF : FitA f os pl A) (v0 v3 : Value) (ra : Option Addr) (rlen rc : Nat) (za : Option Addr) (zc : Nat) (aa : Option Addr) (ac : Nat) {w : World} {b1 b2 : Nat} (hP : Ints b1 w ra rlen pl) (hZ : Zs w za f.ps.length (szs f f.ps.length)) (hA : Ints b2 w aa A.length A) (hac : A.length ≤ ac) {q : Nat} (hq : q < f.ps.length) (hm : (q : Int) ∈ os) :
    Calls Tryz.prog 27 #[.agg #[v0, .slice ra rlen rc, .slice za f.ps.length zc, v3, .slice aa A.length ac], .int .i64 q] w (ToldM w (liesR f pl A q)) := by
  obtain ⟨h1, h2, h3, h4⟩ := hF.place hq hm
  have hlen : pl.length = f.ps.length := hF.ord.len
  obtain ⟨p, hp⟩ := Int.eq_ofNat_of_zero_le h1.1
  obtain ⟨zw, hzw⟩ := Int.eq_ofNat_of_zero_le (show 0 ≤ (zOf f q).1 by omega)
  obtain ⟨zh, hzh⟩ := Int.eq_ofNat_of_zero_le (show 0 ≤ (zOf f q).2 by omega)
  have hz : (szs f f.ps.length).getD q Sz.zero = ((zw : Int), (zh : Int)) := by
    show zOf f q = _
    rw [← hzw, ← hzh]
  have har : areaZ (zOf f q) = ((zw * zh : Nat) : Int) := by unfold areaZ; rw [hzw, hzh, Int.natCast_mul]
  have e : liesR f pl A q = ⟨0, (zw : Int), (zh : Int), getA A p (zw * zh)⟩ := by
    unfold liesR
    simp only [Int.toNat_natCast]
    rw [har, hp, hzw, hzh, Int.toNat_natCast, Int.toNat_natCast]
  rw [e]
  exact image_any v0 v3 ra rlen rc za f.ps.length zc aa A.length ac hP hZ hA hac hF.len (by rw [← hP.leng]; omega) hq hp hz rfl (by omega) (by omega)
set_option maxHeartbeats 8000000 in
theorem do_any {f : Fr} {os pl A : List Int} (pa : Option Addr) (pc : Nat) (ra : Option Addr) (rc : Nat) (za : Option Addr) (zc : Nat) (sa : Option Addr) (sc g ac : Nat) {w : World} {b1 base : Nat}
    (hp : Passes w pa f.ps.length f.ps) (hP : Ints b1 w ra f.ps.length pl) (hZ : Zs w za f.ps.length (szs f f.ps.length)) (hS : LLs w sa f.ps.length (srcs f.ps f.ps.length)) (hO : Owns base w (.slice (some ⟨g, 0, none⟩) A.length ac) A) (hF : FitA f os pl A) {k : Nat} (hk : k < f.ps.length) (hm : (k : Int) ∈ os) :
    Calls Tryz.prog 25 #[.agg #[.slice pa f.ps.length pc, .slice ra f.ps.length rc, .slice za f.ps.length zc, .slice sa f.ps.length sc, .slice (some ⟨g, 0, none⟩) A.length ac], .int .i64 k] w fun e w' => e = .returned (.int .i64 0) ∧ Owns base w' (.slice (some ⟨g, 0, none⟩) A.length ac) (stepA f pl A k) ∧ w.grownBy w' (some g) := by
  obtain ⟨i0, hi, hz0, hz1, hz2⟩ := info_parts Tryz.infoImage
  obtain ⟨f1, f2, f3, f4⟩ := hF.place hk hm
  have hne : A ≠ [] := fun e => by have := congrArg List.length e; rw [List.length_nil] at this; omega
  obtain ⟨g', ac', ev, hg1, hg2, hac⟩ := hO.block hne
  injection ev with ev _ ev2
  injection ev with ev
  injection ev with ev
  subst ev ev2
  obtain ⟨aa, ac', ev, hA⟩ := hO.ints (by have := hF.len; omega)
  injection ev with ev _ ev2
  subst ev ev2
  have hb0 := below_box (Below.refl w.heap.size w) (.cells #[.slice pa f.ps.length pc, .slice ra f.ps.length rc, .slice za f.ps.length zc, .slice sa f.ps.length sc, .slice (some ⟨g, 0, none⟩) A.length ac] 65)
  have hK := WkBox.new w (.slice pa f.ps.length pc) (.slice ra f.ps.length rc) (.slice za f.ps.length zc) (.slice sa f.ps.length sc) (.slice (some ⟨g, 0, none⟩) A.length ac) 65
  have HIM : Hid (∀ wx, Below w.heap.size w wx → ∀ q : Nat, q < f.ps.length → (q : Int) ∈ os → Calls Tryz.prog 27 #[.agg #[.slice pa f.ps.length pc, .slice ra f.ps.length rc, .slice za f.ps.length zc, .slice sa f.ps.length sc, .slice (some ⟨g, 0, none⟩) A.length ac], .int .i64 q] wx (ToldM wx (liesR f pl A q))) := fun wx hb q hq hqm => image_lies hF _ _ ra f.ps.length rc za zc (some ⟨g, 0, none⟩) ac (hP.below (Nat.le_refl _) hb) (hZ.below hb) (hA.below (Nat.le_refl _) hb) hac hq hqm
  obtain ⟨sb, so, ua, uc, rfl, hsb, u0, hU⟩ := (hS.below hb0).nth hk
  rw [srcs_at f.ps hk] at u0 hU
  have hsrc := hF.src hk hm
  have hs2 : (srcOf f.ps k).length ≤ 2 := src_two f.ps k
  have HLS : Hid (stepR f pl A k = paintRes (f.ps.getD k Ps.zero) (zOf f k) ((srcOf f.ps k).map (liesR f pl A))) := rfl
  have HTK : Hid ((srcOf f.ps k).length = (takesP (f.ps.getD k Ps.zero)).length) := by show _ = _; simp [srcOf]
  generalize srcOf f.ps k = sr at *
  have hkI0 : (0 : Int) ≤ (k : Int) := by omega
  have hkI : (k : Int) < (f.ps.length : Int) := by omega
  have hs0 : w.heap.size + 1 ≤ (w.alloc (.cells #[.slice pa f.ps.length pc, .slice ra f.ps.length rc, .slice za f.ps.length zc, .slice (some ⟨sb, so, none⟩) f.ps.length sc, .slice (some ⟨g, 0, none⟩) A.length ac] 65)).heap.size := by simp
  go_enter Tryz.func25, Tryz.ntmps25
  obtain ⟨_, k0, k1, k2, k3, k4⟩ := id hK
  go_wp2_with fail
  generalize w.alloc (.cells #[.slice pa f.ps.length pc, .slice ra f.ps.length rc, .slice za f.ps.length zc, .slice (some ⟨sb, so, none⟩) f.ps.length sc, .slice (some ⟨g, 0, none⟩) A.length ac] 65) = w0 at *
  clear k0 k1 k2 k3 k4 u0
  go_loopw [5, 16] (fun v i wr => ∃ (j : Nat) (M : Lr), j ≤ sr.length ∧ i = .int .i64 j ∧ RowI w0.heap.size wr v M ∧ M.map Prod.fst = (sr.take j).map (liesR f pl A) ∧ Below w0.heap.size w0 wr) (fun _ i _ => sr.length - (intOf i).toNat)
  case atStart => exact ⟨0, [], Nat.zero_le _, rfl, RowI.nil _ _, rfl, Below.refl _ _⟩
  case round =>
    obtain ⟨j, M, hj, rfl, hR, hmap, hbr⟩ := hrel
    have hMl : M.length = j := by
      have := congrArg List.length hmap
      simp at this
      omega
    have HML : Hid (_) := hMl
    have HM : Hid (_) := hmap
    clear hmap hMl
    have hKr := hK.below hbr hK.lt hbr.size
    have hbw := below_step hb0 hbr
    obtain ⟨va, vc, rfl⟩ := owns_slice hR.1
    by_cases hjl : j < sr.length
    · have hjI : (j : Int) < (sr.length : Int) := by omega
      have hjI0 : (0 : Int) ≤ (j : Int) := by omega
      obtain ⟨ub, uo, rfl, hcx⟩ := (hU.below (Nat.le_refl _) hbr).nth hjl
      obtain ⟨q, e1, e2, e3⟩ := hsrc _ (getD_mem hjl 0)
      have HS : Hid ((sr.take (j + 1)).map (liesR f pl A) = (sr.take j).map (liesR f pl A) ++ [liesR f pl A q]) := by
        show _ = _
        rw [List.take_succ_eq_append_getElem hjl, List.map_append]
        have : sr[j] = (q : Int) := by rw [← e1, List.getD_eq_getElem?_getD, List.getElem?_eq_getElem hjl]; rfl
        rw [this]; rfl
      rw [e1] at hcx
      have him := HIM.out wr hbw q (by omega) e3
      generalize liesR f pl A q = r at him HS
      obtain ⟨_, k0, k1, k2, k3, k4⟩ := id hKr
      have HROW : Hid (RowI w0.heap.size wr (.slice va M.length vc) M) := hR
      have hsr := hbr.size
      clear hU hR e1 hsrc
      go_wp2_with fail
      refine him.mono ?_
      clear him
      rintro e w3 ⟨ia, ic, rfl, hii, b3⟩
      have hrow3 := HROW.out.below b3
      have hpx3 := Px.of (base := w0.heap.size) (v := .slice va M.length vc) (c := ic) hii hsr (fun j hj => (HROW.out.lt j hj).2)
      have hb3 : Below w0.heap.size w0 w3 := hbr.trans (b3.mono hsr)
      have HRL : Hid (_) := hrow3.lt
      clear k0 k1 k2 k3 k4
      go_wp2_with (at_builtin; refine wpList_append_own_at _ rfl _ _ 85 rfl w0.heap.size 31 i0 _ 3 40 Tryz.underlying85 hi hz0 hz1 hz2 rfl (by decide) (.slice va M.length vc) M.length (rcells M) rfl (World.ownsRow.alloc hrow3.1 _) ⟨w3.heap.size, 0, none⟩ 1 1 [.int .i64 r.W, .int .i64 r.H, .slice ia r.ps.length ic] rfl rfl (cell_three_new _ _ _ _ _) (by intro u hu; simp at hu; rcases hu with rfl | rfl | rfl <;> rfl) (by rw [HML.out]; unfold maxLen; omega) (by rw [HML.out]; omega) (by have := hb3.size; simp; omega) ?_; intro v' w9 hown9 hgrow9 _ hloc9)
      have bA := (Below.refl w3.heap.size w3).alloc (Nat.le_refl _) (.cells #[.int .i64 r.W, .int .i64 r.H, .slice ia r.ps.length ic] 31)
      have RR := (hrow3.below bA).push (x := (r, ia, ic)) (hpx3.below bA) hown9 hgrow9 hloc9
      have hb9 : Below w0.heap.size w0 w9 := (hb3.alloc hb3.size (.cells #[.int .i64 r.W, .int .i64 r.H, .slice ia r.ps.length ic] 31)).grown hgrow9 (by have := hb3.size; simp; omega) (fun j hj => (HRL.out j hj).1)
      have HRR : Hid (RowI w0.heap.size w9 v' (M ++ [(r, ia, ic)])) := RR
      clear RR hown9 hgrow9 hloc9 hrow3 hpx3 hii bA b3 hb3 HROW
      go_wp2
      go_roundw
      case rel => exact ⟨j + 1, M ++ [(r, ia, ic)], by omega, by go_num, HRR.out, by rw [HS.out, List.map_append, HM.out]; rfl, hb9⟩
      case measure => simp [intOf]; omega
    · have hje : j = sr.length := by omega
      have hmM := HM.out
      rw [hje, List.take_length] at hmM
      obtain ⟨na, nc, ev, hN⟩ := hR.1.imgs hmM (fun x hx => (hR.2 x hx).ints) (by rw [HML.out]; omega)
      injection ev with ev1 ev2 ev3
      subst ev1 ev3
      rw [← ev2] at hN
      have hMs : M.length = sr.length := by rw [HML.out, hje]
      clear ev2
      rw [hMs] at hN ⊢
      clear hMs
      subst hje
      have hpE := passE_of hF.E hk
      obtain ⟨o1, _, _⟩ := passE_zero hpE
      have hkn := (ownE_zero o1).1
      have hRB := hF.step hk hm
      have hnx := hF.next hk hm
      rw [HLS.out] at hRB
      have HNX : Hid ((pl.getD k 0).toNat + (paintRes (f.ps.getD k Ps.zero) (zOf f k) (sr.map (liesR f pl A))).ps.length ≤ A.length) := by show _ ≤ _; rw [← HLS.out]; exact hnx.1
      have HST : Hid (stepA f pl A k = putA A (pl.getD k 0).toNat (paintRes (f.ps.getD k Ps.zero) (zOf f k) (sr.map (liesR f pl A))).ps) := by show _ = _; rw [← HLS.out]; rfl
      obtain ⟨qb, qo, la, ll, lc, rfl, p0, p1, p2, p3, p4, p5, hLi⟩ := (hp.below hbw).nth hk
      obtain ⟨zb, zo, rfl, hzb, z0, z1⟩ := (hZ.below hbw).nth hk
      have ezz : (szs f f.ps.length).getD k Sz.zero = zOf f k := rfl
      rw [ezz] at z0 z1
      have hr1 := (fine_iff _ _ _).1 hRB.2.1
      have hqb : qb < wr.heap.size := World.block_lt_of_cell? _ _ p0
      generalize f.ps.getD k Ps.zero = P at *
      obtain ⟨Op, To, PA, PB, K, ls⟩ := P
      dsimp only at p0 p1 p2 p3 p4 p5 hLi hkn HTK
      generalize zOf f k = z at *
      obtain ⟨zw, zh⟩ := z
      dsimp only at z0 z1
      obtain rfl := hLi.leng
      have hAl : hasA Op = true → 1 ≤ sr.length := fun h => by
        obtain ⟨r, hr⟩ := takes_pos (p := ⟨Op, To, PA, PB, K, ls⟩) h
        rw [HTK.out, hr]; simp
      have hBl : hasB Op = true → 2 ≤ sr.length := fun h => by
        rw [HTK.out, takes_two' (p := ⟨Op, To, PA, PB, K, ls⟩) h]; simp
      have hso := fun wx (hb : Below wr.heap.size wr wx) => paint_any (Op := Op) To PA PB (K := K) lc zw zh vc hkn (hLi.below hb) (hN.below hb) hAl hBl
      generalize paintRes ⟨Op, To, PA, PB, K, ls⟩ (zw, zh) (sr.map (liesR f pl A)) = r at *
      have HE : Hid (r.E = 0) := hRB.1
      have hrl : 1 ≤ r.ps.length := by
        have h1 := hr1.2.2.1
        have h2 := side_mul ((side_iff _).2 hr1.1) ((side_iff _).2 hr1.2.1)
        omega
      have HRL : Hid (1 ≤ r.ps.length) := hrl
      obtain ⟨pq, hpq⟩ := Int.eq_ofNat_of_zero_le f1.1
      obtain ⟨rb, ro, rfl, hr0⟩ := (hP.below (Nat.le_refl _) hbw).nth hk
      rw [hpq] at hr0 HST HNX
      rw [Int.toNat_natCast] at HST HNX
      have hOr : Owns base wr (.slice (some ⟨g, 0, none⟩) A.length ac) A := ownsRow_below hO hbw (Nat.le_refl _)
      have hrb : rb < wr.heap.size := World.block_lt_of_cell? _ _ hr0
      obtain ⟨_, k0, k1, k2, k3, k4⟩ := id hKr
      have hKl := hKr.lt
      have hjI : ¬ (sr.length : Int) < (sr.length : Int) := by omega
      have held : ∀ wx, Below wr.heap.size wr wx → (wx.cell? ⟨w.heap.size, 0, none⟩ = some (.slice (some ⟨qb, qo, none⟩) f.ps.length pc) ∧ wx.cell? ⟨w.heap.size, 2, none⟩ = some (.slice (some ⟨zb, zo, none⟩) f.ps.length zc)) ∧ (wx.cell? ⟨qb, qo + k * 6, none⟩ = some (.int .i64 Op) ∧ wx.cell? ⟨qb, qo + k * 6 + 1, none⟩ = some (.int .i64 To) ∧ wx.cell? ⟨qb, qo + k * 6 + 2, none⟩ = some (.int .i64 PA) ∧ wx.cell? ⟨qb, qo + k * 6 + 3, none⟩ = some (.int .i64 PB) ∧ wx.cell? ⟨qb, qo + k * 6 + 4, none⟩ = some (.int .i64 K) ∧ wx.cell? ⟨qb, qo + k * 6 + 5, none⟩ = some (.slice la ls.length lc)) ∧ wx.cell? ⟨zb, zo + k * 2, none⟩ = some (.int .i64 zw) ∧ wx.cell? ⟨zb, zo + k * 2 + 1, none⟩ = some (.int .i64 zh) := fun wx h =>
        ⟨⟨(h.cell (p := ⟨w.heap.size, 0, none⟩) hKl).trans k0, (h.cell (p := ⟨w.heap.size, 2, none⟩) hKl).trans k2⟩, ⟨(h.cell (p := ⟨qb, qo + k * 6, none⟩) hqb).trans p0, (h.cell (p := ⟨qb, qo + k * 6 + 1, none⟩) hqb).trans p1, (h.cell (p := ⟨qb, qo + k * 6 + 2, none⟩) hqb).trans p2, (h.cell (p := ⟨qb, qo + k * 6 + 3, none⟩) hqb).trans p3, (h.cell (p := ⟨qb, qo + k * 6 + 4, none⟩) hqb).trans p4, (h.cell (p := ⟨qb, qo + k * 6 + 5, none⟩) hqb).trans p5⟩, (h.cell (p := ⟨zb, zo + k * 2, none⟩) hzb).trans z0, (h.cell (p := ⟨zb, zo + k * 2 + 1, none⟩) hzb).trans z1⟩
      have hd := (Below.refl wr.heap.size wr).drew
      clear hp hP hZ hS hO hF hA hN hmM hR hLi hAl hBl hRB hnx hU hsrc hpE o1 hr1 hkn k0 k2 p0 p1 p2 p3 p4 p5 z0 z1 HIM HM HML f1 f2 f3 f4
      go_upto_region 7 with fail
      go_cut [8, 9] from 27 to 41 (fun s8 s9 wx => Made9 wr r s8 s9 wx)
      case first =>
        go_region_held3 (fun wx => (wx.cell? ⟨w.heap.size, 0, none⟩ = some (.slice (some ⟨qb, qo, none⟩) f.ps.length pc) ∧ wx.cell? ⟨w.heap.size, 2, none⟩ = some (.slice (some ⟨zb, zo, none⟩) f.ps.length zc)) ∧ (wx.cell? ⟨qb, qo + k * 6, none⟩ = some (.int .i64 Op) ∧ wx.cell? ⟨qb, qo + k * 6 + 1, none⟩ = some (.int .i64 To) ∧ wx.cell? ⟨qb, qo + k * 6 + 2, none⟩ = some (.int .i64 PA) ∧ wx.cell? ⟨qb, qo + k * 6 + 3, none⟩ = some (.int .i64 PB) ∧ wx.cell? ⟨qb, qo + k * 6 + 4, none⟩ = some (.int .i64 K) ∧ wx.cell? ⟨qb, qo + k * 6 + 5, none⟩ = some (.slice la ls.length lc)) ∧ wx.cell? ⟨zb, zo + k * 2, none⟩ = some (.int .i64 zw) ∧ wx.cell? ⟨zb, zo + k * 2 + 1, none⟩ = some (.int .i64 zh))
          (first
            | exact held _ hd
            | exact held _ hbs
            | exact held _ (below_box (Below.refl _ _) _).drew
            | exact held _ (below_box hbs _)
            | exact held _ (((hbs.setCell (p := ⟨wr.heap.size, 0, none⟩) (Nat.le_refl _) _).setCell (p := ⟨wr.heap.size, 1, none⟩) (Nat.le_refl _) _).setCell (p := ⟨wr.heap.size, 2, none⟩) (Nat.le_refl _) _))
          (first
            | (go_at_call 35; (with_reducible show Calls _ _ _ (World.drew wr) _); refine (hso _ hd).mono ?_; rintro e w3 ⟨ia, ic, rfl, hri, hb3⟩; have hbs := below_step hd hb3)
            | (go_at_call 35; (with_reducible show Calls _ _ _ (World.drew (World.alloc wr _)) _); refine (hso _ (below_box (Below.refl _ _) _).drew).mono ?_; rintro e w3 ⟨ia, ic, rfl, hri, hb3⟩; have hbs := below_step (below_box (Below.refl _ _) _).drew hb3; have hl2 : wr.heap.size < w3.heap.size := Nat.lt_of_lt_of_le (by simp) hb3.size; have x0 : w3.cell? ⟨wr.heap.size, 0, none⟩ = some (.int .i64 0) := (hb3.cell (by simp)).trans (by simp [go_sem]); have x1 : w3.cell? ⟨wr.heap.size, 1, none⟩ = some (.int .i64 0) := (hb3.cell (by simp)).trans (by simp [go_sem]); have x2 : w3.cell? ⟨wr.heap.size, 2, none⟩ = some (.slice none 0 0) := (hb3.cell (by simp)).trans (by simp [go_sem]); have y0 : w3.frozen? ⟨wr.heap.size, 0, none⟩ = false := (hb3.frozen (by simp)).trans (by simp [go_sem]); have y1 : w3.frozen? ⟨wr.heap.size, 1, none⟩ = false := (hb3.frozen (by simp)).trans (by simp [go_sem]); have y2 : w3.frozen? ⟨wr.heap.size, 2, none⟩ = false := (hb3.frozen (by simp)).trans (by simp [go_sem])))
        all_goals (go_wp2_with fail; go_meet)
        all_goals first
          | exact ⟨rfl, _, ia, ic, rfl, by simp [go_sem], by simp [go_sem], by simp [go_sem], (hri.alloc _).mono (Nat.le_refl _), below_box hbs _⟩
          | exact ⟨rfl, _, ia, ic, rfl, (set_other _ (by simp)).trans ((set_other _ (by simp)).trans (set_same x0)), (set_other _ (by simp)).trans (set_same ((set_other _ (by simp)).trans x1)), set_same ((set_other _ (by simp)).trans ((set_other _ (by simp)).trans x2)), (((hri.setCell (p := ⟨wr.heap.size, 0, none⟩) (by simp) _).setCell (p := ⟨wr.heap.size, 1, none⟩) (by simp) _).setCell (p := ⟨wr.heap.size, 2, none⟩) (by simp) _).mono (by simp), ((hbs.setCell (Nat.le_refl _) _).setCell (Nat.le_refl _) _).setCell (Nat.le_refl _) _⟩
      case rest =>
        obtain ⟨rfl, b9, ia, ic, rfl, m0, m1, m2, hri, bx⟩ := hcut
        rw [HE.out]
        have j1 := (bx.cell (p := ⟨w.heap.size, 1, none⟩) hKl).trans k1
        have j4 := (bx.cell (p := ⟨w.heap.size, 4, none⟩) hKl).trans k4
        have j0 := (bx.cell (p := ⟨rb, ro + k, none⟩) hrb).trans hr0
        have hOx := ownsRow_below hOr bx (Nat.le_refl _)
        rcases hri.cells with e | ⟨ib, io, rfl, _, _, _⟩
        · have h1 := HRL.out
          rw [e] at h1
          simp at h1
        have hnews := ints_news hri
        have hn1 := HNX.out
        have hn2 := HRL.out
        have hq0 : (0 : Int) ≤ (pq : Int) := by omega
        have hq1 : (pq : Int) ≤ (A.length : Int) := by omega
        have hq3 : ¬ ac = pq := by omega
        obtain ⟨i3, h3, _, h31, _⟩ := info_parts Tryz.info3
        have hsz : (Tryz.prog.info? 3).map (·.size) = some 1 := by rw [h3]; simp [h31]
        have hgw := below_grown hbw (some g)
        have hgx := hgw.trans (below_grown bx (some g))
        clear held hso hd hOr k1 k4 hr0 hgw
        go_upto_region 10 with fail
        go_region_law (refine step_copy_ints rfl _ _ 25 25 rfl Tryz.underlying25 hsz g pq (A.length - pq) (ac - pq) ⟨ib, io, none⟩ ic r.ps rfl rfl base A.length ac A hOx hnews HNX.out (by have := HNX.out; omega) ?_; intro w9 hO9 hg9)
        all_goals
          have HO9 : Hid (Owns base w9 (.slice (some ⟨g, 0, none⟩) A.length ac) (stepA f pl A k)) := by show Owns _ _ _ _; rw [HST.out]; exact hO9
          have HG9 : Hid (_) := hgx.trans ⟨hg9.os, hg9.tape, hg9.output, hg9.size, hg9.block⟩
          clear hO9 hg9 hOx hnews
          go_wp2
          go_ret
          exact ⟨rfl, HO9.out, HG9.out⟩
end Go.Proofs.YtihliofhhjjeaaaGreat
