/- Kept, SameF, LightRef, NearRef, LitRef: joined, in this order. -/
import Derived.Test.YtihliofhhjjeaaaGreatM15
import Derived.Test.YtihliofhhjjeaaaGreatM13
import Derived.Test.YtihliofhhjjeaaaGreatM11
import Derived.Test.YtihliofhhjjeaaaGreatM05
import Derived.Deep.RegionHeld3
import Derived.Deep.CutRange
import Derived.Test.YtihliofhhjjeaaaGreatM06
import Derived.Test.YtihliofhhjjeaaaGreatM07
import Derived.Deep.RegionLaw
set_option maxRecDepth 100000
namespace Go.Proofs.YtihliofhhjjeaaaGreat
open Go.RowKit Im Go.Shelf
attribute [local go_sem] Oper.semAt_some
def ToldKept (w : World) (f : Fr) (e : Ending) (w' : World) : Prop :=
  ((frameE f = 0 ∧ ∃ b, e = .returned (.tuple #[.slice (some ⟨b, 0, none⟩) f.ps.length f.ps.length, .int .i64 0]) ∧ w.heap.size ≤ b ∧ Bl w' b f.ps.length (keptG f.ps f.ps.length (shownP f) f.ps.length)) ∨
   (frameE f ≠ 0 ∧ e = .returned (.tuple #[.slice none 0 0, .int .i64 (frameE f)]))) ∧ Below w.heap.size w w'
set_option maxHeartbeats 1000000 in
theorem kept_err (W H S O : Int) (a : Option Addr) (len cap : Nat) (ps : List Ps) (w : World) (hp : Passes w a len ps) (hE : frameE ⟨W, H, S, O, ps⟩ ≠ 0) :
    Calls Tryz.prog 28 #[.agg #[.int .i64 W, .int .i64 H, .int .i64 S, .int .i64 O, .slice a len cap]] w (ToldKept w ⟨W, H, S, O, ps⟩) := by
  have hb0 := below_box (Below.refl w.heap.size w) (.cells #[.int .i64 W, .int .i64 H, .int .i64 S, .int .i64 O, .slice a len cap] 24)
  have hla := last_any W H S O a len cap ps _ (hp.below hb0)
  go_enter Tryz.func28, Tryz.ntmps28
  go_wp2_with fail
  refine hla.mono ?_
  clear hla
  rintro e w1 ⟨rfl, b1⟩
  rw [if_neg hE]
  go_wp2
  go_ret2
  exact ⟨.inr ⟨hE, rfl⟩, below_step hb0 b1⟩
theorem listIn_make {F : Fence} {n : Nat} {P : Program} (w : World) {ops : Array Oper} {rest : List Oper} {o : Oper} {a : Act} {Q : Exit → Act → World → Prop}
    (hg : o.guard = none) (l c : Operand) (t : TypeId) (hop : o.op = Op.makeSlice t l c)
    (base : Nat) (e : TypeId) (i : TypeInfo) (z : Value) (size : Nat) (h1 : P.underlying t = some (.slice e)) (h2 : P.info? e = some i) (h3 : i.zero = some z) (h4 : i.size = size)
    (kl kc : IntKind) (m : Nat) (hl : a.eval l = .int kl (m : Int)) (hc : a.eval c = .int kc (m : Int)) (b2 : i.bytes * m ≤ 281474976710656) (b3 : m ≤ maxLen) (b4 : base ≤ w.heap.size)
    (hK : ∀ w', w'.ownsRow base e size (.slice (some ⟨w.heap.size, 0, none⟩) m m) m (madeCells z.cells (m * size)).toList → w.grownBy w' none → wpListIn F n P ops Q rest (a.put o.dst (.slice (some ⟨w.heap.size, 0, none⟩) m m)) w') :
    wpListIn F n P ops Q (o :: rest) a w := by
  obtain ⟨w', hrun, r1, r2⟩ := run_make_full (P := P) w base t e i z size h1 h2 h3 h4 kl kc m b2 b3 b4
  refine wpListIn_plain hg fun K hK' => ?_
  unfold Oper.wpIn
  refine ⟨by simp [Oper.about, hop], ?_⟩
  rw [Oper.semAt_plain F _ _ (by rw [hop]; intro c hc'; cases hc')]
  simp [execOp, hop, hl, hc, hrun, Result.andThen]
  exact hK' _ _ (hK w' r1 r2)
def stepX (ps : List Ps) {len : Nat} (g : Nat → Bool) (x : Pe len) (j : Nat) : Bool := if g x.1.1 = true then markG g (srcOf ps x.1.1) j else g j
theorem fold_bhs (ps : List Ps) (len : Nat) (hl : 0 < len) (pv : Nat → Pv) (N : Int) (k : Nat) : (bhs len hl pv k).foldl (stepX ps) (fun j => decide (N = (j : Int))) = keptG ps len N k := by
  induction k with
  | zero => rfl
  | succ k ih =>
    rw [bhs_succ, List.foldl_append, ih]
    rfl
theorem bl_own {X Y : World} {row : Option Nat} {b n : Nat} {g : Nat → Bool} (hn : 0 < n) (h : Bl X b n g) (hg : X.grownBy Y row) (hr : ∀ r, row = some r → ∃ o : Obj, X.heap[r]? = some o ∧ o.isCells = false) : Bl Y b n g := by
  obtain ⟨o, ho, hc⟩ := cells_of_cell (h.cells 0 hn)
  have e := grownBy_keeps_cells hg hr ho hc
  exact ⟨Nat.lt_of_lt_of_le h.lt hg.size, fun j hj => (World.cell?_of_block (a := ⟨b, j, none⟩) e).trans (h.cells j hj), fun o => (World.frozen?_of_block (a := ⟨b, o, none⟩) e).trans (h.froz o)⟩
theorem bl_alloc {X : World} {b n : Nat} {g : Nat → Bool} (h : Bl X b n g) (o : Obj) : Bl (X.alloc o) b n g := h.below ((Below.refl X.heap.size X).alloc (Nat.le_refl _) o) h.lt (by simp)
theorem boxed_set {W : World} {B : Nat} {t : TypeId} {v : Value} (h : Go.Boxed W B t v) {p : Addr} (hne : p.block ≠ B) (u : Value) : Go.Boxed (W.setCell p u) B t v := (Below.heap_setCell W p u B (fun e => hne (by rw [e]))).trans h
set_option maxHeartbeats 4000000 in
theorem kept_ok (W H S O : Int) (a : Option Addr) (len cap : Nat) (ps : List Ps) (w : World) (hp : Passes w a len ps) (hE : frameE ⟨W, H, S, O, ps⟩ = 0) :
    Calls Tryz.prog 28 #[.agg #[.int .i64 W, .int .i64 H, .int .i64 S, .int .i64 O, .slice a len cap]] w (ToldKept w ⟨W, H, S, O, ps⟩) := by
  obtain rfl := hp.leng
  obtain ⟨hbnd, hfirst, hsh⟩ := frameE_zero hE
  dsimp only at hfirst
  obtain ⟨_, _, _, _, hL⟩ := boundsE_zero hbnd
  dsimp only at hL
  obtain ⟨N, hN⟩ := Int.eq_ofNat_of_zero_le hsh
  have hNl : N < ps.length := by have := (wrt_bd ps ps.length O).2; have e : shownP ⟨W, H, S, O, ps⟩ = wrt ps ps.length O := rfl; omega
  obtain ⟨i0, hi, hz0, hz1, hz2⟩ := info_parts Tryz.infoBool
  have hb0 := below_box (Below.refl w.heap.size w) (.cells #[.int .i64 W, .int .i64 H, .int .i64 S, .int .i64 O, .slice a ps.length cap] 24)
  have hla := last_any W H S O a ps.length cap ps _ (hp.below hb0)
  have hso := fun wx hp => sources_any W H S O a ps.length cap ps wx hp
  unfold ToldLast at hla
  rw [hE, if_pos rfl, hN] at hla
  have hs2 : ∀ x ∈ srcs ps ps.length, x.length ≤ 2 := by
    intro x hx
    unfold srcs at hx
    rw [List.mem_map] at hx
    obtain ⟨n, _, rfl⟩ := hx
    unfold srcOf
    rw [List.length_map]
    exact takesP_len _
  have hin : ∀ n, n < ps.length → ∀ i ∈ srcOf ps n, 0 ≤ i ∧ i < n := fun n hn => by
    have hfk := firstE_down ⟨W, H, S, O, ps⟩ hfirst (k := n) (by omega)
    have hpE : passE ⟨W, H, S, O, ps⟩ n = 0 := (firstE_at ⟨W, H, S, O, ps⟩ hfk).symm.trans (firstE_down ⟨W, H, S, O, ps⟩ hfirst (k := n + 1) (by omega))
    exact src_bd (passE_zero hpE).2.1
  obtain ⟨b, off, pv, rfl, hbl, hpv, heq⟩ := hp.pv (by omega)
  have hB := FBox.new w W H S O (some ⟨b, off, none⟩) ps.length cap
  have HIN : Hid (_) := hin
  have hlenS := srcs_length ps ps.length
  clear hin
  refine (callsIn_wide (n := 4)).1 ?_
  refine callsIn_of_wp_marks Tryz.func28 rfl trivial ?_ rfl
  simp only [Tryz.ntmps28, List.size_toArray, List.length_cons, List.length_nil, Nat.reduceAdd, Nat.reduceSub, Array.replicate_succ, Array.replicate_zero, List.push_toArray, List.append_toArray, List.nil_append, List.cons_append]
  gi_wp2_with (first
    | (refine ⟨trivial, ?_⟩; gi_at_call 26; refine (callsIn_wide.2 hla).mono ?_; rintro e w1 ⟨rfl, b1⟩; have hB1 := hB.below b1; have hb1 := below_step hb0 b1; obtain ⟨_, g0, g1, g2, g3, g4⟩ := id hB1))
  refine ⟨trivial, ?_⟩
  refine (callsIn_wide.2 (hso _ ((hp.below hb0).below b1))).mono ?_
  rintro e w2 ⟨⟨v2, rfl, hS⟩, b2⟩
  rw [if_pos hE] at hS
  rw [hE]
  obtain ⟨sa, sc, rfl, hSs⟩ := hS.lls hs2
  dsimp only at hSs ⊢
  rw [hlenS] at hSs ⊢
  have b2A := below_step b2 ((Below.refl w2.heap.size w2).alloc (Nat.le_refl _) (.cells #[.slice sa ps.length sc] 63))
  have bS := Go.Boxed.new w2 63 (.slice sa ps.length sc)
  have hSA := hSs.below ((Below.refl w2.heap.size w2).alloc (Nat.le_refl _) (.cells #[.slice sa ps.length sc] 63))
  have hB2 := hB1.below b2A
  have hNi : (N : Int) < (ps.length : Int) := by omega
  have hN0 : (0 : Int) ≤ (N : Int) := by omega
  have hb2 := below_step hb1 b2A
  have hsA : (w2.alloc (.cells #[.slice sa ps.length sc] 63)).heap.size = w2.heap.size + 1 := by simp
  clear g0 g1 g2 g3 g4 hB1 hS hla hso hs2 hSs b1 b2 b2A hb0 hb1
  obtain ⟨_, g0, g1, g2, g3, g4⟩ := id hB2
  gi_wp2_with (first
    | (gi_at_make; refine listIn_make _ rfl _ _ 71 rfl (w2.heap.size + 1) 4 i0 (.bool false) 1 Tryz.underlying71 hi hz0 hz1 .i64 .i64 ps.length rfl rfl (by rw [hz2]; omega) (by unfold maxLen; omega) (by simp) ?_; intro wM hown hgrow; have hbM : Below (w2.heap.size + 1) (w2.alloc (.cells #[.slice sa ps.length sc] 63)) wM := (Below.refl _ _).grown hgrow (by simp) (fun k hk => by cases hk); rw [hsA] at hown; have hlM := (World.ownsRow.lt (w := wM) hown (w2.heap.size + 1) rfl).2; have hKM := Bl.made hown hlM; have hKN := hKM.below ((Below.refl wM.heap.size wM).alloc (Nat.le_refl _) (.cells #[.slice (some ⟨w2.heap.size + 1, 0, none⟩) ps.length ps.length] 71)) hlM (by simp); have k0 := hKN.cells N hNl; have kf := hKN.froz N; have hlw : w.heap.size < w2.heap.size + 1 := (by have := hB2.lt; omega); have gM := hbM.cell (p := ⟨w.heap.size, 4, none⟩) hlw; have gN : ((wM.setCell ⟨w2.heap.size + 1, N, none⟩ (.bool true)).alloc (.cells #[.slice (some ⟨w2.heap.size + 1, 0, none⟩) ps.length ps.length] 71)).cell? ⟨w.heap.size, 4, none⟩ = some (.slice (some ⟨b, off, none⟩) ps.length cap) := (World.cell?_alloc_lt _ _ _ (show w.heap.size < (wM.setCell ⟨w2.heap.size + 1, N, none⟩ (.bool true)).heap.size by simp [World.setCell]; omega)).trans ((set_other _ (fun e => by injection e with e1; omega)).trans (gM.trans g4)))
    | (refine ⟨trivial, ?_⟩; gi_at_call 60; refine (callsIn_wide.2 (fromBehind_any _ _ _ _)).mono ?_; rintro e w9 ⟨rfl, rfl⟩))
  have hpos : 0 < ps.length := by omega
  have hWS : (wM.setCell ⟨w2.heap.size + 1, N, none⟩ (.bool true)).heap.size = wM.heap.size := by simp [World.setCell]
  have hKS := hKM.put (g' := fun j => decide ((N : Int) = (j : Int))) N hNl (fun j hj => by
    by_cases h : N = j
    · subst h; simp
    · have h' : ¬ (N : Int) = (j : Int) := by omega
      simp [h, h'])
  have hK0 := bl_alloc (bl_alloc hKS (.cells #[.slice (some ⟨w2.heap.size + 1, 0, none⟩) ps.length ps.length] 71)) (.cells #[.slice (some ⟨b, off, none⟩) ps.length cap] 22)
  have bKB := (Go.Boxed.new (wM.setCell ⟨w2.heap.size + 1, N, none⟩ (.bool true)) 71 (.slice (some ⟨w2.heap.size + 1, 0, none⟩) ps.length ps.length)).alloc (.cells #[.slice (some ⟨b, off, none⟩) ps.length cap] 22)
  have bPB := Go.Boxed.new ((wM.setCell ⟨w2.heap.size + 1, N, none⟩ (.bool true)).alloc (.cells #[.slice (some ⟨w2.heap.size + 1, 0, none⟩) ps.length ps.length] 71)) 22 (.slice (some ⟨b, off, none⟩) ps.length cap)
  rw [World.size_alloc] at bPB
  rw [hWS] at bKB bPB
  have hbA : Below (w2.heap.size + 1) (w2.alloc (.cells #[.slice sa ps.length sc] 63)) (((wM.setCell ⟨w2.heap.size + 1, N, none⟩ (.bool true)).alloc (.cells #[.slice (some ⟨w2.heap.size + 1, 0, none⟩) ps.length ps.length] 71)).alloc (.cells #[.slice (some ⟨b, off, none⟩) ps.length cap] 22)) := ((hbM.setCell (p := ⟨w2.heap.size + 1, N, none⟩) (Nat.le_refl _) _).alloc (by rw [hWS]; omega) _).alloc (by simp [hWS]; omega) _
  have hbW : Below w.heap.size w (((wM.setCell ⟨w2.heap.size + 1, N, none⟩ (.bool true)).alloc (.cells #[.slice (some ⟨w2.heap.size + 1, 0, none⟩) ps.length ps.length] 71)).alloc (.cells #[.slice (some ⟨b, off, none⟩) ps.length cap] 22)) := hb2.trans (hbA.mono (by have := hb2.size; rw [hsA] at this; omega))
  have hlw2 : w.heap.size ≤ w2.heap.size + 1 := by omega
  have hsz0 : (((wM.setCell ⟨w2.heap.size + 1, N, none⟩ (.bool true)).alloc (.cells #[.slice (some ⟨w2.heap.size + 1, 0, none⟩) ps.length ps.length] 71)).alloc (.cells #[.slice (some ⟨b, off, none⟩) ps.length cap] 22)).heap.size = wM.heap.size + 2 := by simp [hWS]
  have hpv0 := hpv.below hbW hbl
  clear hKM hKN k0 kf gM gN g0 g1 g2 g3 g4 hB2 hKS hown hgrow
  generalize ((wM.setCell ⟨w2.heap.size + 1, N, none⟩ (.bool true)).alloc (.cells #[.slice (some ⟨w2.heap.size + 1, 0, none⟩) ps.length ps.length] 71)).alloc (.cells #[.slice (some ⟨b, off, none⟩) ps.length cap] 22) = W0 at *
  have hbb := @boxed_own Unit
  refine wpIn_rangeFunc_ownH rfl (by decide) (gf := 90) (lb := #[.pointer (some ⟨wM.heap.size + 1, 0, none⟩)]) rfl trivial (enters_of Tryz.func90 (by kernel_rfl) rfl)
    (behind_stops 3 (by decide) (wM.heap.size + 1) w.heap.size b off ps.length cap hpos hL.2 pv hbl W0 (by omega) hbW.size bPB.cell hpv0) KpB.t (KpB.b hbW.size (by omega)) (Below.refl _ _) (fun _ => rfl)
    (fun pre W' => (Bl W' (w2.heap.size + 1) ps.length (pre.foldl (stepX ps) (fun j => decide ((N : Int) = (j : Int)))) ∧ Go.Boxed W' wM.heap.size 71 (.slice (some ⟨w2.heap.size + 1, 0, none⟩) ps.length ps.length) ∧ Go.Boxed W' (wM.heap.size + 1) 22 (.slice (some ⟨b, off, none⟩) ps.length cap)) ∧ Below (w2.heap.size + 1) (w2.alloc (.cells #[.slice sa ps.length sc] 63)) W')
    (fun _ _ _ => False)
    (fun s A B row hs hg hr => ⟨⟨bl_own hpos hs.1.1 hg (fun r e => (hr r e).2), hbb _ _ (fun _ => _) () A B row hs.1.2.1 hg (fun r e => (hr r e).2), hbb _ _ (fun _ => _) () A B row hs.1.2.2 hg (fun r e => (hr r e).2)⟩, ownFrom_below (β := Unit) (w₀ := (w2.alloc (.cells #[.slice sa ps.length sc] 63))) (by simp) (by omega) () A B row hs.2 hg hr⟩)
    (fun _ _ _ _ _ hs _ _ => hs)
    ⟨⟨hK0, bKB, bPB⟩, hbA⟩
    (fun x a' _ => a' = { tmps := #[.agg #[.int .i64 W, .int .i64 H, .int .i64 S, .int .i64 O, .slice (some ⟨b, off, none⟩) ps.length cap], .pointer (some ⟨w.heap.size, 0, none⟩), .slice none 0 0, .int .i64 0, .int .i64 (N : Int), .int .i64 0, .pointer (some ⟨w2.heap.size, 0, none⟩), .pointer (some ⟨wM.heap.size, 0, none⟩), .int .i64 (x.1.1 : Int), undef, undef, .tuple #[.int .i64 (N : Int), .int .i64 0], .agg #[.int .i64 W, .int .i64 H, .int .i64 S, .int .i64 O, .slice (some ⟨b, off, none⟩) ps.length cap], .tuple #[.int .i64 (N : Int), .int .i64 0], .int .i64 (N : Int), .int .i64 0, .int .i64 0, .bool false, undef, .tuple #[.slice sa ps.length sc, .int .i64 0], .agg #[.int .i64 W, .int .i64 H, .int .i64 S, .int .i64 O, .slice (some ⟨b, off, none⟩) ps.length cap], .tuple #[.slice sa ps.length sc, .int .i64 0], .slice sa ps.length sc, .int .i64 0, .int .i64 0, .bool false, undef, .pointer (some ⟨w.heap.size, 4, none⟩), .slice (some ⟨b, off, none⟩) ps.length cap, .int .i64 (ps.length : Int), .slice (some ⟨w2.heap.size + 1, 0, none⟩) ps.length ps.length, .slice (some ⟨w2.heap.size + 1, 0, none⟩) ps.length ps.length, .int .i64 (N : Int), .pointer (some ⟨w2.heap.size + 1, N, none⟩), .pointer (some ⟨w.heap.size, 4, none⟩), .slice (some ⟨b, off, none⟩) ps.length cap, .func (.func 90) #[] #[.pointer (some ⟨wM.heap.size + 1, 0, none⟩)], .int .i64 (x.1.1 : Int), x.1.2.val, undef, undef, undef, undef, undef, undef, undef, undef, undef, undef, undef, undef, undef, undef, undef, undef, undef, undef, undef], defers := [] })
    (fun _ _ _ _ _ _ hs _ _ => hs)
    ?assign ?body ?done ?stop
  case assign =>
    rintro l pre x W' K hi hK
    gi_wp2
    exact hK _ _ (KeepsFrom.refl _ _) ⟨Below.refl _ _, rfl⟩ hi rfl
  case body =>
    rintro l pre x a' W' hl ⟨r, hr⟩ ⟨⟨hK1, hk1, hp1⟩, hB1⟩ rfl hlt
    have HST : Hid (∀ j, (pre ++ [x]).foldl (stepX ps) (fun j => decide ((N : Int) = (j : Int))) j = if pre.foldl (stepX ps) (fun j => decide ((N : Int) = (j : Int))) x.1.1 = true then markG (pre.foldl (stepX ps) (fun j => decide ((N : Int) = (j : Int)))) (srcOf ps x.1.1) j else pre.foldl (stepX ps) (fun j => decide ((N : Int) = (j : Int))) j) := fun j => by rw [List.foldl_append]; rfl
    obtain ⟨⟨m, pvx⟩, hm⟩ := x
    dsimp only at hm HST ⊢
    have hmI : (m : Int) < (ps.length : Int) := by omega
    have hm0 : (0 : Int) ≤ (m : Int) := by omega
    generalize pre.foldl (stepX ps) (fun j => decide ((N : Int) = (j : Int))) = g at hK1 HST
    have cK := hk1.cell
    have cS := (boxed_below bS hB1 (by omega)).cell
    have km := hK1.cells m hm
    obtain ⟨sb, so, ua, uc, rfl, hsb, qq, hUI⟩ := hSA.nth hm
    rw [hsA] at hsb
    rw [srcs_at _ hm] at qq hUI
    have hin := HIN.out m hm
    have hsl : (srcOf ps m).length ≤ 2 := by unfold srcOf; rw [List.length_map]; exact takesP_len _
    generalize srcOf ps m = sr at qq hUI hin HST hsl
    generalize hx : g m = xm at km HST
    cases xm with
    | false =>
      gi_wp2
      exact ⟨KeepsFrom.refl _ _, ⟨Below.refl _ _, rfl⟩, ⟨hK1.congr (fun j _ => by rw [HST.out j, if_neg (by decide)]), hk1, hp1⟩, hB1⟩
    | true =>
      have q0 := (hB1.cell (p := ⟨sb, so + m, none⟩) hsb).trans qq
      gi_wp2
      gi_loopw [49] (fun i wr => ∃ t : Nat, t ≤ sr.length ∧ i = .int .i64 t ∧ Bl wr (w2.heap.size + 1) ps.length (markG g (sr.take t)) ∧ Go.Boxed wr wM.heap.size 71 (.slice (some ⟨w2.heap.size + 1, 0, none⟩) ps.length ps.length) ∧ Go.Boxed wr (wM.heap.size + 1) 22 (.slice (some ⟨b, off, none⟩) ps.length cap) ∧ Below (w2.heap.size + 1) (w2.alloc (.cells #[.slice (some ⟨sb, so, none⟩) ps.length sc] 63)) wr ∧ Below w.heap.size W' wr ∧ KeepsFrom W0.heap.size W' wr) (fun i _ => sr.length - (intOf i).toNat)
      case atStart => exact ⟨0, Nat.zero_le _, rfl, by rw [List.take_zero, markG_nil]; exact hK1, hk1, hp1, hB1, Below.refl _ _, KeepsFrom.refl _ _⟩
      case round =>
        obtain ⟨t, ht, rfl, hKt, hkt, hpt, hBt, hWt, hFt⟩ := hrel
        have cKt := hkt.cell
        by_cases htl : t < sr.length
        · obtain ⟨bu, ou, rfl, hcx⟩ := (hUI.below (by rw [hsA]; exact Nat.le_refl _) hBt).nth htl
          have hrr := hin _ (getD_mem htl 0)
          have HS : Hid (∀ j : Nat, markG g (sr.take (t + 1)) j = if sr.getD t 0 = (j : Int) then true else markG g (sr.take t) j) := fun j => markG_take g sr t htl j
          generalize sr.getD t 0 = n at hcx hrr HS
          obtain ⟨q, rfl⟩ := Int.eq_ofNat_of_zero_le hrr.1
          have hql : q < ps.length := by omega
          have hqI : (q : Int) < (ps.length : Int) := by omega
          have kq := hKt.cells q hql
          have kf := hKt.froz q
          have hK9 := hKt.put (g' := markG g (sr.take (t + 1))) q hql (fun j hj => by
            rw [HS.out j]
            by_cases h : q = j
            · subst h; simp
            · have h' : ¬ (q : Int) = (j : Int) := by omega
              rw [if_neg h, if_neg h'])
          have hB9 := hBt.setCell (p := ⟨w2.heap.size + 1, q, none⟩) (Nat.le_refl _) (.bool true)
          have hW9 := hWt.setCell (p := ⟨w2.heap.size + 1, q, none⟩) hlw2 (.bool true)
          have hk9 := boxed_set hkt (p := ⟨w2.heap.size + 1, q, none⟩) (show w2.heap.size + 1 ≠ wM.heap.size by omega) (.bool true)
          have hp9 := boxed_set hpt (p := ⟨w2.heap.size + 1, q, none⟩) (show w2.heap.size + 1 ≠ wM.heap.size + 1 by omega) (.bool true)
          have hF9 := hFt.trans ((KeepsOthers.setCell wr ⟨w2.heap.size + 1, q, none⟩ (.bool true)).from W0.heap.size)
          have HK9 : Hid (_) := hK9
          clear hK9 hK1 hx hk1 hp1
          gi_wp2
          go_roundw
          case rel => exact ⟨t + 1, by omega, by go_num, HK9.out, hk9, hp9, hB9, hW9, hF9⟩
          case measure => simp [intOf]; omega
        · have hte : t = sr.length := by omega
          subst hte
          rw [List.take_length] at hKt
          clear hx
          gi_wp2
          exact ⟨hFt, ⟨hWt, hpt.cell.trans hp1.cell.symm⟩, ⟨hKt.congr (fun j _ => by rw [HST.out j, if_pos (by trivial)]), hkt, hpt⟩, hBt⟩
  case done =>
    rintro D ys W' hD rfl ⟨⟨hK1, hk1, hp1⟩, hB1⟩ hK
    have cK := hk1.cell
    gi_wp2
    refine ⟨by simp, .inl ⟨_, _, rfl, run_takeDeferred hK, ?_⟩⟩
    rw [fold_bhs] at hK1
    have hK2 := bl_own hpos hK1 (grownBy_putObj' _ D (.deferred none)) (fun r e => by cases e; exact ⟨_, hK, rfl⟩)
    refine ⟨.tuple #[(.slice (some ⟨w2.heap.size + 1, 0, none⟩) ps.length ps.length), .int .i64 0], ?_, ⟨.inl ⟨hE, w2.heap.size + 1, rfl, hlw2, by dsimp only; rw [hN]; exact hK2⟩, (hb2.trans (hB1.mono (by have := hb2.size; rw [hsA] at this; omega))).trans (belowK_b (w := w) (Nat.le_refl _) W' D _ _ (by have := hbW.size; omega) hK rfl rfl)⟩⟩
    simp [results, Tryz.results28, go_sem]
  case stop =>
    rintro D c pre W' _ _ h _
    exact h.elim
theorem kept_any (W H S O : Int) (a : Option Addr) (len cap : Nat) (ps : List Ps) (w : World) (hp : Passes w a len ps) :
    Calls Tryz.prog 28 #[.agg #[.int .i64 W, .int .i64 H, .int .i64 S, .int .i64 O, .slice a len cap]] w (ToldKept w ⟨W, H, S, O, ps⟩) := by
  by_cases hE : frameE ⟨W, H, S, O, ps⟩ = 0
  · exact kept_ok W H S O a len cap ps w hp hE
  · exact kept_err W H S O a len cap ps w hp hE
end Go.Proofs.YtihliofhhjjeaaaGreat
namespace Go.Proofs.YtihliofhhjjeaaaGreat
open Go.RowKit Im
def Two67 (wr : World) (Op To A B K : Int) (la : Option Addr) (ll lc : Nat) (la' : Option Addr) (lc' : Nat) (s6 s7 : Value) (wx : World) : Prop :=
  ∃ b6 b7, s6 = .pointer (some ⟨b6, 0, none⟩) ∧ s7 = .pointer (some ⟨b7, 0, none⟩) ∧ PBox wx b6 Op To A B K la ll lc ∧ PBox wx b7 Op To A B K la' ll lc' ∧ Below wr.heap.size wr wx
theorem passes_blk {w : World} {b off len : Nat} {ps : List Ps} (h : Passes w (some ⟨b, off, none⟩) len ps) {k : Nat} (hk : k < len) : b < w.heap.size := by
  rcases h.cells with e | ⟨b', off', ha, hl, _⟩
  · have := h.leng; subst e; simp at this; omega
  · injection ha with ha
    injection ha with e1 e2
    subst e1
    exact hl
theorem six_cells {wr w' : World} {b o : Nat} {x0 x1 x2 x3 x4 x5 : Value} (hb : Below wr.heap.size wr w') (h : b < wr.heap.size) (p0 : wr.cell? ⟨b, o, none⟩ = some x0) (p1 : wr.cell? ⟨b, o + 1, none⟩ = some x1) (p2 : wr.cell? ⟨b, o + 2, none⟩ = some x2) (p3 : wr.cell? ⟨b, o + 3, none⟩ = some x3) (p4 : wr.cell? ⟨b, o + 4, none⟩ = some x4) (p5 : wr.cell? ⟨b, o + 5, none⟩ = some x5) :
    w'.cell? ⟨b, o, none⟩ = some x0 ∧ w'.cell? ⟨b, o + 1, none⟩ = some x1 ∧ w'.cell? ⟨b, o + 2, none⟩ = some x2 ∧ w'.cell? ⟨b, o + 3, none⟩ = some x3 ∧ w'.cell? ⟨b, o + 4, none⟩ = some x4 ∧ w'.cell? ⟨b, o + 5, none⟩ = some x5 :=
  ⟨(hb.cell (p := ⟨b, o, none⟩) h).trans p0, (hb.cell (p := ⟨b, o + 1, none⟩) h).trans p1, (hb.cell (p := ⟨b, o + 2, none⟩) h).trans p2, (hb.cell (p := ⟨b, o + 3, none⟩) h).trans p3, (hb.cell (p := ⟨b, o + 4, none⟩) h).trans p4, (hb.cell (p := ⟨b, o + 5, none⟩) h).trans p5⟩
theorem keepF {wr w' : World} {f1 f2 b b' o o' : Nat} {y0 y1 x0 x1 x2 x3 x4 x5 z0 z1 z2 z3 z4 z5 : Value} (hb : Below wr.heap.size wr w') (h1 : f1 < wr.heap.size) (h2 : f2 < wr.heap.size) (h3 : b < wr.heap.size) (h4 : b' < wr.heap.size) (g4 : wr.cell? ⟨f1, 4, none⟩ = some y0) (e4 : wr.cell? ⟨f2, 4, none⟩ = some y1)
    (p0 : wr.cell? ⟨b, o, none⟩ = some x0) (p1 : wr.cell? ⟨b, o + 1, none⟩ = some x1) (p2 : wr.cell? ⟨b, o + 2, none⟩ = some x2) (p3 : wr.cell? ⟨b, o + 3, none⟩ = some x3) (p4 : wr.cell? ⟨b, o + 4, none⟩ = some x4) (p5 : wr.cell? ⟨b, o + 5, none⟩ = some x5) (q0 : wr.cell? ⟨b', o', none⟩ = some z0) (q1 : wr.cell? ⟨b', o' + 1, none⟩ = some z1) (q2 : wr.cell? ⟨b', o' + 2, none⟩ = some z2) (q3 : wr.cell? ⟨b', o' + 3, none⟩ = some z3) (q4 : wr.cell? ⟨b', o' + 4, none⟩ = some z4) (q5 : wr.cell? ⟨b', o' + 5, none⟩ = some z5) :
    w'.cell? ⟨f1, 4, none⟩ = some y0 ∧ w'.cell? ⟨f2, 4, none⟩ = some y1 ∧ w'.cell? ⟨b, o, none⟩ = some x0 ∧ w'.cell? ⟨b, o + 1, none⟩ = some x1 ∧ w'.cell? ⟨b, o + 2, none⟩ = some x2 ∧ w'.cell? ⟨b, o + 3, none⟩ = some x3 ∧ w'.cell? ⟨b, o + 4, none⟩ = some x4 ∧ w'.cell? ⟨b, o + 5, none⟩ = some x5 ∧ w'.cell? ⟨b', o', none⟩ = some z0 ∧ w'.cell? ⟨b', o' + 1, none⟩ = some z1 ∧ w'.cell? ⟨b', o' + 2, none⟩ = some z2 ∧ w'.cell? ⟨b', o' + 3, none⟩ = some z3 ∧ w'.cell? ⟨b', o' + 4, none⟩ = some z4 ∧ w'.cell? ⟨b', o' + 5, none⟩ = some z5 := by
  obtain ⟨a0, a1, a2, a3, a4, a5⟩ := six_cells hb h3 p0 p1 p2 p3 p4 p5
  obtain ⟨c0, c1, c2, c3, c4, c5⟩ := six_cells hb h4 q0 q1 q2 q3 q4 q5
  exact ⟨(hb.cell (p := ⟨f1, 4, none⟩) h1).trans g4, (hb.cell (p := ⟨f2, 4, none⟩) h2).trans e4, a0, a1, a2, a3, a4, a5, c0, c1, c2, c3, c4, c5⟩
theorem pbox_two (w : World) (Op To A B K : Int) (la : Option Addr) (ll lc : Nat) (o : Obj) : PBox ((w.alloc o).alloc (.cells #[.int .i64 Op, .int .i64 To, .int .i64 A, .int .i64 B, .int .i64 K, .slice la ll lc] 62)) (w.heap.size + 1) Op To A B K la ll lc := by
  have := PBox.new (w.alloc o) Op To A B K la ll lc
  rwa [World.size_alloc] at this
theorem Lights.nthL {w : World} {a : Option Addr} {len : Nat} {ls : List Lt} (h : Lights w a len ls) {k : Nat} (hk : k < len) : ∃ b off, a = some ⟨b, off, none⟩ ∧ b < w.heap.size ∧ w.cell? ⟨b, off + k * 4, none⟩ = some (.int .i64 (ls.getD k Lt.zero).X) ∧ w.cell? ⟨b, off + k * 4 + 1, none⟩ = some (.int .i64 (ls.getD k Lt.zero).Y) ∧ w.cell? ⟨b, off + k * 4 + 2, none⟩ = some (.int .i64 (ls.getD k Lt.zero).R) ∧ w.cell? ⟨b, off + k * 4 + 3, none⟩ = some (.int .i64 (ls.getD k Lt.zero).P) := by
  rcases h.cells with e | ⟨b, off, ha, hl, hc⟩
  · have := h.leng; subst e; simp at this; omega
  · exact ⟨b, off, ha, hl, hc k hk⟩
set_option maxHeartbeats 4000000 in
theorem sameFrames_any (W H S O : Int) {a a' : Option Addr} {len : Nat} (cap cap' : Nat) {ps : List Ps} {w : World} (hp : Passes w a len ps) (hp' : Passes w a' len ps) :
    Calls Tryz.prog 10 #[.agg #[.int .i64 W, .int .i64 H, .int .i64 S, .int .i64 O, .slice a len cap], .agg #[.int .i64 W, .int .i64 H, .int .i64 S, .int .i64 O, .slice a' len cap']] w fun e w' => e = .returned (.bool true) ∧ Below w.heap.size w w' := by
  have hbig := hp.big
  have hb0 := below_box (below_box (Below.refl w.heap.size w) (.cells #[.int .i64 W, .int .i64 H, .int .i64 S, .int .i64 O, .slice a len cap] 24)) (.cells #[.int .i64 W, .int .i64 H, .int .i64 S, .int .i64 O, .slice a' len cap'] 24)
  have hB := (FBox.new w W H S O a len cap).alloc (.cells #[.int .i64 W, .int .i64 H, .int .i64 S, .int .i64 O, .slice a' len cap'] 24)
  have hC := FBox.new (w.alloc (.cells #[.int .i64 W, .int .i64 H, .int .i64 S, .int .i64 O, .slice a len cap] 24)) W H S O a' len cap'
  rw [World.size_alloc] at hC
  have hp1 := hp.below hb0
  have hp1' := hp'.below hb0
  obtain ⟨_, g0, g1, g2, g3, g4⟩ := id hB
  obtain ⟨_, e0, e1, e2, e3, e4⟩ := id hC
  go_enter Tryz.func10, Tryz.ntmps10
  go_wp2
  clear g0 g1 g2 g3 g4 e0 e1 e2 e3 e4
  generalize (w.alloc (.cells #[.int .i64 W, .int .i64 H, .int .i64 S, .int .i64 O, .slice a len cap] 24)).alloc (.cells #[.int .i64 W, .int .i64 H, .int .i64 S, .int .i64 O, .slice a' len cap'] 24) = w1 at *
  go_loopw [5] (fun i wr => ∃ k : Nat, k ≤ len ∧ i = .int .i64 k ∧ Below w1.heap.size w1 wr) (fun i _ => len - (intOf i).toNat)
  case atStart => exact ⟨0, Nat.zero_le _, rfl, Below.refl _ _⟩
  case round =>
    obtain ⟨k, hk, rfl, hbr⟩ := hrel
    obtain ⟨_, g0, g1, g2, g3, g4⟩ := hB.below hbr
    obtain ⟨_, e0, e1, e2, e3, e4⟩ := hC.below hbr
    by_cases hlt : k < len
    · obtain ⟨b, off, la, ll, lc, rfl, p0, p1, p2, p3, p4, p5, hLi⟩ := (hp1.below hbr).nth hlt
      obtain ⟨b', off', la', ll', lc', rfl, q0, q1, q2, q3, q4, q5, hLi'⟩ := (hp1'.below hbr).nth hlt
      generalize ps.getD k Ps.zero = p at p0 p1 p2 p3 p4 p5 hLi q0 q1 q2 q3 q4 q5 hLi'
      obtain ⟨Op, To, A, B, K, ls⟩ := p
      dsimp only at p0 p1 p2 p3 p4 p5 hLi q0 q1 q2 q3 q4 q5 hLi'
      have hll := hLi.leng
      have hll' := hLi'.leng
      obtain rfl : ll' = ll := by omega
      have h3 := passes_blk (hp1.below hbr) hlt
      have h4 := passes_blk (hp1'.below hbr) hlt
      have h1 := (hB.below hbr).lt
      have h2 := (hC.below hbr).lt
      go_upto_region 6 with fail
      go_cut [6, 7] from 51 to 60 (fun s6 s7 wx => Two67 wr Op To A B K la ll' lc la' lc' s6 s7 wx)
      case first =>
        go_region_held3 (fun w' => w'.cell? ⟨w.heap.size, 4, none⟩ = some (.slice (some ⟨b, off, none⟩) len cap) ∧ w'.cell? ⟨w.heap.size + 1, 4, none⟩ = some (.slice (some ⟨b', off', none⟩) len cap') ∧ w'.cell? ⟨b, off + k * 6, none⟩ = some (.int .i64 Op) ∧ w'.cell? ⟨b, off + k * 6 + 1, none⟩ = some (.int .i64 To) ∧ w'.cell? ⟨b, off + k * 6 + 2, none⟩ = some (.int .i64 A) ∧ w'.cell? ⟨b, off + k * 6 + 3, none⟩ = some (.int .i64 B) ∧ w'.cell? ⟨b, off + k * 6 + 4, none⟩ = some (.int .i64 K) ∧ w'.cell? ⟨b, off + k * 6 + 5, none⟩ = some (.slice la ll' lc) ∧ w'.cell? ⟨b', off' + k * 6, none⟩ = some (.int .i64 Op) ∧ w'.cell? ⟨b', off' + k * 6 + 1, none⟩ = some (.int .i64 To) ∧ w'.cell? ⟨b', off' + k * 6 + 2, none⟩ = some (.int .i64 A) ∧ w'.cell? ⟨b', off' + k * 6 + 3, none⟩ = some (.int .i64 B) ∧ w'.cell? ⟨b', off' + k * 6 + 4, none⟩ = some (.int .i64 K) ∧ w'.cell? ⟨b', off' + k * 6 + 5, none⟩ = some (.slice la' ll' lc'))
          (first | exact keepF (Below.refl _ _).drew h1 h2 h3 h4 g4 e4 p0 p1 p2 p3 p4 p5 q0 q1 q2 q3 q4 q5 | exact keepF (below_box (Below.refl _ _) _).drew h1 h2 h3 h4 g4 e4 p0 p1 p2 p3 p4 p5 q0 q1 q2 q3 q4 q5 | exact keepF (below_box (below_box (Below.refl _ _) _) _).drew h1 h2 h3 h4 g4 e4 p0 p1 p2 p3 p4 p5 q0 q1 q2 q3 q4 q5)
          (fail)
        all_goals (go_wp2_with fail; go_meet)
        all_goals first
          | exact ⟨_, _, rfl, rfl, ((PBox.new wr Op To A B K la ll' lc).alloc _).below (Below.refl _ _).drew, (pbox_two wr Op To A B K la' ll' lc' _).below (Below.refl _ _).drew, (below_box (below_box (Below.refl _ _) _) _).drew⟩
          | exact ⟨_, _, rfl, rfl, (pbox_two wr Op To A B K la ll' lc _).below (Below.refl _ _).drew, ((PBox.new wr Op To A B K la' ll' lc').alloc _).below (Below.refl _ _).drew, (below_box (below_box (Below.refl _ _) _) _).drew⟩
      case rest =>
        obtain ⟨b6, b7, rfl, rfl, hP6, hP7, bx⟩ := hcut
        have hLx := hLi.below bx
        have hLx' := hLi'.below bx
        have hbX := hbr.trans (bx.mono hbr.size)
        clear p0 p1 p2 p3 p4 p5 q0 q1 q2 q3 q4 q5 g0 g1 g2 g3 g4 e0 e1 e2 e3 e4 hLi hLi' h1 h2 h3 h4
        obtain ⟨_, p0, p1, p2, p3, p4, p5⟩ := id hP6
        obtain ⟨_, q0, q1, q2, q3, q4, q5⟩ := id hP7
        have HLL : Hid (_) := hll
        have HLL' : Hid (_) := hll'
        clear hll hll'
        obtain ⟨wO, e0⟩ : ∃ z, z = wc := ⟨_, rfl⟩
        subst e0
        go_wp2
        go_loopw [8] (fun i ws => ∃ t : Nat, t ≤ ll' ∧ i = .int .i64 t ∧ Below wO.heap.size wO ws) (fun i _ => ll' - (intOf i).toNat)
        case atStart => exact ⟨0, Nat.zero_le _, rfl, Below.refl _ _⟩
        case round =>
          obtain ⟨t, ht, rfl, hbt⟩ := hrel
          have hbig' := hLx.big
          have a5 := (hP6.below hbt).c5
          have c5 := (hP7.below hbt).c5
          by_cases htl : t < ll'
          · obtain ⟨b, off, rfl, h3, d0, d1, d2, d3⟩ := (hLx.below hbt).nthL htl
            obtain ⟨b', off', rfl, h4, f0, f1, f2, f3⟩ := (hLx'.below hbt).nthL htl
            generalize ls.getD t Lt.zero = l at d0 d1 d2 d3 f0 f1 f2 f3
            obtain ⟨X, Y, R, P⟩ := l
            dsimp only at d0 d1 d2 d3 f0 f1 f2 f3
            clear p0 p1 p2 p3 p4 p5 q0 q1 q2 q3 q4 q5
            go_wp2_with fail
            go_region_held3 (fun w' => w'.cell? ⟨b6, 5, none⟩ = some (.slice (some ⟨b, off, none⟩) ll' lc) ∧ w'.cell? ⟨b7, 5, none⟩ = some (.slice (some ⟨b', off', none⟩) ll' lc') ∧ w'.cell? ⟨b, off + t * 4, none⟩ = some (.int .i64 X) ∧ w'.cell? ⟨b, off + t * 4 + 1, none⟩ = some (.int .i64 Y) ∧ w'.cell? ⟨b, off + t * 4 + 2, none⟩ = some (.int .i64 R) ∧ w'.cell? ⟨b, off + t * 4 + 3, none⟩ = some (.int .i64 P) ∧ w'.cell? ⟨b', off' + t * 4, none⟩ = some (.int .i64 X) ∧ w'.cell? ⟨b', off' + t * 4 + 1, none⟩ = some (.int .i64 Y) ∧ w'.cell? ⟨b', off' + t * 4 + 2, none⟩ = some (.int .i64 R) ∧ w'.cell? ⟨b', off' + t * 4 + 3, none⟩ = some (.int .i64 P))
              (exact ⟨a5, c5, d0, d1, d2, d3, f0, f1, f2, f3⟩)
              (fail)
            all_goals go_wp2
            all_goals go_roundw
            all_goals first
              | exact ⟨t + 1, by omega, by go_num, hbt.drew⟩
              | (simp [intOf]; omega)
          · clear p0 p1 p2 p3 p4 p5 q0 q1 q2 q3 q4 q5
            go_wp2
            go_roundw
            case rel => exact ⟨k + 1, by omega, by go_num, hbX.trans (hbt.mono hbX.size)⟩
            case measure => simp [intOf]; omega
    · go_wp2
      go_ret
      exact ⟨rfl, below_step hb0 hbr⟩
end Go.Proofs.YtihliofhhjjeaaaGreat
namespace Go.Proofs.YtihliofhhjjeaaaGreat
open Go.RowKit Im
theorem rightW (l : Lt) : rightB l = (withinB l.X 0 15 && withinB l.Y 0 15 && withinB l.R 1 32 && withinB l.P 0 65535) := by
  rw [Bool.eq_iff_iff, right_iff]; simp [withinB]; omega
theorem checkR_many (a : Option Addr) (len cap : Nat) (w : World) (h : 8 < len) (_hb : len ≤ 9223372036854775807) : Calls Tryz.prog 81 #[.slice a len cap] w fun e w' => e = .returned (.int .i64 2) ∧ Below w.heap.size w w' := by
  have h' : (8 : Int) < (len : Int) := by omega
  go_enter Tryz.func81, Tryz.ntmps81
  go_wp2
  go_ret
  exact ⟨rfl, Below.refl _ _⟩
theorem checkR_nil (a : Option Addr) (cap : Nat) (w : World) : Calls Tryz.prog 81 #[.slice a 0 cap] w fun e w' => e = .returned (.int .i64 0) ∧ Below w.heap.size w w' := by
  go_enter Tryz.func81, Tryz.ntmps81
  go_wp2
  go_loop [3] (fun i => i = .int .i64 0) (fun _ => 0)
  case atStart => rfl
  case round =>
    subst hrel
    go_wp2
    go_ret
    exact ⟨rfl, Below.refl _ _⟩
set_option maxHeartbeats 1000000 in
theorem checkR_row (b off len cap : Nat) (ls : List Lt) (w : World) (hl : ls.length = len) (h8 : len ≤ 8) (hc : ∀ j, j < len → w.cell? ⟨b, off + j * 4, none⟩ = some (.int .i64 (ls.getD j Lt.zero).X) ∧ w.cell? ⟨b, off + j * 4 + 1, none⟩ = some (.int .i64 (ls.getD j Lt.zero).Y) ∧ w.cell? ⟨b, off + j * 4 + 2, none⟩ = some (.int .i64 (ls.getD j Lt.zero).R) ∧ w.cell? ⟨b, off + j * 4 + 3, none⟩ = some (.int .i64 (ls.getD j Lt.zero).P)) :
    Calls Tryz.prog 81 #[.slice (some ⟨b, off, none⟩) len cap] w fun e w' => e = .returned (.int .i64 (okIf (ls.all rightB) 3)) ∧ Below w.heap.size w w' := by
  have h8' : ¬ (8 : Int) < (len : Int) := by omega
  go_enter Tryz.func81, Tryz.ntmps81
  go_wp2
  go_loop [3] (fun i => ∃ k : Nat, k ≤ len ∧ i = .int .i64 k ∧ (ls.take k).all rightB = true) (fun i => len - (intOf i).toNat)
  case atStart => exact ⟨0, Nat.zero_le _, rfl, rfl⟩
  case round =>
    obtain ⟨k, hk, rfl, hall⟩ := hrel
    by_cases hlt : k < len
    · obtain ⟨c0, c1, c2, c3⟩ := hc k hlt
      have n1 := rall_succ ls k (by omega) hall
      have n2 := rall_not ls k (by omega)
      rw [rightW] at n1 n2
      generalize ls.getD k Lt.zero = l at c0 c1 c2 c3 n1 n2
      obtain ⟨X, Y, R, P⟩ := l
      dsimp only at c0 c1 c2 c3 n1 n2
      clear hc
      by_cases h1 : withinB X 0 15 = true
      · by_cases h2 : withinB Y 0 15 = true
        · by_cases h3 : withinB R 1 32 = true
          · by_cases h4 : withinB P 0 65535 = true
            · have hx := n1 (by rw [h1, h2, h3, h4]; rfl)
              clear n1 n2
              go_wp2_with (go_at_call 42; refine (within_any _ _ _ _).mono ?_; rintro e w' ⟨rfl, rfl⟩)
              go_round
              case rel => exact ⟨k + 1, by omega, by go_num, hx⟩
              case measure => simp [intOf]; omega
            · have h4' := eq_false_of_ne_true h4
              have hx := n2 (by rw [h1, h2, h3, h4']; rfl)
              clear n1 n2
              go_wp2_with (go_at_call 42; refine (within_any _ _ _ _).mono ?_; rintro e w' ⟨rfl, rfl⟩)
              go_ret
              exact ⟨by first | rfl | (rw [hx]; rfl), Below.refl _ _⟩
          · have h3' := eq_false_of_ne_true h3
            have hx := n2 (by rw [h1, h2, h3']; rfl)
            clear n1 n2
            go_wp2_with (go_at_call 42; refine (within_any _ _ _ _).mono ?_; rintro e w' ⟨rfl, rfl⟩)
            go_ret
            exact ⟨by first | rfl | (rw [hx]; rfl), Below.refl _ _⟩
        · have h2' := eq_false_of_ne_true h2
          have hx := n2 (by rw [h1, h2']; rfl)
          clear n1 n2
          go_wp2_with (go_at_call 42; refine (within_any _ _ _ _).mono ?_; rintro e w' ⟨rfl, rfl⟩)
          go_ret
          exact ⟨by first | rfl | (rw [hx]; rfl), Below.refl _ _⟩
      · have h1' := eq_false_of_ne_true h1
        have hx := n2 (by rw [h1']; rfl)
        clear n1 n2
        go_wp2_with (go_at_call 42; refine (within_any _ _ _ _).mono ?_; rintro e w' ⟨rfl, rfl⟩)
        go_ret
        exact ⟨by first | rfl | (rw [hx]; rfl), Below.refl _ _⟩
    · have hx : ls.all rightB = true := by rw [List.take_of_length_le (by omega)] at hall; exact hall
      go_wp2
      go_ret
      exact ⟨by first | rfl | (rw [hx]; rfl), Below.refl _ _⟩
theorem checkR_any {a : Option Addr} {len : Nat} (cap : Nat) {ls : List Lt} {w : World} (h : Lights w a len ls) : Calls Tryz.prog 81 #[.slice a len cap] w fun e w' => e = .returned (.int .i64 (lightsErr ls)) ∧ Below w.heap.size w w' := by
  have hl := h.leng
  by_cases h8 : ls.length ≤ 8
  · have e : lightsErr ls = okIf (ls.all rightB) 3 := by simp [lightsErr, h8]
    rw [e]
    rcases h.cells with e | ⟨b, off, rfl, hb, hc⟩
    · subst e
      have : len = 0 := by simpa using hl.symm
      subst this
      exact checkR_nil a cap w
    · exact checkR_row b off len cap ls w hl (by omega) hc
  · have e : lightsErr ls = 2 := by simp [lightsErr, h8]
    rw [e]
    exact checkR_many a len cap w (by omega) h.big
theorem abs_any (n m : Int) (w : World) (hn : -100 ≤ n ∧ n ≤ 100) (hm : max n (-n) = m) : Calls Tryz.prog 163 #[.int .i64 n] w fun e w' => e = .returned (.int .i64 m) ∧ w' = w := by
  have h : (if n < -n then -n else n) = m := by rw [← hm]; split <;> omega
  clear hm
  go_enter Tryz.func163, Tryz.ntmps163
  go_wp2
  go_ret
  exact ⟨rfl, rfl⟩
theorem far_any (l : Lt) (x y : Int) (w : World) (hl : rightB l = true) (hx : 0 ≤ x ∧ x < 16) (hy : 0 ≤ y ∧ y < 16) :
    Calls Tryz.prog 161 #[.agg #[.int .i64 l.X, .int .i64 l.Y, .int .i64 l.R, .int .i64 l.P], .int .i64 x, .int .i64 y] w fun e w' => e = .returned (.int .i64 (awayP l.X x 1 + awayP l.Y y 1)) ∧ Below w.heap.size w w' := by
  obtain ⟨hX, hY, hR, hP⟩ := (right_iff l).1 hl
  have c1 := fun wx => abs_any (l.X - x) (awayP l.X x 1) wx (by omega) (by unfold awayP; omega)
  have c2 := fun wx => abs_any (l.Y - y) (awayP l.Y y 1) wx (by omega) (by unfold awayP; omega)
  have a1 := away_bd l.X x 1 hX hx (by omega)
  have a2 := away_bd l.Y y 1 hY hy (by omega)
  generalize awayP l.X x 1 = d1 at *
  generalize awayP l.Y y 1 = d2 at *
  obtain ⟨X, Y, R, P⟩ := l
  dsimp only at *
  clear hl
  go_enter Tryz.func161, Tryz.ntmps161
  go_wp2
  go_quiet ((first | (go_at_call 163; with_reducible exact Calls.quiet_of_same (c1 _)) | (go_at_call 163; with_reducible exact Calls.quiet_of_same (c2 _))))
  clear c1 c2
  go_wp2
  go_ret
  exact ⟨rfl, below_drewN ((Below.refl _ _).alloc (Nat.le_refl _) _) _⟩
set_option maxHeartbeats 1000000 in
theorem lightAt_any {a : Option Addr} {len : Nat} (cap : Nat) {ls : List Lt} (x y : Int) {w : World} (h : Lights w a len ls) (h8 : ls.length ≤ 8) (hr : ls.all rightB = true) (hx : 0 ≤ x ∧ x < 16) (hy : 0 ≤ y ∧ y < 16) :
    Calls Tryz.prog 153 #[.slice a len cap, .int .i64 x, .int .i64 y] w fun e w' => e = .returned (.int .i64 (sumG x y ls)) ∧ Below w.heap.size w w' := by
  have hl := h.leng
  rcases h.cells with e | ⟨b, off, rfl, hb, hcl⟩
  · subst e
    have : len = 0 := by simpa using hl.symm
    subst this
    go_enter Tryz.func153, Tryz.ntmps153
    go_wp2
    go_loop [7, 8] (fun s i => s = .int .i64 0 ∧ i = .int .i64 0) (fun _ _ => 0)
    case atStart => exact ⟨rfl, rfl⟩
    case round =>
      obtain ⟨rfl, rfl⟩ := hrel
      go_wp2
      go_ret
      exact ⟨rfl, Below.refl _ _⟩
  · go_enter Tryz.func153, Tryz.ntmps153
    go_wp2
    go_loopw [7, 8] (fun s i wr => ∃ k : Nat, k ≤ len ∧ i = .int .i64 k ∧ s = .int .i64 (sumG x y (ls.take k)) ∧ Below w.heap.size w wr) (fun _ i _ => len - (intOf i).toNat)
    case atStart => exact ⟨0, Nat.zero_le _, rfl, rfl, Below.refl _ _⟩
    case round =>
      obtain ⟨k, hk, rfl, rfl, hbr⟩ := hrel
      have sb := sumG_bd x y hx hy (ls.take k) (all_take ls k hr)
      have sl : (ls.take k).length ≤ 8 := by rw [List.length_take]; omega
      have sb2 : sumG x y (ls.take k) ≤ 65535 * 8 := by omega
      obtain ⟨sb1, _⟩ := sb
      by_cases hlt : k < len
      · have hcw := fun (w2 : World) (hb2 : Below w.heap.size w w2) => (show w2.cell? ⟨b, off + k * 4, none⟩ = some (.int .i64 (ls.getD k Lt.zero).X) ∧ w2.cell? ⟨b, off + k * 4 + 1, none⟩ = some (.int .i64 (ls.getD k Lt.zero).Y) ∧ w2.cell? ⟨b, off + k * 4 + 2, none⟩ = some (.int .i64 (ls.getD k Lt.zero).R) ∧ w2.cell? ⟨b, off + k * 4 + 3, none⟩ = some (.int .i64 (ls.getD k Lt.zero).P) from ⟨(hb2.cell (p := ⟨b, off + k * 4, none⟩) hb).trans (hcl k hlt).1, (hb2.cell (p := ⟨b, off + k * 4 + 1, none⟩) hb).trans (hcl k hlt).2.1, (hb2.cell (p := ⟨b, off + k * 4 + 2, none⟩) hb).trans (hcl k hlt).2.2.1, (hb2.cell (p := ⟨b, off + k * 4 + 3, none⟩) hb).trans (hcl k hlt).2.2.2⟩)
        have hrk := all_getD ls k (by omega) hr
        have hgv := fun wx => far_any (ls.getD k Lt.zero) x y wx hrk hx hy
        have hgb := given_bd hrk x y hx hy
        have g1 := given_pos (l := ls.getD k Lt.zero) (x := x) (y := y) rfl
        have g2 := given_zero (l := ls.getD k Lt.zero) (x := x) (y := y) rfl
        have hsn : Hid (sumG x y (ls.take (k + 1)) = sumG x y (ls.take k) + givenP (ls.getD k Lt.zero) x y) := by show _ = _; rw [take_snocL ls k (by omega), sumG_snoc]
        obtain ⟨hX, hY, hR, hP⟩ := (right_iff _).1 hrk
        have a1 := away_bd (ls.getD k Lt.zero).X x 1 hX hx (by omega)
        have a2 := away_bd (ls.getD k Lt.zero).Y y 1 hY hy (by omega)
        have ad : 0 ≤ awayP (ls.getD k Lt.zero).X x 1 + awayP (ls.getD k Lt.zero).Y y 1 ∧ awayP (ls.getD k Lt.zero).X x 1 + awayP (ls.getD k Lt.zero).Y y 1 ≤ 30 := by omega
        clear hrk a1 a2
        generalize awayP (ls.getD k Lt.zero).X x 1 + awayP (ls.getD k Lt.zero).Y y 1 = d at hgv g1 g2 ad
        generalize givenP (ls.getD k Lt.zero) x y = gv at hgb hsn g1 g2
        generalize ls.getD k Lt.zero = l at hcw hgv g1 g2 hX hY hR hP
        obtain ⟨X, Y, R, P⟩ := l
        dsimp only at hcw hgv g1 g2 hX hY hR hP
        obtain ⟨c0, c1, c2, c3⟩ := hcw wr hbr
        clear hcl
        by_cases hd : d < R
        · have hg := g1 hd
          have m1 : 0 ≤ P * (R - d) := Int.mul_nonneg hP.1 (by omega)
          have m2 : P * (R - d) ≤ 65535 * 32 := Int.mul_le_mul hP.2 (by omega) (by omega) (by omega)
          have hg' : P * (R - d) / R = gv := hg.symm
          clear g1 g2 hg
          go_wp2_with (go_at_call 161; refine (hgv _).mono ?_; rintro e w2 ⟨rfl, hb2⟩; have hbn := below_stepL hbr hb2; obtain ⟨z0, z1, z2, z3⟩ := hcw w2 hbn)
          go_quiet (fail)
          go_wp2
          go_roundw
          case rel => exact ⟨k + 1, by omega, by go_num, by rw [hsn.out], below_drewN hbn _⟩
          case measure => simp [intOf]; omega
        · have hg := g2 hd
          subst hg
          clear g1 g2
          go_wp2_with (go_at_call 161; refine (hgv _).mono ?_; rintro e w2 ⟨rfl, hb2⟩; have hbn := below_stepL hbr hb2; obtain ⟨z0, z1, z2, z3⟩ := hcw w2 hbn)
          go_roundw
          case rel => exact ⟨k + 1, by omega, by go_num, by rw [hsn.out, Int.add_zero], hbn⟩
          case measure => simp [intOf]; omega
      · have e : ls.take k = ls := List.take_of_length_le (by omega)
        go_wp2
        go_ret
        exact ⟨by first | rfl | (rw [e]; rfl), hbr⟩
end Go.Proofs.YtihliofhhjjeaaaGreat
namespace Go.Proofs.YtihliofhhjjeaaaGreat
open Go.RowKit Im
end Go.Proofs.YtihliofhhjjeaaaGreat
namespace Go.Proofs.YtihliofhhjjeaaaGreat
open Go.RowKit Im
theorem step_append_mine {P : Program} {ops : Array Oper} {o : Oper} {a : Act} {w : World} {K : Act → World → Prop} {Q : Exit → Act → World → Prop} {E : Prop}
    (hg : o.guard = none) (s x : Operand) (t : TypeId) (ho : o.op = .call { callee := .builtin .append, args := #[s, x], argTypes := #[t, t] })
    (base : Nat) (e : TypeId) (i : TypeInfo) (z : Value) (size bytes : Nat) (ht : P.underlying t = some (.slice e)) (hi : P.info? e = some i) (hz : i.zero = some z)
    (hsize : i.size = size) (hby : i.bytes = bytes) (hzs : z.cells.size = size) (hsz : 0 < size)
    (v : Value) (n : Nat) (xs : List Value) (hs : a.eval s = v) (hown : w.ownsRow base e size v n xs)
    (ad : Addr) (m c : Nat) (news : List Value) (hx : a.eval x = .slice (some ad) m c) (hl : news.length = m * size) (hnews : ∀ j u, news[j]? = some u → w.cell? (ad.add j) = some u) (h1 : ∀ u ∈ news, u.oneCell' = true)
    (h63 : n + m ≤ maxLen) (hbytes : (n + m) * bytes ≤ 140737488355328) (hbase : base ≤ w.heap.size)
    (hK : ∀ v' w', w'.ownsRow base e size v' (n + m) (xs ++ news) → w.grownBy w' v.ownBlock → K (a.put o.dst v') w') :
    if Region.wanted o (yielded ops a.tmps) = true then Oper.wp P o a w K Q else E := by
  have hw : Region.wanted o (yielded ops a.tmps) = true := by simp [Region.wanted, hg]
  rw [if_pos hw]
  exact wp_append_own w s x t ho base e i z size bytes ht hi hz hsize hby hzs hsz v n xs hs hown ad m c news hx hl hnews h1 h63 hbytes hbase fun v' w' h2 h3 _ => hK v' w' h2 h3
theorem Acc.call {c : Nat} {w0 wr w1 w2 : World} {W H : Int} {v : Value} {qs : List Int} (h : Acc c w0 wr W H v qs) (h1 : Below wr.heap.size wr w1) (h2 : Below w1.heap.size w1 w2) : Below wr.heap.size wr w2 ∧ w2.cell? ⟨c, 2, none⟩ = some v ∧ c < w2.heap.size := by
  have hb := below_stepL h1 h2
  have ha := h.below hb
  exact ⟨hb, ha.cells.2.2.1, ha.siz⟩
set_option maxRecDepth 100000 in
set_option maxHeartbeats 2000000 in
theorem litOf_any {w : World} {b off cap W H : Nat} {ps : List Int} {la : Option Addr} {llen : Nat} (lcap : Nat) {ls : List Lt} (hF : Fine w b off W H ps) (hl : Lights w la llen ls) (h8 : ls.length ≤ 8) (hr : ls.all rightB = true) :
    Calls Tryz.prog 124 #[.agg #[.int .i64 W, .int .i64 H, .slice (some ⟨b, off, none⟩) (W * H) cap], .slice la llen lcap] w fun e w' =>
      ∃ a cap', e = .returned (.agg #[.int .i64 W, .int .i64 H, .slice a (W * H) cap']) ∧ Ints w.heap.size w' a (W * H) (pix W (litG W ps ls) (W * H)) ∧ Below w.heap.size w w' := by
  obtain ⟨i0, hi, hz0, hz1, hz2⟩ := info_parts Tryz.info3
  obtain ⟨hw1, hw2⟩ := hF.hW
  obtain ⟨hh1, hh2⟩ := hF.hH
  have hWH : W * H ≤ 256 := Nat.mul_le_mul hw2 hh2
  have hB0 : Below w.heap.size w (((w.alloc (.cells #[.int .i64 W, .int .i64 H, .slice (some ⟨b, off, none⟩) (W * H) cap] 31)).alloc (.cells #[.int .i64 0, .int .i64 0, .slice none 0 0] 31)).alloc (.cells #[.int .i64 W, .int .i64 H, .slice none 0 0] 31)) := lit_B w _ _ _
  have hBx : Boxed (((w.alloc (.cells #[.int .i64 W, .int .i64 H, .slice (some ⟨b, off, none⟩) (W * H) cap] 31)).alloc (.cells #[.int .i64 0, .int .i64 0, .slice none 0 0] 31)).alloc (.cells #[.int .i64 W, .int .i64 H, .slice none 0 0] 31)) w.heap.size b off cap W H := ⟨by simp; omega, by simp [go_sem], by simp [go_sem], by simp [go_sem]⟩
  have hst := Acc.start ((w.alloc (.cells #[.int .i64 W, .int .i64 H, .slice (some ⟨b, off, none⟩) (W * H) cap] 31)).alloc (.cells #[.int .i64 0, .int .i64 0, .slice none 0 0] 31)) (w.heap.size + 1 + 1) W H (by simp)
  have z0 : (((w.alloc (.cells #[.int .i64 W, .int .i64 H, .slice (some ⟨b, off, none⟩) (W * H) cap] 31)).alloc (.cells #[.int .i64 0, .int .i64 0, .slice none 0 0] 31)).alloc (.cells #[.int .i64 W, .int .i64 H, .slice none 0 0] 31)).cell? ⟨w.heap.size + 1, 0, none⟩ = some (.int .i64 0) := by simp [go_sem]
  have z1 : (((w.alloc (.cells #[.int .i64 W, .int .i64 H, .slice (some ⟨b, off, none⟩) (W * H) cap] 31)).alloc (.cells #[.int .i64 0, .int .i64 0, .slice none 0 0] 31)).alloc (.cells #[.int .i64 W, .int .i64 H, .slice none 0 0] 31)).cell? ⟨w.heap.size + 1, 1, none⟩ = some (.int .i64 0) := by simp [go_sem]
  have z2 : (((w.alloc (.cells #[.int .i64 W, .int .i64 H, .slice (some ⟨b, off, none⟩) (W * H) cap] 31)).alloc (.cells #[.int .i64 0, .int .i64 0, .slice none 0 0] 31)).alloc (.cells #[.int .i64 W, .int .i64 H, .slice none 0 0] 31)).cell? ⟨w.heap.size + 1, 2, none⟩ = some (.slice none 0 0) := by simp [go_sem]
  have y0 : ∀ o, (((w.alloc (.cells #[.int .i64 W, .int .i64 H, .slice (some ⟨b, off, none⟩) (W * H) cap] 31)).alloc (.cells #[.int .i64 0, .int .i64 0, .slice none 0 0] 31)).alloc (.cells #[.int .i64 W, .int .i64 H, .slice none 0 0] 31)).frozen? ⟨w.heap.size + 1, o, none⟩ = false := fun o => by simp [go_sem]
  go_enter Tryz.func124, Tryz.ntmps124
  go_wp2
  generalize hw0 : (((w.alloc (.cells #[.int .i64 W, .int .i64 H, .slice (some ⟨b, off, none⟩) (W * H) cap] 31)).alloc (.cells #[.int .i64 0, .int .i64 0, .slice none 0 0] 31)).alloc (.cells #[.int .i64 W, .int .i64 H, .slice none 0 0] 31)) = w0 at hB0 hBx hst z0 z1 z2 y0 ⊢
  clear hw0
  go_loopw [6] (fun i wr => ∃ (y : Nat) (v : Value), y ≤ H ∧ i = .int .i64 y ∧ Acc (w.heap.size + 1 + 1) w0 wr W H v (pix W (litG W ps ls) (y * W))) (fun i _ => H - (intOf i).toNat)
  case atStart => exact ⟨0, .slice none 0 0, Nat.zero_le _, rfl, by rw [Nat.zero_mul]; exact hst⟩
  case round =>
    obtain ⟨y, v, hy, rfl, hacc⟩ := hrel
    obtain ⟨q0, q1, q2, qf⟩ := hacc.cells
    obtain ⟨_, k0, k1, k2⟩ := hBx.belowN hacc.bel (by omega)
    by_cases hlt : y < H
    · go_wp2
      go_loopw [7] (fun i ws => ∃ (x : Nat) (v : Value), x ≤ W ∧ i = .int .i64 x ∧ Acc (w.heap.size + 1 + 1) w0 ws W H v (pix W (litG W ps ls) (y * W + x))) (fun i _ => W - (intOf i).toNat)
      case atStart => exact ⟨0, v, Nat.zero_le _, rfl, hacc⟩
      case round =>
        obtain ⟨x, v2, hx, rfl, hacs⟩ := hrel
        obtain ⟨w1, e1⟩ : ∃ z, z = wr := ⟨_, rfl⟩
        subst e1
        clear k0 k1 k2 q0 q1 q2 qf
        obtain ⟨c0, c1, c2, cf⟩ := hacs.cells
        have hBr := hBx.belowN hacs.bel (by omega)
        by_cases hlx : x < W
        · have hsz := hacs.siz
          have hbW : Below w.heap.size w w1 := hB0.trans (hacs.bel.mono (by omega))
          have hFr := hF.below hbW
          have hLr := hl.below hbW
          obtain ⟨_, k0, k1, k2⟩ := id hBr
          have hpl : y * W + x < W * H := place_lt hlx hlt
          have hlen : (pix W (litG W ps ls) (y * W + x)).length = y * W + x := pix_length _ _ _
          have hpb := hFr.px_bd x y hlx hlt
          have hsb := sumG_bd x y (by omega) (by omega) ls hr
          obtain ⟨pv, hpv⟩ : ∃ pv, pv = px W ps x y := ⟨_, rfl⟩
          obtain ⟨sv, hsv⟩ : ∃ sv, sv = sumG x y ls := ⟨_, rfl⟩
          have hcall1 := fun w' hb' => at_any (cap := cap) (hFr.below (w' := w') hb') x y x y rfl rfl hlx hlt
          have hcall2 := fun w' hb' => lightAt_any lcap x y (hLr.below (w' := w') hb') h8 hr (by omega) (by omega)
          obtain ⟨gx, hgx⟩ : ∃ gx, (if pv + sv < 65535 then pv + sv else 65535) = gx := ⟨_, rfl⟩
          have HG : Hid (gx = litG W ps ls x y) := by show gx = _; rw [← hgx, hpv, hsv]; unfold litG; split <;> omega
          rw [← hpv] at hcall1 hpb
          rw [← hsv] at hcall2 hsb
          clear hpv hsv
          have hwr : IntKind.i64.wrap (pv + sv) = pv + sv := by rw [IntKind.wrap_i64]; omega
          have hb1 : Below w1.heap.size w1 w1.drew := (Below.refl _ _).drew
          go_wp2
          go_region_law (first
              | (go_simp; go_at_call 152; refine (hcall1 _ (by assumption)).mono ?_; rintro e w2 ⟨rfl, hb2⟩; obtain ⟨hbn, hvn, hsn⟩ := hacs.call (by assumption) hb2; go_wp2_with fail)
              | (go_simp; go_at_call 153; refine (hcall2 _ (by assumption)).mono ?_; rintro e w3 ⟨rfl, hb3⟩; obtain ⟨hbm, hvm, hsm⟩ := hacs.call (by assumption) hb3; go_wp2_with fail)
              | (refine step_append_mine rfl _ _ 25 rfl (w.heap.size + 1 + 1 + 1) 3 i0 (.int .i64 0) 1 8 Tryz.underlying25 hi hz0 hz1 hz2 rfl (by decide) v2 _ _ rfl (World.ownsRow.alloc (hacs.below hbm).own _) ⟨w3.heap.size, 0, none⟩ 1 1 [.int .i64 gx] rfl rfl (cell_one_new _ _ _) (by intro u hu; simp at hu; subst hu; rfl) (by rw [hlen]; unfold maxLen; omega) (by rw [hlen]; omega) (by simp; omega) ?_; intro v' w9 hown9 hgrow9; obtain ⟨hm, m2, m3⟩ := (hacs.below hbm).mid hgrow9; have R := (hacs.below hbm).push hgrow9 hown9; obtain ⟨a', cap', hv'⟩ := owns_slice hown9; subst hv'))
          all_goals go_wp2
          all_goals rw [hlen] at R
          all_goals refine ⟨⟨x + 1, _, by omega, by go_num, by rw [← Nat.add_assoc, pix_succ W _ x y hlx, ← HG.out]; exact R⟩, by simp [intOf]; omega⟩
        · have hxW : x = W := by omega
          subst hxW
          obtain ⟨_, k0, k1, k2⟩ := hBr
          go_wp2
          go_roundw
          case rel => exact ⟨y + 1, v2, by omega, by go_num, by rw [Nat.add_mul, Nat.one_mul]; exact hacs⟩
          case measure => simp [intOf]; omega
    · have hyH : y = H := by omega
      subst hyH
      have hlen : (pix W (litG W ps ls) (y * W)).length = y * W := pix_length _ _ _
      obtain ⟨a, cap', rfl, hints⟩ := hacc.ints (by rw [hlen, Nat.mul_comm]; omega)
      have hsz := hacc.siz
      have d0 : wr.cell? ⟨w.heap.size + 1, 0, none⟩ = some (.int .i64 0) := (hacc.bel.cell (by simp)).trans z0
      have d1 : wr.cell? ⟨w.heap.size + 1, 1, none⟩ = some (.int .i64 0) := (hacc.bel.cell (by simp)).trans z1
      have d2 : wr.cell? ⟨w.heap.size + 1, 2, none⟩ = some (.slice none 0 0) := (hacc.bel.cell (by simp)).trans z2
      have f0 : wr.frozen? ⟨w.heap.size + 1, 0, none⟩ = false := (hacc.bel.frozen (by simp)).trans (y0 0)
      have f1 : wr.frozen? ⟨w.heap.size + 1, 1, none⟩ = false := (hacc.bel.frozen (by simp)).trans (y0 1)
      have f2 : wr.frozen? ⟨w.heap.size + 1, 2, none⟩ = false := (hacc.bel.frozen (by simp)).trans (y0 2)
      go_wp2
      rw [hlen, Nat.mul_comm] at hints
      refine bodyPost_ret (v := .agg #[.int .i64 W, .int .i64 y, .slice a (W * y) cap']) (by simp [results, Tryz.results124, go_sem, d0, d1, d2]; exact Nat.mul_comm _ _) rfl ⟨a, cap', rfl, ?_, ?_⟩
      · exact (((hints.setCell (by simp) _).setCell (by simp) _).setCell (by simp) _).mono (by omega)
      · exact (((hB0.trans (hacc.bel.mono (by omega))).setCell (by simp) _).setCell (by simp) _).setCell (by simp) _
end Go.Proofs.YtihliofhhjjeaaaGreat
