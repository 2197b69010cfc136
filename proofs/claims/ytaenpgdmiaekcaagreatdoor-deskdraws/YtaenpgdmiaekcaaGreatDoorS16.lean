/- Kept, Cull, WireRd4, WireRd5, WireRd6: joined, in this order. -/
import Derived.Test.YtaenpgdmiaekcaaGreatDoorS15
import Derived.Test.YtaenpgdmiaekcaaGreatDoorS08
import Derived.RegionDies
/-
  KEPT: need.Kept.
-/
namespace Go.Proofs.YtaenpgdmiaekcaaGreatDoor
set_option maxRecDepth 100000
open Go.RowKit Im Go.Shelf
attribute [local go_sem] Oper.semAt_some

/-- What need.Kept tells. -/
def ToldKept (w : World) (f : Fr) (e : Ending) (w' : World) : Prop :=
  ((frameE f = 0 ∧ ∃ b, e = .returned (.tuple #[.slice (some ⟨b, 0, none⟩) f.ps.length f.ps.length, .int .i64 0]) ∧ w.heap.size ≤ b ∧ Bl w' b f.ps.length (keptG f.ps f.ps.length (shownP f) f.ps.length)) ∨
   (frameE f ≠ 0 ∧ e = .returned (.tuple #[.slice none 0 0, .int .i64 (frameE f)]))) ∧ Below w.heap.size w w'
set_option maxHeartbeats 1000000 in
theorem kept_err (W H S O : Int) (a : Option Addr) (len cap : Nat) (ps : List Ps) (w : World) (hp : Passes w a len ps) (hE : frameE ⟨W, H, S, O, ps⟩ ≠ 0) :
    Calls Tryz.prog 36 #[.agg #[.int .i64 W, .int .i64 H, .int .i64 S, .int .i64 O, .slice a len cap]] w (ToldKept w ⟨W, H, S, O, ps⟩) := by
  have hb0 := below_box (Below.refl w.heap.size w) (.cells #[.int .i64 W, .int .i64 H, .int .i64 S, .int .i64 O, .slice a len cap] 35)
  have hla := last_any W H S O a len cap ps _ (hp.below hb0)
  go_enter Tryz.func36, Tryz.ntmps36
  go_wp2_with fail
  refine hla.mono ?_
  clear hla
  rintro e w1 ⟨rfl, b1⟩
  rw [if_neg hE]
  go_wp2
  go_ret2
  exact ⟨.inr ⟨hE, rfl⟩, below_step hb0 b1⟩
/-- A make of a whole slice, inside a fence. -/
theorem listIn_make {F : Fence} {n : Nat} {P : Program} (w : World) {ops : Array Oper} {rest : List Oper} {o : Oper} {a : Act} {Q : Exit → Act → World → Prop}
    (hg : o.guard = none) (l c : Operand) (t : TypeId) (hop : o.op = Op.makeSlice t l c)
    (base : Nat) (e : TypeId) (i : TypeInfo) (z : Value) (size : Nat) (h1 : P.underlying t = some (.slice e)) (h2 : P.info? e = some i) (h3 : i.zero = some z) (h4 : i.size = size)
    (kl kc : IntKind) (m : Nat) (hl : a.eval l = .int kl (m : Int)) (hc : a.eval c = .int kc (m : Int)) (b2 : i.bytes * m ≤ 281474976710656) (b3 : m ≤ maxLen) (b4 : base ≤ w.heap.size)
    (hK : ∀ w', w'.ownsRow base e size (.slice (some ⟨w.heap.size, 0, none⟩) m m) m (madeCells z.cells (m * size)).toList → w.grownBy w' none → wpListIn F n P ops Q rest (a.put o.dst (.slice (some ⟨w.heap.size, 0, none⟩) m m)) w') :
    wpListIn F n P ops Q (o :: rest) a w := by
  obtain ⟨w', hrun, r1, r2⟩ := run_make_full (P := P) w base t e i z size h1 h2 h3 h4 kl kc m b2 b3 b4
  refine wpListIn_plain hg fun K hK' => ?_
  unfold Oper.wpIn
  refine ⟨by simp [Oper.about, hop], ?_⟩
  rw [Oper.semAt_plain F _ _ (by rw [hop]; intro c hc'; cases hc')]
  simp [execOp, hop, hl, hc, hrun, Result.andThen]
  exact hK' _ _ (hK w' r1 r2)
/-- The marks, when one pass more has been asked. -/
def stepX (ps : List Ps) {len : Nat} (g : Nat → Bool) (x : Pe len) (j : Nat) : Bool := if g x.1.1 = true then markG g (srcOf ps x.1.1) j else g j
theorem fold_bhs (ps : List Ps) (len : Nat) (hl : 0 < len) (pv : Nat → Pv) (N : Int) (k : Nat) : (bhs len hl pv k).foldl (stepX ps) (fun j => decide (N = (j : Int))) = keptG ps len N k := by
  induction k with
  | zero => rfl
  | succ k ih =>
    rw [bhs_succ, List.foldl_append, ih]
    rfl
theorem bl_own {X Y : World} {row : Option Nat} {b n : Nat} {g : Nat → Bool} (hn : 0 < n) (h : Bl X b n g) (hg : X.grownBy Y row) (hr : ∀ r, row = some r → ∃ o : Obj, X.heap[r]? = some o ∧ o.isCells = false) : Bl Y b n g := by
  obtain ⟨o, ho, hc⟩ := cells_of_cell (h.cells 0 hn)
  have e := grownBy_keeps_cells hg hr ho hc
  exact ⟨Nat.lt_of_lt_of_le h.lt hg.size, fun j hj => (World.cell?_of_block (a := ⟨b, j, none⟩) e).trans (h.cells j hj), fun o => (World.frozen?_of_block (a := ⟨b, o, none⟩) e).trans (h.froz o)⟩
theorem bl_alloc {X : World} {b n : Nat} {g : Nat → Bool} (h : Bl X b n g) (o : Obj) : Bl (X.alloc o) b n g := h.below ((Below.refl X.heap.size X).alloc (Nat.le_refl _) o) h.lt (by simp)
theorem boxed_set {W : World} {B : Nat} {t : TypeId} {v : Value} (h : Go.Boxed W B t v) {p : Addr} (hne : p.block ≠ B) (u : Value) : Go.Boxed (W.setCell p u) B t v := (Below.heap_setCell W p u B (fun e => hne (by rw [e]))).trans h
set_option maxHeartbeats 4000000 in
theorem kept_ok (W H S O : Int) (a : Option Addr) (len cap : Nat) (ps : List Ps) (w : World) (hp : Passes w a len ps) (hE : frameE ⟨W, H, S, O, ps⟩ = 0) :
    Calls Tryz.prog 36 #[.agg #[.int .i64 W, .int .i64 H, .int .i64 S, .int .i64 O, .slice a len cap]] w (ToldKept w ⟨W, H, S, O, ps⟩) := by
  obtain rfl := hp.leng
  obtain ⟨hbnd, hfirst, hsh⟩ := frameE_zero hE
  dsimp only at hfirst
  obtain ⟨_, _, _, _, hL⟩ := boundsE_zero hbnd
  dsimp only at hL
  obtain ⟨N, hN⟩ := Int.eq_ofNat_of_zero_le hsh
  have hNl : N < ps.length := by have := (wrt_bd ps ps.length O).2; have e : shownP ⟨W, H, S, O, ps⟩ = wrt ps ps.length O := rfl; omega
  obtain ⟨i0, hi, hz0, hz1, hz2⟩ := info_parts Tryz.infoBool
  have hb0 := below_box (Below.refl w.heap.size w) (.cells #[.int .i64 W, .int .i64 H, .int .i64 S, .int .i64 O, .slice a ps.length cap] 35)
  have hla := last_any W H S O a ps.length cap ps _ (hp.below hb0)
  have hso := fun wx hp => sources_any W H S O a ps.length cap ps wx hp
  unfold ToldLast at hla
  rw [hE, if_pos rfl, hN] at hla
  have hs2 : ∀ x ∈ srcs ps ps.length, x.length ≤ 2 := by
    intro x hx
    unfold srcs at hx
    rw [List.mem_map] at hx
    obtain ⟨n, _, rfl⟩ := hx
    unfold srcOf
    rw [List.length_map]
    exact takesP_len _
  have hin : ∀ n, n < ps.length → ∀ i ∈ srcOf ps n, 0 ≤ i ∧ i < n := fun n hn => by
    have hfk := firstE_down ⟨W, H, S, O, ps⟩ hfirst (k := n) (by omega)
    have hpE : passE ⟨W, H, S, O, ps⟩ n = 0 := (firstE_at ⟨W, H, S, O, ps⟩ hfk).symm.trans (firstE_down ⟨W, H, S, O, ps⟩ hfirst (k := n + 1) (by omega))
    exact src_bd (passE_zero hpE).2.1
  obtain ⟨b, off, pv, rfl, hbl, hpv, heq⟩ := hp.pv (by omega)
  have hB := FBox.new w W H S O (some ⟨b, off, none⟩) ps.length cap
  have HIN : Hid (_) := hin
  have hlenS := srcs_length ps ps.length
  clear hin
  refine (callsIn_wide (n := 4)).1 ?_
  refine callsIn_of_wp_marks Tryz.func36 rfl trivial ?_ rfl
  simp only [Tryz.ntmps36, List.size_toArray, List.length_cons, List.length_nil, Nat.reduceAdd, Nat.reduceSub, Array.replicate_succ, Array.replicate_zero, List.push_toArray, List.append_toArray, List.nil_append, List.cons_append]
  gi_wp2_with (first
    | (refine ⟨trivial, ?_⟩; gi_at_call 47; refine (callsIn_wide.2 hla).mono ?_; rintro e w1 ⟨rfl, b1⟩; have hB1 := hB.below b1; have hb1 := below_step hb0 b1; obtain ⟨_, g0, g1, g2, g3, g4⟩ := id hB1))
  refine ⟨trivial, ?_⟩
  refine (callsIn_wide.2 (hso _ ((hp.below hb0).below b1))).mono ?_
  rintro e w2 ⟨⟨v2, rfl, hS⟩, b2⟩
  rw [if_pos hE] at hS
  rw [hE]
  obtain ⟨sa, sc, rfl, hSs⟩ := hS.lls hs2
  dsimp only at hSs ⊢
  rw [hlenS] at hSs ⊢
  have b2A := below_step b2 ((Below.refl w2.heap.size w2).alloc (Nat.le_refl _) (.cells #[.slice sa ps.length sc] 64))
  have bS := Go.Boxed.new w2 64 (.slice sa ps.length sc)
  have hSA := hSs.below ((Below.refl w2.heap.size w2).alloc (Nat.le_refl _) (.cells #[.slice sa ps.length sc] 64))
  have hB2 := hB1.below b2A
  have hNi : (N : Int) < (ps.length : Int) := by omega
  have hN0 : (0 : Int) ≤ (N : Int) := by omega
  have hb2 := below_step hb1 b2A
  have hsA : (w2.alloc (.cells #[.slice sa ps.length sc] 64)).heap.size = w2.heap.size + 1 := by simp
  clear g0 g1 g2 g3 g4 hB1 hS hla hso hs2 hSs b1 b2 b2A hb0 hb1
  obtain ⟨_, g0, g1, g2, g3, g4⟩ := id hB2
  gi_wp2_with (first
    | (gi_at_make; refine listIn_make _ rfl _ _ 78 rfl (w2.heap.size + 1) 4 i0 (.bool false) 1 Tryz.underlying78 hi hz0 hz1 .i64 .i64 ps.length rfl rfl (by rw [hz2]; omega) (by unfold maxLen; omega) (by simp) ?_; intro wM hown hgrow; have hbM : Below (w2.heap.size + 1) (w2.alloc (.cells #[.slice sa ps.length sc] 64)) wM := (Below.refl _ _).grown hgrow (by simp) (fun k hk => by cases hk); rw [hsA] at hown; have hlM := (World.ownsRow.lt (w := wM) hown (w2.heap.size + 1) rfl).2; have hKM := Bl.made hown hlM; have hKN := hKM.below ((Below.refl wM.heap.size wM).alloc (Nat.le_refl _) (.cells #[.slice (some ⟨w2.heap.size + 1, 0, none⟩) ps.length ps.length] 78)) hlM (by simp); have k0 := hKN.cells N hNl; have kf := hKN.froz N; have hlw : w.heap.size < w2.heap.size + 1 := (by have := hB2.lt; omega); have gM := hbM.cell (p := ⟨w.heap.size, 4, none⟩) hlw; have gN : ((wM.setCell ⟨w2.heap.size + 1, N, none⟩ (.bool true)).alloc (.cells #[.slice (some ⟨w2.heap.size + 1, 0, none⟩) ps.length ps.length] 78)).cell? ⟨w.heap.size, 4, none⟩ = some (.slice (some ⟨b, off, none⟩) ps.length cap) := (World.cell?_alloc_lt _ _ _ (show w.heap.size < (wM.setCell ⟨w2.heap.size + 1, N, none⟩ (.bool true)).heap.size by simp [World.setCell]; omega)).trans ((set_other _ (fun e => by injection e with e1; omega)).trans (gM.trans g4)))
    | (refine ⟨trivial, ?_⟩; gi_at_call 74; refine (callsIn_wide.2 (fromBehind_any _ _ _ _)).mono ?_; rintro e w9 ⟨rfl, rfl⟩))
  have hpos : 0 < ps.length := by omega
  have hWS : (wM.setCell ⟨w2.heap.size + 1, N, none⟩ (.bool true)).heap.size = wM.heap.size := by simp [World.setCell]
  have hKS := hKM.put (g' := fun j => decide ((N : Int) = (j : Int))) N hNl (fun j hj => by
    by_cases h : N = j
    · subst h; simp
    · have h' : ¬ (N : Int) = (j : Int) := by omega
      simp [h, h'])
  have hK0 := bl_alloc (bl_alloc hKS (.cells #[.slice (some ⟨w2.heap.size + 1, 0, none⟩) ps.length ps.length] 78)) (.cells #[.slice (some ⟨b, off, none⟩) ps.length cap] 33)
  have bKB := (Go.Boxed.new (wM.setCell ⟨w2.heap.size + 1, N, none⟩ (.bool true)) 78 (.slice (some ⟨w2.heap.size + 1, 0, none⟩) ps.length ps.length)).alloc (.cells #[.slice (some ⟨b, off, none⟩) ps.length cap] 33)
  have bPB := Go.Boxed.new ((wM.setCell ⟨w2.heap.size + 1, N, none⟩ (.bool true)).alloc (.cells #[.slice (some ⟨w2.heap.size + 1, 0, none⟩) ps.length ps.length] 78)) 33 (.slice (some ⟨b, off, none⟩) ps.length cap)
  rw [World.size_alloc] at bPB
  rw [hWS] at bKB bPB
  have hbA : Below (w2.heap.size + 1) (w2.alloc (.cells #[.slice sa ps.length sc] 64)) (((wM.setCell ⟨w2.heap.size + 1, N, none⟩ (.bool true)).alloc (.cells #[.slice (some ⟨w2.heap.size + 1, 0, none⟩) ps.length ps.length] 78)).alloc (.cells #[.slice (some ⟨b, off, none⟩) ps.length cap] 33)) := ((hbM.setCell (p := ⟨w2.heap.size + 1, N, none⟩) (Nat.le_refl _) _).alloc (by rw [hWS]; omega) _).alloc (by simp [hWS]; omega) _
  have hbW : Below w.heap.size w (((wM.setCell ⟨w2.heap.size + 1, N, none⟩ (.bool true)).alloc (.cells #[.slice (some ⟨w2.heap.size + 1, 0, none⟩) ps.length ps.length] 78)).alloc (.cells #[.slice (some ⟨b, off, none⟩) ps.length cap] 33)) := hb2.trans (hbA.mono (by have := hb2.size; rw [hsA] at this; omega))
  have hlw2 : w.heap.size ≤ w2.heap.size + 1 := by omega
  have hsz0 : (((wM.setCell ⟨w2.heap.size + 1, N, none⟩ (.bool true)).alloc (.cells #[.slice (some ⟨w2.heap.size + 1, 0, none⟩) ps.length ps.length] 78)).alloc (.cells #[.slice (some ⟨b, off, none⟩) ps.length cap] 33)).heap.size = wM.heap.size + 2 := by simp [hWS]
  have hpv0 := hpv.below hbW hbl
  clear hKM hKN k0 kf gM gN g0 g1 g2 g3 g4 hB2 hKS hown hgrow
  generalize ((wM.setCell ⟨w2.heap.size + 1, N, none⟩ (.bool true)).alloc (.cells #[.slice (some ⟨w2.heap.size + 1, 0, none⟩) ps.length ps.length] 78)).alloc (.cells #[.slice (some ⟨b, off, none⟩) ps.length cap] 33) = W0 at *
  have hbb := @boxed_own Unit
  refine wpIn_rangeFunc_ownH rfl (by decide) (gf := 125) (lb := #[.pointer (some ⟨wM.heap.size + 1, 0, none⟩)]) rfl trivial (enters_of Tryz.func125 (by kernel_rfl) rfl)
    (behind_stops 3 (by decide) (wM.heap.size + 1) w.heap.size b off ps.length cap hpos hL.2 pv hbl W0 (by omega) hbW.size bPB.cell hpv0) KpB.t (KpB.b hbW.size (by omega)) (Below.refl _ _) (fun _ => rfl)
    (fun pre W' => (Bl W' (w2.heap.size + 1) ps.length (pre.foldl (stepX ps) (fun j => decide ((N : Int) = (j : Int)))) ∧ Go.Boxed W' wM.heap.size 78 (.slice (some ⟨w2.heap.size + 1, 0, none⟩) ps.length ps.length) ∧ Go.Boxed W' (wM.heap.size + 1) 33 (.slice (some ⟨b, off, none⟩) ps.length cap)) ∧ Below (w2.heap.size + 1) (w2.alloc (.cells #[.slice sa ps.length sc] 64)) W')
    (fun _ _ _ => False)
    (fun s A B row hs hg hr => ⟨⟨bl_own hpos hs.1.1 hg (fun r e => (hr r e).2), hbb _ _ (fun _ => _) () A B row hs.1.2.1 hg (fun r e => (hr r e).2), hbb _ _ (fun _ => _) () A B row hs.1.2.2 hg (fun r e => (hr r e).2)⟩, ownFrom_below (β := Unit) (w₀ := (w2.alloc (.cells #[.slice sa ps.length sc] 64))) (by simp) (by omega) () A B row hs.2 hg hr⟩)
    (fun _ _ _ _ _ hs _ _ => hs)
    ⟨⟨hK0, bKB, bPB⟩, hbA⟩
    (fun x a' _ => a' = { tmps := #[.agg #[.int .i64 W, .int .i64 H, .int .i64 S, .int .i64 O, .slice (some ⟨b, off, none⟩) ps.length cap], .pointer (some ⟨w.heap.size, 0, none⟩), .slice none 0 0, .int .i64 0, .int .i64 (N : Int), .int .i64 0, .pointer (some ⟨w2.heap.size, 0, none⟩), .pointer (some ⟨wM.heap.size, 0, none⟩), .int .i64 (x.1.1 : Int), undef, undef, .tuple #[.int .i64 (N : Int), .int .i64 0], .agg #[.int .i64 W, .int .i64 H, .int .i64 S, .int .i64 O, .slice (some ⟨b, off, none⟩) ps.length cap], .tuple #[.int .i64 (N : Int), .int .i64 0], .int .i64 (N : Int), .int .i64 0, .int .i64 0, .bool false, undef, .tuple #[.slice sa ps.length sc, .int .i64 0], .agg #[.int .i64 W, .int .i64 H, .int .i64 S, .int .i64 O, .slice (some ⟨b, off, none⟩) ps.length cap], .tuple #[.slice sa ps.length sc, .int .i64 0], .slice sa ps.length sc, .int .i64 0, .int .i64 0, .bool false, undef, .pointer (some ⟨w.heap.size, 4, none⟩), .slice (some ⟨b, off, none⟩) ps.length cap, .int .i64 (ps.length : Int), .slice (some ⟨w2.heap.size + 1, 0, none⟩) ps.length ps.length, .slice (some ⟨w2.heap.size + 1, 0, none⟩) ps.length ps.length, .int .i64 (N : Int), .pointer (some ⟨w2.heap.size + 1, N, none⟩), .pointer (some ⟨w.heap.size, 4, none⟩), .slice (some ⟨b, off, none⟩) ps.length cap, .func (.func 125) #[] #[.pointer (some ⟨wM.heap.size + 1, 0, none⟩)], .int .i64 (x.1.1 : Int), x.1.2.val, undef, undef, undef, undef, undef, undef, undef, undef, undef, undef, undef, undef, undef, undef, undef, undef, undef, undef, undef], defers := [] })
    (fun _ _ _ _ _ _ hs _ _ => hs)
    ?assign ?body ?done ?stop
  case assign =>
    rintro l pre x W' K hi hK
    gi_wp2
    exact hK _ _ (KeepsFrom.refl _ _) ⟨Below.refl _ _, rfl⟩ hi rfl
  case body =>
    rintro l pre x a' W' hl ⟨r, hr⟩ ⟨⟨hK1, hk1, hp1⟩, hB1⟩ rfl hlt
    have HST : Hid (∀ j, (pre ++ [x]).foldl (stepX ps) (fun j => decide ((N : Int) = (j : Int))) j = if pre.foldl (stepX ps) (fun j => decide ((N : Int) = (j : Int))) x.1.1 = true then markG (pre.foldl (stepX ps) (fun j => decide ((N : Int) = (j : Int)))) (srcOf ps x.1.1) j else pre.foldl (stepX ps) (fun j => decide ((N : Int) = (j : Int))) j) := fun j => by rw [List.foldl_append]; rfl
    obtain ⟨⟨m, pvx⟩, hm⟩ := x
    dsimp only at hm HST ⊢
    have hmI : (m : Int) < (ps.length : Int) := by omega
    have hm0 : (0 : Int) ≤ (m : Int) := by omega
    generalize pre.foldl (stepX ps) (fun j => decide ((N : Int) = (j : Int))) = g at hK1 HST
    have cK := hk1.cell
    have cS := (boxed_below bS hB1 (by omega)).cell
    have km := hK1.cells m hm
    obtain ⟨sb, so, ua, uc, rfl, hsb, qq, hUI⟩ := hSA.nth hm
    rw [hsA] at hsb
    rw [srcs_at _ hm] at qq hUI
    have hin := HIN.out m hm
    have hsl : (srcOf ps m).length ≤ 2 := by unfold srcOf; rw [List.length_map]; exact takesP_len _
    generalize srcOf ps m = sr at qq hUI hin HST hsl
    generalize hx : g m = xm at km HST
    cases xm with
    | false =>
      gi_wp2
      exact ⟨KeepsFrom.refl _ _, ⟨Below.refl _ _, rfl⟩, ⟨hK1.congr (fun j _ => by rw [HST.out j, if_neg (by decide)]), hk1, hp1⟩, hB1⟩
    | true =>
      have q0 := (hB1.cell (p := ⟨sb, so + m, none⟩) hsb).trans qq
      gi_wp2
      gi_loopw [49] (fun i wr => ∃ t : Nat, t ≤ sr.length ∧ i = .int .i64 t ∧ Bl wr (w2.heap.size + 1) ps.length (markG g (sr.take t)) ∧ Go.Boxed wr wM.heap.size 78 (.slice (some ⟨w2.heap.size + 1, 0, none⟩) ps.length ps.length) ∧ Go.Boxed wr (wM.heap.size + 1) 33 (.slice (some ⟨b, off, none⟩) ps.length cap) ∧ Below (w2.heap.size + 1) (w2.alloc (.cells #[.slice (some ⟨sb, so, none⟩) ps.length sc] 64)) wr ∧ Below w.heap.size W' wr ∧ KeepsFrom W0.heap.size W' wr) (fun i _ => sr.length - (intOf i).toNat)
      case atStart => exact ⟨0, Nat.zero_le _, rfl, by rw [List.take_zero, markG_nil]; exact hK1, hk1, hp1, hB1, Below.refl _ _, KeepsFrom.refl _ _⟩
      case round =>
        obtain ⟨t, ht, rfl, hKt, hkt, hpt, hBt, hWt, hFt⟩ := hrel
        have cKt := hkt.cell
        by_cases htl : t < sr.length
        · obtain ⟨bu, ou, rfl, hcx⟩ := (hUI.below (by rw [hsA]; exact Nat.le_refl _) hBt).nth htl
          have hrr := hin _ (getD_mem htl 0)
          have HS : Hid (∀ j : Nat, markG g (sr.take (t + 1)) j = if sr.getD t 0 = (j : Int) then true else markG g (sr.take t) j) := fun j => markG_take g sr t htl j
          generalize sr.getD t 0 = n at hcx hrr HS
          obtain ⟨q, rfl⟩ := Int.eq_ofNat_of_zero_le hrr.1
          have hql : q < ps.length := by omega
          have hqI : (q : Int) < (ps.length : Int) := by omega
          have kq := hKt.cells q hql
          have kf := hKt.froz q
          have hK9 := hKt.put (g' := markG g (sr.take (t + 1))) q hql (fun j hj => by
            rw [HS.out j]
            by_cases h : q = j
            · subst h; simp
            · have h' : ¬ (q : Int) = (j : Int) := by omega
              rw [if_neg h, if_neg h'])
          have hB9 := hBt.setCell (p := ⟨w2.heap.size + 1, q, none⟩) (Nat.le_refl _) (.bool true)
          have hW9 := hWt.setCell (p := ⟨w2.heap.size + 1, q, none⟩) hlw2 (.bool true)
          have hk9 := boxed_set hkt (p := ⟨w2.heap.size + 1, q, none⟩) (show w2.heap.size + 1 ≠ wM.heap.size by omega) (.bool true)
          have hp9 := boxed_set hpt (p := ⟨w2.heap.size + 1, q, none⟩) (show w2.heap.size + 1 ≠ wM.heap.size + 1 by omega) (.bool true)
          have hF9 := hFt.trans ((KeepsOthers.setCell wr ⟨w2.heap.size + 1, q, none⟩ (.bool true)).from W0.heap.size)
          have HK9 : Hid (_) := hK9
          clear hK9 hK1 hx hk1 hp1
          gi_wp2
          go_roundw
          case rel => exact ⟨t + 1, by omega, by go_num, HK9.out, hk9, hp9, hB9, hW9, hF9⟩
          case measure => simp [intOf]; omega
        · have hte : t = sr.length := by omega
          subst hte
          rw [List.take_length] at hKt
          clear hx
          gi_wp2
          exact ⟨hFt, ⟨hWt, hpt.cell.trans hp1.cell.symm⟩, ⟨hKt.congr (fun j _ => by rw [HST.out j, if_pos (by trivial)]), hkt, hpt⟩, hBt⟩
  case done =>
    rintro D ys W' hD rfl ⟨⟨hK1, hk1, hp1⟩, hB1⟩ hK
    have cK := hk1.cell
    gi_wp2
    refine ⟨by simp, .inl ⟨_, _, rfl, run_takeDeferred hK, ?_⟩⟩
    rw [fold_bhs] at hK1
    have hK2 := bl_own hpos hK1 (grownBy_putObj' _ D (.deferred none)) (fun r e => by cases e; exact ⟨_, hK, rfl⟩)
    refine ⟨.tuple #[(.slice (some ⟨w2.heap.size + 1, 0, none⟩) ps.length ps.length), .int .i64 0], ?_, ⟨.inl ⟨hE, w2.heap.size + 1, rfl, hlw2, by dsimp only; rw [hN]; exact hK2⟩, (hb2.trans (hB1.mono (by have := hb2.size; rw [hsA] at this; omega))).trans (belowK_b (w := w) (Nat.le_refl _) W' D _ _ (by have := hbW.size; omega) hK rfl rfl)⟩⟩
    simp [results, Tryz.results36, go_sem]
  case stop =>
    rintro D c pre W' _ _ h _
    exact h.elim
/-- need.Kept. -/
theorem kept_any (W H S O : Int) (a : Option Addr) (len cap : Nat) (ps : List Ps) (w : World) (hp : Passes w a len ps) :
    Calls Tryz.prog 36 #[.agg #[.int .i64 W, .int .i64 H, .int .i64 S, .int .i64 O, .slice a len cap]] w (ToldKept w ⟨W, H, S, O, ps⟩) := by
  by_cases hE : frameE ⟨W, H, S, O, ps⟩ = 0
  · exact kept_ok W H S O a len cap ps w hp hE
  · exact kept_err W H S O a len cap ps w hp hE
end Go.Proofs.YtaenpgdmiaekcaaGreatDoor
/-
  CULL: need.Cull.
-/
namespace Go.Proofs.YtaenpgdmiaekcaaGreatDoor
set_option maxRecDepth 100000
open Go.RowKit Im

/-- The passes that are marked, of the first k. -/
def cullP (ps : List Ps) (g : Nat → Bool) : Nat → List Ps
  | 0 => []
  | k + 1 => cullP ps g k ++ (if g k = true then [ps.getD k Ps.zero] else [])
/-- The passes of a frame that are needed. -/
def culled (f : Fr) : List Ps := cullP f.ps (keptG f.ps f.ps.length (shownP f) f.ps.length) f.ps.length
theorem frozen_new (w : World) (cs : Array Value) (t : TypeId) (o : Nat) : (w.alloc (.cells cs t)).frozen? ⟨w.heap.size, o, none⟩ = false := by
  have k0 : (w.alloc (.cells cs t)).heap[w.heap.size]? = some (.cells cs t (0, 0)) := (MapKept.heap_alloc w _).1
  unfold World.frozen?
  rw [k0]; simp
theorem few_lights {f : Fr} {k : Nat} (hE : frameE f = 0) (hk : k < f.ps.length) : (f.ps.getD k Ps.zero).ls.length ≤ 8 := by
  obtain ⟨_, hfirst, _⟩ := frameE_zero hE
  have hfk := firstE_down f hfirst (k := k) (by omega)
  have hpE : passE f k = 0 := (firstE_at f hfk).symm.trans (firstE_down f hfirst (k := k + 1) (by omega))
  obtain ⟨o1, _⟩ := passE_zero hpE
  obtain ⟨_, _, _, hl, hbare, _⟩ := ownE_zero o1
  generalize f.ps.getD k Ps.zero = p at *
  by_cases h : hasL p.Op = true
  · exact (lightsErr_zero (hl h)).1
  · unfold bareB at hbare
    rw [eq_false_of_ne_true h] at hbare
    simp only [Bool.and_eq_true, Bool.false_or, decide_eq_true_eq] at hbare
    omega
/-- The box of a frame whose passes grow. -/
structure GBox (w : World) (b : Nat) (W H S O : Int) (v : Value) : Prop where
  lt : b < w.heap.size
  c0 : w.cell? ⟨b, 0, none⟩ = some (.int .i64 W)
  c1 : w.cell? ⟨b, 1, none⟩ = some (.int .i64 H)
  c2 : w.cell? ⟨b, 2, none⟩ = some (.int .i64 S)
  c3 : w.cell? ⟨b, 3, none⟩ = some (.int .i64 O)
  c4 : w.cell? ⟨b, 4, none⟩ = some v
  fz : ∀ o, w.frozen? ⟨b, o, none⟩ = false
theorem GBox.below {w w' : World} {b B : Nat} {W H S O : Int} {v : Value} (h : GBox w b W H S O v) (hb : Below B w w') (hB : b < B) (hs : w.heap.size ≤ w'.heap.size) : GBox w' b W H S O v :=
  ⟨Nat.lt_of_lt_of_le h.lt hs, (hb.cell (p := ⟨b, 0, none⟩) hB).trans h.c0, (hb.cell (p := ⟨b, 1, none⟩) hB).trans h.c1, (hb.cell (p := ⟨b, 2, none⟩) hB).trans h.c2, (hb.cell (p := ⟨b, 3, none⟩) hB).trans h.c3, (hb.cell (p := ⟨b, 4, none⟩) hB).trans h.c4, fun o => (hb.frozen (p := ⟨b, o, none⟩) hB).trans (h.fz o)⟩
theorem GBox.grown {w w' : World} {b : Nat} {W H S O : Int} {v : Value} {row : Option Nat} (h : GBox w b W H S O v) (hg : w.grownBy w' row) (hne : some b ≠ row) : GBox w' b W H S O v :=
  ⟨Nat.lt_of_lt_of_le h.lt hg.size, (grown_cell hg h.lt hne 0).1.trans h.c0, (grown_cell hg h.lt hne 1).1.trans h.c1, (grown_cell hg h.lt hne 2).1.trans h.c2, (grown_cell hg h.lt hne 3).1.trans h.c3, (grown_cell hg h.lt hne 4).1.trans h.c4, fun o => (grown_cell hg h.lt hne o).2.trans (h.fz o)⟩
theorem GBox.set {w : World} {b : Nat} {W H S O : Int} {v : Value} (h : GBox w b W H S O v) {p : Addr} (hp : p.block ≠ b) (u : Value) : GBox (w.setCell p u) b W H S O v := by
  have hn : ∀ o, p ≠ (⟨b, o, none⟩ : Addr) := fun o e => hp (by rw [e])
  exact ⟨by simpa using h.lt, (set_other _ (hn 0)).trans h.c0, (set_other _ (hn 1)).trans h.c1, (set_other _ (hn 2)).trans h.c2, (set_other _ (hn 3)).trans h.c3, (set_other _ (hn 4)).trans h.c4, fun o => by simpa using h.fz o⟩
theorem GBox.put {w : World} {b : Nat} {W H S O : Int} {v : Value} (h : GBox w b W H S O v) (v' : Value) : GBox (w.setCell ⟨b, 4, none⟩ v') b W H S O v' :=
  ⟨by simpa using h.lt, (set_other _ (by simp)).trans h.c0, (set_other _ (by simp)).trans h.c1, (set_other _ (by simp)).trans h.c2, (set_other _ (by simp)).trans h.c3, set_same h.c4, fun o => by simpa using h.fz o⟩
theorem GBox.new (w : World) (W H S O : Int) (v : Value) : GBox (w.alloc (.cells #[.int .i64 W, .int .i64 H, .int .i64 S, .int .i64 O, v] 35)) w.heap.size W H S O v :=
  ⟨by simp, by simp [go_sem], by simp [go_sem], by simp [go_sem], by simp [go_sem], by simp [go_sem], fun o => frozen_new w _ _ o⟩
end Go.Proofs.YtaenpgdmiaekcaaGreatDoor
/-
  WIRERD4: wire.reader's light, where enough bytes are left.
-/
namespace Go.Proofs.YtaenpgdmiaekcaaGreatDoor
set_option maxRecDepth 100000
open Go.RowKit Im

theorem grown_alloc {w w' : World} {row : Option Nat} (h : w.grownBy w' row) (o : Obj) : w.grownBy (w'.alloc o) row :=
  ⟨h.os, h.tape, h.output, by have := h.size; simp; omega, fun k hk hr => (Below.heap_alloc _ _ _ (Nat.lt_of_lt_of_le hk h.size)).trans (h.block k hk hr)⟩
/-- Four values in a box that may be written. -/
structure WBox4 (w : World) (b : Nat) : Prop where
  lt : b < w.heap.size
  c : ∀ j, j < 4 → ∃ v, w.cell? ⟨b, j, none⟩ = some v
  fz : ∀ o, w.frozen? ⟨b, o, none⟩ = false
theorem WBox4.grown {w w' : World} {b : Nat} {row : Option Nat} (h : WBox4 w b) (hg : w.grownBy w' row) (hne : some b ≠ row) : WBox4 w' b :=
  ⟨Nat.lt_of_lt_of_le h.lt hg.size, fun j hj => by obtain ⟨v, hv⟩ := h.c j hj; exact ⟨v, hg.cell hv hne⟩, fun o => (World.frozen?_of_block (a := ⟨b, o, none⟩) (hg.block b h.lt hne)).trans (h.fz o)⟩
theorem numI_one (r : List Int) : numI r 1 = r.getD 0 0 := by show 256 * 0 + r.getD 0 0 = _; omega
theorem numI_two (r : List Int) : numI r 2 = 256 * r.getD 0 0 + r.getD 1 0 := by show 256 * (256 * 0 + r.getD 0 0) + r.getD 1 0 = _; omega
theorem drop_getD (r : List Int) (k i : Nat) : (r.drop k).getD i 0 = r.getD (k + i) 0 := by rw [List.getD_eq_getElem?_getD, List.getElem?_drop, ← List.getD_eq_getElem?_getD]
theorem RdB.alloc {w : World} {b : Nat} {r : List Int} (h : RdB w b r) (o : Obj) : RdB (w.alloc o) b r := h.grown (row := none) (grown_alloc (World.grownBy.refl w none) o) (by simp)
set_option maxHeartbeats 2000000 in
theorem light_does {b : Nat} {w : World} {r : List Int} (h : RdB w b r) (hm : 5 ≤ r.length) :
    Calls Tryz.prog 141 #[.pointer (some ⟨b, 0, none⟩)] w fun e w' => e = .returned (.agg #[.int .i64 (rdLight r 0).X, .int .i64 (rdLight r 0).Y, .int .i64 (rdLight r 0).R, .int .i64 (rdLight r 0).P]) ∧ RdB w' b (r.drop 5) ∧ w.grownBy w' (some b) := by
  have hbl : b < w.heap.size := World.block_lt_of_cell? w _ h.cell
  have hne : some w.heap.size ≠ some b := fun e => by injection e with e; omega
  have hB0 : WBox4 (w.alloc (.cells #[.int .i64 0, .int .i64 0, .int .i64 0, .int .i64 0] 106)) w.heap.size := ⟨by simp, fun j hj => by
    match j, hj with
    | 0, _ => exact ⟨_, by simp [go_sem]; rfl⟩
    | 1, _ => exact ⟨_, by simp [go_sem]; rfl⟩
    | 2, _ => exact ⟨_, by simp [go_sem]; rfl⟩
    | 3, _ => exact ⟨_, by simp [go_sem]; rfl⟩, fun o => frozen_new w _ _ o⟩
  have hg0 : w.grownBy (w.alloc (.cells #[.int .i64 0, .int .i64 0, .int .i64 0, .int .i64 0] 106)) (some b) := grown_alloc (World.grownBy.refl _ _) _
  have h0 := h.alloc (.cells #[.int .i64 0, .int .i64 0, .int .i64 0, .int .i64 0] 106)
  have n0 : numI r 1 = (rdLight r 0).X := numI_one r
  have n1 : numI (r.drop 1) 1 = (rdLight r 0).Y := by rw [numI_one, drop_getD]; rfl
  have n2 : numI ((r.drop 1).drop 1) 1 = (rdLight r 0).R := by rw [numI_one, List.drop_drop, drop_getD]; rfl
  have n3 : numI (((r.drop 1).drop 1).drop 1) 2 = (rdLight r 0).P := by rw [numI_two, List.drop_drop, List.drop_drop, drop_getD, drop_getD]; rfl
  have n4 : (((r.drop 1).drop 1).drop 1).drop 2 = r.drop 5 := by simp [List.drop_drop]
  have hn0 := number_does h0 (many := 1) (by decide) (by omega)
  rw [n0] at hn0
  go_enter Tryz.func141, Tryz.ntmps141
  go_wp2_with fail
  refine hn0.mono ?_
  rintro e w1 ⟨rfl, h1, g1⟩
  have hn1 := number_does h1 (many := 1) (by decide) (by rw [List.length_drop]; omega)
  rw [n1] at hn1
  go_wp2_with fail
  refine hn1.mono ?_
  rintro e w2 ⟨rfl, h2, g2⟩
  have hn2 := number_does h2 (many := 1) (by decide) (by rw [List.length_drop, List.length_drop]; omega)
  rw [n2] at hn2
  go_wp2_with fail
  refine hn2.mono ?_
  rintro e w3 ⟨rfl, h3, g3⟩
  have hn3 := number_does h3 (many := 2) (by decide) (by rw [List.length_drop, List.length_drop, List.length_drop]; omega)
  rw [n3] at hn3
  go_wp2_with fail
  refine hn3.mono ?_
  rintro e w4 ⟨rfl, h4, g4⟩
  have hB4 := (((hB0.grown g1 hne).grown g2 hne).grown g3 hne).grown g4 hne
  have hg4 := (((hg0.trans g1).trans g2).trans g3).trans g4
  obtain ⟨v0, k0⟩ := hB4.c 0 (by decide)
  obtain ⟨v1, k1⟩ := hB4.c 1 (by decide)
  obtain ⟨v2, k2⟩ := hB4.c 2 (by decide)
  obtain ⟨v3, k3⟩ := hB4.c 3 (by decide)
  have f0 := hB4.fz 0
  have f1 := hB4.fz 1
  have f2 := hB4.fz 2
  have f3 := hB4.fz 3
  rw [n4] at h4
  have T : ∀ (x0 x1 x2 x3 : Value), RdB ((((w4.setCell ⟨w.heap.size, 0, none⟩ x0).setCell ⟨w.heap.size, 1, none⟩ x1).setCell ⟨w.heap.size, 2, none⟩ x2).setCell ⟨w.heap.size, 3, none⟩ x3) b (r.drop 5) ∧ w.grownBy ((((w4.setCell ⟨w.heap.size, 0, none⟩ x0).setCell ⟨w.heap.size, 1, none⟩ x1).setCell ⟨w.heap.size, 2, none⟩ x2).setCell ⟨w.heap.size, 3, none⟩ x3) (some b) ∧ ((((w4.setCell ⟨w.heap.size, 0, none⟩ x0).setCell ⟨w.heap.size, 1, none⟩ x1).setCell ⟨w.heap.size, 2, none⟩ x2).setCell ⟨w.heap.size, 3, none⟩ x3).cell? ⟨w.heap.size, 0, none⟩ = some x0 ∧ ((((w4.setCell ⟨w.heap.size, 0, none⟩ x0).setCell ⟨w.heap.size, 1, none⟩ x1).setCell ⟨w.heap.size, 2, none⟩ x2).setCell ⟨w.heap.size, 3, none⟩ x3).cell? ⟨w.heap.size, 1, none⟩ = some x1 ∧ ((((w4.setCell ⟨w.heap.size, 0, none⟩ x0).setCell ⟨w.heap.size, 1, none⟩ x1).setCell ⟨w.heap.size, 2, none⟩ x2).setCell ⟨w.heap.size, 3, none⟩ x3).cell? ⟨w.heap.size, 2, none⟩ = some x2 ∧ ((((w4.setCell ⟨w.heap.size, 0, none⟩ x0).setCell ⟨w.heap.size, 1, none⟩ x1).setCell ⟨w.heap.size, 2, none⟩ x2).setCell ⟨w.heap.size, 3, none⟩ x3).cell? ⟨w.heap.size, 3, none⟩ = some x3 := by
    intro x0 x1 x2 x3
    have ht : ∀ i j : Nat, i ≠ j → (⟨w.heap.size, i, none⟩ : Addr) ≠ ⟨w.heap.size, j, none⟩ := fun i j hij e => hij (by injection e)
    have hb : ∀ i : Nat, (⟨w.heap.size, i, none⟩ : Addr) ≠ ⟨b, 0, none⟩ := fun i e => by injection e with e1 e2; omega
    refine ⟨⟨?_, by simpa using h4.fz, h4.bytes, h4.few⟩, ?_, ?_, ?_, ?_, ?_⟩
    · rw [set_other _ (hb 3), set_other _ (hb 2), set_other _ (hb 1), set_other _ (hb 0)]; exact h4.cell
    · have B := ((((Below.refl w.heap.size w4).setCell (p := ⟨w.heap.size, 0, none⟩) (Nat.le_refl _) x0).setCell (p := ⟨w.heap.size, 1, none⟩) (Nat.le_refl _) x1).setCell (p := ⟨w.heap.size, 2, none⟩) (Nat.le_refl _) x2).setCell (p := ⟨w.heap.size, 3, none⟩) (Nat.le_refl _) x3
      exact ⟨B.os.trans hg4.os, B.tape.trans hg4.tape, B.output.trans hg4.output, Nat.le_trans hg4.size B.size, fun k hk hr => (B.block k hk).trans (hg4.block k hk hr)⟩
    · rw [set_other _ (ht 3 0 (by decide)), set_other _ (ht 2 0 (by decide)), set_other _ (ht 1 0 (by decide))]; exact set_same k0
    · rw [set_other _ (ht 3 1 (by decide)), set_other _ (ht 2 1 (by decide))]; exact set_same ((set_other _ (ht 0 1 (by decide))).trans k1)
    · rw [set_other _ (ht 3 2 (by decide))]; exact set_same ((set_other _ (ht 1 2 (by decide))).trans ((set_other _ (ht 0 2 (by decide))).trans k2))
    · exact set_same ((set_other _ (ht 2 3 (by decide))).trans ((set_other _ (ht 1 3 (by decide))).trans ((set_other _ (ht 0 3 (by decide))).trans k3)))
  obtain ⟨t1, t2, d0, d1, d2, d3⟩ := T (.int .i64 (rdLight r 0).X) (.int .i64 (rdLight r 0).Y) (.int .i64 (rdLight r 0).R) (.int .i64 (rdLight r 0).P)
  have HT1 : Hid (_) := t1
  have HT2 : Hid (_) := t2
  clear T t1 t2 h4 hg4 hB4 n0 n1 n2 n3 n4
  go_wp2
  exact bodyPost_ret (v := .agg #[.int .i64 (rdLight r 0).X, .int .i64 (rdLight r 0).Y, .int .i64 (rdLight r 0).R, .int .i64 (rdLight r 0).P]) (by simp [results, Tryz.results141, go_sem, d0, d1, d2, d3]) rfl ⟨rfl, HT1.out, HT2.out⟩
set_option maxHeartbeats 2000000 in
theorem light_stops {b : Nat} {w : World} {r : List Int} (h : RdB w b r) (hm : r.length < 5) :
    Calls Tryz.prog 141 #[.pointer (some ⟨b, 0, none⟩)] w fun e w' => e = rdStopped ∧ w.grownBy w' (some b) := by
  have hg0 : w.grownBy (w.alloc (.cells #[.int .i64 0, .int .i64 0, .int .i64 0, .int .i64 0] 106)) (some b) := grown_alloc (World.grownBy.refl _ _) _
  have h0 := h.alloc (.cells #[.int .i64 0, .int .i64 0, .int .i64 0, .int .i64 0] 106)
  go_enter Tryz.func141, Tryz.ntmps141
  by_cases c0 : r.length < 1
  · have hs := number_stops h0 (many := 1) (by decide) (by omega)
    go_wp2_with fail
    refine hs.mono ?_
    rintro e wS ⟨rfl, gS⟩
    exact ⟨rfl, rfl, hg0.trans gS⟩
  have hn0 := number_does h0 (many := 1) (by decide) (by omega)
  generalize numI r 1 = x0 at hn0
  go_wp2_with fail
  refine hn0.mono ?_
  rintro e w1 ⟨rfl, h1, g1⟩
  by_cases c1 : r.length < 2
  · have hs := number_stops h1 (many := 1) (by decide) (by rw [List.length_drop]; omega)
    go_wp2_with fail
    refine hs.mono ?_
    rintro e wS ⟨rfl, gS⟩
    exact ⟨rfl, rfl, (hg0.trans g1).trans gS⟩
  have hn1 := number_does h1 (many := 1) (by decide) (by rw [List.length_drop]; omega)
  generalize numI (r.drop 1) 1 = x1 at hn1
  go_wp2_with fail
  refine hn1.mono ?_
  rintro e w2 ⟨rfl, h2, g2⟩
  by_cases c2 : r.length < 3
  · have hs := number_stops h2 (many := 1) (by decide) (by rw [List.length_drop, List.length_drop]; omega)
    go_wp2_with fail
    refine hs.mono ?_
    rintro e wS ⟨rfl, gS⟩
    exact ⟨rfl, rfl, ((hg0.trans g1).trans g2).trans gS⟩
  have hn2 := number_does h2 (many := 1) (by decide) (by rw [List.length_drop, List.length_drop]; omega)
  generalize numI ((r.drop 1).drop 1) 1 = x2 at hn2
  go_wp2_with fail
  refine hn2.mono ?_
  rintro e w3 ⟨rfl, h3, g3⟩
  · have hs := number_stops h3 (many := 2) (by decide) (by rw [List.length_drop, List.length_drop, List.length_drop]; omega)
    go_wp2_with fail
    refine hs.mono ?_
    rintro e wS ⟨rfl, gS⟩
    exact ⟨rfl, rfl, (((hg0.trans g1).trans g2).trans g3).trans gS⟩
end Go.Proofs.YtaenpgdmiaekcaaGreatDoor
/-
  WIRERD5: wire.reader's signed, where too few bytes are left.
-/
namespace Go.Proofs.YtaenpgdmiaekcaaGreatDoor
set_option maxRecDepth 100000
open Go.RowKit Im

set_option maxHeartbeats 2000000 in
theorem signed_stops {b : Nat} {w : World} {r : List Int} (h : RdB w b r) (hm : r.length < 3) :
    Calls Tryz.prog 140 #[.pointer (some ⟨b, 0, none⟩), .int .i64 3] w fun e w' => e = rdStopped ∧ w.grownBy w' (some b) := by
  have hnu := number_stops h.drew (many := 3) (by decide) hm
  have hw : IntKind.i64.wrap 24 = 24 := by decide
  have hw2 : IntKind.i64.wrap 16777216 = 16777216 := by decide
  go_enter Tryz.func140, Tryz.ntmps140
  go_upto_region 1 with fail
  go_region_dies
  all_goals
    refine hnu.mono ?_
    rintro e w1 ⟨rfl, hg⟩
    exact ⟨rfl, rfl, ⟨hg.os, hg.tape, hg.output, hg.size, hg.block⟩⟩
end Go.Proofs.YtaenpgdmiaekcaaGreatDoor
/-
  WIRERD6: what the reader's pass and frame are told by: numbers and memory.
-/
namespace Go.Proofs.YtaenpgdmiaekcaaGreatDoor
set_option maxRecDepth 100000
open Go.RowKit Im

theorem rdLight_drop (r : List Int) (p i : Nat) : rdLight (r.drop p) i = rdLight r (p + i) := by
  unfold rdLight
  simp only [drop_getD, Nat.add_assoc]
theorem rdLights_drop (r : List Int) (p i : Nat) : ∀ n, rdLights (r.drop p) i n = rdLights r (p + i) n
  | 0 => rfl
  | n + 1 => by
    unfold rdLights
    rw [rdLights_drop r p i n, rdLight_drop, Nat.add_assoc]
theorem rdPass_drop (r : List Int) (p : Nat) : rdPass (r.drop p) 0 = rdPass r p := by
  unfold rdPass
  simp only [drop_getD, rdLights_drop, Nat.zero_add, Nat.add_zero]
theorem rdStop_drop (r : List Int) (p : Nat) : p + rdStop (r.drop p) 0 = rdStop r p := by
  unfold rdStop
  simp only [drop_getD, Nat.zero_add]
  omega
theorem rdPos_le (r : List Int) {k n : Nat} (h : k ≤ n) : rdPos r k ≤ rdPos r n := by
  induction n with
  | zero => rw [Nat.le_zero.1 h]; exact Nat.le_refl _
  | succ n ih =>
    by_cases e : k = n + 1
    · rw [e]; exact Nat.le_refl _
    · refine Nat.le_trans (ih (by omega)) ?_
      show _ ≤ rdStop r (rdPos r n)
      unfold rdStop
      omega
theorem rdStop_ge (r : List Int) (p : Nat) : p + 8 ≤ rdStop r p := by unfold rdStop; omega
theorem numI_three (r : List Int) : numI r 3 = 65536 * r.getD 0 0 + 256 * r.getD 1 0 + r.getD 2 0 := by
  show 256 * (256 * (256 * 0 + r.getD 0 0) + r.getD 1 0) + r.getD 2 0 = _
  omega
/-- The box of a pass whose lights grow. -/
structure QBox (w : World) (b : Nat) (Op To A B K : Int) (v : Value) : Prop where
  lt : b < w.heap.size
  c0 : w.cell? ⟨b, 0, none⟩ = some (.int .i64 Op)
  c1 : w.cell? ⟨b, 1, none⟩ = some (.int .i64 To)
  c2 : w.cell? ⟨b, 2, none⟩ = some (.int .i64 A)
  c3 : w.cell? ⟨b, 3, none⟩ = some (.int .i64 B)
  c4 : w.cell? ⟨b, 4, none⟩ = some (.int .i64 K)
  c5 : w.cell? ⟨b, 5, none⟩ = some v
  fz : ∀ o, w.frozen? ⟨b, o, none⟩ = false
theorem QBox.grown {w w' : World} {b : Nat} {Op To A B K : Int} {v : Value} {row : Option Nat} (h : QBox w b Op To A B K v) (hg : w.grownBy w' row) (hne : some b ≠ row) : QBox w' b Op To A B K v :=
  ⟨Nat.lt_of_lt_of_le h.lt hg.size, (grown_cell hg h.lt hne 0).1.trans h.c0, (grown_cell hg h.lt hne 1).1.trans h.c1, (grown_cell hg h.lt hne 2).1.trans h.c2, (grown_cell hg h.lt hne 3).1.trans h.c3, (grown_cell hg h.lt hne 4).1.trans h.c4, (grown_cell hg h.lt hne 5).1.trans h.c5, fun o => (grown_cell hg h.lt hne o).2.trans (h.fz o)⟩
theorem QBox.put {w : World} {b : Nat} {Op To A B K : Int} {v : Value} (h : QBox w b Op To A B K v) (v' : Value) : QBox (w.setCell ⟨b, 5, none⟩ v') b Op To A B K v' :=
  ⟨by simpa using h.lt, (set_other _ (by simp)).trans h.c0, (set_other _ (by simp)).trans h.c1, (set_other _ (by simp)).trans h.c2, (set_other _ (by simp)).trans h.c3, (set_other _ (by simp)).trans h.c4, set_same h.c5, fun o => by simpa using h.fz o⟩
/-- Six values in a box that may be written. -/
structure WBox6 (w : World) (b : Nat) : Prop where
  lt : b < w.heap.size
  c : ∀ j, j < 6 → ∃ v, w.cell? ⟨b, j, none⟩ = some v
  fz : ∀ o, w.frozen? ⟨b, o, none⟩ = false
theorem WBox6.grown {w w' : World} {b : Nat} {row : Option Nat} (h : WBox6 w b) (hg : w.grownBy w' row) (hne : some b ≠ row) : WBox6 w' b :=
  ⟨Nat.lt_of_lt_of_le h.lt hg.size, fun j hj => by obtain ⟨v, hv⟩ := h.c j hj; exact ⟨v, hg.cell hv hne⟩, fun o => (World.frozen?_of_block (a := ⟨b, o, none⟩) (hg.block b h.lt hne)).trans (h.fz o)⟩
theorem WBox6.new (w : World) (v0 v1 v2 v3 v4 v5 : Value) (t : TypeId) : WBox6 (w.alloc (.cells #[v0, v1, v2, v3, v4, v5] t)) w.heap.size := ⟨by simp, fun j hj => by
    match j, hj with
    | 0, _ => exact ⟨_, by simp [go_sem]; rfl⟩
    | 1, _ => exact ⟨_, by simp [go_sem]; rfl⟩
    | 2, _ => exact ⟨_, by simp [go_sem]; rfl⟩
    | 3, _ => exact ⟨_, by simp [go_sem]; rfl⟩
    | 4, _ => exact ⟨_, by simp [go_sem]; rfl⟩
    | 5, _ => exact ⟨_, by simp [go_sem]; rfl⟩, fun o => frozen_new w _ _ o⟩
/-- Only the block b, and blocks from n on, changed. -/
theorem grown_set {w w' : World} {row : Option Nat} (h : w.grownBy w' row) {p : Addr} (hp : w.heap.size ≤ p.block) (v : Value) : w.grownBy (w'.setCell p v) row := by
  have B := (Below.refl w.heap.size w').setCell hp v
  exact ⟨B.os.trans h.os, B.tape.trans h.tape, B.output.trans h.output, Nat.le_trans h.size B.size, fun k hk hr => (B.block k hk).trans (h.block k hk hr)⟩
theorem grown_own {w w' w'' : World} {row own : Option Nat} (h : w.grownBy w' row) (hg : w'.grownBy w'' own) (ho : ∀ k, own = some k → w.heap.size ≤ k) : w.grownBy w'' row :=
  ⟨hg.os.trans h.os, hg.tape.trans h.tape, hg.output.trans h.output, Nat.le_trans h.size hg.size, fun k hk hr => (hg.block k (Nat.lt_of_lt_of_le hk h.size) (fun e => by have := ho k e.symm; omega)).trans (h.block k hk hr)⟩
/-- What the reader's pass is told by. -/
def ToldRP (w : World) (b : Nat) (r : List Int) (e : Ending) (w' : World) : Prop :=
  w.grownBy w' (some b) ∧ ((rdStop r 0 ≤ r.length ∧ (∃ la lc, e = .returned (.agg #[.int .i64 (rdPass r 0).Op, .int .i64 (rdPass r 0).To, .int .i64 (rdPass r 0).A, .int .i64 (rdPass r 0).B, .int .i64 (rdPass r 0).K, .slice la (rdPass r 0).ls.length lc]) ∧ OwnsL (w.heap.size + 1) w' (.slice la (rdPass r 0).ls.length lc) (rdPass r 0).ls) ∧ RdB w' b (r.drop (rdStop r 0))) ∨ (r.length < rdStop r 0 ∧ e = rdStopped))
/-- What the reader's frame is told by. -/
def ToldRF (w : World) (b : Nat) (r : List Int) (e : Ending) (w' : World) : Prop :=
  w.grownBy w' (some b) ∧ ((rdEnd r ≤ r.length ∧ (∃ a c L, e = .returned (.agg #[.int .i64 (rdFrame r).W, .int .i64 (rdFrame r).H, .int .i64 (rdFrame r).S, .int .i64 (rdFrame r).O, .slice a (rdFrame r).ps.length c]) ∧ RowP (w.heap.size + 1) w' (.slice a (rdFrame r).ps.length c) L ∧ L.map Prod.fst = (rdFrame r).ps) ∧ RdB w' b (r.drop (rdEnd r))) ∨ (r.length < rdEnd r ∧ e = rdStopped))
/-- Lights of the call's own, as a pass's: many. -/
theorem OwnsL.lights' {base : Nat} {w : World} {v : Value} {ls : List Lt} (h : OwnsL base w v ls) : ls = [] ∨ ∃ g cap, v = .slice (some ⟨g, 0, none⟩) ls.length cap ∧ base ≤ g ∧ g < w.heap.size ∧ ∀ j, j < ls.length → w.cell? ⟨g, 0 + j * 4, none⟩ = some (.int .i64 (ls.getD j Lt.zero).X) ∧ w.cell? ⟨g, 0 + j * 4 + 1, none⟩ = some (.int .i64 (ls.getD j Lt.zero).Y) ∧ w.cell? ⟨g, 0 + j * 4 + 2, none⟩ = some (.int .i64 (ls.getD j Lt.zero).R) ∧ w.cell? ⟨g, 0 + j * 4 + 3, none⟩ = some (.int .i64 (ls.getD j Lt.zero).P) := by
  obtain ⟨h1, h2⟩ := h
  rcases h2 with ⟨rfl, h0⟩ | ⟨g, cap, cur, rfl, hg, hh, hc, hm, hs, ht⟩
  · left; simpa using h0
  · right
    refine ⟨g, cap, rfl, hg, ?_, fun j hj => ?_⟩
    · rcases Nat.lt_or_ge g w.heap.size with h | h
      · exact h
      · rw [Array.getElem?_eq_none h] at hh; cases hh
    · obtain ⟨g0, g1, g2, g3⟩ := lcells_get ls j hj
      have this := fun i hi => World.ownsRow.cellAt (base := base) (e := 106) (size := 4) ⟨h1, .inr ⟨g, cap, cur, rfl, hg, hh, hc, hm, hs, ht⟩⟩ i hi
      refine ⟨?_, ?_, ?_, ?_⟩
      all_goals rw [Nat.zero_add, this _ (by omega)]
      · exact g0
      · exact g1
      · exact g2
      · exact g3
theorem Lx.of' {base B : Nat} {w : World} {v u : Value} {p : Ps} {la : Option Addr} {lc : Nat} (h : OwnsL B w u p.ls) (hu : u = .slice la p.ls.length lc) (h8 : p.ls.length ≤ 4096) (hB : base ≤ B) (hv : ∀ j, v.ownBlock = some j → j < B) : Lx base w v (p, la, lc) := by
  refine ⟨by dsimp only; omega, ?_⟩
  rcases h.lights' with h | ⟨g, cap, e, hg, hl, hc⟩
  · exact .inl h
  · rw [hu] at e
    injection e with e1 e2 e3
    subst e1
    exact .inr ⟨g, 0, rfl, Nat.le_trans hB hg, hl, fun e => by have := hv _ e; omega, hc⟩
theorem RowP.passes' {base : Nat} {w : World} {v : Value} {L : Lp} {ps : List Ps} (h : RowP base w v L) (he : L.map Prod.fst = ps) (hb : L.length ≤ 4096) : ∃ a cap, v = .slice a ps.length cap ∧ Passes w a ps.length ps := by
  have hrl : ps.length = L.length := by rw [← he]; simp
  obtain ⟨⟨h1, h2⟩, hx⟩ := h
  rcases h2 with ⟨rfl, h0⟩ | ⟨g, cap, cur, rfl, hg, hh, hc, hm, hs, ht⟩
  · have : L = [] := by simpa using h0
    subst this
    subst he
    exact ⟨none, 0, rfl, rfl, by simp, .inl rfl⟩
  · rw [← hrl]
    refine ⟨_, cap, rfl, rfl, by omega, .inr ⟨g, 0, rfl, ?_, fun j hj => ?_⟩⟩
    · rcases Nat.lt_or_ge g w.heap.size with h | h
      · exact h
      · rw [Array.getElem?_eq_none h] at hh; cases hh
    · have hl := pcells_len L
      rw [hrl] at hj
      obtain ⟨k0, k1, k2, k3, k4, k5⟩ := pcells_get L j hj
      have this := fun i hi => World.ownsRow.cellAt (base := base) (e := 72) (size := 6) ⟨h1, .inr ⟨g, cap, cur, rfl, hg, hh, hc, hm, hs, ht⟩⟩ i hi
      have hL := (hx _ (getD_mem hj lp0)).lights
      rw [mapP_getD he j]
      refine ⟨(L.getD j lp0).2.1, (L.getD j lp0).1.ls.length, (L.getD j lp0).2.2, ?_, ?_, ?_, ?_, ?_, ?_, hL⟩
      all_goals rw [Nat.zero_add, this _ (by omega)]
      · exact k0
      · exact k1
      · exact k2
      · exact k3
      · exact k4
      · exact k5
theorem Lx.grownO {base : Nat} {w w' : World} {v : Value} {x : Ps × Option Addr × Nat} {row : Option Nat} (h : Lx base w v x) (hg : w.grownBy w' row) (hr : ∀ k, row = some k → k < base) : Lx base w' v x := by
  obtain ⟨h0, h1⟩ := h
  refine ⟨h0, ?_⟩
  rcases h1 with h1 | ⟨b, off, ha, hB, hl, hv, hc⟩
  · exact .inl h1
  · have hk := fun o => (grown_cell hg hl (fun e => by have := hr b e.symm; omega) o).1
    refine .inr ⟨b, off, ha, hB, Nat.lt_of_lt_of_le hl hg.size, hv, fun j hj => ?_⟩
    obtain ⟨c0, c1, c2, c3⟩ := hc j hj
    exact ⟨(hk _).trans c0, (hk _).trans c1, (hk _).trans c2, (hk _).trans c3⟩
theorem RowP.grownO {base : Nat} {w w' : World} {v : Value} {L : Lp} {row : Option Nat} (h : RowP base w v L) (hg : w.grownBy w' row) (hr : ∀ k, row = some k → k < base) : RowP base w' v L :=
  ⟨World.ownsRow.kept h.1 hg (by
    cases hv : v.ownBlock with
    | none => exact .inl rfl
    | some j => exact .inr (fun e => by have h1 := (World.ownsRow.lt (w := w) h.1 j hv).1; have h2 := hr j e.symm; omega)), fun x hx => (h.2 x hx).grownO hg hr⟩
theorem OwnsL.grownO {base : Nat} {w w' : World} {v : Value} {ls : List Lt} {row : Option Nat} (h : OwnsL base w v ls) (hg : w.grownBy w' row) (hr : ∀ k, row = some k → k < base) : OwnsL base w' v ls :=
  World.ownsRow.kept h hg (by
    cases hv : v.ownBlock with
    | none => exact .inl rfl
    | some j => exact .inr (fun e => by have h1 := (World.ownsRow.lt (w := w) h j hv).1; have h2 := hr j e.symm; omega))
end Go.Proofs.YtaenpgdmiaekcaaGreatDoor
