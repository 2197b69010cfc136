/- Kept, Cull: joined, in this order. -/
import Derived.Test.YtfpkiimlaepnhaaM15
/-
  KEPT: need.Kept.
-/
namespace Go.Proofs.Ytfpkiimlaepnhaa
set_option maxRecDepth 100000
open Go.RowKit Im Go.Shelf
attribute [local go_sem] Oper.semAt_some

/-- What need.Kept tells. -/
def ToldKept (w : World) (f : Fr) (e : Ending) (w' : World) : Prop :=
  ((frameE f = 0 ∧ ∃ b, e = .returned (.tuple #[.slice (some ⟨b, 0, none⟩) f.ps.length f.ps.length, .int .i64 0]) ∧ w.heap.size ≤ b ∧ Bl w' b f.ps.length (keptG f.ps f.ps.length (shownP f) f.ps.length)) ∨
   (frameE f ≠ 0 ∧ e = .returned (.tuple #[.slice none 0 0, .int .i64 (frameE f)]))) ∧ Below w.heap.size w w'
set_option maxHeartbeats 1000000 in
theorem kept_err (W H S O : Int) (a : Option Addr) (len cap : Nat) (ps : List Ps) (w : World) (hp : Passes w a len ps) (hE : frameE ⟨W, H, S, O, ps⟩ ≠ 0) :
    Calls Try.prog 48 #[.agg #[.int .i64 W, .int .i64 H, .int .i64 S, .int .i64 O, .slice a len cap]] w (ToldKept w ⟨W, H, S, O, ps⟩) := by
  have hb0 := below_box (Below.refl w.heap.size w) (.cells #[.int .i64 W, .int .i64 H, .int .i64 S, .int .i64 O, .slice a len cap] 63)
  have hla := last_any W H S O a len cap ps _ (hp.below hb0)
  go_enter Try.func48, Try.ntmps48
  go_wp2_with fail
  refine hla.mono ?_
  clear hla
  rintro e w1 ⟨rfl, b1⟩
  rw [if_neg hE]
  go_wp2
  go_ret2
  exact ⟨.inr ⟨hE, rfl⟩, below_step hb0 b1⟩
/-- A make of a whole slice, inside a fence. -/
theorem listIn_make {F : Fence} {n : Nat} {P : Program} (w : World) {ops : Array Oper} {rest : List Oper} {o : Oper} {a : Act} {Q : Exit → Act → World → Prop}
    (hg : o.guard = none) (l c : Operand) (t : TypeId) (hop : o.op = Op.makeSlice t l c)
    (base : Nat) (e : TypeId) (i : TypeInfo) (z : Value) (size : Nat) (h1 : P.underlying t = some (.slice e)) (h2 : P.info? e = some i) (h3 : i.zero = some z) (h4 : i.size = size)
    (kl kc : IntKind) (m : Nat) (hl : a.eval l = .int kl (m : Int)) (hc : a.eval c = .int kc (m : Int)) (b2 : i.bytes * m ≤ 281474976710656) (b3 : m ≤ maxLen) (b4 : base ≤ w.heap.size)
    (hK : ∀ w', w'.ownsRow base e size (.slice (some ⟨w.heap.size, 0, none⟩) m m) m (madeCells z.cells (m * size)).toList → w.grownBy w' none → wpListIn F n P ops Q rest (a.put o.dst (.slice (some ⟨w.heap.size, 0, none⟩) m m)) w') :
    wpListIn F n P ops Q (o :: rest) a w := by
  obtain ⟨w', hrun, r1, r2⟩ := run_make_full (P := P) w base t e i z size h1 h2 h3 h4 kl kc m b2 b3 b4
  refine wpListIn_plain hg fun K hK' => ?_
  unfold Oper.wpIn
  refine ⟨by simp [Oper.about, hop], ?_⟩
  rw [Oper.semAt_plain F _ _ (by rw [hop]; intro c hc'; cases hc')]
  simp [execOp, hop, hl, hc, hrun, Result.andThen]
  exact hK' _ _ (hK w' r1 r2)
/-- The marks, when one pass more has been asked. -/
def stepX (ps : List Ps) {len : Nat} (g : Nat → Bool) (x : Pe len) (j : Nat) : Bool := if g x.1.1 = true then markG g (srcOf ps x.1.1) j else g j
theorem fold_bhs (ps : List Ps) (len : Nat) (hl : 0 < len) (pv : Nat → Pv) (N : Int) (k : Nat) : (bhs len hl pv k).foldl (stepX ps) (fun j => decide (N = (j : Int))) = keptG ps len N k := by
  induction k with
  | zero => rfl
  | succ k ih =>
    rw [bhs_succ, List.foldl_append, ih]
    rfl
theorem bl_own {X Y : World} {row : Option Nat} {b n : Nat} {g : Nat → Bool} (hn : 0 < n) (h : Bl X b n g) (hg : X.grownBy Y row) (hr : ∀ r, row = some r → ∃ o : Obj, X.heap[r]? = some o ∧ o.isCells = false) : Bl Y b n g := by
  obtain ⟨o, ho, hc⟩ := cells_of_cell (h.cells 0 hn)
  have e := grownBy_keeps_cells hg hr ho hc
  exact ⟨Nat.lt_of_lt_of_le h.lt hg.size, fun j hj => (World.cell?_of_block (a := ⟨b, j, none⟩) e).trans (h.cells j hj), fun o => (World.frozen?_of_block (a := ⟨b, o, none⟩) e).trans (h.froz o)⟩
theorem bl_alloc {X : World} {b n : Nat} {g : Nat → Bool} (h : Bl X b n g) (o : Obj) : Bl (X.alloc o) b n g := h.below ((Below.refl X.heap.size X).alloc (Nat.le_refl _) o) h.lt (by simp)
theorem boxed_set {W : World} {B : Nat} {t : TypeId} {v : Value} (h : Go.Boxed W B t v) {p : Addr} (hne : p.block ≠ B) (u : Value) : Go.Boxed (W.setCell p u) B t v := (Below.heap_setCell W p u B (fun e => hne (by rw [e]))).trans h
set_option maxHeartbeats 4000000 in
theorem kept_ok (W H S O : Int) (a : Option Addr) (len cap : Nat) (ps : List Ps) (w : World) (hp : Passes w a len ps) (hE : frameE ⟨W, H, S, O, ps⟩ = 0) :
    Calls Try.prog 48 #[.agg #[.int .i64 W, .int .i64 H, .int .i64 S, .int .i64 O, .slice a len cap]] w (ToldKept w ⟨W, H, S, O, ps⟩) := by
  obtain rfl := hp.leng
  obtain ⟨hbnd, hfirst, hsh⟩ := frameE_zero hE
  dsimp only at hfirst
  obtain ⟨_, _, _, _, hL⟩ := boundsE_zero hbnd
  dsimp only at hL
  obtain ⟨N, hN⟩ := Int.eq_ofNat_of_zero_le hsh
  have hNl : N < ps.length := by have := (wrt_bd ps ps.length O).2; have e : shownP ⟨W, H, S, O, ps⟩ = wrt ps ps.length O := rfl; omega
  obtain ⟨i0, hi, hz0, hz1, hz2⟩ := info_parts Try.infoBool
  have hb0 := below_box (Below.refl w.heap.size w) (.cells #[.int .i64 W, .int .i64 H, .int .i64 S, .int .i64 O, .slice a ps.length cap] 63)
  have hla := last_any W H S O a ps.length cap ps _ (hp.below hb0)
  have hso := fun wx hp => sources_any W H S O a ps.length cap ps wx hp
  unfold ToldLast at hla
  rw [hE, if_pos rfl, hN] at hla
  have hs2 : ∀ x ∈ srcs ps ps.length, x.length ≤ 2 := by
    intro x hx
    unfold srcs at hx
    rw [List.mem_map] at hx
    obtain ⟨n, _, rfl⟩ := hx
    unfold srcOf
    rw [List.length_map]
    exact takesP_len _
  have hin : ∀ n, n < ps.length → ∀ i ∈ srcOf ps n, 0 ≤ i ∧ i < n := fun n hn => by
    have hfk := firstE_down ⟨W, H, S, O, ps⟩ hfirst (k := n) (by omega)
    have hpE : passE ⟨W, H, S, O, ps⟩ n = 0 := (firstE_at ⟨W, H, S, O, ps⟩ hfk).symm.trans (firstE_down ⟨W, H, S, O, ps⟩ hfirst (k := n + 1) (by omega))
    exact src_bd (passE_zero hpE).2.1
  obtain ⟨b, off, pv, rfl, hbl, hpv, heq⟩ := hp.pv (by omega)
  have hB := FBox.new w W H S O (some ⟨b, off, none⟩) ps.length cap
  have HIN : Hid (_) := hin
  have hlenS := srcs_length ps ps.length
  clear hin
  refine (callsIn_wide (n := 4)).1 ?_
  refine callsIn_of_wp_marks Try.func48 rfl trivial ?_ rfl
  simp only [Try.ntmps48, List.size_toArray, List.length_cons, List.length_nil, Nat.reduceAdd, Nat.reduceSub, Array.replicate_succ, Array.replicate_zero, List.push_toArray, List.append_toArray, List.nil_append, List.cons_append]
  gi_wp2_with (first
    | (refine ⟨trivial, ?_⟩; gi_at_call 47; refine (callsIn_wide.2 hla).mono ?_; rintro e w1 ⟨rfl, b1⟩; have hB1 := hB.below b1; have hb1 := below_step hb0 b1; obtain ⟨_, g0, g1, g2, g3, g4⟩ := id hB1))
  refine ⟨trivial, ?_⟩
  refine (callsIn_wide.2 (hso _ ((hp.below hb0).below b1))).mono ?_
  rintro e w2 ⟨⟨v2, rfl, hS⟩, b2⟩
  rw [if_pos hE] at hS
  rw [hE]
  obtain ⟨sa, sc, rfl, hSs⟩ := hS.lls hs2
  dsimp only at hSs ⊢
  rw [hlenS] at hSs ⊢
  have b2A := below_step b2 ((Below.refl w2.heap.size w2).alloc (Nat.le_refl _) (.cells #[.slice sa ps.length sc] 67))
  have bS := Go.Boxed.new w2 67 (.slice sa ps.length sc)
  have hSA := hSs.below ((Below.refl w2.heap.size w2).alloc (Nat.le_refl _) (.cells #[.slice sa ps.length sc] 67))
  have hB2 := hB1.below b2A
  have hNi : (N : Int) < (ps.length : Int) := by omega
  have hN0 : (0 : Int) ≤ (N : Int) := by omega
  have hb2 := below_step hb1 b2A
  have hsA : (w2.alloc (.cells #[.slice sa ps.length sc] 67)).heap.size = w2.heap.size + 1 := by simp
  clear g0 g1 g2 g3 g4 hB1 hS hla hso hs2 hSs b1 b2 b2A hb0 hb1
  obtain ⟨_, g0, g1, g2, g3, g4⟩ := id hB2
  gi_wp2_with (first
    | (gi_at_make; refine listIn_make _ rfl _ _ 78 rfl (w2.heap.size + 1) 4 i0 (.bool false) 1 Try.underlying78 hi hz0 hz1 .i64 .i64 ps.length rfl rfl (by rw [hz2]; omega) (by unfold maxLen; omega) (by simp) ?_; intro wM hown hgrow; have hbM : Below (w2.heap.size + 1) (w2.alloc (.cells #[.slice sa ps.length sc] 67)) wM := (Below.refl _ _).grown hgrow (by simp) (fun k hk => by cases hk); rw [hsA] at hown; have hlM := (World.ownsRow.lt (w := wM) hown (w2.heap.size + 1) rfl).2; have hKM := Bl.made hown hlM; have hKN := hKM.below ((Below.refl wM.heap.size wM).alloc (Nat.le_refl _) (.cells #[.slice (some ⟨w2.heap.size + 1, 0, none⟩) ps.length ps.length] 78)) hlM (by simp); have k0 := hKN.cells N hNl; have kf := hKN.froz N; have hlw : w.heap.size < w2.heap.size + 1 := (by have := hB2.lt; omega); have gM := hbM.cell (p := ⟨w.heap.size, 4, none⟩) hlw; have gN : ((wM.setCell ⟨w2.heap.size + 1, N, none⟩ (.bool true)).alloc (.cells #[.slice (some ⟨w2.heap.size + 1, 0, none⟩) ps.length ps.length] 78)).cell? ⟨w.heap.size, 4, none⟩ = some (.slice (some ⟨b, off, none⟩) ps.length cap) := (World.cell?_alloc_lt _ _ _ (show w.heap.size < (wM.setCell ⟨w2.heap.size + 1, N, none⟩ (.bool true)).heap.size by simp [World.setCell]; omega)).trans ((set_other _ (fun e => by injection e with e1; omega)).trans (gM.trans g4)))
    | (refine ⟨trivial, ?_⟩; gi_at_call 92; refine (callsIn_wide.2 (fromBehind_any _ _ _ _)).mono ?_; rintro e w9 ⟨rfl, rfl⟩))
  have hpos : 0 < ps.length := by omega
  have hWS : (wM.setCell ⟨w2.heap.size + 1, N, none⟩ (.bool true)).heap.size = wM.heap.size := by simp [World.setCell]
  have hKS := hKM.put (g' := fun j => decide ((N : Int) = (j : Int))) N hNl (fun j hj => by
    by_cases h : N = j
    · subst h; simp
    · have h' : ¬ (N : Int) = (j : Int) := by omega
      simp [h, h'])
  have hK0 := bl_alloc (bl_alloc hKS (.cells #[.slice (some ⟨w2.heap.size + 1, 0, none⟩) ps.length ps.length] 78)) (.cells #[.slice (some ⟨b, off, none⟩) ps.length cap] 61)
  have bKB := (Go.Boxed.new (wM.setCell ⟨w2.heap.size + 1, N, none⟩ (.bool true)) 78 (.slice (some ⟨w2.heap.size + 1, 0, none⟩) ps.length ps.length)).alloc (.cells #[.slice (some ⟨b, off, none⟩) ps.length cap] 61)
  have bPB := Go.Boxed.new ((wM.setCell ⟨w2.heap.size + 1, N, none⟩ (.bool true)).alloc (.cells #[.slice (some ⟨w2.heap.size + 1, 0, none⟩) ps.length ps.length] 78)) 61 (.slice (some ⟨b, off, none⟩) ps.length cap)
  rw [World.size_alloc] at bPB
  rw [hWS] at bKB bPB
  have hbA : Below (w2.heap.size + 1) (w2.alloc (.cells #[.slice sa ps.length sc] 67)) (((wM.setCell ⟨w2.heap.size + 1, N, none⟩ (.bool true)).alloc (.cells #[.slice (some ⟨w2.heap.size + 1, 0, none⟩) ps.length ps.length] 78)).alloc (.cells #[.slice (some ⟨b, off, none⟩) ps.length cap] 61)) := ((hbM.setCell (p := ⟨w2.heap.size + 1, N, none⟩) (Nat.le_refl _) _).alloc (by rw [hWS]; omega) _).alloc (by simp [hWS]; omega) _
  have hbW : Below w.heap.size w (((wM.setCell ⟨w2.heap.size + 1, N, none⟩ (.bool true)).alloc (.cells #[.slice (some ⟨w2.heap.size + 1, 0, none⟩) ps.length ps.length] 78)).alloc (.cells #[.slice (some ⟨b, off, none⟩) ps.length cap] 61)) := hb2.trans (hbA.mono (by have := hb2.size; rw [hsA] at this; omega))
  have hlw2 : w.heap.size ≤ w2.heap.size + 1 := by omega
  have hsz0 : (((wM.setCell ⟨w2.heap.size + 1, N, none⟩ (.bool true)).alloc (.cells #[.slice (some ⟨w2.heap.size + 1, 0, none⟩) ps.length ps.length] 78)).alloc (.cells #[.slice (some ⟨b, off, none⟩) ps.length cap] 61)).heap.size = wM.heap.size + 2 := by simp [hWS]
  have hpv0 := hpv.below hbW hbl
  clear hKM hKN k0 kf gM gN g0 g1 g2 g3 g4 hB2 hKS hown hgrow
  generalize ((wM.setCell ⟨w2.heap.size + 1, N, none⟩ (.bool true)).alloc (.cells #[.slice (some ⟨w2.heap.size + 1, 0, none⟩) ps.length ps.length] 78)).alloc (.cells #[.slice (some ⟨b, off, none⟩) ps.length cap] 61) = W0 at *
  have hbb := @boxed_own Unit
  refine wpIn_rangeFunc_ownH rfl (by decide) (gf := 116) (lb := #[.pointer (some ⟨wM.heap.size + 1, 0, none⟩)]) rfl trivial (enters_of Try.func116 (by kernel_rfl) rfl)
    (behind_stops 3 (by decide) (wM.heap.size + 1) w.heap.size b off ps.length cap hpos hL.2 pv hbl W0 (by omega) hbW.size bPB.cell hpv0) KpB.t (KpB.b hbW.size (by omega)) (Below.refl _ _) (fun _ => rfl)
    (fun pre W' => (Bl W' (w2.heap.size + 1) ps.length (pre.foldl (stepX ps) (fun j => decide ((N : Int) = (j : Int)))) ∧ Go.Boxed W' wM.heap.size 78 (.slice (some ⟨w2.heap.size + 1, 0, none⟩) ps.length ps.length) ∧ Go.Boxed W' (wM.heap.size + 1) 61 (.slice (some ⟨b, off, none⟩) ps.length cap)) ∧ Below (w2.heap.size + 1) (w2.alloc (.cells #[.slice sa ps.length sc] 67)) W')
    (fun _ _ _ => False)
    (fun s A B row hs hg hr => ⟨⟨bl_own hpos hs.1.1 hg (fun r e => (hr r e).2), hbb _ _ (fun _ => _) () A B row hs.1.2.1 hg (fun r e => (hr r e).2), hbb _ _ (fun _ => _) () A B row hs.1.2.2 hg (fun r e => (hr r e).2)⟩, ownFrom_below (β := Unit) (w₀ := (w2.alloc (.cells #[.slice sa ps.length sc] 67))) (by simp) (by omega) () A B row hs.2 hg hr⟩)
    (fun _ _ _ _ _ hs _ _ => hs)
    ⟨⟨hK0, bKB, bPB⟩, hbA⟩
    (fun x a' _ => a' = { tmps := #[.agg #[.int .i64 W, .int .i64 H, .int .i64 S, .int .i64 O, .slice (some ⟨b, off, none⟩) ps.length cap], .pointer (some ⟨w.heap.size, 0, none⟩), .slice none 0 0, .int .i64 0, .int .i64 (N : Int), .int .i64 0, .pointer (some ⟨w2.heap.size, 0, none⟩), .pointer (some ⟨wM.heap.size, 0, none⟩), .int .i64 (x.1.1 : Int), undef, undef, .tuple #[.int .i64 (N : Int), .int .i64 0], .agg #[.int .i64 W, .int .i64 H, .int .i64 S, .int .i64 O, .slice (some ⟨b, off, none⟩) ps.length cap], .tuple #[.int .i64 (N : Int), .int .i64 0], .int .i64 (N : Int), .int .i64 0, .int .i64 0, .bool false, undef, .tuple #[.slice sa ps.length sc, .int .i64 0], .agg #[.int .i64 W, .int .i64 H, .int .i64 S, .int .i64 O, .slice (some ⟨b, off, none⟩) ps.length cap], .tuple #[.slice sa ps.length sc, .int .i64 0], .slice sa ps.length sc, .int .i64 0, .int .i64 0, .bool false, undef, .pointer (some ⟨w.heap.size, 4, none⟩), .slice (some ⟨b, off, none⟩) ps.length cap, .int .i64 (ps.length : Int), .slice (some ⟨w2.heap.size + 1, 0, none⟩) ps.length ps.length, .slice (some ⟨w2.heap.size + 1, 0, none⟩) ps.length ps.length, .int .i64 (N : Int), .pointer (some ⟨w2.heap.size + 1, N, none⟩), .pointer (some ⟨w.heap.size, 4, none⟩), .slice (some ⟨b, off, none⟩) ps.length cap, .func (.func 116) #[] #[.pointer (some ⟨wM.heap.size + 1, 0, none⟩)], .int .i64 (x.1.1 : Int), x.1.2.val, undef, undef, undef, undef, undef, undef, undef, undef, undef, undef, undef, undef, undef, undef, undef, undef, undef, undef, undef], defers := [] })
    (fun _ _ _ _ _ _ hs _ _ => hs)
    ?assign ?body ?done ?stop
  case assign =>
    rintro l pre x W' K hi hK
    gi_wp2
    exact hK _ _ (KeepsFrom.refl _ _) ⟨Below.refl _ _, rfl⟩ hi rfl
  case body =>
    rintro l pre x a' W' hl ⟨r, hr⟩ ⟨⟨hK1, hk1, hp1⟩, hB1⟩ rfl hlt
    have HST : Hid (∀ j, (pre ++ [x]).foldl (stepX ps) (fun j => decide ((N : Int) = (j : Int))) j = if pre.foldl (stepX ps) (fun j => decide ((N : Int) = (j : Int))) x.1.1 = true then markG (pre.foldl (stepX ps) (fun j => decide ((N : Int) = (j : Int)))) (srcOf ps x.1.1) j else pre.foldl (stepX ps) (fun j => decide ((N : Int) = (j : Int))) j) := fun j => by rw [List.foldl_append]; rfl
    obtain ⟨⟨m, pvx⟩, hm⟩ := x
    dsimp only at hm HST ⊢
    have hmI : (m : Int) < (ps.length : Int) := by omega
    have hm0 : (0 : Int) ≤ (m : Int) := by omega
    generalize pre.foldl (stepX ps) (fun j => decide ((N : Int) = (j : Int))) = g at hK1 HST
    have cK := hk1.cell
    have cS := (boxed_below bS hB1 (by omega)).cell
    have km := hK1.cells m hm
    obtain ⟨sb, so, ua, uc, rfl, hsb, qq, hUI⟩ := hSA.nth hm
    rw [hsA] at hsb
    rw [srcs_at _ hm] at qq hUI
    have hin := HIN.out m hm
    have hsl : (srcOf ps m).length ≤ 2 := by unfold srcOf; rw [List.length_map]; exact takesP_len _
    generalize srcOf ps m = sr at qq hUI hin HST hsl
    generalize hx : g m = xm at km HST
    cases xm with
    | false =>
      gi_wp2
      exact ⟨KeepsFrom.refl _ _, ⟨Below.refl _ _, rfl⟩, ⟨hK1.congr (fun j _ => by rw [HST.out j, if_neg (by decide)]), hk1, hp1⟩, hB1⟩
    | true =>
      have q0 := (hB1.cell (p := ⟨sb, so + m, none⟩) hsb).trans qq
      gi_wp2
      gi_loopw [49] (fun i wr => ∃ t : Nat, t ≤ sr.length ∧ i = .int .i64 t ∧ Bl wr (w2.heap.size + 1) ps.length (markG g (sr.take t)) ∧ Go.Boxed wr wM.heap.size 78 (.slice (some ⟨w2.heap.size + 1, 0, none⟩) ps.length ps.length) ∧ Go.Boxed wr (wM.heap.size + 1) 61 (.slice (some ⟨b, off, none⟩) ps.length cap) ∧ Below (w2.heap.size + 1) (w2.alloc (.cells #[.slice (some ⟨sb, so, none⟩) ps.length sc] 67)) wr ∧ Below w.heap.size W' wr ∧ KeepsFrom W0.heap.size W' wr) (fun i _ => sr.length - (intOf i).toNat)
      case atStart => exact ⟨0, Nat.zero_le _, rfl, by rw [List.take_zero, markG_nil]; exact hK1, hk1, hp1, hB1, Below.refl _ _, KeepsFrom.refl _ _⟩
      case round =>
        obtain ⟨t, ht, rfl, hKt, hkt, hpt, hBt, hWt, hFt⟩ := hrel
        have cKt := hkt.cell
        by_cases htl : t < sr.length
        · obtain ⟨bu, ou, rfl, hcx⟩ := (hUI.below (by rw [hsA]; exact Nat.le_refl _) hBt).nth htl
          have hrr := hin _ (getD_mem htl 0)
          have HS : Hid (∀ j : Nat, markG g (sr.take (t + 1)) j = if sr.getD t 0 = (j : Int) then true else markG g (sr.take t) j) := fun j => markG_take g sr t htl j
          generalize sr.getD t 0 = n at hcx hrr HS
          obtain ⟨q, rfl⟩ := Int.eq_ofNat_of_zero_le hrr.1
          have hql : q < ps.length := by omega
          have hqI : (q : Int) < (ps.length : Int) := by omega
          have kq := hKt.cells q hql
          have kf := hKt.froz q
          have hK9 := hKt.put (g' := markG g (sr.take (t + 1))) q hql (fun j hj => by
            rw [HS.out j]
            by_cases h : q = j
            · subst h; simp
            · have h' : ¬ (q : Int) = (j : Int) := by omega
              rw [if_neg h, if_neg h'])
          have hB9 := hBt.setCell (p := ⟨w2.heap.size + 1, q, none⟩) (Nat.le_refl _) (.bool true)
          have hW9 := hWt.setCell (p := ⟨w2.heap.size + 1, q, none⟩) hlw2 (.bool true)
          have hk9 := boxed_set hkt (p := ⟨w2.heap.size + 1, q, none⟩) (show w2.heap.size + 1 ≠ wM.heap.size by omega) (.bool true)
          have hp9 := boxed_set hpt (p := ⟨w2.heap.size + 1, q, none⟩) (show w2.heap.size + 1 ≠ wM.heap.size + 1 by omega) (.bool true)
          have hF9 := hFt.trans ((KeepsOthers.setCell wr ⟨w2.heap.size + 1, q, none⟩ (.bool true)).from W0.heap.size)
          have HK9 : Hid (_) := hK9
          clear hK9 hK1 hx hk1 hp1
          gi_wp2
          go_roundw
          case rel => exact ⟨t + 1, by omega, by go_num, HK9.out, hk9, hp9, hB9, hW9, hF9⟩
          case measure => simp [intOf]; omega
        · have hte : t = sr.length := by omega
          subst hte
          rw [List.take_length] at hKt
          clear hx
          gi_wp2
          exact ⟨hFt, ⟨hWt, hpt.cell.trans hp1.cell.symm⟩, ⟨hKt.congr (fun j _ => by rw [HST.out j, if_pos (by trivial)]), hkt, hpt⟩, hBt⟩
  case done =>
    rintro D ys W' hD rfl ⟨⟨hK1, hk1, hp1⟩, hB1⟩ hK
    have cK := hk1.cell
    gi_wp2
    refine ⟨by simp, .inl ⟨_, _, rfl, run_takeDeferred hK, ?_⟩⟩
    rw [fold_bhs] at hK1
    have hK2 := bl_own hpos hK1 (grownBy_putObj' _ D (.deferred none)) (fun r e => by cases e; exact ⟨_, hK, rfl⟩)
    refine ⟨.tuple #[(.slice (some ⟨w2.heap.size + 1, 0, none⟩) ps.length ps.length), .int .i64 0], ?_, ⟨.inl ⟨hE, w2.heap.size + 1, rfl, hlw2, by dsimp only; rw [hN]; exact hK2⟩, (hb2.trans (hB1.mono (by have := hb2.size; rw [hsA] at this; omega))).trans (belowK_b (w := w) (Nat.le_refl _) W' D _ _ (by have := hbW.size; omega) hK rfl rfl)⟩⟩
    simp [results, Try.results48, go_sem]
  case stop =>
    rintro D c pre W' _ _ h _
    exact h.elim
/-- need.Kept. -/
theorem kept_any (W H S O : Int) (a : Option Addr) (len cap : Nat) (ps : List Ps) (w : World) (hp : Passes w a len ps) :
    Calls Try.prog 48 #[.agg #[.int .i64 W, .int .i64 H, .int .i64 S, .int .i64 O, .slice a len cap]] w (ToldKept w ⟨W, H, S, O, ps⟩) := by
  by_cases hE : frameE ⟨W, H, S, O, ps⟩ = 0
  · exact kept_ok W H S O a len cap ps w hp hE
  · exact kept_err W H S O a len cap ps w hp hE
end Go.Proofs.Ytfpkiimlaepnhaa
/-
  CULL: need.Cull.
-/
namespace Go.Proofs.Ytfpkiimlaepnhaa
set_option maxRecDepth 100000
open Go.RowKit Im

/-- The passes that are marked, of the first k. -/
def cullP (ps : List Ps) (g : Nat → Bool) : Nat → List Ps
  | 0 => []
  | k + 1 => cullP ps g k ++ (if g k = true then [ps.getD k Ps.zero] else [])
theorem cullP_le (ps : List Ps) (g : Nat → Bool) (k : Nat) : (cullP ps g k).length ≤ k := by
  induction k with
  | zero => simp [cullP]
  | succ k ih =>
    show (cullP ps g k ++ (if g k = true then [ps.getD k Ps.zero] else [])).length ≤ k + 1
    split <;> simp <;> omega
/-- The passes of a frame that are needed. -/
def culled (f : Fr) : List Ps := cullP f.ps (keptG f.ps f.ps.length (shownP f) f.ps.length) f.ps.length
/-- What need.Cull tells. -/
def ToldCull (w : World) (f : Fr) (e : Ending) (w' : World) : Prop :=
  ((frameE f = 0 ∧ ∃ a cap, e = .returned (.tuple #[.agg #[.int .i64 f.W, .int .i64 f.H, .int .i64 f.S, .int .i64 f.O, .slice a (culled f).length cap], .int .i64 0]) ∧ Passes w' a (culled f).length (culled f)) ∨
   (frameE f ≠ 0 ∧ e = .returned (.tuple #[.agg #[.int .i64 0, .int .i64 0, .int .i64 0, .int .i64 0, .slice none 0 0], .int .i64 (frameE f)]))) ∧ Below w.heap.size w w'
/-- A frame that is nothing, in a block of its own, that may be written. -/
structure ZBox (w : World) (b : Nat) : Prop where
  lt : b < w.heap.size
  c0 : w.cell? ⟨b, 0, none⟩ = some (.int .i64 0)
  c1 : w.cell? ⟨b, 1, none⟩ = some (.int .i64 0)
  c2 : w.cell? ⟨b, 2, none⟩ = some (.int .i64 0)
  c3 : w.cell? ⟨b, 3, none⟩ = some (.int .i64 0)
  c4 : w.cell? ⟨b, 4, none⟩ = some (.slice none 0 0)
  fz : ∀ o, w.frozen? ⟨b, o, none⟩ = false
theorem frozen_new (w : World) (cs : Array Value) (t : TypeId) (o : Nat) : (w.alloc (.cells cs t)).frozen? ⟨w.heap.size, o, none⟩ = false := by
  have k0 : (w.alloc (.cells cs t)).heap[w.heap.size]? = some (.cells cs t (0, 0)) := (MapKept.heap_alloc w _).1
  unfold World.frozen?
  rw [k0]; simp
theorem ZBox.new (w : World) : ZBox (w.alloc (.cells #[.int .i64 0, .int .i64 0, .int .i64 0, .int .i64 0, .slice none 0 0] 63)) w.heap.size :=
  ⟨by simp, by simp [go_sem], by simp [go_sem], by simp [go_sem], by simp [go_sem], by simp [go_sem], fun o => frozen_new w _ _ o⟩
theorem ZBox.below {w w' : World} {b B : Nat} (h : ZBox w b) (hb : Below B w w') (hB : b < B) (hs : w.heap.size ≤ w'.heap.size) : ZBox w' b :=
  ⟨Nat.lt_of_lt_of_le h.lt hs, (hb.cell (p := ⟨b, 0, none⟩) hB).trans h.c0, (hb.cell (p := ⟨b, 1, none⟩) hB).trans h.c1, (hb.cell (p := ⟨b, 2, none⟩) hB).trans h.c2, (hb.cell (p := ⟨b, 3, none⟩) hB).trans h.c3, (hb.cell (p := ⟨b, 4, none⟩) hB).trans h.c4, fun o => (hb.frozen (p := ⟨b, o, none⟩) hB).trans (h.fz o)⟩
set_option maxHeartbeats 1000000 in
theorem cull_err (W H S O : Int) (a : Option Addr) (len cap : Nat) (ps : List Ps) (w : World) (hp : Passes w a len ps) (hE : frameE ⟨W, H, S, O, ps⟩ ≠ 0) :
    Calls Try.prog 49 #[.agg #[.int .i64 W, .int .i64 H, .int .i64 S, .int .i64 O, .slice a len cap]] w (ToldCull w ⟨W, H, S, O, ps⟩) := by
  have hb0 := below_box (below_box (Below.refl w.heap.size w) (.cells #[.int .i64 W, .int .i64 H, .int .i64 S, .int .i64 O, .slice a len cap] 63)) (.cells #[.int .i64 0, .int .i64 0, .int .i64 0, .int .i64 0, .slice none 0 0] 63)
  have hz := ZBox.new (w.alloc (.cells #[.int .i64 W, .int .i64 H, .int .i64 S, .int .i64 O, .slice a len cap] 63))
  rw [World.size_alloc] at hz
  have hke := kept_any W H S O a len cap ps _ (hp.below hb0)
  go_enter Try.func49, Try.ntmps49
  go_wp2_with fail
  refine hke.mono ?_
  clear hke
  rintro e w1 ⟨⟨h0, _⟩ | ⟨_, rfl⟩, b1⟩
  · exact absurd h0 hE
  · obtain ⟨_, c0, c1, c2, c3, c4, fz⟩ := hz.below b1 hz.lt b1.size
    have f0 := fz 0
    have f1 := fz 1
    have f2 := fz 2
    have f3 := fz 3
    have f4 := fz 4
    have hb1 := below_step hb0 b1
    clear fz hz hb0 b1
    go_wp2
    refine bodyPost_ret (v := .tuple #[.agg #[.int .i64 0, .int .i64 0, .int .i64 0, .int .i64 0, .slice none 0 0], .int .i64 (frameE ⟨W, H, S, O, ps⟩)]) (by simp [results, Try.results49, go_sem, c0, c1, c2, c3, c4]) rfl ?_
    exact ⟨.inr ⟨hE, rfl⟩, ((((hb1.setCell (by simp) _).setCell (by simp) _).setCell (by simp) _).setCell (by simp) _).setCell (by simp) _⟩
theorem lights_cells {w : World} {b off : Nat} {ls : List Lt} (h : ∀ j, j < ls.length → w.cell? ⟨b, off + j * 4, none⟩ = some (.int .i64 (ls.getD j Lt.zero).X) ∧ w.cell? ⟨b, off + j * 4 + 1, none⟩ = some (.int .i64 (ls.getD j Lt.zero).Y) ∧ w.cell? ⟨b, off + j * 4 + 2, none⟩ = some (.int .i64 (ls.getD j Lt.zero).R) ∧ w.cell? ⟨b, off + j * 4 + 3, none⟩ = some (.int .i64 (ls.getD j Lt.zero).P)) :
    ∀ (j : Nat) (u : Value), (lcells ls)[j]? = some u → w.cell? ((⟨b, off, none⟩ : Addr).add j) = some u := by
  intro j u hu
  have hl := lcells_len ls
  have hj : j < (lcells ls).length := by
    rcases Nat.lt_or_ge j (lcells ls).length with h' | h'
    · exact h'
    · rw [List.getElem?_eq_none h'] at hu; cases hu
  have hq : j / 4 < ls.length := by omega
  obtain ⟨c0, c1, c2, c3⟩ := h (j / 4) hq
  obtain ⟨g0, g1, g2, g3⟩ := lcells_get ls (j / 4) hq
  have ea : (⟨b, off, none⟩ : Addr).add j = ⟨b, off + j, none⟩ := by simp [Addr.add]
  rw [ea]
  clear ea
  have : j % 4 = 0 ∨ j % 4 = 1 ∨ j % 4 = 2 ∨ j % 4 = 3 := by omega
  rcases this with e | e | e | e
  · rw [show j = j / 4 * 4 by omega] at hu ⊢; rw [g0] at hu; rw [← hu]; exact c0
  · rw [show j = j / 4 * 4 + 1 by omega] at hu ⊢; rw [g1] at hu; rw [← hu, ← Nat.add_assoc]; exact c1
  · rw [show j = j / 4 * 4 + 2 by omega] at hu ⊢; rw [g2] at hu; rw [← hu, ← Nat.add_assoc]; exact c2
  · rw [show j = j / 4 * 4 + 3 by omega] at hu ⊢; rw [g3] at hu; rw [← hu, ← Nat.add_assoc]; exact c3
theorem lcells_one (ls : List Lt) : ∀ u ∈ lcells ls, u.oneCell' = true := by
  induction ls with
  | nil => intro u hu; cases hu
  | cons l ls ih =>
    intro u hu
    simp only [lcells, List.mem_cons] at hu
    rcases hu with rfl | rfl | rfl | rfl | hu
    · rfl
    · rfl
    · rfl
    · rfl
    · exact ih u hu
theorem few_lights {f : Fr} {k : Nat} (hE : frameE f = 0) (hk : k < f.ps.length) : (f.ps.getD k Ps.zero).ls.length ≤ 8 := by
  obtain ⟨_, hfirst, _⟩ := frameE_zero hE
  have hfk := firstE_down f hfirst (k := k) (by omega)
  have hpE : passE f k = 0 := (firstE_at f hfk).symm.trans (firstE_down f hfirst (k := k + 1) (by omega))
  obtain ⟨o1, _⟩ := passE_zero hpE
  obtain ⟨_, _, _, hl, hbare, _⟩ := ownE_zero o1
  generalize f.ps.getD k Ps.zero = p at *
  by_cases h : hasL p.Op = true
  · exact (lightsErr_zero (hl h)).1
  · unfold bareB at hbare
    rw [eq_false_of_ne_true h] at hbare
    simp only [Bool.and_eq_true, Bool.false_or, decide_eq_true_eq] at hbare
    omega
/-- The box of a frame whose passes grow. -/
structure GBox (w : World) (b : Nat) (W H S O : Int) (v : Value) : Prop where
  lt : b < w.heap.size
  c0 : w.cell? ⟨b, 0, none⟩ = some (.int .i64 W)
  c1 : w.cell? ⟨b, 1, none⟩ = some (.int .i64 H)
  c2 : w.cell? ⟨b, 2, none⟩ = some (.int .i64 S)
  c3 : w.cell? ⟨b, 3, none⟩ = some (.int .i64 O)
  c4 : w.cell? ⟨b, 4, none⟩ = some v
  fz : ∀ o, w.frozen? ⟨b, o, none⟩ = false
theorem GBox.below {w w' : World} {b B : Nat} {W H S O : Int} {v : Value} (h : GBox w b W H S O v) (hb : Below B w w') (hB : b < B) (hs : w.heap.size ≤ w'.heap.size) : GBox w' b W H S O v :=
  ⟨Nat.lt_of_lt_of_le h.lt hs, (hb.cell (p := ⟨b, 0, none⟩) hB).trans h.c0, (hb.cell (p := ⟨b, 1, none⟩) hB).trans h.c1, (hb.cell (p := ⟨b, 2, none⟩) hB).trans h.c2, (hb.cell (p := ⟨b, 3, none⟩) hB).trans h.c3, (hb.cell (p := ⟨b, 4, none⟩) hB).trans h.c4, fun o => (hb.frozen (p := ⟨b, o, none⟩) hB).trans (h.fz o)⟩
theorem GBox.grown {w w' : World} {b : Nat} {W H S O : Int} {v : Value} {row : Option Nat} (h : GBox w b W H S O v) (hg : w.grownBy w' row) (hne : some b ≠ row) : GBox w' b W H S O v :=
  ⟨Nat.lt_of_lt_of_le h.lt hg.size, (grown_cell hg h.lt hne 0).1.trans h.c0, (grown_cell hg h.lt hne 1).1.trans h.c1, (grown_cell hg h.lt hne 2).1.trans h.c2, (grown_cell hg h.lt hne 3).1.trans h.c3, (grown_cell hg h.lt hne 4).1.trans h.c4, fun o => (grown_cell hg h.lt hne o).2.trans (h.fz o)⟩
theorem GBox.set {w : World} {b : Nat} {W H S O : Int} {v : Value} (h : GBox w b W H S O v) {p : Addr} (hp : p.block ≠ b) (u : Value) : GBox (w.setCell p u) b W H S O v := by
  have hn : ∀ o, p ≠ (⟨b, o, none⟩ : Addr) := fun o e => hp (by rw [e])
  exact ⟨by simpa using h.lt, (set_other _ (hn 0)).trans h.c0, (set_other _ (hn 1)).trans h.c1, (set_other _ (hn 2)).trans h.c2, (set_other _ (hn 3)).trans h.c3, (set_other _ (hn 4)).trans h.c4, fun o => by simpa using h.fz o⟩
theorem GBox.put {w : World} {b : Nat} {W H S O : Int} {v : Value} (h : GBox w b W H S O v) (v' : Value) : GBox (w.setCell ⟨b, 4, none⟩ v') b W H S O v' :=
  ⟨by simpa using h.lt, (set_other _ (by simp)).trans h.c0, (set_other _ (by simp)).trans h.c1, (set_other _ (by simp)).trans h.c2, (set_other _ (by simp)).trans h.c3, set_same h.c4, fun o => by simpa using h.fz o⟩
theorem GBox.new (w : World) (W H S O : Int) (v : Value) : GBox (w.alloc (.cells #[.int .i64 W, .int .i64 H, .int .i64 S, .int .i64 O, v] 63)) w.heap.size W H S O v :=
  ⟨by simp, by simp [go_sem], by simp [go_sem], by simp [go_sem], by simp [go_sem], by simp [go_sem], fun o => frozen_new w _ _ o⟩
set_option maxHeartbeats 4000000 in
theorem cull_ok (W H S O : Int) (a : Option Addr) (len cap : Nat) (ps : List Ps) (w : World) (hp : Passes w a len ps) (hE : frameE ⟨W, H, S, O, ps⟩ = 0) :
    Calls Try.prog 49 #[.agg #[.int .i64 W, .int .i64 H, .int .i64 S, .int .i64 O, .slice a len cap]] w (ToldCull w ⟨W, H, S, O, ps⟩) := by
  obtain rfl := hp.leng
  obtain ⟨hbnd, _, _⟩ := frameE_zero hE
  obtain ⟨_, _, _, _, hL⟩ := boundsE_zero hbnd
  dsimp only at hL
  obtain ⟨i0, hi, hz0, hz1, hz2⟩ := info_parts Try.infoPass
  obtain ⟨l0, li, lz0, lz1, lz2⟩ := info_parts Try.infoLight
  have hb0 := below_box (below_box (Below.refl w.heap.size w) (.cells #[.int .i64 W, .int .i64 H, .int .i64 S, .int .i64 O, .slice a ps.length cap] 63)) (.cells #[.int .i64 0, .int .i64 0, .int .i64 0, .int .i64 0, .slice none 0 0] 63)
  have hzz := ZBox.new (w.alloc (.cells #[.int .i64 W, .int .i64 H, .int .i64 S, .int .i64 O, .slice a ps.length cap] 63))
  rw [World.size_alloc] at hzz
  have hB := (FBox.new w W H S O a ps.length cap).alloc (.cells #[.int .i64 0, .int .i64 0, .int .i64 0, .int .i64 0, .slice none 0 0] 63)
  have hke := kept_any W H S O a ps.length cap ps _ (hp.below hb0)
  have hfew : ∀ k, k < ps.length → (ps.getD k Ps.zero).ls.length ≤ 8 := fun k hk => few_lights (f := ⟨W, H, S, O, ps⟩) hE hk
  have HFEW : Hid (_) := hfew
  clear hfew hbnd
  go_enter Try.func49, Try.ntmps49
  go_wp2_with fail
  refine hke.mono ?_
  clear hke
  rintro e w1 ⟨⟨_, bK, rfl, hbK, hK1⟩ | ⟨h0, _⟩, b1⟩
  · dsimp only at hK1 ⊢
    have HCD : Hid (culled ⟨W, H, S, O, ps⟩ = cullP ps (keptG ps ps.length (shownP ⟨W, H, S, O, ps⟩) ps.length) ps.length) := rfl
    generalize keptG ps ps.length (shownP ⟨W, H, S, O, ps⟩) ps.length = g at hK1 HCD
    have hzz1 := hzz.below b1 hzz.lt b1.size
    have hB1 := hB.below b1
    have hb1 := below_step hb0 b1
    have hp1 := hp.below hb1
    have hbKl := hK1.lt
    have hG0 := GBox.new w1 W H S O (.slice none 0 0)
    have hbA : Below w1.heap.size w1 (w1.alloc (.cells #[.int .i64 W, .int .i64 H, .int .i64 S, .int .i64 O, .slice none 0 0] 63)) := (Below.refl _ _).alloc (Nat.le_refl _) _
    clear hzz hB hb0 b1 hp
    obtain ⟨_, g0, g1, g2, g3, g4⟩ := id hB1
    go_wp2_with fail
    generalize w1.alloc (.cells #[.int .i64 W, .int .i64 H, .int .i64 S, .int .i64 O, .slice none 0 0] 63) = w2 at *
    obtain ⟨B6, hB6⟩ : ∃ B6, B6 = w1.heap.size := ⟨_, rfl⟩
    rw [← hB6] at hG0 hbA ⊢
    have HB6 : Hid (B6 = w1.heap.size) := hB6
    clear hB6
    go_loopw [30] (fun i wr => ∃ (k : Nat) (v : Value) (L : Lp), k ≤ ps.length ∧ i = .int .i64 k ∧ RowP (B6 + 1) wr v L ∧ L.map Prod.fst = cullP ps g k ∧ GBox wr B6 W H S O v ∧ Below B6 w1 wr) (fun i _ => ps.length - (intOf i).toNat)
    case atStart => exact ⟨0, _, [], Nat.zero_le _, rfl, RowP.nil _ _, rfl, hG0, hbA⟩
    case round =>
      obtain ⟨k, v, L, hk, rfl, hRr, hmap, hGr, hbr⟩ := hrel
      clear g0 g1 g2 g3 g4
      have hbr' : Below w1.heap.size w1 wr := by rw [← HB6.out]; exact hbr
      have hlL : L.length ≤ k := by have h1 := congrArg List.length hmap; have h2 := cullP_le ps g k; simp at h1; omega
      by_cases hlt : k < ps.length
      · obtain ⟨b, off, la, ll, lc, rfl, p0, p1, p2, p3, p4, p5, hLi⟩ := (hp1.below hbr').nth hlt
        have hll := hLi.leng
        have hl8 := HFEW.out k hlt
        have HCU : Hid (cullP ps g (k + 1) = cullP ps g k ++ (if g k = true then [ps.getD k Ps.zero] else [])) := rfl
        have kk := (hbr'.cell (p := ⟨bK, k, none⟩) hbKl).trans (hK1.cells k hlt)
        generalize ps.getD k Ps.zero = p at p0 p1 p2 p3 p4 p5 hLi HCU hll hl8
        obtain ⟨Op, To, A, B, K, ls⟩ := p
        dsimp only at p0 p1 p2 p3 p4 p5 hLi hll hl8
        subst hll
        have HLL : Hid (L.length ≤ 12) := by show _ ≤ _; omega
        have hbP := (Below.refl wr.heap.size wr).alloc (Nat.le_refl _) (.cells #[.int .i64 Op, .int .i64 To, .int .i64 A, .int .i64 B, .int .i64 K, .slice la ls.length lc] 88)
        obtain ⟨va, vc, rfl⟩ := owns_slice hRr.1
        have kP := (hbP.cell (p := ⟨bK, k, none⟩) (Nat.lt_of_lt_of_le hbKl hbr.size)).trans kk
        generalize g k = gk at kk kP HCU
        cases gk with
        | false =>
          have hR1 := hRr.below hbP
          have hG1 := hGr.below hbP hGr.lt hbP.size
          have hb9 : Below B6 w1 _ := hbr.trans (hbP.mono (by have := hbr.size; have := HB6.out; omega))
          have HX : Hid (_) := hR1
          have HM : Hid (_) := hmap
          clear hR1 hmap hRr
          go_wp2
          go_roundw
          case rel => exact ⟨k + 1, _, L, by omega, by go_num, HX.out, by rw [HCU.out, if_neg (by decide), List.append_nil]; exact HM.out, hG1, hb9⟩
          case measure => simp [intOf]; omega
        | true =>
          have hPP := PBox.new wr Op To A B K la ls.length lc
          by_cases hls : ls = []
          · subst hls
            simp only [List.length_nil] at p5 kP hbP hPP
            obtain ⟨_, r0, r1, r2, r3, r4, r5⟩ := id hPP
            have fP := frozen_new wr #[.int .i64 Op, .int .i64 To, .int .i64 A, .int .i64 B, .int .i64 K, .slice la 0 lc] 88 5
            go_upto_region 10 with (at_builtin; refine list_append_nothing rfl _ _ 45 rfl 59 l0 Try.underlying45 li none 0 0 (Nat.le_refl _) rfl la lc rfl ?_)
            have hPQ := PBox.new wr Op To A B K none 0 0
            have hbX := (Below.refl wr.heap.size wr).alloc (Nat.le_refl _) (.cells #[.int .i64 Op, .int .i64 To, .int .i64 A, .int .i64 B, .int .i64 K, .slice none 0 0] 88)
            have hRQ := hRr.below hbX
            have hGQ := hGr.below hbX hGr.lt hbX.size
            have hbQ : Below B6 w1 _ := hbr.trans (hbX.mono (by have := hbr.size; have := HB6.out; omega))
            have hXQ : Lx (B6 + 1) (wr.alloc (.cells #[.int .i64 Op, .int .i64 To, .int .i64 A, .int .i64 B, .int .i64 K, .slice none 0 0] 88)) (.slice va L.length vc) (⟨Op, To, A, B, K, []⟩, none, 0) := ⟨by simp, .inl rfl⟩
            clear r0 r1 r2 r3 r4 r5 fP hPP hbX hbP hRr hGr kP
            generalize wr.alloc (.cells #[.int .i64 Op, .int .i64 To, .int .i64 A, .int .i64 B, .int .i64 K, .slice none 0 0] 88) = wQ at *
            obtain ⟨_, p0, p1, p2, p3, p4, p5⟩ := id hPQ
            have d4 := hGQ.c4
            have dz := hGQ.fz 4
            have hsQ : B6 + 1 ≤ wQ.heap.size := hGQ.lt
            have hRA := hRQ.below ((Below.refl wQ.heap.size wQ).alloc (Nat.le_refl _) (.cells #[.int .i64 Op, .int .i64 To, .int .i64 A, .int .i64 B, .int .i64 K, .slice none 0 0] 88))
            have hXA := hXQ.below ((Below.refl wQ.heap.size wQ).alloc (Nat.le_refl _) (.cells #[.int .i64 Op, .int .i64 To, .int .i64 A, .int .i64 B, .int .i64 K, .slice none 0 0] 88))
            have hGA := hGQ.below ((Below.refl wQ.heap.size wQ).alloc (Nat.le_refl _) (.cells #[.int .i64 Op, .int .i64 To, .int .i64 A, .int .i64 B, .int .i64 K, .slice none 0 0] 88)) hGQ.lt (by simp)
            have HRL : Hid (_) := hRQ.lt
            have HMAP : Hid (_) := hmap
            clear hmap hRQ hXQ hGQ hPQ
            go_upto_region 11 with (at_builtin; refine wpList_append_own_at _ rfl _ _ 61 rfl (B6 + 1) 88 i0 _ 6 64 Try.underlying61 hi hz0 hz1 hz2 rfl (by decide) (.slice va L.length vc) L.length (pcells L) rfl hRA.1 ⟨wQ.heap.size, 0, none⟩ 1 1 [.int .i64 Op, .int .i64 To, .int .i64 A, .int .i64 B, .int .i64 K, .slice none 0 0] rfl rfl (cell_six_new _ _ _ _ _ _ _ _) (by intro u hu; simp at hu; rcases hu with rfl | rfl | rfl | rfl | rfl | rfl <;> rfl) (by have := HLL.out; unfold maxLen; omega) (by have := HLL.out; omega) (by simp; omega) ?_; intro v' w9 hown9 hgrow9 _ hloc9; have hR9 := hRA.push (x := (⟨Op, To, A, B, K, []⟩, none, 0)) hXA hown9 hgrow9 hloc9; have hG9 := hGA.grown hgrow9 (fun e => by have := (HRL.out _ e.symm).1; omega); obtain ⟨a9, cap9, hv9⟩ := owns_slice hown9; subst hv9; have e4 := hG9.c4; have ez := hG9.fz 4)
            have hGZ := hG9.put (.slice a9 (L.length + 1) cap9)
            have hRZ := hR9.setBelow (p := ⟨B6, 4, none⟩) (show B6 < B6 + 1 by omega) (.slice a9 (L.length + 1) cap9)
            have hbZ : Below B6 w1 (w9.setCell ⟨B6, 4, none⟩ (.slice a9 (L.length + 1) cap9)) := (((hbQ.alloc (Nat.le_of_succ_le hsQ) (.cells #[.int .i64 Op, .int .i64 To, .int .i64 A, .int .i64 B, .int .i64 K, .slice none 0 0] 88)).grown hgrow9 (by simp; omega) (fun j hj => by have := (HRL.out j hj).1; omega))).setCell (p := ⟨B6, 4, none⟩) (Nat.le_refl _) _
            clear p0 p1 p2 p3 p4 p5 d4 dz e4 ez hR9 hG9 hRA hXA hGA hown9 hgrow9
            go_wp2
            go_roundw
            case rel => exact ⟨k + 1, _, _, by omega, by go_num, hRZ, by rw [HCU.out, if_pos (by trivial), List.map_append, HMAP.out]; rfl, hGZ, hbZ⟩
            case measure => simp [intOf]; omega
          · obtain ⟨lb, lo, rfl, hlb, hlc⟩ : ∃ lb lo, la = some ⟨lb, lo, none⟩ ∧ lb < wr.heap.size ∧ ∀ j, j < ls.length → wr.cell? ⟨lb, lo + j * 4, none⟩ = some (.int .i64 (ls.getD j Lt.zero).X) ∧ wr.cell? ⟨lb, lo + j * 4 + 1, none⟩ = some (.int .i64 (ls.getD j Lt.zero).Y) ∧ wr.cell? ⟨lb, lo + j * 4 + 2, none⟩ = some (.int .i64 (ls.getD j Lt.zero).R) ∧ wr.cell? ⟨lb, lo + j * 4 + 3, none⟩ = some (.int .i64 (ls.getD j Lt.zero).P) := by
              rcases hLi.cells with e | ⟨lb, lo, ha, hl, hc⟩
              · exact absurd e hls
              · exact ⟨lb, lo, ha, hl, hc⟩
            have hlcP := lights_cells (w := wr.alloc (.cells #[.int .i64 Op, .int .i64 To, .int .i64 A, .int .i64 B, .int .i64 K, .slice (some ⟨lb, lo, none⟩) ls.length lc] 88)) (b := lb) (off := lo) (ls := ls) (fun j hj => by
              obtain ⟨c0, c1, c2, c3⟩ := hlc j hj
              exact ⟨(hbP.cell (p := ⟨lb, lo + j * 4, none⟩) hlb).trans c0, (hbP.cell (p := ⟨lb, lo + j * 4 + 1, none⟩) hlb).trans c1, (hbP.cell (p := ⟨lb, lo + j * 4 + 2, none⟩) hlb).trans c2, (hbP.cell (p := ⟨lb, lo + j * 4 + 3, none⟩) hlb).trans c3⟩)
            have HLS : Hid (ls.length ≤ 8) := hl8
            have HLC : Hid ((lcells ls).length = ls.length * 4) := lcells_len ls
            have HNE : Hid (_) := hls
            have fP := frozen_new wr #[.int .i64 Op, .int .i64 To, .int .i64 A, .int .i64 B, .int .i64 K, .slice (some ⟨lb, lo, none⟩) ls.length lc] 88 5
            have hsP : (wr.alloc (.cells #[.int .i64 Op, .int .i64 To, .int .i64 A, .int .i64 B, .int .i64 K, .slice (some ⟨lb, lo, none⟩) ls.length lc] 88)).heap.size = wr.heap.size + 1 := by simp
            have hRP := hRr.below hbP
            have hGP := hGr.below hbP hGr.lt hbP.size
            have hbPB : Below B6 w1 _ := hbr.trans (hbP.mono (by have := hbr.size; have := HB6.out; omega))
            obtain ⟨_, r0, r1, r2, r3, r4, r5⟩ := id hPP
            clear hls hlc hLi hl8
            go_upto_region 10 with (at_builtin; refine wpList_append_own _ rfl _ _ 45 rfl (wr.heap.size + 1) 59 l0 _ 4 32 Try.underlying45 li lz0 lz1 lz2 rfl (by decide) _ 0 [] rfl (World.ownsRow_nil _ _ _ _) ⟨lb, lo, none⟩ ls.length lc (lcells ls) rfl (by rw [HLC.out]) hlcP (lcells_one ls) (by have := HLS.out; unfold maxLen; omega) (by have := HLS.out; omega) (by simp) ?_; intro vL wL hownL hgrowL _; obtain ⟨aL, cL, hvL⟩ := owns_slice hownL; subst hvL; have bL := (Below.refl (wr.heap.size + 1) (wr.alloc (.cells #[.int .i64 Op, .int .i64 To, .int .i64 A, .int .i64 B, .int .i64 K, .slice (some ⟨lb, lo, none⟩) ls.length lc] 88))).grown hgrowL (by simp) (fun k hk => by cases hk); have hPL := hPP.below (by rw [hsP]; exact bL); have fL := (bL.frozen (p := ⟨wr.heap.size, 5, none⟩) (Nat.lt_succ_self _)).trans fP; have s5 := hPL.c5)
            have bQ : Below wr.heap.size wr (wL.setCell ⟨wr.heap.size, 5, none⟩ (.slice aL ls.length cL)) := (hbP.trans (bL.mono (by omega))).setCell (p := ⟨wr.heap.size, 5, none⟩) (Nat.le_refl _) _
            have hRQ := hRr.below bQ
            have hGQ := hGr.below bQ hGr.lt bQ.size
            have hbQ : Below B6 w1 _ := hbr.trans (bQ.mono (by have := hbr.size; have := HB6.out; omega))
            have hPQ : PBox (wL.setCell ⟨wr.heap.size, 5, none⟩ (.slice aL ls.length cL)) wr.heap.size Op To A B K aL ls.length cL := ⟨by simpa using hPL.lt, (set_other _ (by simp)).trans hPL.c0, (set_other _ (by simp)).trans hPL.c1, (set_other _ (by simp)).trans hPL.c2, (set_other _ (by simp)).trans hPL.c3, (set_other _ (by simp)).trans hPL.c4, set_same hPL.c5⟩
            rw [Nat.zero_add, List.nil_append] at hownL
            have hOL : OwnsL (wr.heap.size + 1) (wL.setCell ⟨wr.heap.size, 5, none⟩ (.slice aL ls.length cL)) (.slice aL ls.length cL) ls := ownsRow_setCell_below hownL (a := ⟨wr.heap.size, 5, none⟩) (Nat.lt_succ_self _) _
            have hXQ := Lx.of (base := B6 + 1) (p := ⟨Op, To, A, B, K, ls⟩) (v := .slice va L.length vc) (la := aL) (lc := cL) hOL rfl HLS.out (by have := hGr.lt; omega) (fun j hj => by have := (hRr.lt j hj).2; omega)
            clear r0 r1 r2 r3 r4 r5 fP hPP hbP hRr hGr kP hRP hGP hbPB hownL hgrowL bL hPL fL s5 hlcP hOL bQ
            generalize wL.setCell ⟨wr.heap.size, 5, none⟩ (.slice aL ls.length cL) = wQ at *
            obtain ⟨_, p0, p1, p2, p3, p4, p5⟩ := id hPQ
            have d4 := hGQ.c4
            have dz := hGQ.fz 4
            have hsQ : B6 + 1 ≤ wQ.heap.size := hGQ.lt
            have hRA := hRQ.below ((Below.refl wQ.heap.size wQ).alloc (Nat.le_refl _) (.cells #[.int .i64 Op, .int .i64 To, .int .i64 A, .int .i64 B, .int .i64 K, .slice aL ls.length cL] 88))
            have hXA := hXQ.below ((Below.refl wQ.heap.size wQ).alloc (Nat.le_refl _) (.cells #[.int .i64 Op, .int .i64 To, .int .i64 A, .int .i64 B, .int .i64 K, .slice aL ls.length cL] 88))
            have hGA := hGQ.below ((Below.refl wQ.heap.size wQ).alloc (Nat.le_refl _) (.cells #[.int .i64 Op, .int .i64 To, .int .i64 A, .int .i64 B, .int .i64 K, .slice aL ls.length cL] 88)) hGQ.lt (by simp)
            have HRL : Hid (_) := hRQ.lt
            have HMAP : Hid (_) := hmap
            clear hmap hRQ hXQ hGQ hPQ
            go_upto_region 11 with (at_builtin; refine wpList_append_own_at _ rfl _ _ 61 rfl (B6 + 1) 88 i0 _ 6 64 Try.underlying61 hi hz0 hz1 hz2 rfl (by decide) (.slice va L.length vc) L.length (pcells L) rfl hRA.1 ⟨wQ.heap.size, 0, none⟩ 1 1 [.int .i64 Op, .int .i64 To, .int .i64 A, .int .i64 B, .int .i64 K, .slice aL ls.length cL] rfl rfl (cell_six_new _ _ _ _ _ _ _ _) (by intro u hu; simp at hu; rcases hu with rfl | rfl | rfl | rfl | rfl | rfl <;> rfl) (by have := HLL.out; unfold maxLen; omega) (by have := HLL.out; omega) (by simp; omega) ?_; intro v' w9 hown9 hgrow9 _ hloc9; have hR9 := hRA.push (x := (⟨Op, To, A, B, K, ls⟩, aL, cL)) hXA hown9 hgrow9 hloc9; have hG9 := hGA.grown hgrow9 (fun e => by have := (HRL.out _ e.symm).1; omega); obtain ⟨a9, cap9, hv9⟩ := owns_slice hown9; subst hv9; have e4 := hG9.c4; have ez := hG9.fz 4)
            have hGZ := hG9.put (.slice a9 (L.length + 1) cap9)
            have hRZ := hR9.setBelow (p := ⟨B6, 4, none⟩) (show B6 < B6 + 1 by omega) (.slice a9 (L.length + 1) cap9)
            have hbZ : Below B6 w1 (w9.setCell ⟨B6, 4, none⟩ (.slice a9 (L.length + 1) cap9)) := (((hbQ.alloc (Nat.le_of_succ_le hsQ) (.cells #[.int .i64 Op, .int .i64 To, .int .i64 A, .int .i64 B, .int .i64 K, .slice aL ls.length cL] 88)).grown hgrow9 (by simp; omega) (fun j hj => by have := (HRL.out j hj).1; omega))).setCell (p := ⟨B6, 4, none⟩) (Nat.le_refl _) _
            clear p0 p1 p2 p3 p4 p5 d4 dz e4 ez hR9 hG9 hRA hXA hGA hown9 hgrow9
            go_wp2
            go_roundw
            case rel => exact ⟨k + 1, _, _, by omega, by go_num, hRZ, by rw [HCU.out, if_pos (by trivial), List.map_append, HMAP.out]; rfl, hGZ, hbZ⟩
            case measure => simp [intOf]; omega
      · have hke : k = ps.length := by omega
        subst hke
        rw [← HCD.out] at hmap
        obtain ⟨pa, pc, rfl, hPas⟩ := hRr.passes hmap (by omega)
        have hz9 := hzz1.below hbr' hzz1.lt hbr.size
        obtain ⟨_, c0, c1, c2, c3, c4, fz⟩ := id hz9
        have f0 := fz 0
        have f1 := fz 1
        have f2 := fz 2
        have f3 := fz 3
        have f4 := fz 4
        obtain ⟨_, d0, d1, d2, d3, d4, dz⟩ := id hGr
        have hb9 := below_step hb1 hbr'
        have hlz := hzz1.lt
        have hlq : w.heap.size + 1 < B6 + 1 := by have := HB6.out; omega
        have hR5 := (((((hRr.setBelow (p := ⟨w.heap.size + 1, 0, none⟩) hlq (.int .i64 W)).setBelow (p := ⟨w.heap.size + 1, 1, none⟩) hlq (.int .i64 H)).setBelow (p := ⟨w.heap.size + 1, 2, none⟩) hlq (.int .i64 S)).setBelow (p := ⟨w.heap.size + 1, 3, none⟩) hlq (.int .i64 O)).setBelow (p := ⟨w.heap.size + 1, 4, none⟩) hlq (.slice pa (culled ⟨W, H, S, O, ps⟩).length pc))
        have hb5 := (((((hb9.setCell (p := ⟨w.heap.size + 1, 0, none⟩) (show w.heap.size ≤ w.heap.size + 1 by omega) (.int .i64 W)).setCell (p := ⟨w.heap.size + 1, 1, none⟩) (show w.heap.size ≤ w.heap.size + 1 by omega) (.int .i64 H)).setCell (p := ⟨w.heap.size + 1, 2, none⟩) (show w.heap.size ≤ w.heap.size + 1 by omega) (.int .i64 S)).setCell (p := ⟨w.heap.size + 1, 3, none⟩) (show w.heap.size ≤ w.heap.size + 1 by omega) (.int .i64 O)).setCell (p := ⟨w.heap.size + 1, 4, none⟩) (show w.heap.size ≤ w.heap.size + 1 by omega) (.slice pa (culled ⟨W, H, S, O, ps⟩).length pc))
        obtain ⟨pa', pc', e, hp5⟩ := hR5.passes hmap (by omega)
        injection e with e1 e2 e3
        rw [← e1] at hp5
        have HP5 : Hid (_) := hp5
        have HB5 : Hid (_) := hb5
        clear fz dz hPas hmap hK1 hp1 hB1 hR5 hb5 hp5 hRr e1 e2 e3
        go_wp2
        refine bodyPost_ret (v := .tuple #[.agg #[.int .i64 W, .int .i64 H, .int .i64 S, .int .i64 O, .slice pa (culled ⟨W, H, S, O, ps⟩).length pc], .int .i64 0]) (by simp [results, Try.results49, go_sem, c0, c1, c2, c3, c4]) rfl ?_
        exact ⟨.inl ⟨hE, pa, pc, rfl, HP5.out⟩, HB5.out⟩
  · exact absurd hE h0
/-- need.Cull. -/
theorem cull_any (W H S O : Int) (a : Option Addr) (len cap : Nat) (ps : List Ps) (w : World) (hp : Passes w a len ps) :
    Calls Try.prog 49 #[.agg #[.int .i64 W, .int .i64 H, .int .i64 S, .int .i64 O, .slice a len cap]] w (ToldCull w ⟨W, H, S, O, ps⟩) := by
  by_cases hE : frameE ⟨W, H, S, O, ps⟩ = 0
  · exact cull_ok W H S O a len cap ps w hp hE
  · exact cull_err W H S O a len cap ps w hp hE
end Go.Proofs.Ytfpkiimlaepnhaa
