/-
  KEPT: need.Kept.
-/
import Derived.Test.YtfpkiimlaepnhaaM38
import Derived.Test.YtfpkiimlaepnhaaM39
namespace Go.Proofs.Ytfpkiimlaepnhaa
set_option maxRecDepth 100000
open Go.RowKit Im Go.Shelf
attribute [local go_sem] Oper.semAt_some

/-- What need.Kept tells. -/
def ToldKept (w : World) (f : Fr) (e : Ending) (w' : World) : Prop :=
  ((frameE f = 0 ∧ ∃ b, e = .returned (.tuple #[.slice (some ⟨b, 0, none⟩) f.ps.length f.ps.length, .int .i64 0]) ∧ w.heap.size ≤ b ∧ Bl w' b f.ps.length (keptG f.ps f.ps.length (shownP f) f.ps.length)) ∨
   (frameE f ≠ 0 ∧ e = .returned (.tuple #[.slice none 0 0, .int .i64 (frameE f)]))) ∧ Below w.heap.size w w'
set_option maxHeartbeats 1000000 in
theorem kept_err (W H S O : Int) (a : Option Addr) (len cap : Nat) (ps : List Ps) (w : World) (hp : Passes w a len ps) (hE : frameE ⟨W, H, S, O, ps⟩ ≠ 0) :
    Calls Try.prog 48 #[.agg #[.int .i64 W, .int .i64 H, .int .i64 S, .int .i64 O, .slice a len cap]] w (ToldKept w ⟨W, H, S, O, ps⟩) := by
  have hb0 := below_box (Below.refl w.heap.size w) (.cells #[.int .i64 W, .int .i64 H, .int .i64 S, .int .i64 O, .slice a len cap] 63)
  have hla := last_any W H S O a len cap ps _ (hp.below hb0)
  go_enter Try.func48, Try.ntmps48
  go_wp2_with fail
  refine hla.mono ?_
  clear hla
  rintro e w1 ⟨rfl, b1⟩
  rw [if_neg hE]
  go_wp2
  go_ret2
  exact ⟨.inr ⟨hE, rfl⟩, below_step hb0 b1⟩
/-- A make of a whole slice, inside a fence. -/
theorem listIn_make {F : Fence} {n : Nat} {P : Program} (w : World) {ops : Array Oper} {rest : List Oper} {o : Oper} {a : Act} {Q : Exit → Act → World → Prop}
    (hg : o.guard = none) (l c : Operand) (t : TypeId) (hop : o.op = Op.makeSlice t l c)
    (base : Nat) (e : TypeId) (i : TypeInfo) (z : Value) (size : Nat) (h1 : P.underlying t = some (.slice e)) (h2 : P.info? e = some i) (h3 : i.zero = some z) (h4 : i.size = size)
    (kl kc : IntKind) (m : Nat) (hl : a.eval l = .int kl (m : Int)) (hc : a.eval c = .int kc (m : Int)) (b2 : i.bytes * m ≤ 281474976710656) (b3 : m ≤ maxLen) (b4 : base ≤ w.heap.size)
    (hK : ∀ w', w'.ownsRow base e size (.slice (some ⟨w.heap.size, 0, none⟩) m m) m (madeCells z.cells (m * size)).toList → w.grownBy w' none → wpListIn F n P ops Q rest (a.put o.dst (.slice (some ⟨w.heap.size, 0, none⟩) m m)) w') :
    wpListIn F n P ops Q (o :: rest) a w := by
  obtain ⟨w', hrun, r1, r2⟩ := run_make_full (P := P) w base t e i z size h1 h2 h3 h4 kl kc m b2 b3 b4
  refine wpListIn_plain hg fun K hK' => ?_
  unfold Oper.wpIn
  refine ⟨by simp [Oper.about, hop], ?_⟩
  rw [Oper.semAt_plain F _ _ (by rw [hop]; intro c hc'; cases hc')]
  simp [execOp, hop, hl, hc, hrun, Result.andThen]
  exact hK' _ _ (hK w' r1 r2)
/-- The marks, when one pass more has been asked. -/
def stepX (ps : List Ps) {len : Nat} (g : Nat → Bool) (x : Pe len) (j : Nat) : Bool := if g x.1.1 = true then markG g (srcOf ps x.1.1) j else g j
theorem fold_bhs (ps : List Ps) (len : Nat) (hl : 0 < len) (pv : Nat → Pv) (N : Int) (k : Nat) : (bhs len hl pv k).foldl (stepX ps) (fun j => decide (N = (j : Int))) = keptG ps len N k := by
  induction k with
  | zero => rfl
  | succ k ih =>
    rw [bhs_succ, List.foldl_append, ih]
    rfl
theorem bl_own {X Y : World} {row : Option Nat} {b n : Nat} {g : Nat → Bool} (hn : 0 < n) (h : Bl X b n g) (hg : X.grownBy Y row) (hr : ∀ r, row = some r → ∃ o : Obj, X.heap[r]? = some o ∧ o.isCells = false) : Bl Y b n g := by
  obtain ⟨o, ho, hc⟩ := cells_of_cell (h.cells 0 hn)
  have e := grownBy_keeps_cells hg hr ho hc
  exact ⟨Nat.lt_of_lt_of_le h.lt hg.size, fun j hj => (World.cell?_of_block (a := ⟨b, j, none⟩) e).trans (h.cells j hj), fun o => (World.frozen?_of_block (a := ⟨b, o, none⟩) e).trans (h.froz o)⟩
theorem bl_alloc {X : World} {b n : Nat} {g : Nat → Bool} (h : Bl X b n g) (o : Obj) : Bl (X.alloc o) b n g := h.below ((Below.refl X.heap.size X).alloc (Nat.le_refl _) o) h.lt (by simp)
theorem boxed_set {W : World} {B : Nat} {t : TypeId} {v : Value} (h : Go.Boxed W B t v) {p : Addr} (hne : p.block ≠ B) (u : Value) : Go.Boxed (W.setCell p u) B t v := (Below.heap_setCell W p u B (fun e => hne (by rw [e]))).trans h
set_option maxHeartbeats 4000000 in
theorem kept_ok (W H S O : Int) (a : Option Addr) (len cap : Nat) (ps : List Ps) (w : World) (hp : Passes w a len ps) (hE : frameE ⟨W, H, S, O, ps⟩ = 0) :
    Calls Try.prog 48 #[.agg #[.int .i64 W, .int .i64 H, .int .i64 S, .int .i64 O, .slice a len cap]] w (ToldKept w ⟨W, H, S, O, ps⟩) := by
  obtain rfl := hp.leng
  obtain ⟨hbnd, hfirst, hsh⟩ := frameE_zero hE
  dsimp only at hfirst
  obtain ⟨_, _, _, _, hL⟩ := boundsE_zero hbnd
  dsimp only at hL
  obtain ⟨N, hN⟩ := Int.eq_ofNat_of_zero_le hsh
  have hNl : N < ps.length := by have := (wrt_bd ps ps.length O).2; have e : shownP ⟨W, H, S, O, ps⟩ = wrt ps ps.length O := rfl; omega
  obtain ⟨i0, hi, hz0, hz1, hz2⟩ := info_parts Try.infoBool
  have hb0 := below_box (Below.refl w.heap.size w) (.cells #[.int .i64 W, .int .i64 H, .int .i64 S, .int .i64 O, .slice a ps.length cap] 63)
  have hla := last_any W H S O a ps.length cap ps _ (hp.below hb0)
  have hso := fun wx hp => sources_any W H S O a ps.length cap ps wx hp
  unfold ToldLast at hla
  rw [hE, if_pos rfl, hN] at hla
  have hs2 : ∀ x ∈ srcs ps ps.length, x.length ≤ 2 := by
    intro x hx
    unfold srcs at hx
    rw [List.mem_map] at hx
    obtain ⟨n, _, rfl⟩ := hx
    unfold srcOf
    rw [List.length_map]
    exact takesP_len _
  have hin : ∀ n, n < ps.length → ∀ i ∈ srcOf ps n, 0 ≤ i ∧ i < n := fun n hn => by
    have hfk := firstE_down ⟨W, H, S, O, ps⟩ hfirst (k := n) (by omega)
    have hpE : passE ⟨W, H, S, O, ps⟩ n = 0 := (firstE_at ⟨W, H, S, O, ps⟩ hfk).symm.trans (firstE_down ⟨W, H, S, O, ps⟩ hfirst (k := n + 1) (by omega))
    exact src_bd (passE_zero hpE).2.1
  obtain ⟨b, off, pv, rfl, hbl, hpv, heq⟩ := hp.pv (by omega)
  have hB := FBox.new w W H S O (some ⟨b, off, none⟩) ps.length cap
  have HIN : Hid (_) := hin
  have hlenS := srcs_length ps ps.length
  clear hin
  refine (callsIn_wide (n := 4)).1 ?_
  refine callsIn_of_wp_marks Try.func48 rfl trivial ?_ rfl
  simp only [Try.ntmps48, List.size_toArray, List.length_cons, List.length_nil, Nat.reduceAdd, Nat.reduceSub, Array.replicate_succ, Array.replicate_zero, List.push_toArray, List.append_toArray, List.nil_append, List.cons_append]
  gi_wp2_with (first
    | (refine ⟨trivial, ?_⟩; gi_at_call 47; refine (callsIn_wide.2 hla).mono ?_; rintro e w1 ⟨rfl, b1⟩; have hB1 := hB.below b1; have hb1 := below_step hb0 b1; obtain ⟨_, g0, g1, g2, g3, g4⟩ := id hB1))
  refine ⟨trivial, ?_⟩
  refine (callsIn_wide.2 (hso _ ((hp.below hb0).below b1))).mono ?_
  rintro e w2 ⟨⟨v2, rfl, hS⟩, b2⟩
  rw [if_pos hE] at hS
  rw [hE]
  obtain ⟨sa, sc, rfl, hSs⟩ := hS.lls hs2
  dsimp only at hSs ⊢
  rw [hlenS] at hSs ⊢
  have b2A := below_step b2 ((Below.refl w2.heap.size w2).alloc (Nat.le_refl _) (.cells #[.slice sa ps.length sc] 67))
  have bS := Go.Boxed.new w2 67 (.slice sa ps.length sc)
  have hSA := hSs.below ((Below.refl w2.heap.size w2).alloc (Nat.le_refl _) (.cells #[.slice sa ps.length sc] 67))
  have hB2 := hB1.below b2A
  have hNi : (N : Int) < (ps.length : Int) := by omega
  have hN0 : (0 : Int) ≤ (N : Int) := by omega
  have hb2 := below_step hb1 b2A
  have hsA : (w2.alloc (.cells #[.slice sa ps.length sc] 67)).heap.size = w2.heap.size + 1 := by simp
  clear g0 g1 g2 g3 g4 hB1 hS hla hso hs2 hSs b1 b2 b2A hb0 hb1
  obtain ⟨_, g0, g1, g2, g3, g4⟩ := id hB2
  gi_wp2_with (first
    | (gi_at_make; refine listIn_make _ rfl _ _ 78 rfl (w2.heap.size + 1) 4 i0 (.bool false) 1 Try.underlying78 hi hz0 hz1 .i64 .i64 ps.length rfl rfl (by rw [hz2]; omega) (by unfold maxLen; omega) (by simp) ?_; intro wM hown hgrow; have hbM : Below (w2.heap.size + 1) (w2.alloc (.cells #[.slice sa ps.length sc] 67)) wM := (Below.refl _ _).grown hgrow (by simp) (fun k hk => by cases hk); rw [hsA] at hown; have hlM := (World.ownsRow.lt (w := wM) hown (w2.heap.size + 1) rfl).2; have hKM := Bl.made hown hlM; have hKN := hKM.below ((Below.refl wM.heap.size wM).alloc (Nat.le_refl _) (.cells #[.slice (some ⟨w2.heap.size + 1, 0, none⟩) ps.length ps.length] 78)) hlM (by simp); have k0 := hKN.cells N hNl; have kf := hKN.froz N; have hlw : w.heap.size < w2.heap.size + 1 := (by have := hB2.lt; omega); have gM := hbM.cell (p := ⟨w.heap.size, 4, none⟩) hlw; have gN : ((wM.setCell ⟨w2.heap.size + 1, N, none⟩ (.bool true)).alloc (.cells #[.slice (some ⟨w2.heap.size + 1, 0, none⟩) ps.length ps.length] 78)).cell? ⟨w.heap.size, 4, none⟩ = some (.slice (some ⟨b, off, none⟩) ps.length cap) := (World.cell?_alloc_lt _ _ _ (show w.heap.size < (wM.setCell ⟨w2.heap.size + 1, N, none⟩ (.bool true)).heap.size by simp [World.setCell]; omega)).trans ((set_other _ (fun e => by injection e with e1; omega)).trans (gM.trans g4)))
    | (refine ⟨trivial, ?_⟩; gi_at_call 92; refine (callsIn_wide.2 (fromBehind_any _ _ _ _)).mono ?_; rintro e w9 ⟨rfl, rfl⟩))
  have hpos : 0 < ps.length := by omega
  have hWS : (wM.setCell ⟨w2.heap.size + 1, N, none⟩ (.bool true)).heap.size = wM.heap.size := by simp [World.setCell]
  have hKS := hKM.put (g' := fun j => decide ((N : Int) = (j : Int))) N hNl (fun j hj => by
    by_cases h : N = j
    · subst h; simp
    · have h' : ¬ (N : Int) = (j : Int) := by omega
      simp [h, h'])
  have hK0 := bl_alloc (bl_alloc hKS (.cells #[.slice (some ⟨w2.heap.size + 1, 0, none⟩) ps.length ps.length] 78)) (.cells #[.slice (some ⟨b, off, none⟩) ps.length cap] 61)
  have bKB := (Go.Boxed.new (wM.setCell ⟨w2.heap.size + 1, N, none⟩ (.bool true)) 78 (.slice (some ⟨w2.heap.size + 1, 0, none⟩) ps.length ps.length)).alloc (.cells #[.slice (some ⟨b, off, none⟩) ps.length cap] 61)
  have bPB := Go.Boxed.new ((wM.setCell ⟨w2.heap.size + 1, N, none⟩ (.bool true)).alloc (.cells #[.slice (some ⟨w2.heap.size + 1, 0, none⟩) ps.length ps.length] 78)) 61 (.slice (some ⟨b, off, none⟩) ps.length cap)
  rw [World.size_alloc] at bPB
  rw [hWS] at bKB bPB
  have hbA : Below (w2.heap.size + 1) (w2.alloc (.cells #[.slice sa ps.length sc] 67)) (((wM.setCell ⟨w2.heap.size + 1, N, none⟩ (.bool true)).alloc (.cells #[.slice (some ⟨w2.heap.size + 1, 0, none⟩) ps.length ps.length] 78)).alloc (.cells #[.slice (some ⟨b, off, none⟩) ps.length cap] 61)) := ((hbM.setCell (p := ⟨w2.heap.size + 1, N, none⟩) (Nat.le_refl _) _).alloc (by rw [hWS]; omega) _).alloc (by simp [hWS]; omega) _
  have hbW : Below w.heap.size w (((wM.setCell ⟨w2.heap.size + 1, N, none⟩ (.bool true)).alloc (.cells #[.slice (some ⟨w2.heap.size + 1, 0, none⟩) ps.length ps.length] 78)).alloc (.cells #[.slice (some ⟨b, off, none⟩) ps.length cap] 61)) := hb2.trans (hbA.mono (by have := hb2.size; rw [hsA] at this; omega))
  have hlw2 : w.heap.size ≤ w2.heap.size + 1 := by omega
  have hsz0 : (((wM.setCell ⟨w2.heap.size + 1, N, none⟩ (.bool true)).alloc (.cells #[.slice (some ⟨w2.heap.size + 1, 0, none⟩) ps.length ps.length] 78)).alloc (.cells #[.slice (some ⟨b, off, none⟩) ps.length cap] 61)).heap.size = wM.heap.size + 2 := by simp [hWS]
  have hpv0 := hpv.below hbW hbl
  clear hKM hKN k0 kf gM gN g0 g1 g2 g3 g4 hB2 hKS hown hgrow
  generalize ((wM.setCell ⟨w2.heap.size + 1, N, none⟩ (.bool true)).alloc (.cells #[.slice (some ⟨w2.heap.size + 1, 0, none⟩) ps.length ps.length] 78)).alloc (.cells #[.slice (some ⟨b, off, none⟩) ps.length cap] 61) = W0 at *
  have hbb := @boxed_own Unit
  refine wpIn_rangeFunc_ownH rfl (by decide) (gf := 116) (lb := #[.pointer (some ⟨wM.heap.size + 1, 0, none⟩)]) rfl trivial (enters_of Try.func116 (by kernel_rfl) rfl)
    (behind_stops 3 (by decide) (wM.heap.size + 1) w.heap.size b off ps.length cap hpos hL.2 pv hbl W0 (by omega) hbW.size bPB.cell hpv0) KpB.t (KpB.b hbW.size (by omega)) (Below.refl _ _) (fun _ => rfl)
    (fun pre W' => (Bl W' (w2.heap.size + 1) ps.length (pre.foldl (stepX ps) (fun j => decide ((N : Int) = (j : Int)))) ∧ Go.Boxed W' wM.heap.size 78 (.slice (some ⟨w2.heap.size + 1, 0, none⟩) ps.length ps.length) ∧ Go.Boxed W' (wM.heap.size + 1) 61 (.slice (some ⟨b, off, none⟩) ps.length cap)) ∧ Below (w2.heap.size + 1) (w2.alloc (.cells #[.slice sa ps.length sc] 67)) W')
    (fun _ _ _ => False)
    (fun s A B row hs hg hr => ⟨⟨bl_own hpos hs.1.1 hg (fun r e => (hr r e).2), hbb _ _ (fun _ => _) () A B row hs.1.2.1 hg (fun r e => (hr r e).2), hbb _ _ (fun _ => _) () A B row hs.1.2.2 hg (fun r e => (hr r e).2)⟩, ownFrom_below (β := Unit) (w₀ := (w2.alloc (.cells #[.slice sa ps.length sc] 67))) (by simp) (by omega) () A B row hs.2 hg hr⟩)
    (fun _ _ _ _ _ hs _ _ => hs)
    ⟨⟨hK0, bKB, bPB⟩, hbA⟩
    (fun x a' _ => a' = { tmps := #[.agg #[.int .i64 W, .int .i64 H, .int .i64 S, .int .i64 O, .slice (some ⟨b, off, none⟩) ps.length cap], .pointer (some ⟨w.heap.size, 0, none⟩), .slice none 0 0, .int .i64 0, .int .i64 (N : Int), .int .i64 0, .pointer (some ⟨w2.heap.size, 0, none⟩), .pointer (some ⟨wM.heap.size, 0, none⟩), .int .i64 (x.1.1 : Int), undef, undef, .tuple #[.int .i64 (N : Int), .int .i64 0], .agg #[.int .i64 W, .int .i64 H, .int .i64 S, .int .i64 O, .slice (some ⟨b, off, none⟩) ps.length cap], .tuple #[.int .i64 (N : Int), .int .i64 0], .int .i64 (N : Int), .int .i64 0, .int .i64 0, .bool false, undef, .tuple #[.slice sa ps.length sc, .int .i64 0], .agg #[.int .i64 W, .int .i64 H, .int .i64 S, .int .i64 O, .slice (some ⟨b, off, none⟩) ps.length cap], .tuple #[.slice sa ps.length sc, .int .i64 0], .slice sa ps.length sc, .int .i64 0, .int .i64 0, .bool false, undef, .pointer (some ⟨w.heap.size, 4, none⟩), .slice (some ⟨b, off, none⟩) ps.length cap, .int .i64 (ps.length : Int), .slice (some ⟨w2.heap.size + 1, 0, none⟩) ps.length ps.length, .slice (some ⟨w2.heap.size + 1, 0, none⟩) ps.length ps.length, .int .i64 (N : Int), .pointer (some ⟨w2.heap.size + 1, N, none⟩), .pointer (some ⟨w.heap.size, 4, none⟩), .slice (some ⟨b, off, none⟩) ps.length cap, .func (.func 116) #[] #[.pointer (some ⟨wM.heap.size + 1, 0, none⟩)], .int .i64 (x.1.1 : Int), x.1.2.val, undef, undef, undef, undef, undef, undef, undef, undef, undef, undef, undef, undef, undef, undef, undef, undef, undef, undef, undef], defers := [] })
    (fun _ _ _ _ _ _ hs _ _ => hs)
    ?assign ?body ?done ?stop
  case assign =>
    rintro l pre x W' K hi hK
    gi_wp2
    exact hK _ _ (KeepsFrom.refl _ _) ⟨Below.refl _ _, rfl⟩ hi rfl
  case body =>
    rintro l pre x a' W' hl ⟨r, hr⟩ ⟨⟨hK1, hk1, hp1⟩, hB1⟩ rfl hlt
    have HST : Hid (∀ j, (pre ++ [x]).foldl (stepX ps) (fun j => decide ((N : Int) = (j : Int))) j = if pre.foldl (stepX ps) (fun j => decide ((N : Int) = (j : Int))) x.1.1 = true then markG (pre.foldl (stepX ps) (fun j => decide ((N : Int) = (j : Int)))) (srcOf ps x.1.1) j else pre.foldl (stepX ps) (fun j => decide ((N : Int) = (j : Int))) j) := fun j => by rw [List.foldl_append]; rfl
    obtain ⟨⟨m, pvx⟩, hm⟩ := x
    dsimp only at hm HST ⊢
    have hmI : (m : Int) < (ps.length : Int) := by omega
    have hm0 : (0 : Int) ≤ (m : Int) := by omega
    generalize pre.foldl (stepX ps) (fun j => decide ((N : Int) = (j : Int))) = g at hK1 HST
    have cK := hk1.cell
    have cS := (boxed_below bS hB1 (by omega)).cell
    have km := hK1.cells m hm
    obtain ⟨sb, so, ua, uc, rfl, hsb, qq, hUI⟩ := hSA.nth hm
    rw [hsA] at hsb
    rw [srcs_at _ hm] at qq hUI
    have hin := HIN.out m hm
    have hsl : (srcOf ps m).length ≤ 2 := by unfold srcOf; rw [List.length_map]; exact takesP_len _
    generalize srcOf ps m = sr at qq hUI hin HST hsl
    generalize hx : g m = xm at km HST
    cases xm with
    | false =>
      gi_wp2
      exact ⟨KeepsFrom.refl _ _, ⟨Below.refl _ _, rfl⟩, ⟨hK1.congr (fun j _ => by rw [HST.out j, if_neg (by decide)]), hk1, hp1⟩, hB1⟩
    | true =>
      have q0 := (hB1.cell (p := ⟨sb, so + m, none⟩) hsb).trans qq
      gi_wp2
      gi_loopw [49] (fun i wr => ∃ t : Nat, t ≤ sr.length ∧ i = .int .i64 t ∧ Bl wr (w2.heap.size + 1) ps.length (markG g (sr.take t)) ∧ Go.Boxed wr wM.heap.size 78 (.slice (some ⟨w2.heap.size + 1, 0, none⟩) ps.length ps.length) ∧ Go.Boxed wr (wM.heap.size + 1) 61 (.slice (some ⟨b, off, none⟩) ps.length cap) ∧ Below (w2.heap.size + 1) (w2.alloc (.cells #[.slice (some ⟨sb, so, none⟩) ps.length sc] 67)) wr ∧ Below w.heap.size W' wr ∧ KeepsFrom W0.heap.size W' wr) (fun i _ => sr.length - (intOf i).toNat)
      case atStart => exact ⟨0, Nat.zero_le _, rfl, by rw [List.take_zero, markG_nil]; exact hK1, hk1, hp1, hB1, Below.refl _ _, KeepsFrom.refl _ _⟩
      case round =>
        obtain ⟨t, ht, rfl, hKt, hkt, hpt, hBt, hWt, hFt⟩ := hrel
        have cKt := hkt.cell
        by_cases htl : t < sr.length
        · obtain ⟨bu, ou, rfl, hcx⟩ := (hUI.below (by rw [hsA]; exact Nat.le_refl _) hBt).nth htl
          have hrr := hin _ (getD_mem htl 0)
          have HS : Hid (∀ j : Nat, markG g (sr.take (t + 1)) j = if sr.getD t 0 = (j : Int) then true else markG g (sr.take t) j) := fun j => markG_take g sr t htl j
          generalize sr.getD t 0 = n at hcx hrr HS
          obtain ⟨q, rfl⟩ := Int.eq_ofNat_of_zero_le hrr.1
          have hql : q < ps.length := by omega
          have hqI : (q : Int) < (ps.length : Int) := by omega
          have kq := hKt.cells q hql
          have kf := hKt.froz q
          have hK9 := hKt.put (g' := markG g (sr.take (t + 1))) q hql (fun j hj => by
            rw [HS.out j]
            by_cases h : q = j
            · subst h; simp
            · have h' : ¬ (q : Int) = (j : Int) := by omega
              rw [if_neg h, if_neg h'])
          have hB9 := hBt.setCell (p := ⟨w2.heap.size + 1, q, none⟩) (Nat.le_refl _) (.bool true)
          have hW9 := hWt.setCell (p := ⟨w2.heap.size + 1, q, none⟩) hlw2 (.bool true)
          have hk9 := boxed_set hkt (p := ⟨w2.heap.size + 1, q, none⟩) (show w2.heap.size + 1 ≠ wM.heap.size by omega) (.bool true)
          have hp9 := boxed_set hpt (p := ⟨w2.heap.size + 1, q, none⟩) (show w2.heap.size + 1 ≠ wM.heap.size + 1 by omega) (.bool true)
          have hF9 := hFt.trans ((KeepsOthers.setCell wr ⟨w2.heap.size + 1, q, none⟩ (.bool true)).from W0.heap.size)
          have HK9 : Hid (_) := hK9
          clear hK9 hK1 hx hk1 hp1
          gi_wp2
          go_roundw
          case rel => exact ⟨t + 1, by omega, by go_num, HK9.out, hk9, hp9, hB9, hW9, hF9⟩
          case measure => simp [intOf]; omega
        · have hte : t = sr.length := by omega
          subst hte
          rw [List.take_length] at hKt
          clear hx
          gi_wp2
          exact ⟨hFt, ⟨hWt, hpt.cell.trans hp1.cell.symm⟩, ⟨hKt.congr (fun j _ => by rw [HST.out j, if_pos (by trivial)]), hkt, hpt⟩, hBt⟩
  case done =>
    rintro D ys W' hD rfl ⟨⟨hK1, hk1, hp1⟩, hB1⟩ hK
    have cK := hk1.cell
    gi_wp2
    refine ⟨by simp, .inl ⟨_, _, rfl, run_takeDeferred hK, ?_⟩⟩
    rw [fold_bhs] at hK1
    have hK2 := bl_own hpos hK1 (grownBy_putObj' _ D (.deferred none)) (fun r e => by cases e; exact ⟨_, hK, rfl⟩)
    refine ⟨.tuple #[(.slice (some ⟨w2.heap.size + 1, 0, none⟩) ps.length ps.length), .int .i64 0], ?_, ⟨.inl ⟨hE, w2.heap.size + 1, rfl, hlw2, by dsimp only; rw [hN]; exact hK2⟩, (hb2.trans (hB1.mono (by have := hb2.size; rw [hsA] at this; omega))).trans (belowK_b (w := w) (Nat.le_refl _) W' D _ _ (by have := hbW.size; omega) hK rfl rfl)⟩⟩
    simp [results, Try.results48, go_sem]
  case stop =>
    rintro D c pre W' _ _ h _
    exact h.elim
/-- need.Kept. -/
theorem kept_any (W H S O : Int) (a : Option Addr) (len cap : Nat) (ps : List Ps) (w : World) (hp : Passes w a len ps) :
    Calls Try.prog 48 #[.agg #[.int .i64 W, .int .i64 H, .int .i64 S, .int .i64 O, .slice a len cap]] w (ToldKept w ⟨W, H, S, O, ps⟩) := by
  by_cases hE : frameE ⟨W, H, S, O, ps⟩ = 0
  · exact kept_ok W H S O a len cap ps w hp hE
  · exact kept_err W H S O a len cap ps w hp hE
end Go.Proofs.Ytfpkiimlaepnhaa
