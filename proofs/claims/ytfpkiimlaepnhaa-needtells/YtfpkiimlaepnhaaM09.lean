/-
  SMALL: the small functions of package frame.
-/
import Derived.Test.YtfpkiimlaepnhaaM03
import Derived.Test.YtfpkiimlaepnhaaM08
namespace Go.Proofs.Ytfpkiimlaepnhaa
set_option maxRecDepth 100000
open Go.RowKit Im

theorem fwithin_any (n a b : Int) (w : World) : Calls Try.prog 117 #[.int .i64 n, .int .i64 a, .int .i64 b] w fun e w' => e = .returned (.bool (withinB n a b)) ∧ w = w' := by
  by_cases h1 : a ≤ n
  · by_cases h2 : n ≤ b
    · go_enter Try.func117, Try.ntmps117
      go_wp2
      go_ret
      exact ⟨by simp [withinB, h1, h2], rfl⟩
    · go_enter Try.func117, Try.ntmps117
      go_wp2
      go_ret
      exact ⟨by simp [withinB, h1, h2], rfl⟩
  · go_enter Try.func117, Try.ntmps117
    go_wp2
    go_ret
    exact ⟨by simp [withinB]; omega, rfl⟩
theorem isSlot_any (n S : Int) (w : World) (hS : 1 ≤ S ∧ S ≤ 8) : Calls Try.prog 118 #[.int .i64 n, .int .i64 S] w fun e w' => e = .returned (.bool (slotB n S)) ∧ w = w' := by
  have hw : IntKind.i64.wrap (S - 1) = S - 1 := by rw [IntKind.wrap_i64]; omega
  go_enter Try.func118, Try.ntmps118
  go_wp2_with (go_at_call 117; refine (fwithin_any _ _ _ _).mono ?_; rintro e w' ⟨rfl, rfl⟩)
  go_ret
  exact ⟨rfl, rfl⟩
theorem isK_any (op k : Int) (w : World) : Calls Try.prog 121 #[.int .i64 op, .int .i64 k] w fun e w' => e = .returned (.bool (kB op k)) ∧ w = w' := by
  unfold kB
  by_cases h1 : op = 9
  · subst h1
    go_enter Try.func121, Try.ntmps121
    go_wp2_with (go_at_call 117; refine (fwithin_any _ _ _ _).mono ?_; rintro e w' ⟨rfl, rfl⟩)
    go_ret
    exact ⟨rfl, rfl⟩
  · rw [if_neg h1]
    by_cases h2 : op = 13
    · subst h2
      go_enter Try.func121, Try.ntmps121
      go_wp2_with (go_at_call 117; refine (fwithin_any _ _ _ _).mono ?_; rintro e w' ⟨rfl, rfl⟩)
      go_ret
      exact ⟨rfl, rfl⟩
    · rw [if_neg h2]
      go_enter Try.func121, Try.ntmps121
      go_wp2_with (go_at_call 117; refine (fwithin_any _ _ _ _).mono ?_; rintro e w' ⟨rfl, rfl⟩)
      go_ret
      exact ⟨rfl, rfl⟩
theorem fieldsOf_any (op : Int) (w : World) : Calls Try.prog 119 #[.int .i64 op] w fun e w' => e = .returned (.tuple #[.agg #[.bool (hasA op), .bool (hasB op), .bool (hasK op), .bool (hasL op)], .bool (knownB op)]) ∧ Below w.heap.size w w' := by
  by_cases hk : knownB op = true
  · rcases op_cases hk with rfl | rfl | rfl | rfl | rfl | rfl | rfl | rfl | rfl | rfl | rfl | rfl | rfl
    all_goals
      clear hk
      go_enter Try.func119, Try.ntmps119
      go_wp2
      refine bodyPost_ret (by simp [results, Try.results119, go_sem]; decide) rfl ⟨rfl, (Below.refl _ _).alloc (Nat.le_refl _) _⟩
  · have hn : op < 1 ∨ 13 < op := by simp [knownB, withinB] at hk; omega
    have e1 : hasA op = false := by simp [hasA, withinB]; omega
    have e2 : hasB op = false := by simp [hasB, withinB]; omega
    have e3 : hasK op = false := by simp [hasK]; omega
    have e4 : hasL op = false := by simp [hasL]; omega
    rw [e1, e2, e3, e4, eq_false_of_ne_true hk]
    have n1 : ¬ op = 1 := by omega
    have n2 : ¬ op = 2 := by omega
    have n3 : ¬ op = 3 := by omega
    have n4 : ¬ op = 4 := by omega
    have n5 : ¬ op = 5 := by omega
    have n6 : ¬ op = 6 := by omega
    have n7 : ¬ op = 7 := by omega
    have n8 : ¬ op = 8 := by omega
    have n9 : ¬ op = 9 := by omega
    have n10 : ¬ op = 10 := by omega
    have n11 : ¬ op = 11 := by omega
    have n12 : ¬ op = 12 := by omega
    have n13 : ¬ op = 13 := by omega
    clear hn e1 e2 e3 e4 hk
    go_enter Try.func119, Try.ntmps119
    go_wp2
    refine bodyPost_ret (by simp [results, Try.results119, go_sem]) rfl ⟨rfl, (Below.refl _ _).alloc (Nat.le_refl _) _⟩
/-- A pass that lies in a block of its own. -/
structure PBox (w : World) (b : Nat) (Op To A B K : Int) (la : Option Addr) (ll lc : Nat) : Prop where
  lt : b < w.heap.size
  c0 : w.cell? ⟨b, 0, none⟩ = some (.int .i64 Op)
  c1 : w.cell? ⟨b, 1, none⟩ = some (.int .i64 To)
  c2 : w.cell? ⟨b, 2, none⟩ = some (.int .i64 A)
  c3 : w.cell? ⟨b, 3, none⟩ = some (.int .i64 B)
  c4 : w.cell? ⟨b, 4, none⟩ = some (.int .i64 K)
  c5 : w.cell? ⟨b, 5, none⟩ = some (.slice la ll lc)
theorem PBox.below {w w' : World} {b : Nat} {Op To A B K : Int} {la : Option Addr} {ll lc : Nat} (h : PBox w b Op To A B K la ll lc) (hb : Below w.heap.size w w') : PBox w' b Op To A B K la ll lc :=
  ⟨Nat.lt_of_lt_of_le h.lt hb.size, (hb.cell (p := ⟨b, 0, none⟩) h.lt).trans h.c0, (hb.cell (p := ⟨b, 1, none⟩) h.lt).trans h.c1, (hb.cell (p := ⟨b, 2, none⟩) h.lt).trans h.c2, (hb.cell (p := ⟨b, 3, none⟩) h.lt).trans h.c3, (hb.cell (p := ⟨b, 4, none⟩) h.lt).trans h.c4, (hb.cell (p := ⟨b, 5, none⟩) h.lt).trans h.c5⟩
theorem PBox.alloc {w : World} {b : Nat} {Op To A B K : Int} {la : Option Addr} {ll lc : Nat} (h : PBox w b Op To A B K la ll lc) (o : Obj) : PBox (w.alloc o) b Op To A B K la ll lc := h.below ((Below.refl _ _).alloc (Nat.le_refl _) _)
theorem PBox.new (w : World) (Op To A B K : Int) (la : Option Addr) (ll lc : Nat) : PBox (w.alloc (.cells #[.int .i64 Op, .int .i64 To, .int .i64 A, .int .i64 B, .int .i64 K, .slice la ll lc] 88)) w.heap.size Op To A B K la ll lc :=
  ⟨by simp, by simp [go_sem], by simp [go_sem], by simp [go_sem], by simp [go_sem], by simp [go_sem], by simp [go_sem]⟩
/-- A frame that lies in a block of its own. -/
structure FBox (w : World) (b : Nat) (W H S O : Int) (a : Option Addr) (len cap : Nat) : Prop where
  lt : b < w.heap.size
  c0 : w.cell? ⟨b, 0, none⟩ = some (.int .i64 W)
  c1 : w.cell? ⟨b, 1, none⟩ = some (.int .i64 H)
  c2 : w.cell? ⟨b, 2, none⟩ = some (.int .i64 S)
  c3 : w.cell? ⟨b, 3, none⟩ = some (.int .i64 O)
  c4 : w.cell? ⟨b, 4, none⟩ = some (.slice a len cap)
theorem FBox.below {w w' : World} {b : Nat} {W H S O : Int} {a : Option Addr} {len cap : Nat} (h : FBox w b W H S O a len cap) (hb : Below w.heap.size w w') : FBox w' b W H S O a len cap :=
  ⟨Nat.lt_of_lt_of_le h.lt hb.size, (hb.cell (p := ⟨b, 0, none⟩) h.lt).trans h.c0, (hb.cell (p := ⟨b, 1, none⟩) h.lt).trans h.c1, (hb.cell (p := ⟨b, 2, none⟩) h.lt).trans h.c2, (hb.cell (p := ⟨b, 3, none⟩) h.lt).trans h.c3, (hb.cell (p := ⟨b, 4, none⟩) h.lt).trans h.c4⟩
theorem FBox.alloc {w : World} {b : Nat} {W H S O : Int} {a : Option Addr} {len cap : Nat} (h : FBox w b W H S O a len cap) (o : Obj) : FBox (w.alloc o) b W H S O a len cap := h.below ((Below.refl _ _).alloc (Nat.le_refl _) _)
theorem FBox.new (w : World) (W H S O : Int) (a : Option Addr) (len cap : Nat) : FBox (w.alloc (.cells #[.int .i64 W, .int .i64 H, .int .i64 S, .int .i64 O, .slice a len cap] 63)) w.heap.size W H S O a len cap :=
  ⟨by simp, by simp [go_sem], by simp [go_sem], by simp [go_sem], by simp [go_sem], by simp [go_sem]⟩

theorem ints_mine {base : Nat} {w : World} (ps : List Int) (hb : base ≤ w.heap.size) (h : ps.length ≤ 9223372036854775807) : Ints base (w.alloc (.cells (ps.map (Value.int .i64)).toArray 3)) (some ⟨w.heap.size, 0, none⟩) ps.length ps := by
  refine ⟨rfl, h, .inr ⟨w.heap.size, 0, rfl, hb, by simp, fun j hj => ?_⟩⟩
  have : (w.alloc (.cells (ps.map (Value.int .i64)).toArray 3)).heap[w.heap.size]? = some (.cells (ps.map (Value.int .i64)).toArray 3 (0, 0)) := (MapKept.heap_alloc w _).1
  unfold World.cell?
  rw [this]
  simp [hj]
/-- The call's end tells the numbers ps, in a slice of its own. -/
def ToldI (w : World) (ps : List Int) (e : Ending) (w' : World) : Prop :=
  ∃ a cap, e = .returned (.slice a ps.length cap) ∧ Ints w.heap.size w' a ps.length ps ∧ Below w.heap.size w w'
theorem takes_any (Op To A B K : Int) (la : Option Addr) (ll lc : Nat) (ls : List Lt) (w : World) : Calls Try.prog 124 #[.agg #[.int .i64 Op, .int .i64 To, .int .i64 A, .int .i64 B, .int .i64 K, .slice la ll lc]] w (ToldI w (takesP ⟨Op, To, A, B, K, ls⟩)) := by
  have hf := fun wx => fieldsOf_any Op wx
  have hP := PBox.new w Op To A B K la ll lc
  have hb0 := below_box (Below.refl w.heap.size w) (.cells #[.int .i64 Op, .int .i64 To, .int .i64 A, .int .i64 B, .int .i64 K, .slice la ll lc] 88)
  unfold takesP
  dsimp only
  generalize hasA Op = ba at *
  generalize hasB Op = bb at *
  generalize hasK Op = bk at *
  generalize hasL Op = bl at *
  generalize knownB Op = bn at *
  cases bb
  · cases ba
    · go_enter Try.func124, Try.ntmps124
      go_wp2_with (go_at_call 119; refine (hf _).mono ?_; rintro e w' ⟨rfl, hb⟩)
      go_ret
      exact ⟨none, 0, rfl, Ints.nil _ _, below_box (below_step hb0 hb) _⟩
    · go_enter Try.func124, Try.ntmps124
      go_wp2_with fail
      refine (hf _).mono ?_
      rintro e w' ⟨rfl, hb⟩
      obtain ⟨_, c0, c1, c2, c3, c4, c5⟩ := (hP.below hb).alloc (.cells #[.bool true, .bool false, .bool bk, .bool bl] 147)
      have hb1 := below_box (below_step hb0 hb) (.cells #[.bool true, .bool false, .bool bk, .bool bl] 147)
      have hb2 := below_box hb1 (.cells #[.int .i64 A] 3)
      have hi := ints_mine [A] hb1.size (by simp)
      rw [World.size_alloc] at hi
      go_wp2
      go_ret
      exact ⟨_, 1, rfl, hi, hb2⟩
  · go_enter Try.func124, Try.ntmps124
    go_wp2_with fail
    refine (hf _).mono ?_
    rintro e w' ⟨rfl, hb⟩
    obtain ⟨_, c0, c1, c2, c3, c4, c5⟩ := (hP.below hb).alloc (.cells #[.bool ba, .bool true, .bool bk, .bool bl] 147)
    have hb1 := below_box (below_step hb0 hb) (.cells #[.bool ba, .bool true, .bool bk, .bool bl] 147)
    have hb2 := below_box hb1 (.cells #[.int .i64 A, .int .i64 B] 3)
    have hi := ints_mine [A, B] hb1.size (by simp)
    rw [World.size_alloc] at hi
    go_wp2
    go_ret
    exact ⟨_, 2, rfl, hi, hb2⟩
theorem isBare_any (Op To A B K : Int) (la : Option Addr) (ll lc : Nat) (ls : List Lt) (w : World) (hl : ls.length = ll) (_hbig : ll ≤ 9223372036854775807) : Calls Try.prog 122 #[.agg #[.int .i64 Op, .int .i64 To, .int .i64 A, .int .i64 B, .int .i64 K, .slice la ll lc], .agg #[.bool (hasA Op), .bool (hasB Op), .bool (hasK Op), .bool (hasL Op)]] w fun e w' => e = .returned (.bool (bareB ⟨Op, To, A, B, K, ls⟩)) ∧ Below w.heap.size w w' := by
  unfold bareB
  dsimp only
  generalize hasA Op = ba at *
  generalize hasB Op = bb at *
  generalize hasK Op = bk at *
  generalize hasL Op = bl at *
  rw [hl]
  go_enter Try.func122, Try.ntmps122
  go_wp2
  all_goals (go_ret; refine ⟨?_, ((Below.refl _ _).alloc (Nat.le_refl _) _).alloc (by simp) _⟩; simp_all <;> (rw [Bool.eq_iff_iff]; simp))
theorem all_succG {α : Type} (f : α → Bool) (d : α) (ps : List α) (k : Nat) (hk : k < ps.length) (h : (ps.take k).all f = true) (h' : f (ps.getD k d) = true) : (ps.take (k + 1)).all f = true := by
  rw [List.getD_eq_getElem?_getD, List.getElem?_eq_getElem hk] at h'
  rw [List.take_succ_eq_append_getElem hk, List.all_append, h]
  simpa using h'
theorem all_notG {α : Type} (f : α → Bool) (d : α) (ps : List α) (k : Nat) (hk : k < ps.length) (h' : f (ps.getD k d) = false) : ps.all f = false := by
  rw [List.getD_eq_getElem?_getD, List.getElem?_eq_getElem hk] at h'
  rw [List.all_eq_false]
  exact ⟨ps[k], List.getElem_mem hk, by simpa using h'⟩
theorem any_succG {α : Type} (f : α → Bool) (d : α) (ps : List α) (k : Nat) (hk : k < ps.length) (h : (ps.take k).any f = false) (h' : f (ps.getD k d) = false) : (ps.take (k + 1)).any f = false := by
  rw [List.getD_eq_getElem?_getD, List.getElem?_eq_getElem hk] at h'
  rw [List.take_succ_eq_append_getElem hk, List.any_append, h]
  simpa using h'
theorem any_yesG {α : Type} (f : α → Bool) (d : α) (ps : List α) (k : Nat) (hk : k < ps.length) (h' : f (ps.getD k d) = true) : ps.any f = true := by
  rw [List.getD_eq_getElem?_getD, List.getElem?_eq_getElem hk] at h'
  rw [List.any_eq_true]
  exact ⟨ps[k], List.getElem_mem hk, by simpa using h'⟩
/-- The k-th number of a slice. -/
theorem Ints.nth {base : Nat} {w : World} {a : Option Addr} {len : Nat} {ps : List Int} (h : Ints base w a len ps) {k : Nat} (hk : k < len) : ∃ b off, a = some ⟨b, off, none⟩ ∧ w.cell? ⟨b, off + k, none⟩ = some (.int .i64 (ps.getD k 0)) := by
  rcases h.cells with e | ⟨b, off, ha, h0, hl, hc⟩
  · have := h.leng; subst e; simp at this; omega
  · exact ⟨b, off, ha, hc k hk⟩
theorem takesP_len (p : Ps) : (takesP p).length ≤ 2 := by unfold takesP; split; · simp
                                                          · split <;> simp
theorem hasSlots_any (Op To A B K : Int) (la : Option Addr) (ll lc : Nat) (ls : List Lt) (S : Int) (w : World) (hS : 1 ≤ S ∧ S ≤ 8) : Calls Try.prog 120 #[.agg #[.int .i64 Op, .int .i64 To, .int .i64 A, .int .i64 B, .int .i64 K, .slice la ll lc], .int .i64 S] w fun e w' => e = .returned (.bool (slotsB ⟨Op, To, A, B, K, ls⟩ S)) ∧ Below w.heap.size w w' := by
  have hP := PBox.new w Op To A B K la ll lc
  have hb0 := below_box (Below.refl w.heap.size w) (.cells #[.int .i64 Op, .int .i64 To, .int .i64 A, .int .i64 B, .int .i64 K, .slice la ll lc] 88)
  have ht := fun wx => takes_any Op To A B K la ll lc ls wx
  have hs := fun n wx => isSlot_any n S wx hS
  have hl2 := takesP_len ⟨Op, To, A, B, K, ls⟩
  unfold slotsB
  generalize takesP ⟨Op, To, A, B, K, ls⟩ = ts at *
  dsimp only
  go_enter Try.func120, Try.ntmps120
  go_wp2_with fail
  refine (ht _).mono ?_
  rintro e w2 ⟨a, cap, rfl, hI, hb⟩
  obtain ⟨_, c0, c1, c2, c3, c4, c5⟩ := hP.below hb
  have hb2 := below_step hb0 hb
  clear ht hb hb0 hP
  go_wp2
  go_loop [10] (fun i => ∃ k : Nat, k ≤ ts.length ∧ i = .int .i64 k ∧ (ts.take k).all (fun s => slotB s S) = true) (fun i => ts.length - (intOf i).toNat)
  case atStart => exact ⟨0, Nat.zero_le _, rfl, rfl⟩
  case round =>
    obtain ⟨k, hk, rfl, hall⟩ := hrel
    by_cases hlt : k < ts.length
    · obtain ⟨b, off, rfl, hcx⟩ := hI.nth hlt
      have n1 := all_succG (fun s => slotB s S) 0 ts k hlt hall
      have n2 := all_notG (fun s => slotB s S) 0 ts k hlt
      generalize ts.getD k 0 = n at hcx n1 n2
      by_cases hn : slotB n S = true
      · have N1 : Hid ((ts.take (k + 1)).all (fun s => slotB s S) = true) := n1 hn
        clear n1 n2 hall
        go_wp2_with (go_at_call 118; refine (hs _ _).mono ?_; rintro e w' ⟨rfl, rfl⟩)
        go_round
        case rel => exact ⟨k + 1, by omega, by go_num, N1.out⟩
        case measure => simp [intOf]; omega
      · have hn' := eq_false_of_ne_true hn
        have N2 := n2 hn'
        clear n1 n2 hall hn
        go_wp2_with (go_at_call 118; refine (hs _ _).mono ?_; rintro e w' ⟨rfl, rfl⟩)
        go_ret
        exact ⟨by first | rfl | (rw [N2]; rfl), hb2⟩
    · have hx : ts.all (fun s => slotB s S) = true := by rw [List.take_of_length_le (by omega)] at hall; exact hall
      clear hall
      go_wp2_with (go_at_call 118; refine (hs _ _).mono ?_; rintro e w' ⟨rfl, rfl⟩)
      go_ret
      exact ⟨by first | rfl | (rw [hx]; rfl), hb2⟩
theorem takesOwn_any (Op To A B K : Int) (la : Option Addr) (ll lc : Nat) (ls : List Lt) (w : World) : Calls Try.prog 123 #[.agg #[.int .i64 Op, .int .i64 To, .int .i64 A, .int .i64 B, .int .i64 K, .slice la ll lc]] w fun e w' => e = .returned (.bool (ownB ⟨Op, To, A, B, K, ls⟩)) ∧ Below w.heap.size w w' := by
  have hP := PBox.new w Op To A B K la ll lc
  have hb0 := below_box (Below.refl w.heap.size w) (.cells #[.int .i64 Op, .int .i64 To, .int .i64 A, .int .i64 B, .int .i64 K, .slice la ll lc] 88)
  have ht := fun wx => takes_any Op To A B K la ll lc ls wx
  have hl2 := takesP_len ⟨Op, To, A, B, K, ls⟩
  unfold ownB
  generalize takesP ⟨Op, To, A, B, K, ls⟩ = ts at *
  dsimp only
  go_enter Try.func123, Try.ntmps123
  go_wp2_with fail
  refine (ht _).mono ?_
  rintro e w2 ⟨a, cap, rfl, hI, hb⟩
  obtain ⟨_, c0, c1, c2, c3, c4, c5⟩ := hP.below hb
  have hb2 := below_step hb0 hb
  clear ht hb hb0 hP
  go_wp2
  go_loop [8] (fun i => ∃ k : Nat, k ≤ ts.length ∧ i = .int .i64 k ∧ (ts.take k).any (fun s => decide (s = To)) = false) (fun i => ts.length - (intOf i).toNat)
  case atStart => exact ⟨0, Nat.zero_le _, rfl, rfl⟩
  case round =>
    obtain ⟨k, hk, rfl, hall⟩ := hrel
    by_cases hlt : k < ts.length
    · obtain ⟨b, off, rfl, hcx⟩ := hI.nth hlt
      have n1 := any_succG (fun s => decide (s = To)) 0 ts k hlt hall
      have n2 := any_yesG (fun s => decide (s = To)) 0 ts k hlt
      generalize ts.getD k 0 = n at hcx n1 n2
      by_cases hn : n = To
      · have N2 := n2 (by simpa using hn)
        clear n1 n2 hall
        go_wp2
        go_ret
        exact ⟨by first | rfl | (rw [N2]; rfl), hb2⟩
      · have N1 : Hid ((ts.take (k + 1)).any (fun s => decide (s = To)) = false) := n1 (by simpa using hn)
        clear n1 n2 hall
        go_wp2
        go_round
        case rel => exact ⟨k + 1, by omega, by go_num, N1.out⟩
        case measure => simp [intOf]; omega
    · have hx : ts.any (fun s => decide (s = To)) = false := by rw [List.take_of_length_le (by omega)] at hall; exact hall
      clear hall
      go_wp2
      go_ret
      exact ⟨by first | rfl | (rw [hx]; rfl), hb2⟩
end Go.Proofs.Ytfpkiimlaepnhaa
