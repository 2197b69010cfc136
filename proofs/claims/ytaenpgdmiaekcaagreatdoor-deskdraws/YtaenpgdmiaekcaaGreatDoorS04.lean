/- Small, Pass, Cours, Apart, PlanN, PlanM: joined, in this order. -/
import Derived.Test.YtaenpgdmiaekcaaGreatDoorS01
import Derived.Test.YtaenpgdmiaekcaaGreatDoorS03
import Derived.Maps.AppendAt
/-
  SMALL: the small functions of package frame.
-/
namespace Go.Proofs.YtaenpgdmiaekcaaGreatDoor
set_option maxRecDepth 100000
open Go.RowKit Im

theorem fwithin_any (n a b : Int) (w : World) : Calls Tryz.prog 97 #[.int .i64 n, .int .i64 a, .int .i64 b] w fun e w' => e = .returned (.bool (withinB n a b)) ∧ w = w' := by
  by_cases h1 : a ≤ n
  · by_cases h2 : n ≤ b
    · go_enter Tryz.func97, Tryz.ntmps97
      go_wp2
      go_ret
      exact ⟨by simp [withinB, h1, h2], rfl⟩
    · go_enter Tryz.func97, Tryz.ntmps97
      go_wp2
      go_ret
      exact ⟨by simp [withinB, h1, h2], rfl⟩
  · go_enter Tryz.func97, Tryz.ntmps97
    go_wp2
    go_ret
    exact ⟨by simp [withinB]; omega, rfl⟩
theorem isSlot_any (n S : Int) (w : World) (hS : 1 ≤ S ∧ S ≤ 8) : Calls Tryz.prog 98 #[.int .i64 n, .int .i64 S] w fun e w' => e = .returned (.bool (slotB n S)) ∧ w = w' := by
  have hw : IntKind.i64.wrap (S - 1) = S - 1 := by rw [IntKind.wrap_i64]; omega
  go_enter Tryz.func98, Tryz.ntmps98
  go_wp2_with (go_at_call 97; refine (fwithin_any _ _ _ _).mono ?_; rintro e w' ⟨rfl, rfl⟩)
  go_ret
  exact ⟨rfl, rfl⟩
theorem isK_any (op k : Int) (w : World) : Calls Tryz.prog 101 #[.int .i64 op, .int .i64 k] w fun e w' => e = .returned (.bool (kB op k)) ∧ w = w' := by
  unfold kB
  by_cases h1 : op = 9
  · subst h1
    go_enter Tryz.func101, Tryz.ntmps101
    go_wp2_with (go_at_call 97; refine (fwithin_any _ _ _ _).mono ?_; rintro e w' ⟨rfl, rfl⟩)
    go_ret
    exact ⟨rfl, rfl⟩
  · rw [if_neg h1]
    by_cases h2 : op = 13
    · subst h2
      go_enter Tryz.func101, Tryz.ntmps101
      go_wp2_with (go_at_call 97; refine (fwithin_any _ _ _ _).mono ?_; rintro e w' ⟨rfl, rfl⟩)
      go_ret
      exact ⟨rfl, rfl⟩
    · rw [if_neg h2]
      go_enter Tryz.func101, Tryz.ntmps101
      go_wp2_with (go_at_call 97; refine (fwithin_any _ _ _ _).mono ?_; rintro e w' ⟨rfl, rfl⟩)
      go_ret
      exact ⟨rfl, rfl⟩
theorem fieldsOf_any (op : Int) (w : World) : Calls Tryz.prog 99 #[.int .i64 op] w fun e w' => e = .returned (.tuple #[.agg #[.bool (hasA op), .bool (hasB op), .bool (hasK op), .bool (hasL op)], .bool (knownB op)]) ∧ Below w.heap.size w w' := by
  by_cases hk : knownB op = true
  · rcases op_cases hk with rfl | rfl | rfl | rfl | rfl | rfl | rfl | rfl | rfl | rfl | rfl | rfl | rfl
    all_goals
      clear hk
      go_enter Tryz.func99, Tryz.ntmps99
      go_wp2
      refine bodyPost_ret (by simp [results, Tryz.results99, go_sem]; decide) rfl ⟨rfl, (Below.refl _ _).alloc (Nat.le_refl _) _⟩
  · have hn : op < 1 ∨ 13 < op := by simp [knownB, withinB] at hk; omega
    have e1 : hasA op = false := by simp [hasA, withinB]; omega
    have e2 : hasB op = false := by simp [hasB, withinB]; omega
    have e3 : hasK op = false := by simp [hasK]; omega
    have e4 : hasL op = false := by simp [hasL]; omega
    rw [e1, e2, e3, e4, eq_false_of_ne_true hk]
    have n1 : ¬ op = 1 := by omega
    have n2 : ¬ op = 2 := by omega
    have n3 : ¬ op = 3 := by omega
    have n4 : ¬ op = 4 := by omega
    have n5 : ¬ op = 5 := by omega
    have n6 : ¬ op = 6 := by omega
    have n7 : ¬ op = 7 := by omega
    have n8 : ¬ op = 8 := by omega
    have n9 : ¬ op = 9 := by omega
    have n10 : ¬ op = 10 := by omega
    have n11 : ¬ op = 11 := by omega
    have n12 : ¬ op = 12 := by omega
    have n13 : ¬ op = 13 := by omega
    clear hn e1 e2 e3 e4 hk
    go_enter Tryz.func99, Tryz.ntmps99
    go_wp2
    refine bodyPost_ret (by simp [results, Tryz.results99, go_sem]) rfl ⟨rfl, (Below.refl _ _).alloc (Nat.le_refl _) _⟩
/-- A pass that lies in a block of its own. -/
structure PBox (w : World) (b : Nat) (Op To A B K : Int) (la : Option Addr) (ll lc : Nat) : Prop where
  lt : b < w.heap.size
  c0 : w.cell? ⟨b, 0, none⟩ = some (.int .i64 Op)
  c1 : w.cell? ⟨b, 1, none⟩ = some (.int .i64 To)
  c2 : w.cell? ⟨b, 2, none⟩ = some (.int .i64 A)
  c3 : w.cell? ⟨b, 3, none⟩ = some (.int .i64 B)
  c4 : w.cell? ⟨b, 4, none⟩ = some (.int .i64 K)
  c5 : w.cell? ⟨b, 5, none⟩ = some (.slice la ll lc)
theorem PBox.below {w w' : World} {b : Nat} {Op To A B K : Int} {la : Option Addr} {ll lc : Nat} (h : PBox w b Op To A B K la ll lc) (hb : Below w.heap.size w w') : PBox w' b Op To A B K la ll lc :=
  ⟨Nat.lt_of_lt_of_le h.lt hb.size, (hb.cell (p := ⟨b, 0, none⟩) h.lt).trans h.c0, (hb.cell (p := ⟨b, 1, none⟩) h.lt).trans h.c1, (hb.cell (p := ⟨b, 2, none⟩) h.lt).trans h.c2, (hb.cell (p := ⟨b, 3, none⟩) h.lt).trans h.c3, (hb.cell (p := ⟨b, 4, none⟩) h.lt).trans h.c4, (hb.cell (p := ⟨b, 5, none⟩) h.lt).trans h.c5⟩
theorem PBox.alloc {w : World} {b : Nat} {Op To A B K : Int} {la : Option Addr} {ll lc : Nat} (h : PBox w b Op To A B K la ll lc) (o : Obj) : PBox (w.alloc o) b Op To A B K la ll lc := h.below ((Below.refl _ _).alloc (Nat.le_refl _) _)
theorem PBox.new (w : World) (Op To A B K : Int) (la : Option Addr) (ll lc : Nat) : PBox (w.alloc (.cells #[.int .i64 Op, .int .i64 To, .int .i64 A, .int .i64 B, .int .i64 K, .slice la ll lc] 72)) w.heap.size Op To A B K la ll lc :=
  ⟨by simp, by simp [go_sem], by simp [go_sem], by simp [go_sem], by simp [go_sem], by simp [go_sem], by simp [go_sem]⟩
/-- A frame that lies in a block of its own. -/
structure FBox (w : World) (b : Nat) (W H S O : Int) (a : Option Addr) (len cap : Nat) : Prop where
  lt : b < w.heap.size
  c0 : w.cell? ⟨b, 0, none⟩ = some (.int .i64 W)
  c1 : w.cell? ⟨b, 1, none⟩ = some (.int .i64 H)
  c2 : w.cell? ⟨b, 2, none⟩ = some (.int .i64 S)
  c3 : w.cell? ⟨b, 3, none⟩ = some (.int .i64 O)
  c4 : w.cell? ⟨b, 4, none⟩ = some (.slice a len cap)
theorem FBox.below {w w' : World} {b : Nat} {W H S O : Int} {a : Option Addr} {len cap : Nat} (h : FBox w b W H S O a len cap) (hb : Below w.heap.size w w') : FBox w' b W H S O a len cap :=
  ⟨Nat.lt_of_lt_of_le h.lt hb.size, (hb.cell (p := ⟨b, 0, none⟩) h.lt).trans h.c0, (hb.cell (p := ⟨b, 1, none⟩) h.lt).trans h.c1, (hb.cell (p := ⟨b, 2, none⟩) h.lt).trans h.c2, (hb.cell (p := ⟨b, 3, none⟩) h.lt).trans h.c3, (hb.cell (p := ⟨b, 4, none⟩) h.lt).trans h.c4⟩
theorem FBox.alloc {w : World} {b : Nat} {W H S O : Int} {a : Option Addr} {len cap : Nat} (h : FBox w b W H S O a len cap) (o : Obj) : FBox (w.alloc o) b W H S O a len cap := h.below ((Below.refl _ _).alloc (Nat.le_refl _) _)
theorem FBox.new (w : World) (W H S O : Int) (a : Option Addr) (len cap : Nat) : FBox (w.alloc (.cells #[.int .i64 W, .int .i64 H, .int .i64 S, .int .i64 O, .slice a len cap] 35)) w.heap.size W H S O a len cap :=
  ⟨by simp, by simp [go_sem], by simp [go_sem], by simp [go_sem], by simp [go_sem], by simp [go_sem]⟩

theorem ints_mine {base : Nat} {w : World} (ps : List Int) (hb : base ≤ w.heap.size) (h : ps.length ≤ 9223372036854775807) : Ints base (w.alloc (.cells (ps.map (Value.int .i64)).toArray 3)) (some ⟨w.heap.size, 0, none⟩) ps.length ps := by
  refine ⟨rfl, h, .inr ⟨w.heap.size, 0, rfl, hb, by simp, fun j hj => ?_⟩⟩
  have : (w.alloc (.cells (ps.map (Value.int .i64)).toArray 3)).heap[w.heap.size]? = some (.cells (ps.map (Value.int .i64)).toArray 3 (0, 0)) := (MapKept.heap_alloc w _).1
  unfold World.cell?
  rw [this]
  simp [hj]
/-- The call's end tells the numbers ps, in a slice of its own. -/
def ToldI (w : World) (ps : List Int) (e : Ending) (w' : World) : Prop :=
  ∃ a cap, e = .returned (.slice a ps.length cap) ∧ Ints w.heap.size w' a ps.length ps ∧ Below w.heap.size w w'
theorem takes_any (Op To A B K : Int) (la : Option Addr) (ll lc : Nat) (ls : List Lt) (w : World) : Calls Tryz.prog 105 #[.agg #[.int .i64 Op, .int .i64 To, .int .i64 A, .int .i64 B, .int .i64 K, .slice la ll lc]] w (ToldI w (takesP ⟨Op, To, A, B, K, ls⟩)) := by
  have hf := fun wx => fieldsOf_any Op wx
  have hP := PBox.new w Op To A B K la ll lc
  have hb0 := below_box (Below.refl w.heap.size w) (.cells #[.int .i64 Op, .int .i64 To, .int .i64 A, .int .i64 B, .int .i64 K, .slice la ll lc] 72)
  unfold takesP
  dsimp only
  generalize hasA Op = ba at *
  generalize hasB Op = bb at *
  generalize hasK Op = bk at *
  generalize hasL Op = bl at *
  generalize knownB Op = bn at *
  cases bb
  · cases ba
    · go_enter Tryz.func105, Tryz.ntmps105
      go_wp2_with (go_at_call 99; refine (hf _).mono ?_; rintro e w' ⟨rfl, hb⟩)
      go_ret
      exact ⟨none, 0, rfl, Ints.nil _ _, below_box (below_step hb0 hb) _⟩
    · go_enter Tryz.func105, Tryz.ntmps105
      go_wp2_with fail
      refine (hf _).mono ?_
      rintro e w' ⟨rfl, hb⟩
      obtain ⟨_, c0, c1, c2, c3, c4, c5⟩ := (hP.below hb).alloc (.cells #[.bool true, .bool false, .bool bk, .bool bl] 170)
      have hb1 := below_box (below_step hb0 hb) (.cells #[.bool true, .bool false, .bool bk, .bool bl] 170)
      have hb2 := below_box hb1 (.cells #[.int .i64 A] 3)
      have hi := ints_mine [A] hb1.size (by simp)
      rw [World.size_alloc] at hi
      go_wp2
      go_ret
      exact ⟨_, 1, rfl, hi, hb2⟩
  · go_enter Tryz.func105, Tryz.ntmps105
    go_wp2_with fail
    refine (hf _).mono ?_
    rintro e w' ⟨rfl, hb⟩
    obtain ⟨_, c0, c1, c2, c3, c4, c5⟩ := (hP.below hb).alloc (.cells #[.bool ba, .bool true, .bool bk, .bool bl] 170)
    have hb1 := below_box (below_step hb0 hb) (.cells #[.bool ba, .bool true, .bool bk, .bool bl] 170)
    have hb2 := below_box hb1 (.cells #[.int .i64 A, .int .i64 B] 3)
    have hi := ints_mine [A, B] hb1.size (by simp)
    rw [World.size_alloc] at hi
    go_wp2
    go_ret
    exact ⟨_, 2, rfl, hi, hb2⟩
theorem isBare_any (Op To A B K : Int) (la : Option Addr) (ll lc : Nat) (ls : List Lt) (w : World) (hl : ls.length = ll) (_hbig : ll ≤ 9223372036854775807) : Calls Tryz.prog 103 #[.agg #[.int .i64 Op, .int .i64 To, .int .i64 A, .int .i64 B, .int .i64 K, .slice la ll lc], .agg #[.bool (hasA Op), .bool (hasB Op), .bool (hasK Op), .bool (hasL Op)]] w fun e w' => e = .returned (.bool (bareB ⟨Op, To, A, B, K, ls⟩)) ∧ Below w.heap.size w w' := by
  unfold bareB
  dsimp only
  generalize hasA Op = ba at *
  generalize hasB Op = bb at *
  generalize hasK Op = bk at *
  generalize hasL Op = bl at *
  rw [hl]
  go_enter Tryz.func103, Tryz.ntmps103
  go_wp2
  all_goals (go_ret; refine ⟨?_, ((Below.refl _ _).alloc (Nat.le_refl _) _).alloc (by simp) _⟩; simp_all <;> (rw [Bool.eq_iff_iff]; simp))
theorem all_succG {α : Type} (f : α → Bool) (d : α) (ps : List α) (k : Nat) (hk : k < ps.length) (h : (ps.take k).all f = true) (h' : f (ps.getD k d) = true) : (ps.take (k + 1)).all f = true := by
  rw [List.getD_eq_getElem?_getD, List.getElem?_eq_getElem hk] at h'
  rw [List.take_succ_eq_append_getElem hk, List.all_append, h]
  simpa using h'
theorem all_notG {α : Type} (f : α → Bool) (d : α) (ps : List α) (k : Nat) (hk : k < ps.length) (h' : f (ps.getD k d) = false) : ps.all f = false := by
  rw [List.getD_eq_getElem?_getD, List.getElem?_eq_getElem hk] at h'
  rw [List.all_eq_false]
  exact ⟨ps[k], List.getElem_mem hk, by simpa using h'⟩
theorem any_succG {α : Type} (f : α → Bool) (d : α) (ps : List α) (k : Nat) (hk : k < ps.length) (h : (ps.take k).any f = false) (h' : f (ps.getD k d) = false) : (ps.take (k + 1)).any f = false := by
  rw [List.getD_eq_getElem?_getD, List.getElem?_eq_getElem hk] at h'
  rw [List.take_succ_eq_append_getElem hk, List.any_append, h]
  simpa using h'
theorem any_yesG {α : Type} (f : α → Bool) (d : α) (ps : List α) (k : Nat) (hk : k < ps.length) (h' : f (ps.getD k d) = true) : ps.any f = true := by
  rw [List.getD_eq_getElem?_getD, List.getElem?_eq_getElem hk] at h'
  rw [List.any_eq_true]
  exact ⟨ps[k], List.getElem_mem hk, by simpa using h'⟩
/-- The k-th number of a slice. -/
theorem Ints.nth {base : Nat} {w : World} {a : Option Addr} {len : Nat} {ps : List Int} (h : Ints base w a len ps) {k : Nat} (hk : k < len) : ∃ b off, a = some ⟨b, off, none⟩ ∧ w.cell? ⟨b, off + k, none⟩ = some (.int .i64 (ps.getD k 0)) := by
  rcases h.cells with e | ⟨b, off, ha, h0, hl, hc⟩
  · have := h.leng; subst e; simp at this; omega
  · exact ⟨b, off, ha, hc k hk⟩
theorem takesP_len (p : Ps) : (takesP p).length ≤ 2 := by unfold takesP; split; · simp
                                                          · split <;> simp
theorem hasSlots_any (Op To A B K : Int) (la : Option Addr) (ll lc : Nat) (ls : List Lt) (S : Int) (w : World) (hS : 1 ≤ S ∧ S ≤ 8) : Calls Tryz.prog 100 #[.agg #[.int .i64 Op, .int .i64 To, .int .i64 A, .int .i64 B, .int .i64 K, .slice la ll lc], .int .i64 S] w fun e w' => e = .returned (.bool (slotsB ⟨Op, To, A, B, K, ls⟩ S)) ∧ Below w.heap.size w w' := by
  have hP := PBox.new w Op To A B K la ll lc
  have hb0 := below_box (Below.refl w.heap.size w) (.cells #[.int .i64 Op, .int .i64 To, .int .i64 A, .int .i64 B, .int .i64 K, .slice la ll lc] 72)
  have ht := fun wx => takes_any Op To A B K la ll lc ls wx
  have hs := fun n wx => isSlot_any n S wx hS
  have hl2 := takesP_len ⟨Op, To, A, B, K, ls⟩
  unfold slotsB
  generalize takesP ⟨Op, To, A, B, K, ls⟩ = ts at *
  dsimp only
  go_enter Tryz.func100, Tryz.ntmps100
  go_wp2_with fail
  refine (ht _).mono ?_
  rintro e w2 ⟨a, cap, rfl, hI, hb⟩
  obtain ⟨_, c0, c1, c2, c3, c4, c5⟩ := hP.below hb
  have hb2 := below_step hb0 hb
  clear ht hb hb0 hP
  go_wp2
  go_loop [10] (fun i => ∃ k : Nat, k ≤ ts.length ∧ i = .int .i64 k ∧ (ts.take k).all (fun s => slotB s S) = true) (fun i => ts.length - (intOf i).toNat)
  case atStart => exact ⟨0, Nat.zero_le _, rfl, rfl⟩
  case round =>
    obtain ⟨k, hk, rfl, hall⟩ := hrel
    by_cases hlt : k < ts.length
    · obtain ⟨b, off, rfl, hcx⟩ := hI.nth hlt
      have n1 := all_succG (fun s => slotB s S) 0 ts k hlt hall
      have n2 := all_notG (fun s => slotB s S) 0 ts k hlt
      generalize ts.getD k 0 = n at hcx n1 n2
      by_cases hn : slotB n S = true
      · have N1 : Hid ((ts.take (k + 1)).all (fun s => slotB s S) = true) := n1 hn
        clear n1 n2 hall
        go_wp2_with (go_at_call 98; refine (hs _ _).mono ?_; rintro e w' ⟨rfl, rfl⟩)
        go_round
        case rel => exact ⟨k + 1, by omega, by go_num, N1.out⟩
        case measure => simp [intOf]; omega
      · have hn' := eq_false_of_ne_true hn
        have N2 := n2 hn'
        clear n1 n2 hall hn
        go_wp2_with (go_at_call 98; refine (hs _ _).mono ?_; rintro e w' ⟨rfl, rfl⟩)
        go_ret
        exact ⟨by first | rfl | (rw [N2]; rfl), hb2⟩
    · have hx : ts.all (fun s => slotB s S) = true := by rw [List.take_of_length_le (by omega)] at hall; exact hall
      clear hall
      go_wp2_with (go_at_call 98; refine (hs _ _).mono ?_; rintro e w' ⟨rfl, rfl⟩)
      go_ret
      exact ⟨by first | rfl | (rw [hx]; rfl), hb2⟩
theorem takesOwn_any (Op To A B K : Int) (la : Option Addr) (ll lc : Nat) (ls : List Lt) (w : World) : Calls Tryz.prog 104 #[.agg #[.int .i64 Op, .int .i64 To, .int .i64 A, .int .i64 B, .int .i64 K, .slice la ll lc]] w fun e w' => e = .returned (.bool (ownB ⟨Op, To, A, B, K, ls⟩)) ∧ Below w.heap.size w w' := by
  have hP := PBox.new w Op To A B K la ll lc
  have hb0 := below_box (Below.refl w.heap.size w) (.cells #[.int .i64 Op, .int .i64 To, .int .i64 A, .int .i64 B, .int .i64 K, .slice la ll lc] 72)
  have ht := fun wx => takes_any Op To A B K la ll lc ls wx
  have hl2 := takesP_len ⟨Op, To, A, B, K, ls⟩
  unfold ownB
  generalize takesP ⟨Op, To, A, B, K, ls⟩ = ts at *
  dsimp only
  go_enter Tryz.func104, Tryz.ntmps104
  go_wp2_with fail
  refine (ht _).mono ?_
  rintro e w2 ⟨a, cap, rfl, hI, hb⟩
  obtain ⟨_, c0, c1, c2, c3, c4, c5⟩ := hP.below hb
  have hb2 := below_step hb0 hb
  clear ht hb hb0 hP
  go_wp2
  go_loop [8] (fun i => ∃ k : Nat, k ≤ ts.length ∧ i = .int .i64 k ∧ (ts.take k).any (fun s => decide (s = To)) = false) (fun i => ts.length - (intOf i).toNat)
  case atStart => exact ⟨0, Nat.zero_le _, rfl, rfl⟩
  case round =>
    obtain ⟨k, hk, rfl, hall⟩ := hrel
    by_cases hlt : k < ts.length
    · obtain ⟨b, off, rfl, hcx⟩ := hI.nth hlt
      have n1 := any_succG (fun s => decide (s = To)) 0 ts k hlt hall
      have n2 := any_yesG (fun s => decide (s = To)) 0 ts k hlt
      generalize ts.getD k 0 = n at hcx n1 n2
      by_cases hn : n = To
      · have N2 := n2 (by simpa using hn)
        clear n1 n2 hall
        go_wp2
        go_ret
        exact ⟨by first | rfl | (rw [N2]; rfl), hb2⟩
      · have N1 : Hid ((ts.take (k + 1)).any (fun s => decide (s = To)) = false) := n1 (by simpa using hn)
        clear n1 n2 hall
        go_wp2
        go_round
        case rel => exact ⟨k + 1, by omega, by go_num, N1.out⟩
        case measure => simp [intOf]; omega
    · have hx : ts.any (fun s => decide (s = To)) = false := by rw [List.take_of_length_le (by omega)] at hall; exact hall
      clear hall
      go_wp2
      go_ret
      exact ⟨by first | rfl | (rw [hx]; rfl), hb2⟩
end Go.Proofs.YtaenpgdmiaekcaaGreatDoor
/-
  PASS: frame.checkPass and frame.checkBounds.
-/
namespace Go.Proofs.YtaenpgdmiaekcaaGreatDoor
set_option maxRecDepth 100000
open Go.RowKit Im

theorem checkBounds_any (W H S O : Int) (a : Option Addr) (len cap : Nat) (ps : List Ps) (w : World) (hl : ps.length = len) (_hbig : len ≤ 9223372036854775807) : Calls Tryz.prog 61 #[.agg #[.int .i64 W, .int .i64 H, .int .i64 S, .int .i64 O, .slice a len cap]] w fun e w' => e = .returned (.int .i64 (boundsE ⟨W, H, S, O, ps⟩)) ∧ Below w.heap.size w w' := by
  have hb0 := below_box (Below.refl w.heap.size w) (.cells #[.int .i64 W, .int .i64 H, .int .i64 S, .int .i64 O, .slice a len cap] 35)
  have hw := fun n a b wx => fwithin_any n a b wx
  unfold boundsE
  dsimp only
  rw [hl]
  by_cases h1 : sideB W = true
  · have h1' : withinB W 1 16 = true := h1
    by_cases h2 : sideB H = true
    · have h2' : withinB H 1 16 = true := h2
      by_cases h3 : withinB S 1 8 = true
      · have hs := fun n wx => isSlot_any n S wx (by simp [withinB] at h3; exact h3)
        by_cases h4 : slotB O S = true
        · rw [if_pos ⟨h1, h2, h3, h4⟩]
          by_cases h5 : withinB (len : Int) 1 12 = true
          · rw [if_pos h5]
            clear h1 h2
            go_enter Tryz.func61, Tryz.ntmps61
            go_wp2_with (first | (go_at_call 97; refine (hw _ _ _ _).mono ?_; rintro e w' ⟨rfl, rfl⟩) | (go_at_call 98; refine (hs _ _).mono ?_; rintro e w' ⟨rfl, rfl⟩))
            go_ret
            exact ⟨rfl, hb0⟩
          · rw [if_neg h5]
            have h5' := eq_false_of_ne_true h5
            clear h1 h2 h5
            go_enter Tryz.func61, Tryz.ntmps61
            go_wp2_with (first | (go_at_call 97; refine (hw _ _ _ _).mono ?_; rintro e w' ⟨rfl, rfl⟩) | (go_at_call 98; refine (hs _ _).mono ?_; rintro e w' ⟨rfl, rfl⟩))
            go_ret
            exact ⟨rfl, hb0⟩
        · rw [if_neg (fun h => h4 h.2.2.2)]
          have h4' := eq_false_of_ne_true h4
          clear h1 h2 h4
          go_enter Tryz.func61, Tryz.ntmps61
          go_wp2_with (first | (go_at_call 97; refine (hw _ _ _ _).mono ?_; rintro e w' ⟨rfl, rfl⟩) | (go_at_call 98; refine (hs _ _).mono ?_; rintro e w' ⟨rfl, rfl⟩))
          go_ret
          exact ⟨rfl, hb0⟩
      · rw [if_neg (fun h => h3 h.2.2.1)]
        have h3' := eq_false_of_ne_true h3
        clear h1 h2 h3
        go_enter Tryz.func61, Tryz.ntmps61
        go_wp2_with (go_at_call 97; refine (hw _ _ _ _).mono ?_; rintro e w' ⟨rfl, rfl⟩)
        go_ret
        exact ⟨rfl, hb0⟩
    · rw [if_neg (fun h => h2 h.2.1)]
      have h2' : withinB H 1 16 = false := eq_false_of_ne_true h2
      clear h1 h2
      go_enter Tryz.func61, Tryz.ntmps61
      go_wp2_with (go_at_call 97; refine (hw _ _ _ _).mono ?_; rintro e w' ⟨rfl, rfl⟩)
      go_ret
      exact ⟨rfl, hb0⟩
  · rw [if_neg (fun h => h1 h.1)]
    have h1' : withinB W 1 16 = false := eq_false_of_ne_true h1
    clear h1
    go_enter Tryz.func61, Tryz.ntmps61
    go_wp2_with (go_at_call 97; refine (hw _ _ _ _).mono ?_; rintro e w' ⟨rfl, rfl⟩)
    go_ret
    exact ⟨rfl, hb0⟩
/-- The fields that a pass has, in a block of their own. -/
structure HBox (w : World) (b : Nat) (x0 x1 x2 x3 : Bool) : Prop where
  lt : b < w.heap.size
  c0 : w.cell? ⟨b, 0, none⟩ = some (.bool x0)
  c1 : w.cell? ⟨b, 1, none⟩ = some (.bool x1)
  c2 : w.cell? ⟨b, 2, none⟩ = some (.bool x2)
  c3 : w.cell? ⟨b, 3, none⟩ = some (.bool x3)
theorem HBox.below {w w' : World} {b : Nat} {x0 x1 x2 x3 : Bool} (h : HBox w b x0 x1 x2 x3) (hb : Below w.heap.size w w') : HBox w' b x0 x1 x2 x3 :=
  ⟨Nat.lt_of_lt_of_le h.lt hb.size, (hb.cell (p := ⟨b, 0, none⟩) h.lt).trans h.c0, (hb.cell (p := ⟨b, 1, none⟩) h.lt).trans h.c1, (hb.cell (p := ⟨b, 2, none⟩) h.lt).trans h.c2, (hb.cell (p := ⟨b, 3, none⟩) h.lt).trans h.c3⟩
theorem HBox.new (w : World) (x0 x1 x2 x3 : Bool) : HBox (w.alloc (.cells #[.bool x0, .bool x1, .bool x2, .bool x3] 170)) w.heap.size x0 x1 x2 x3 :=
  ⟨by simp, by simp [go_sem], by simp [go_sem], by simp [go_sem], by simp [go_sem]⟩
theorem Lights.alloc' {w : World} {a : Option Addr} {len : Nat} {ls : List Lt} (h : Lights w a len ls) (o : Obj) : Lights (w.alloc o) a len ls := h.below ((Below.refl _ _).alloc (Nat.le_refl _) _)

set_option maxHeartbeats 1000000 in
theorem checkPass_any (Op To A B K : Int) (la : Option Addr) (ll lc : Nat) (ls : List Lt) (S : Int) (w : World) (hS : 1 ≤ S ∧ S ≤ 8) (h : Lights w la ll ls) : Calls Tryz.prog 62 #[.agg #[.int .i64 Op, .int .i64 To, .int .i64 A, .int .i64 B, .int .i64 K, .slice la ll lc], .int .i64 S] w fun e w' => e = .returned (.int .i64 (ownE ⟨Op, To, A, B, K, ls⟩ S)) ∧ Below w.heap.size w w' := by
  have hP := PBox.new w Op To A B K la ll lc
  have hb0 := below_box (Below.refl w.heap.size w) (.cells #[.int .i64 Op, .int .i64 To, .int .i64 A, .int .i64 B, .int .i64 K, .slice la ll lc] 72)
  have hL := h.alloc' (.cells #[.int .i64 Op, .int .i64 To, .int .i64 A, .int .i64 B, .int .i64 K, .slice la ll lc] 72)
  have hf := fun wx => fieldsOf_any Op wx
  have hh := fun wx => hasSlots_any Op To A B K la ll lc ls S wx hS
  have hk := fun wx => isK_any Op K wx
  have hc := fun wx (hx : Lights wx la ll ls) => checkL_any lc hx
  have hbr := fun wx => isBare_any Op To A B K la ll lc ls wx h.leng h.big
  have how := fun wx => takesOwn_any Op To A B K la ll lc ls wx
  unfold ownE
  dsimp only
  generalize slotsB ⟨Op, To, A, B, K, ls⟩ S = sl at *
  generalize bareB ⟨Op, To, A, B, K, ls⟩ = br at *
  generalize ownB ⟨Op, To, A, B, K, ls⟩ = ow at *
  generalize kB Op K = kb at *
  generalize lightsErr ls = le at *
  generalize hasA Op = xa at *
  generalize hasB Op = xb at *
  generalize hasK Op = xk at *
  generalize hasL Op = xl at *
  generalize knownB Op = kn at *
  go_enter Tryz.func62, Tryz.ntmps62
  go_wp2_with fail
  refine (hf _).mono ?_
  rintro e w1 ⟨rfl, b1⟩
  replace hP := (hP.below b1).alloc (.cells #[.bool xa, .bool xb, .bool xk, .bool xl] 170)
  have hH := HBox.new w1 xa xb xk xl
  replace hL := (hL.below b1).alloc' (.cells #[.bool xa, .bool xb, .bool xk, .bool xl] 170)
  replace hb0 := below_box (below_step hb0 b1) (.cells #[.bool xa, .bool xb, .bool xk, .bool xl] 170)
  obtain ⟨_, p0, p1, p2, p3, p4, p5⟩ := id hP
  cases kn
  · go_wp2
    go_ret
    exact ⟨rfl, hb0⟩
  · go_wp2_with fail
    refine (hh _).mono ?_
    rintro e w2 ⟨rfl, b2⟩
    replace hP := hP.below b2
    replace hH := hH.below b2
    replace hL := hL.below b2
    replace hb0 := below_step hb0 b2
    clear p0 p1 p2 p3 p4 p5
    obtain ⟨_, p0, p1, p2, p3, p4, p5⟩ := id hP
    obtain ⟨_, k0, k1, k2, k3⟩ := id hH
    clear hf hh b1 b2
    cases sl
    · go_wp2_with (go_at_call 101; refine (hk _).mono ?_; rintro e w' ⟨rfl, rfl⟩)
      go_ret
      exact ⟨rfl, hb0⟩
    · cases xk
      · cases xl
        · go_wp2_with (go_at_call 101; refine (hk _).mono ?_; rintro e w' ⟨rfl, rfl⟩)
          refine (hbr _).mono ?_
          rintro e w4 ⟨rfl, b4⟩
          replace hP := hP.below b4
          replace hb0 := below_step hb0 b4
          clear p0 p1 p2 p3 p4 p5 k0 k1 k2 k3
          obtain ⟨_, p0, p1, p2, p3, p4, p5⟩ := id hP
          cases br
          · go_wp2
            go_ret
            exact ⟨rfl, hb0⟩
          · go_wp2_with fail
            refine (how _).mono ?_
            rintro e w5 ⟨rfl, b5⟩
            replace hb0 := below_step hb0 b5
            cases ow
            · go_wp2
              go_ret
              exact ⟨rfl, hb0⟩
            · go_wp2
              go_ret
              exact ⟨rfl, hb0⟩
        · go_wp2_with (go_at_call 101; refine (hk _).mono ?_; rintro e w' ⟨rfl, rfl⟩)
          refine (hc _ hL).mono ?_
          rintro e w3 ⟨rfl, b3⟩
          replace hP := hP.below b3
          replace hH := hH.below b3
          replace hb0 := below_step hb0 b3
          clear p0 p1 p2 p3 p4 p5 k0 k1 k2 k3
          obtain ⟨_, p0, p1, p2, p3, p4, p5⟩ := id hP
          obtain ⟨_, k0, k1, k2, k3⟩ := id hH
          by_cases hle : le = 0
          · subst hle
            go_wp2_with fail
            refine (hbr _).mono ?_
            rintro e w4 ⟨rfl, b4⟩
            replace hP := hP.below b4
            replace hb0 := below_step hb0 b4
            clear p0 p1 p2 p3 p4 p5 k0 k1 k2 k3
            obtain ⟨_, p0, p1, p2, p3, p4, p5⟩ := id hP
            cases br
            · go_wp2
              go_ret
              exact ⟨rfl, hb0⟩
            · go_wp2_with fail
              refine (how _).mono ?_
              rintro e w5 ⟨rfl, b5⟩
              replace hb0 := below_step hb0 b5
              cases ow
              · go_wp2
                go_ret
                exact ⟨rfl, hb0⟩
              · go_wp2
                go_ret
                exact ⟨rfl, hb0⟩
          · go_wp2
            go_ret
            exact ⟨rfl, hb0⟩
      · cases kb
        · go_wp2_with (go_at_call 101; refine (hk _).mono ?_; rintro e w' ⟨rfl, rfl⟩)
          go_ret
          exact ⟨rfl, hb0⟩
        · cases xl
          · go_wp2_with (go_at_call 101; refine (hk _).mono ?_; rintro e w' ⟨rfl, rfl⟩)
            refine (hbr _).mono ?_
            rintro e w4 ⟨rfl, b4⟩
            replace hP := hP.below b4
            replace hb0 := below_step hb0 b4
            clear p0 p1 p2 p3 p4 p5 k0 k1 k2 k3
            obtain ⟨_, p0, p1, p2, p3, p4, p5⟩ := id hP
            cases br
            · go_wp2
              go_ret
              exact ⟨rfl, hb0⟩
            · go_wp2_with fail
              refine (how _).mono ?_
              rintro e w5 ⟨rfl, b5⟩
              replace hb0 := below_step hb0 b5
              cases ow
              · go_wp2
                go_ret
                exact ⟨rfl, hb0⟩
              · go_wp2
                go_ret
                exact ⟨rfl, hb0⟩
          · go_wp2_with (go_at_call 101; refine (hk _).mono ?_; rintro e w' ⟨rfl, rfl⟩)
            refine (hc _ hL).mono ?_
            rintro e w3 ⟨rfl, b3⟩
            replace hP := hP.below b3
            replace hH := hH.below b3
            replace hb0 := below_step hb0 b3
            clear p0 p1 p2 p3 p4 p5 k0 k1 k2 k3
            obtain ⟨_, p0, p1, p2, p3, p4, p5⟩ := id hP
            obtain ⟨_, k0, k1, k2, k3⟩ := id hH
            by_cases hle : le = 0
            · subst hle
              go_wp2_with fail
              refine (hbr _).mono ?_
              rintro e w4 ⟨rfl, b4⟩
              replace hP := hP.below b4
              replace hb0 := below_step hb0 b4
              clear p0 p1 p2 p3 p4 p5 k0 k1 k2 k3
              obtain ⟨_, p0, p1, p2, p3, p4, p5⟩ := id hP
              cases br
              · go_wp2
                go_ret
                exact ⟨rfl, hb0⟩
              · go_wp2_with fail
                refine (how _).mono ?_
                rintro e w5 ⟨rfl, b5⟩
                replace hb0 := below_step hb0 b5
                cases ow
                · go_wp2
                  go_ret
                  exact ⟨rfl, hb0⟩
                · go_wp2
                  go_ret
                  exact ⟨rfl, hb0⟩
            · go_wp2
              go_ret
              exact ⟨rfl, hb0⟩
end Go.Proofs.YtaenpgdmiaekcaaGreatDoor
/-
  COURS: lists of sizes in memory; frame.picked, frame.sizeOf, and what lies in which slot.
-/
namespace Go.Proofs.YtaenpgdmiaekcaaGreatDoor
set_option maxRecDepth 100000
open Go.RowKit Im

/-- A slice's elements are the sizes zs. -/
structure Zs (w : World) (a : Option Addr) (len : Nat) (zs : List Sz) : Prop where
  leng : zs.length = len
  big : len ≤ 9223372036854775807
  cells : zs = [] ∨ ∃ b off, a = some ⟨b, off, none⟩ ∧ b < w.heap.size ∧ ∀ j, j < len → w.cell? ⟨b, off + j * 2, none⟩ = some (.int .i64 (zs.getD j Sz.zero).1) ∧ w.cell? ⟨b, off + j * 2 + 1, none⟩ = some (.int .i64 (zs.getD j Sz.zero).2)
theorem Zs.below {w w' : World} {a : Option Addr} {len : Nat} {zs : List Sz} (h : Zs w a len zs) (hb : Below w.heap.size w w') : Zs w' a len zs := by
  refine ⟨h.leng, h.big, ?_⟩
  rcases h.cells with e | ⟨b, off, ha, hl, hc⟩
  · exact .inl e
  · refine .inr ⟨b, off, ha, Nat.lt_of_lt_of_le hl hb.size, fun j hj => ?_⟩
    obtain ⟨c0, c1⟩ := hc j hj
    exact ⟨(hb.cell (p := ⟨b, off + j * 2, none⟩) hl).trans c0, (hb.cell (p := ⟨b, off + j * 2 + 1, none⟩) hl).trans c1⟩
theorem Zs.nil (w : World) : Zs w none 0 [] := ⟨rfl, by omega, .inl rfl⟩
theorem Zs.nth {w : World} {a : Option Addr} {len : Nat} {zs : List Sz} (h : Zs w a len zs) {k : Nat} (hk : k < len) : ∃ b off, a = some ⟨b, off, none⟩ ∧ b < w.heap.size ∧ w.cell? ⟨b, off + k * 2, none⟩ = some (.int .i64 (zs.getD k Sz.zero).1) ∧ w.cell? ⟨b, off + k * 2 + 1, none⟩ = some (.int .i64 (zs.getD k Sz.zero).2) := by
  rcases h.cells with e | ⟨b, off, ha, hl, hc⟩
  · have := h.leng; subst e; simp at this; omega
  · exact ⟨b, off, ha, hl, hc k hk⟩
def zcells (zs : List Sz) : List Value := zs.flatMap fun z => [.int .i64 z.1, .int .i64 z.2]
theorem zcells_len (zs : List Sz) : (zcells zs).length = zs.length * 2 := by
  induction zs with
  | nil => rfl
  | cons z zs ih => simp only [zcells, List.flatMap_cons, List.length_append, List.length_cons, List.length_nil] at ih ⊢; rw [ih]; omega
theorem zcells_snoc (zs : List Sz) (z : Sz) : zcells (zs ++ [z]) = zcells zs ++ [.int .i64 z.1, .int .i64 z.2] := by simp [zcells]
theorem zcells_get (zs : List Sz) (j : Nat) (h : j < zs.length) : (zcells zs)[j * 2]? = some (.int .i64 (zs.getD j Sz.zero).1) ∧ (zcells zs)[j * 2 + 1]? = some (.int .i64 (zs.getD j Sz.zero).2) := by
  induction zs generalizing j with
  | nil => simp at h
  | cons z zs ih =>
    have e : zcells (z :: zs) = .int .i64 z.1 :: .int .i64 z.2 :: zcells zs := rfl
    cases j with
    | zero => rw [e]; exact ⟨rfl, rfl⟩
    | succ j =>
      have := ih j (by simpa using h)
      rw [e, show (j + 1) * 2 = j * 2 + 1 + 1 by omega]
      simpa using this
def OwnsZ (base : Nat) (w : World) (v : Value) (zs : List Sz) : Prop := w.ownsRow base 75 2 v zs.length (zcells zs)
theorem OwnsZ.zs {base : Nat} {w : World} {v : Value} {zs : List Sz} (h : OwnsZ base w v zs) (hb : zs.length ≤ 12) : ∃ a cap, v = .slice a zs.length cap ∧ Zs w a zs.length zs := by
  obtain ⟨h1, h2⟩ := h
  rcases h2 with ⟨rfl, h0⟩ | ⟨g, cap, cur, rfl, hg, hh, hc, hm, hs, ht⟩
  · have : zs = [] := by simpa using h0
    subst this
    exact ⟨none, 0, rfl, Zs.nil w⟩
  · refine ⟨_, cap, rfl, rfl, by omega, .inr ⟨g, 0, rfl, ?_, fun j hj => ?_⟩⟩
    · rcases Nat.lt_or_ge g w.heap.size with h | h
      · exact h
      · rw [Array.getElem?_eq_none h] at hh; cases hh
    · have hl := zcells_len zs
      have hg2 := zcells_get zs j hj
      have this := fun i hi => World.ownsRow.cellAt (base := base) (e := 75) (size := 2) ⟨h1, .inr ⟨g, cap, cur, rfl, hg, hh, hc, hm, hs, ht⟩⟩ i hi
      rw [Nat.zero_add, this (j * 2) (by omega), this (j * 2 + 1) (by omega)]
      exact hg2
theorem Tryz.infoSize : (Tryz.prog.info? 75).map (fun i => (i.zero, i.size, i.bytes)) = some (some (.agg #[.int .i64 0, .int .i64 0]), 2, 16) := by kernel_rfl
theorem cell_two_new (w : World) (v0 v1 : Value) (t : TypeId) : ∀ (j : Nat) (u : Value), [v0, v1][j]? = some u → (w.alloc (.cells #[v0, v1] t)).cell? ((⟨w.heap.size, 0, none⟩ : Addr).add j) = some u := by
  intro j u h
  have hj : j < 2 := by
    rcases Nat.lt_or_ge j 2 with h4 | h4
    · exact h4
    · rw [List.getElem?_eq_none (by simpa using h4)] at h; cases h
  match j, hj with
  | 0, _ => simp at h; subst h; simp [go_sem]
  | 1, _ => simp at h; subst h; simp [go_sem]
theorem OwnsZ.push {base : Nat} {w wx w1 : World} {v v' : Value} {zs : List Sz} {z : Sz} {B0 : World} {o : Obj} (h : OwnsZ base w v zs) (hb : Below base B0 w) (hB : base ≤ w.heap.size)
    (h' : w1.ownsRow base 75 2 v' (zs.length + 1) (zcells zs ++ [.int .i64 z.1, .int .i64 z.2])) (hx : wx = w.alloc o) (hg : wx.grownBy w1 v.ownBlock) : OwnsZ base w1 v' (zs ++ [z]) ∧ Below base B0 w1 := by
  subst hx
  refine ⟨by unfold OwnsZ; rw [zcells_snoc]; simpa using h', ?_⟩
  exact (hb.alloc hB o).grown hg (by simp; omega) (fun j hj => (World.ownsRow.lt (w := w) h j hj).1)
/-- The call's end tells the sizes zs, in a slice of its own. -/
def ToldZ (w : World) (zs : List Sz) (e : Ending) (w' : World) : Prop :=
  ∃ a cap, e = .returned (.slice a zs.length cap) ∧ Zs w' a zs.length zs ∧ Below w.heap.size w w'
theorem pickZ_succ (zs : List Sz) (is : List Int) (k : Nat) (hk : k < is.length) : pickZ zs (is.take (k + 1)) = pickZ zs (is.take k) ++ [zs.getD (is.getD k 0).toNat Sz.zero] := by
  unfold pickZ
  rw [List.take_succ_eq_append_getElem hk, List.map_append, List.getD_eq_getElem?_getD (l := is), List.getElem?_eq_getElem hk]
  rfl
set_option maxHeartbeats 1000000 in
/-- frame.picked, of sizes. -/
theorem pickedZ_any {a a' : Option Addr} {len len' : Nat} (cap cap' : Nat) {zs : List Sz} {is : List Int} {base : Nat} {w : World} (hz : Zs w a len zs) (hI : Ints base w a' len' is) (hin : ∀ i ∈ is, 0 ≤ i ∧ i < len) (hl : is.length ≤ 2) :
    Calls Tryz.prog 65 #[.slice a len cap, .slice a' len' cap'] w (ToldZ w (pickZ zs is)) := by
  obtain ⟨i0, hi, hz0, hz1, hz2⟩ := info_parts Tryz.infoSize
  have hlen := hI.leng
  subst hlen
  go_enter Tryz.func65, Tryz.ntmps65
  go_wp2
  go_loopw [5, 10] (fun v i wr => ∃ k : Nat, k ≤ is.length ∧ i = .int .i64 k ∧ OwnsZ w.heap.size wr v (pickZ zs (is.take k)) ∧ Below w.heap.size w wr) (fun _ i _ => is.length - (intOf i).toNat)
  case atStart => exact ⟨0, Nat.zero_le _, rfl, World.ownsRow_nil _ _ _ _, Below.refl _ _⟩
  case round =>
    obtain ⟨k, hk, rfl, hown, hb⟩ := hrel
    by_cases hlt : k < is.length
    · obtain ⟨b, off, rfl, hcx⟩ := (hI.below (Nat.le_refl _) hb).nth hlt
      have hr := hin _ (getD_mem hlt 0)
      have HS := pickZ_succ zs is k hlt
      generalize is.getD k 0 = n at hcx hr HS
      obtain ⟨m, rfl⟩ := Int.eq_ofNat_of_zero_le hr.1
      obtain ⟨b', off', rfl, _, d0, d1⟩ := (hz.below hb).nth (k := m) (by omega)
      rw [Int.toNat_natCast] at HS
      have HS' : Hid (pickZ zs (is.take (k + 1)) = pickZ zs (is.take k) ++ [zs.getD m Sz.zero]) := HS
      have hpl : (pickZ zs (is.take k)).length = k := by simp [pickZ]; omega
      have hsz := hb.size
      generalize zs.getD m Sz.zero = z at d0 d1 HS'
      obtain ⟨zw, zh⟩ := z
      dsimp only at d0 d1
      clear HS hin
      go_wp2_with (at_builtin; refine wpList_append_own _ rfl _ _ 63 rfl w.heap.size 75 i0 _ 2 16 Tryz.underlying63 hi hz0 hz1 hz2 rfl (by decide) _ _ _ rfl (World.ownsRow.alloc hown _) ⟨wr.heap.size, 0, none⟩ 1 1 [.int .i64 zw, .int .i64 zh] rfl rfl (cell_two_new _ _ _ _) (by intro u hu; simp at hu; rcases hu with rfl | rfl <;> rfl) (by rw [hpl]; unfold maxLen; omega) (by rw [hpl]; omega) (by simp; omega) ?_; intro v' w9 hown9 hgrow9 _)
      have RR := OwnsZ.push (z := (zw, zh)) hown hb hsz hown9 rfl hgrow9
      go_roundw
      case rel => exact ⟨k + 1, by omega, by go_num, by rw [HS'.out]; exact RR.1, RR.2⟩
      case measure => simp [intOf]; omega
    · have hke : k = is.length := by omega
      subst hke
      rw [List.take_length] at hown
      have hpl : (pickZ zs is).length = is.length := by simp [pickZ]
      obtain ⟨sa, scap, rfl, hZ⟩ := hown.zs (by omega)
      go_wp2
      go_ret
      exact ⟨sa, scap, rfl, hZ, hb⟩
end Go.Proofs.YtaenpgdmiaekcaaGreatDoor
/-
  APART: numbers alone: stretches that lie apart in 0 .. N-1 are together at most N long.
-/
namespace Go.Proofs.YtaenpgdmiaekcaaGreatDoor
set_option maxRecDepth 100000

end Go.Proofs.YtaenpgdmiaekcaaGreatDoor
/-
  PLANN: numbers alone: at which step of an order a pass is done.
-/
namespace Go.Proofs.YtaenpgdmiaekcaaGreatDoor
set_option maxRecDepth 100000

/-- The step of a pass in an order; -1: none. -/
def stepAt : List Int → Int → Int
  | [], _ => -1
  | o :: l, p => if o = p then 0 else if stepAt l p < 0 then -1 else stepAt l p + 1
theorem stepAt_bd : ∀ (l : List Int) (p : Int), -1 ≤ stepAt l p ∧ stepAt l p < l.length
  | [], p => by simp [stepAt]
  | o :: l, p => by
    have ih := stepAt_bd l p
    unfold stepAt
    rw [List.length_cons]
    split
    · omega
    · split <;> omega
theorem stepAt_mem : ∀ {l : List Int} {p : Int}, 0 ≤ stepAt l p ↔ p ∈ l
  | [], p => by simp [stepAt]
  | o :: l, p => by
    have ih := stepAt_mem (l := l) (p := p)
    unfold stepAt
    by_cases h : o = p
    · subst h; simp
    · rw [if_neg h]
      have h' : ¬ p = o := fun e => h e.symm
      rw [List.mem_cons, or_iff_right h', ← ih]
      split <;> omega
theorem stepAt_get : ∀ {l : List Int} {p : Int}, 0 ≤ stepAt l p → l.getD (stepAt l p).toNat 0 = p
  | [], p, h => by simp [stepAt] at h
  | o :: l, p, h => by
    unfold stepAt at h ⊢
    by_cases ho : o = p
    · rw [if_pos ho]; simpa using ho
    · rw [if_neg ho] at h ⊢
      by_cases hn : stepAt l p < 0
      · rw [if_pos hn] at h; omega
      · rw [if_neg hn]
        have ih := stepAt_get (l := l) (p := p) (by omega)
        have e : (stepAt l p + 1).toNat = (stepAt l p).toNat + 1 := by omega
        rw [e, List.getD_cons_succ]
        exact ih
theorem stepAt_snoc : ∀ {l : List Int} {o : Int} (p : Int), o ∉ l → stepAt (l ++ [o]) p = if o = p then (l.length : Int) else stepAt l p
  | [], o, p, _ => by simp [stepAt]
  | x :: l, o, p, h => by
    rw [List.mem_cons, not_or] at h
    have ih := stepAt_snoc (l := l) (o := o) p h.2
    show (if x = p then (0 : Int) else if stepAt (l ++ [o]) p < 0 then -1 else stepAt (l ++ [o]) p + 1) = if o = p then (((x :: l).length : Nat) : Int) else (if x = p then (0 : Int) else if stepAt l p < 0 then -1 else stepAt l p + 1)
    rw [ih]
    by_cases hx : x = p
    · have ho : o ≠ p := fun e => h.1 (by rw [e, hx])
      rw [if_pos hx, if_neg ho, if_pos hx]
    · rw [if_neg hx]
      by_cases ho : o = p
      · rw [if_pos ho, if_pos ho, if_neg (by omega), List.length_cons]; push_cast; rfl
      · rw [if_neg ho, if_neg ho, if_neg hx]
/-- No pass is there twice: just then each is found where it stands. -/
theorem stepAt_self : ∀ {l : List Int}, l.Nodup → ∀ {i : Nat}, i < l.length → stepAt l (l.getD i 0) = i
  | [], _, i, h => by simp at h
  | x :: l, hn, 0, _ => by simp [stepAt]
  | x :: l, hn, i + 1, h => by
    rw [List.nodup_cons] at hn
    rw [List.length_cons] at h
    have hi : i < l.length := by omega
    have ih := stepAt_self hn.2 hi
    rw [List.getD_cons_succ]
    have hm : l.getD i 0 ∈ l := by rw [List.getD_eq_getElem?_getD, List.getElem?_eq_getElem hi]; exact List.getElem_mem hi
    have hx : x ≠ l.getD i 0 := fun e => hn.1 (by rw [e]; exact hm)
    unfold stepAt
    rw [if_neg hx, ih, if_neg (by omega)]
    omega
end Go.Proofs.YtaenpgdmiaekcaaGreatDoor
/-
  PLANM: numbers alone: when a plan is in order, its spans, its peak, its floor and whether images clash: as the program goes through them, and as the document says them.
-/
namespace Go.Proofs.YtaenpgdmiaekcaaGreatDoor
set_option maxRecDepth 100000

/-- What a plan is held against: how many passes there are, which each takes, which are needed, how many numbers each one's image has, and which one is shown. -/
structure Gp where
  N : Nat
  src : Nat → List Int
  kept : Nat → Bool
  ar : Nat → Int
  last : Int
/-- A right one. -/
structure Gp.Right (G : Gp) : Prop where
  hN : 1 ≤ G.N ∧ G.N ≤ 12
  src : ∀ k, k < G.N → ∀ s ∈ G.src k, 0 ≤ s ∧ s < k
  ar : ∀ k, k < G.N → 1 ≤ G.ar k ∧ G.ar k ≤ 256
  last : 0 ≤ G.last ∧ G.last < G.N
  kept : G.kept G.last.toNat = true

/-- p holds of all below n. -/
def allTo (p : Nat → Bool) : Nat → Bool
  | 0 => true
  | k + 1 => allTo p k && p k
theorem allTo_iff (p : Nat → Bool) : ∀ n, allTo p n = true ↔ ∀ k, k < n → p k = true
  | 0 => by simp [allTo]
  | n + 1 => by
    rw [allTo, Bool.and_eq_true, allTo_iff p n]
    constructor
    · intro ⟨h, h'⟩ k hk
      by_cases e : k = n
      · rw [e]; exact h'
      · exact h k (by omega)
    · intro h
      exact ⟨fun k hk => h k (by omega), h n (by omega)⟩
theorem allTo_succ {p : Nat → Bool} {k : Nat} (h : allTo p k = true) (h' : p k = true) : allTo p (k + 1) = true := by simp [allTo, h, h']
theorem allTo_not {p : Nat → Bool} {k n : Nat} (hk : k < n) (h : p k = false) : allTo p n = false := by
  rw [Bool.eq_false_iff]
  intro e
  have := (allTo_iff p n).1 e k hk
  rw [h] at this
  cases this
/-- As the program asks. -/
def onceP (os : List Int) (N k : Nat) : Bool := decide (0 ≤ os.getD k 0) && decide (os.getD k 0 < N) && decide (stepAt (os.take k) (os.getD k 0) < 0)
def onceB (os : List Int) (N : Nat) : Bool := allTo (onceP os N) os.length
def hasP (kept : Nat → Bool) (os : List Int) (k : Nat) : Bool := !kept k || decide (0 ≤ stepAt os k)
def hasAllB (kept : Nat → Bool) (os : List Int) (N : Nat) : Bool := allTo (hasP kept os) N
def behS (os : List Int) (step : Int) (l : List Int) (t : Nat) : Bool := decide (0 ≤ stepAt os (l.getD t 0)) && decide (stepAt os (l.getD t 0) ≤ step)
def behP (src : Nat → List Int) (os : List Int) (k : Nat) : Bool := decide (stepAt os k < 0) || allTo (behS os (stepAt os k) (src k)) (src k).length
def behB (src : Nat → List Int) (os : List Int) (N : Nat) : Bool := allTo (behP src os) N
def plcP (os pl : List Int) (k : Nat) : Bool := if 0 ≤ stepAt os k then decide (0 ≤ pl.getD k 0) && decide (pl.getD k 0 ≤ 4096) else decide (pl.getD k 0 = -1)
def plcB (os pl : List Int) (N : Nat) : Bool := decide (pl.length = N) && allTo (plcP os pl) N
def ordB (G : Gp) (os pl : List Int) : Bool := onceB os G.N && hasAllB G.kept os G.N && behB G.src os G.N && plcB os pl G.N
theorem getD_in {l : List Int} {k : Nat} (h : k < l.length) : l.getD k 0 ∈ l := by
  rw [List.getD_eq_getElem?_getD, List.getElem?_eq_getElem h]; exact List.getElem_mem h
theorem mem_getD {l : List Int} {x : Int} (h : x ∈ l) : ∃ k, k < l.length ∧ l.getD k 0 = x := by
  obtain ⟨k, hk, e⟩ := List.mem_iff_getElem.1 h
  exact ⟨k, hk, by rw [List.getD_eq_getElem?_getD, List.getElem?_eq_getElem hk]; exact e⟩
theorem once_to {os : List Int} {N : Nat} : ∀ {n : Nat}, n ≤ os.length → (allTo (onceP os N) n = true ↔ (∀ o ∈ os.take n, 0 ≤ o ∧ o < N) ∧ (os.take n).Nodup)
  | 0, _ => by simp [allTo]
  | n + 1, hn => by
    have ih := once_to (os := os) (N := N) (n := n) (by omega)
    have hl : n < os.length := by omega
    rw [allTo, Bool.and_eq_true, ih, List.take_succ_eq_append_getElem hl]
    have e : os.getD n 0 = os[n] := by rw [List.getD_eq_getElem?_getD, List.getElem?_eq_getElem hl]; rfl
    unfold onceP
    rw [e]
    simp only [Bool.and_eq_true, decide_eq_true_eq, List.mem_append, List.mem_singleton, List.nodup_append, List.nodup_cons, List.not_mem_nil, not_false_eq_true, List.nodup_nil, and_true, true_and]
    have hm : stepAt (os.take n) os[n] < 0 ↔ os[n] ∉ os.take n := by rw [← stepAt_mem]; omega
    rw [hm]
    constructor
    · rintro ⟨⟨h1, h2⟩, ⟨h3, h4⟩, h5⟩
      refine ⟨fun o ho => ?_, h2, fun a ha b hb => ?_⟩
      · rcases ho with ho | rfl
        · exact h1 o ho
        · exact ⟨h3, h4⟩
      · subst hb; intro e; subst e; exact h5 ha
    · rintro ⟨h1, h2, h3⟩
      exact ⟨⟨fun o ho => h1 o (.inl ho), h2⟩, h1 _ (.inr rfl), fun hm => h3 _ hm _ rfl rfl⟩
theorem onceB_iff {os : List Int} {N : Nat} : onceB os N = true ↔ (∀ o ∈ os, 0 ≤ o ∧ o < N) ∧ os.Nodup := by
  have := once_to (os := os) (N := N) (n := os.length) (Nat.le_refl _)
  rwa [List.take_length] at this
/-- Different passes among N: N at most. -/
theorem nodup_len : ∀ (N : Nat) (l : List Int), l.Nodup → (∀ x ∈ l, 0 ≤ x ∧ x < N) → l.length ≤ N
  | 0, l, _, h => by
    cases l with
    | nil => simp
    | cons x l => have := h x (List.mem_cons_self ..); omega
  | N + 1, l, hn, h => by
    have ih := nodup_len N (l.filter fun x => !decide (x = (N : Int))) (hn.filter _) (fun x hx => by
      obtain ⟨h1, h2⟩ := List.mem_filter.1 hx
      have := h x h1
      simp at h2
      omega)
    have h2 : ∀ (l : List Int), l.Nodup → l.length ≤ (l.filter fun x => !decide (x = (N : Int))).length + 1 := by
      intro l hl
      induction l with
      | nil => simp
      | cons y l ih =>
        rw [List.nodup_cons] at hl
        by_cases hy : y = (N : Int)
        · have : (l.filter fun x => !decide (x = (N : Int))) = l := by
            rw [List.filter_eq_self]
            intro x hx
            have : x ≠ (N : Int) := fun e => hl.1 (by rw [hy, ← e]; exact hx)
            simpa using this
          simp [hy, this]
        · have := ih hl.2
          simp [hy]
          exact this
    have := h2 l hn
    omega
end Go.Proofs.YtaenpgdmiaekcaaGreatDoor
