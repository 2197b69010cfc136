/- Acc, MakeRef, Begun, Begun2, Small, Pass, Cours: joined, in this order. -/
import Derived.Test.YtihliofhhjjeaaaGreatM03
import Derived.Test.YtihliofhhjjeaaaGreatM04
import Derived.Maps.AppendAt
set_option maxRecDepth 100000
namespace Go.Proofs.YtihliofhhjjeaaaGreat
open Go.RowKit Im
structure Acc (c : Nat) (w0 wr : World) (W H : Int) (v : Value) (qs : List Int) : Prop where
  own : Owns (c + 1) wr v qs
  blk : wr.heap[c]? = some (.cells #[.int .i64 W, .int .i64 H, v] 31 (0, 0))
  bel : Below c w0 wr
  siz : c < wr.heap.size
theorem owns_slice {base e size n : Nat} {w : World} {v : Value} {xs : List Value} (h : w.ownsRow base e size v n xs) : ∃ a cap, v = .slice a n cap := by
  rcases h.2 with ⟨rfl, rfl⟩ | ⟨g, cap, cur, rfl, _⟩
  · exact ⟨none, 0, rfl⟩
  · exact ⟨_, cap, rfl⟩
theorem Acc.start (w1 : World) (c : Nat) (W H : Int) (hc : c = w1.heap.size) : Acc c (w1.alloc (.cells #[.int .i64 W, .int .i64 H, .slice none 0 0] 31)) (w1.alloc (.cells #[.int .i64 W, .int .i64 H, .slice none 0 0] 31)) W H (.slice none 0 0) [] := by
  subst hc
  refine ⟨World.ownsRow_nil _ _ _ _, ?_, Below.refl _ _, by simp⟩
  show (w1.heap.push _)[w1.heap.size]? = _
  simp
theorem Acc.ints {c : Nat} {w0 wr : World} {W H : Int} {v : Value} {qs : List Int} (h : Acc c w0 wr W H v qs) (hb : qs.length ≤ 9223372036854775807) : ∃ a cap, v = .slice a qs.length cap ∧ Ints (c + 1) wr a qs.length qs := h.own.ints hb
theorem Acc.cells {c : Nat} {w0 wr : World} {W H : Int} {v : Value} {qs : List Int} (h : Acc c w0 wr W H v qs) :
    wr.cell? ⟨c, 0, none⟩ = some (.int .i64 W) ∧ wr.cell? ⟨c, 1, none⟩ = some (.int .i64 H) ∧ wr.cell? ⟨c, 2, none⟩ = some v ∧ (∀ o, wr.frozen? ⟨c, o, none⟩ = false) := by
  refine ⟨?_, ?_, ?_, fun o => ?_⟩
  all_goals simp [World.cell?, World.frozen?, h.blk]
theorem Acc.below {c : Nat} {w0 wr w2 : World} {W H : Int} {v : Value} {qs : List Int} (h : Acc c w0 wr W H v qs) (hb : Below wr.heap.size wr w2) : Acc c w0 w2 W H v qs :=
  ⟨h.own.below hb (Nat.le_refl _), (hb.block c h.siz).trans h.blk, h.bel.trans (hb.mono (Nat.le_of_lt h.siz)), Nat.lt_of_lt_of_le h.siz hb.size⟩
theorem Acc.mid {c : Nat} {w0 w2 w3 : World} {W H : Int} {v : Value} {qs : List Int} {o : Obj} (h : Acc c w0 w2 W H v qs) (hg : (w2.alloc o).grownBy w3 v.ownBlock) :
    w3.heap[c]? = some (.cells #[.int .i64 W, .int .i64 H, v] 31 (0, 0)) ∧ w3.cell? ⟨c, 2, none⟩ = some v ∧ w3.frozen? ⟨c, 2, none⟩ = false := by
  have e : w3.heap[c]? = some (.cells #[.int .i64 W, .int .i64 H, v] 31 (0, 0)) := by
    rw [hg.block c (by have := h.siz; simp; omega) (fun e => by have := (World.ownsRow.lt (w := w2) h.own c e.symm).1; omega), Below.heap_alloc _ _ _ h.siz, h.blk]
  refine ⟨e, ?_, ?_⟩
  all_goals simp [World.cell?, World.frozen?, e]
theorem Acc.push {c : Nat} {w0 w2 w3 : World} {W H : Int} {v v' : Value} {qs : List Int} {x : Int} {o : Obj} (h : Acc c w0 w2 W H v qs) (hg : (w2.alloc o).grownBy w3 v.ownBlock)
    (h' : w3.ownsRow (c + 1) 3 1 v' (qs.length + 1) (qs.map (Value.int .i64) ++ [.int .i64 x])) : Acc c w0 (w3.setCell ⟨c, 2, none⟩ v') W H v' (qs ++ [x]) := by
  have hs : c < w3.heap.size := by have h1 := h.siz; have h2 := hg.size; simp at h2; omega
  refine ⟨?_, ?_, ?_, by simpa [World.setCell] using hs⟩
  · exact ownsRow_setCell_below (show w3.ownsRow (c + 1) 3 1 v' (qs ++ [x]).length ((qs ++ [x]).map (Value.int .i64)) by simpa using h') (by simp) _
  · simp [World.setCell, Array.getElem?_modify, (h.mid hg).1]
  · exact (((h.bel.alloc (Nat.le_of_lt h.siz) o).grown hg (by have := h.siz; simp; omega) (fun k hk => by have := (World.ownsRow.lt (w := w2) h.own k hk).1; omega))).setCell (Nat.le_refl _) _
end Go.Proofs.YtihliofhhjjeaaaGreat
namespace Go.Proofs.YtihliofhhjjeaaaGreat
open Go.RowKit Im
set_option maxHeartbeats 1000000 in
theorem makeOf_any (op : Int) (W H : Nat) (k : Int) (w : World) (h : op = 1 ∨ op = 2) (hW : 1 ≤ W ∧ W ≤ 16) (hH : 1 ≤ H ∧ H ≤ 16) (hk : 0 ≤ k ∧ k ≤ 65535) :
    Calls Tryz.prog 121 #[.int .i64 op, .int .i64 W, .int .i64 H, .int .i64 k] w fun e w' =>
      ∃ a cap, e = .returned (.agg #[.int .i64 W, .int .i64 H, .slice a (W * H) cap]) ∧ Ints w.heap.size w' a (W * H) (pix W (makeG op k) (W * H)) ∧ Below w.heap.size w w' := by
  obtain ⟨i0, hi, hz0, hz1, hz2⟩ := info_parts Tryz.info3
  have hWH : 1 ≤ (W : Int) * H ∧ (W : Int) * H ≤ 256 := side_mul (by simp [sideB]; omega) (by simp [sideB]; omega)
  have hWN : W * H ≤ 256 := by have := hWH.2; rw [← Int.natCast_mul] at this; omega
  clear hWH
  have hG1 : ∀ x y, makeG 1 k x y = k := fun x y => rfl
  have hG2 : ∀ x y : Nat, makeG 2 k x y = ((x : Int) * k + y) % 65536 := fun x y => rfl
  rcases h with rfl | rfl
  · go_enter Tryz.func121, Tryz.ntmps121
    go_wp2
    go_loopw [10] (fun i wr => ∃ (y : Nat) (v : Value), y ≤ H ∧ i = .int .i64 y ∧ Acc (w.heap.size + 1) ((w.alloc (.cells #[.int .i64 0, .int .i64 0, .slice none 0 0] 31)).alloc (.cells #[.int .i64 W, .int .i64 H, .slice none 0 0] 31)) wr W H v (pix W (makeG 1 k) (y * W))) (fun i _ => H - (intOf i).toNat)
    case atStart => exact ⟨0, .slice none 0 0, Nat.zero_le _, rfl, by rw [Nat.zero_mul]; exact Acc.start _ _ _ _ (by simp)⟩
    case round =>
      obtain ⟨y, v, hy, rfl, hacc⟩ := hrel
      by_cases hlt : y < H
      · go_wp2
        go_loopw [11] (fun i ws => ∃ (x : Nat) (v : Value), x ≤ W ∧ i = .int .i64 x ∧ Acc (w.heap.size + 1) ((w.alloc (.cells #[.int .i64 0, .int .i64 0, .slice none 0 0] 31)).alloc (.cells #[.int .i64 W, .int .i64 H, .slice none 0 0] 31)) ws W H v (pix W (makeG 1 k) (y * W + x))) (fun i _ => W - (intOf i).toNat)
        case atStart => exact ⟨0, v, Nat.zero_le _, rfl, hacc⟩
        case round =>
          obtain ⟨x, v2, hx, rfl, hacs⟩ := hrel
          by_cases hlx : x < W
          · obtain ⟨c0, c1, c2, cf⟩ := hacs.cells
            have hsz := hacs.siz
            have hpl : y * W + x < W * H := place_lt hlx hlt
            have hlen : (pix W (makeG 1 k) (y * W + x)).length = y * W + x := pix_length _ _ _
            have hm1 : 0 ≤ (x : Int) * k := Int.mul_nonneg (by omega) hk.1
            have hm2 : (x : Int) * k ≤ 16 * 65535 := Int.mul_le_mul (by omega) hk.2 hk.1 (by omega)
            clear hG1 hG2 hacc
            go_wp2_with (at_builtin; refine wpList_append_own _ rfl _ _ 25 rfl (w.heap.size + 1 + 1) 3 i0 (.int .i64 0) 1 8 Tryz.underlying25 hi hz0 hz1 hz2 rfl (by decide) _ _ _ rfl (World.ownsRow.alloc hacs.own _) ⟨wr.heap.size, 0, none⟩ 1 1 [.int .i64 k] rfl rfl (cell_one_new _ _ _) (by intro u hu; simp at hu; subst hu; rfl) (by rw [hlen]; unfold maxLen; omega) (by rw [hlen]; omega) (by simp; omega) ?_; intro v' w3 hown3 hgrow3 _; obtain ⟨hm, m2, m3⟩ := hacs.mid hgrow3; obtain ⟨a', cap', hv'⟩ := owns_slice hown3; subst hv')
            have R := hacs.push hgrow3 hown3
            rw [hlen] at R
            go_roundw
            case rel => exact ⟨x + 1, _, by omega, by go_num, by rw [← Nat.add_assoc, pix_succ W _ x y hlx, show makeG 1 k x y = k from rfl]; exact R⟩
            case measure => simp [intOf]; omega
          · have hxW : x = W := by omega
            subst hxW
            go_wp2
            go_roundw
            case rel => exact ⟨y + 1, v2, by omega, by go_num, by rw [Nat.add_mul, Nat.one_mul]; exact hacs⟩
            case measure => simp [intOf]; omega
      · have hyH : y = H := by omega
        subst hyH
        have hlen : (pix W (makeG 1 k) (y * W)).length = y * W := pix_length _ _ _
        obtain ⟨a, cap, rfl, hints⟩ := hacc.ints (by rw [hlen, Nat.mul_comm]; omega)
        obtain ⟨c0, c1, c2, cf⟩ := hacc.cells
        have hsz := hacc.siz
        have d0 : wr.cell? ⟨w.heap.size, 0, none⟩ = some (.int .i64 0) := by rw [hacc.bel.cell (by simp)]; simp [go_sem]
        have d1 : wr.cell? ⟨w.heap.size, 1, none⟩ = some (.int .i64 0) := by rw [hacc.bel.cell (by simp)]; simp [go_sem]
        have d2 : wr.cell? ⟨w.heap.size, 2, none⟩ = some (.slice none 0 0) := by rw [hacc.bel.cell (by simp)]; simp [go_sem]
        have f0 : wr.frozen? ⟨w.heap.size, 0, none⟩ = false := by rw [hacc.bel.frozen (by simp)]; simp [go_sem]
        have f1 : wr.frozen? ⟨w.heap.size, 1, none⟩ = false := by rw [hacc.bel.frozen (by simp)]; simp [go_sem]
        have f2 : wr.frozen? ⟨w.heap.size, 2, none⟩ = false := by rw [hacc.bel.frozen (by simp)]; simp [go_sem]
        go_wp2
        rw [hlen, Nat.mul_comm] at hints
        refine bodyPost_ret (v := .agg #[.int .i64 W, .int .i64 y, .slice a (W * y) cap]) (by simp [results, Tryz.results121, go_sem, d0, d1, d2]; exact Nat.mul_comm _ _) rfl ⟨a, cap, rfl, ?_, ?_⟩
        · exact (((hints.setCell (by simp; omega) _).setCell (by simp; omega) _).setCell (by simp; omega) _).mono (by omega)
        · exact ((((((Below.refl _ _).alloc (Nat.le_refl _) _).alloc (by simp) _).trans (hacc.bel.mono (by omega))).setCell (by simp) _).setCell (by simp) _).setCell (by simp) _
  · go_enter Tryz.func121, Tryz.ntmps121
    go_wp2
    go_loopw [10] (fun i wr => ∃ (y : Nat) (v : Value), y ≤ H ∧ i = .int .i64 y ∧ Acc (w.heap.size + 1) ((w.alloc (.cells #[.int .i64 0, .int .i64 0, .slice none 0 0] 31)).alloc (.cells #[.int .i64 W, .int .i64 H, .slice none 0 0] 31)) wr W H v (pix W (makeG 2 k) (y * W))) (fun i _ => H - (intOf i).toNat)
    case atStart => exact ⟨0, .slice none 0 0, Nat.zero_le _, rfl, by rw [Nat.zero_mul]; exact Acc.start _ _ _ _ (by simp)⟩
    case round =>
      obtain ⟨y, v, hy, rfl, hacc⟩ := hrel
      by_cases hlt : y < H
      · go_wp2
        go_loopw [11] (fun i ws => ∃ (x : Nat) (v : Value), x ≤ W ∧ i = .int .i64 x ∧ Acc (w.heap.size + 1) ((w.alloc (.cells #[.int .i64 0, .int .i64 0, .slice none 0 0] 31)).alloc (.cells #[.int .i64 W, .int .i64 H, .slice none 0 0] 31)) ws W H v (pix W (makeG 2 k) (y * W + x))) (fun i _ => W - (intOf i).toNat)
        case atStart => exact ⟨0, v, Nat.zero_le _, rfl, hacc⟩
        case round =>
          obtain ⟨x, v2, hx, rfl, hacs⟩ := hrel
          by_cases hlx : x < W
          · obtain ⟨c0, c1, c2, cf⟩ := hacs.cells
            have hsz := hacs.siz
            have hpl : y * W + x < W * H := place_lt hlx hlt
            have hlen : (pix W (makeG 2 k) (y * W + x)).length = y * W + x := pix_length _ _ _
            have hm1 : 0 ≤ (x : Int) * k := Int.mul_nonneg (by omega) hk.1
            have hm2 : (x : Int) * k ≤ 16 * 65535 := Int.mul_le_mul (by omega) hk.2 hk.1 (by omega)
            obtain ⟨gx, hgx⟩ : ∃ gx, gx = makeG 2 k x y := ⟨_, rfl⟩
            have hgy : ((x : Int) * k + y) % 65536 = gx := by rw [hgx, hG2]
            have HG : Hid (gx = makeG 2 k x y) := hgx
            clear hgx hG1 hG2 hacc
            go_wp2_with (at_builtin; refine wpList_append_own _ rfl _ _ 25 rfl (w.heap.size + 1 + 1) 3 i0 (.int .i64 0) 1 8 Tryz.underlying25 hi hz0 hz1 hz2 rfl (by decide) _ _ _ rfl (World.ownsRow.alloc hacs.own _) ⟨wr.heap.size, 0, none⟩ 1 1 [.int .i64 gx] rfl rfl (cell_one_new _ _ _) (by intro u hu; simp at hu; subst hu; rfl) (by rw [hlen]; unfold maxLen; omega) (by rw [hlen]; omega) (by simp; omega) ?_; intro v' w3 hown3 hgrow3 _; obtain ⟨hm, m2, m3⟩ := hacs.mid hgrow3; obtain ⟨a', cap', hv'⟩ := owns_slice hown3; subst hv')
            have R := hacs.push hgrow3 hown3
            rw [hlen] at R
            go_roundw
            case rel => exact ⟨x + 1, _, by omega, by go_num, by rw [← Nat.add_assoc, pix_succ W _ x y hlx, ← HG.out]; exact R⟩
            case measure => simp [intOf]; omega
          · have hxW : x = W := by omega
            subst hxW
            go_wp2
            go_roundw
            case rel => exact ⟨y + 1, v2, by omega, by go_num, by rw [Nat.add_mul, Nat.one_mul]; exact hacs⟩
            case measure => simp [intOf]; omega
      · have hyH : y = H := by omega
        subst hyH
        have hlen : (pix W (makeG 2 k) (y * W)).length = y * W := pix_length _ _ _
        obtain ⟨a, cap, rfl, hints⟩ := hacc.ints (by rw [hlen, Nat.mul_comm]; omega)
        obtain ⟨c0, c1, c2, cf⟩ := hacc.cells
        have hsz := hacc.siz
        have d0 : wr.cell? ⟨w.heap.size, 0, none⟩ = some (.int .i64 0) := by rw [hacc.bel.cell (by simp)]; simp [go_sem]
        have d1 : wr.cell? ⟨w.heap.size, 1, none⟩ = some (.int .i64 0) := by rw [hacc.bel.cell (by simp)]; simp [go_sem]
        have d2 : wr.cell? ⟨w.heap.size, 2, none⟩ = some (.slice none 0 0) := by rw [hacc.bel.cell (by simp)]; simp [go_sem]
        have f0 : wr.frozen? ⟨w.heap.size, 0, none⟩ = false := by rw [hacc.bel.frozen (by simp)]; simp [go_sem]
        have f1 : wr.frozen? ⟨w.heap.size, 1, none⟩ = false := by rw [hacc.bel.frozen (by simp)]; simp [go_sem]
        have f2 : wr.frozen? ⟨w.heap.size, 2, none⟩ = false := by rw [hacc.bel.frozen (by simp)]; simp [go_sem]
        go_wp2
        rw [hlen, Nat.mul_comm] at hints
        refine bodyPost_ret (v := .agg #[.int .i64 W, .int .i64 y, .slice a (W * y) cap]) (by simp [results, Tryz.results121, go_sem, d0, d1, d2]; exact Nat.mul_comm _ _) rfl ⟨a, cap, rfl, ?_, ?_⟩
        · exact (((hints.setCell (by simp; omega) _).setCell (by simp; omega) _).setCell (by simp; omega) _).mono (by omega)
        · exact ((((((Below.refl _ _).alloc (Nat.le_refl _) _).alloc (by simp) _).trans (hacc.bel.mono (by omega))).setCell (by simp) _).setCell (by simp) _).setCell (by simp) _
end Go.Proofs.YtihliofhhjjeaaaGreat
namespace Go.Proofs.YtihliofhhjjeaaaGreat
open Go.RowKit Im
theorem Ints.alloc {base : Nat} {w : World} {a : Option Addr} {len : Nat} {ps : List Int} (h : Ints base w a len ps) (o : Obj) : Ints base (w.alloc o) a len ps := h.below (Nat.le_refl _) ((Below.refl _ _).alloc (Nat.le_refl _) _)
end Go.Proofs.YtihliofhhjjeaaaGreat
namespace Go.Proofs.YtihliofhhjjeaaaGreat
open Go.RowKit Im
theorem below_step {w a b : World} (h : Below w.heap.size w a) (k : Below a.heap.size a b) : Below w.heap.size w b := h.trans (k.mono h.size)
theorem below_box {w a : World} (h : Below w.heap.size w a) (o : Obj) : Below w.heap.size w (a.alloc o) := h.alloc h.size o
end Go.Proofs.YtihliofhhjjeaaaGreat
namespace Go.Proofs.YtihliofhhjjeaaaGreat
open Go.RowKit Im
theorem fwithin_any (n a b : Int) (w : World) : Calls Tryz.prog 97 #[.int .i64 n, .int .i64 a, .int .i64 b] w fun e w' => e = .returned (.bool (withinB n a b)) ∧ w = w' := by
  by_cases h1 : a ≤ n
  · by_cases h2 : n ≤ b
    · go_enter Tryz.func97, Tryz.ntmps97
      go_wp2
      go_ret
      exact ⟨by simp [withinB, h1, h2], rfl⟩
    · go_enter Tryz.func97, Tryz.ntmps97
      go_wp2
      go_ret
      exact ⟨by simp [withinB, h1, h2], rfl⟩
  · go_enter Tryz.func97, Tryz.ntmps97
    go_wp2
    go_ret
    exact ⟨by simp [withinB]; omega, rfl⟩
theorem isSlot_any (n S : Int) (w : World) (hS : 1 ≤ S ∧ S ≤ 8) : Calls Tryz.prog 98 #[.int .i64 n, .int .i64 S] w fun e w' => e = .returned (.bool (slotB n S)) ∧ w = w' := by
  have hw : IntKind.i64.wrap (S - 1) = S - 1 := by rw [IntKind.wrap_i64]; omega
  go_enter Tryz.func98, Tryz.ntmps98
  go_wp2_with (go_at_call 97; refine (fwithin_any _ _ _ _).mono ?_; rintro e w' ⟨rfl, rfl⟩)
  go_ret
  exact ⟨rfl, rfl⟩
theorem isK_any (op k : Int) (w : World) : Calls Tryz.prog 101 #[.int .i64 op, .int .i64 k] w fun e w' => e = .returned (.bool (kB op k)) ∧ w = w' := by
  unfold kB
  by_cases h1 : op = 9
  · subst h1
    go_enter Tryz.func101, Tryz.ntmps101
    go_wp2_with (go_at_call 97; refine (fwithin_any _ _ _ _).mono ?_; rintro e w' ⟨rfl, rfl⟩)
    go_ret
    exact ⟨rfl, rfl⟩
  · rw [if_neg h1]
    by_cases h2 : op = 13
    · subst h2
      go_enter Tryz.func101, Tryz.ntmps101
      go_wp2_with (go_at_call 97; refine (fwithin_any _ _ _ _).mono ?_; rintro e w' ⟨rfl, rfl⟩)
      go_ret
      exact ⟨rfl, rfl⟩
    · rw [if_neg h2]
      go_enter Tryz.func101, Tryz.ntmps101
      go_wp2_with (go_at_call 97; refine (fwithin_any _ _ _ _).mono ?_; rintro e w' ⟨rfl, rfl⟩)
      go_ret
      exact ⟨rfl, rfl⟩
theorem fieldsOf_any (op : Int) (w : World) : Calls Tryz.prog 99 #[.int .i64 op] w fun e w' => e = .returned (.tuple #[.agg #[.bool (hasA op), .bool (hasB op), .bool (hasK op), .bool (hasL op)], .bool (knownB op)]) ∧ Below w.heap.size w w' := by
  by_cases hk : knownB op = true
  · rcases op_cases hk with rfl | rfl | rfl | rfl | rfl | rfl | rfl | rfl | rfl | rfl | rfl | rfl | rfl
    all_goals
      clear hk
      go_enter Tryz.func99, Tryz.ntmps99
      go_wp2
      refine bodyPost_ret (by simp [results, Tryz.results99, go_sem]; decide) rfl ⟨rfl, (Below.refl _ _).alloc (Nat.le_refl _) _⟩
  · have hn : op < 1 ∨ 13 < op := by simp [knownB, withinB] at hk; omega
    have e1 : hasA op = false := by simp [hasA, withinB]; omega
    have e2 : hasB op = false := by simp [hasB, withinB]; omega
    have e3 : hasK op = false := by simp [hasK]; omega
    have e4 : hasL op = false := by simp [hasL]; omega
    rw [e1, e2, e3, e4, eq_false_of_ne_true hk]
    have n1 : ¬ op = 1 := by omega
    have n2 : ¬ op = 2 := by omega
    have n3 : ¬ op = 3 := by omega
    have n4 : ¬ op = 4 := by omega
    have n5 : ¬ op = 5 := by omega
    have n6 : ¬ op = 6 := by omega
    have n7 : ¬ op = 7 := by omega
    have n8 : ¬ op = 8 := by omega
    have n9 : ¬ op = 9 := by omega
    have n10 : ¬ op = 10 := by omega
    have n11 : ¬ op = 11 := by omega
    have n12 : ¬ op = 12 := by omega
    have n13 : ¬ op = 13 := by omega
    clear hn e1 e2 e3 e4 hk
    go_enter Tryz.func99, Tryz.ntmps99
    go_wp2
    refine bodyPost_ret (by simp [results, Tryz.results99, go_sem]) rfl ⟨rfl, (Below.refl _ _).alloc (Nat.le_refl _) _⟩
structure PBox (w : World) (b : Nat) (Op To A B K : Int) (la : Option Addr) (ll lc : Nat) : Prop where
  lt : b < w.heap.size
  c0 : w.cell? ⟨b, 0, none⟩ = some (.int .i64 Op)
  c1 : w.cell? ⟨b, 1, none⟩ = some (.int .i64 To)
  c2 : w.cell? ⟨b, 2, none⟩ = some (.int .i64 A)
  c3 : w.cell? ⟨b, 3, none⟩ = some (.int .i64 B)
  c4 : w.cell? ⟨b, 4, none⟩ = some (.int .i64 K)
  c5 : w.cell? ⟨b, 5, none⟩ = some (.slice la ll lc)
theorem PBox.below {w w' : World} {b : Nat} {Op To A B K : Int} {la : Option Addr} {ll lc : Nat} (h : PBox w b Op To A B K la ll lc) (hb : Below w.heap.size w w') : PBox w' b Op To A B K la ll lc :=
  ⟨Nat.lt_of_lt_of_le h.lt hb.size, (hb.cell (p := ⟨b, 0, none⟩) h.lt).trans h.c0, (hb.cell (p := ⟨b, 1, none⟩) h.lt).trans h.c1, (hb.cell (p := ⟨b, 2, none⟩) h.lt).trans h.c2, (hb.cell (p := ⟨b, 3, none⟩) h.lt).trans h.c3, (hb.cell (p := ⟨b, 4, none⟩) h.lt).trans h.c4, (hb.cell (p := ⟨b, 5, none⟩) h.lt).trans h.c5⟩
theorem PBox.alloc {w : World} {b : Nat} {Op To A B K : Int} {la : Option Addr} {ll lc : Nat} (h : PBox w b Op To A B K la ll lc) (o : Obj) : PBox (w.alloc o) b Op To A B K la ll lc := h.below ((Below.refl _ _).alloc (Nat.le_refl _) _)
theorem PBox.new (w : World) (Op To A B K : Int) (la : Option Addr) (ll lc : Nat) : PBox (w.alloc (.cells #[.int .i64 Op, .int .i64 To, .int .i64 A, .int .i64 B, .int .i64 K, .slice la ll lc] 62)) w.heap.size Op To A B K la ll lc :=
  ⟨by simp, by simp [go_sem], by simp [go_sem], by simp [go_sem], by simp [go_sem], by simp [go_sem], by simp [go_sem]⟩
structure FBox (w : World) (b : Nat) (W H S O : Int) (a : Option Addr) (len cap : Nat) : Prop where
  lt : b < w.heap.size
  c0 : w.cell? ⟨b, 0, none⟩ = some (.int .i64 W)
  c1 : w.cell? ⟨b, 1, none⟩ = some (.int .i64 H)
  c2 : w.cell? ⟨b, 2, none⟩ = some (.int .i64 S)
  c3 : w.cell? ⟨b, 3, none⟩ = some (.int .i64 O)
  c4 : w.cell? ⟨b, 4, none⟩ = some (.slice a len cap)
theorem FBox.below {w w' : World} {b : Nat} {W H S O : Int} {a : Option Addr} {len cap : Nat} (h : FBox w b W H S O a len cap) (hb : Below w.heap.size w w') : FBox w' b W H S O a len cap :=
  ⟨Nat.lt_of_lt_of_le h.lt hb.size, (hb.cell (p := ⟨b, 0, none⟩) h.lt).trans h.c0, (hb.cell (p := ⟨b, 1, none⟩) h.lt).trans h.c1, (hb.cell (p := ⟨b, 2, none⟩) h.lt).trans h.c2, (hb.cell (p := ⟨b, 3, none⟩) h.lt).trans h.c3, (hb.cell (p := ⟨b, 4, none⟩) h.lt).trans h.c4⟩
theorem FBox.alloc {w : World} {b : Nat} {W H S O : Int} {a : Option Addr} {len cap : Nat} (h : FBox w b W H S O a len cap) (o : Obj) : FBox (w.alloc o) b W H S O a len cap := h.below ((Below.refl _ _).alloc (Nat.le_refl _) _)
theorem FBox.new (w : World) (W H S O : Int) (a : Option Addr) (len cap : Nat) : FBox (w.alloc (.cells #[.int .i64 W, .int .i64 H, .int .i64 S, .int .i64 O, .slice a len cap] 24)) w.heap.size W H S O a len cap :=
  ⟨by simp, by simp [go_sem], by simp [go_sem], by simp [go_sem], by simp [go_sem], by simp [go_sem]⟩
theorem ints_mine {base : Nat} {w : World} (ps : List Int) (hb : base ≤ w.heap.size) (h : ps.length ≤ 9223372036854775807) : Ints base (w.alloc (.cells (ps.map (Value.int .i64)).toArray 3)) (some ⟨w.heap.size, 0, none⟩) ps.length ps := by
  refine ⟨rfl, h, .inr ⟨w.heap.size, 0, rfl, hb, by simp, fun j hj => ?_⟩, fun _ => .inr fun b off ha j _ => by injection ha with ha; injection ha with e1 e2; subst e1; have hh := (MapKept.heap_alloc w (.cells (ps.map (Value.int .i64)).toArray 3)).1; unfold World.frozen?; rw [hh]; simp⟩
  have : (w.alloc (.cells (ps.map (Value.int .i64)).toArray 3)).heap[w.heap.size]? = some (.cells (ps.map (Value.int .i64)).toArray 3 (0, 0)) := (MapKept.heap_alloc w _).1
  unfold World.cell?
  rw [this]
  simp [hj]
def ToldI (w : World) (ps : List Int) (e : Ending) (w' : World) : Prop :=
  ∃ a cap, e = .returned (.slice a ps.length cap) ∧ Ints w.heap.size w' a ps.length ps ∧ Below w.heap.size w w'
theorem takes_any (Op To A B K : Int) (la : Option Addr) (ll lc : Nat) (ls : List Lt) (w : World) : Calls Tryz.prog 105 #[.agg #[.int .i64 Op, .int .i64 To, .int .i64 A, .int .i64 B, .int .i64 K, .slice la ll lc]] w (ToldI w (takesP ⟨Op, To, A, B, K, ls⟩)) := by
  have hf := fun wx => fieldsOf_any Op wx
  have hP := PBox.new w Op To A B K la ll lc
  have hb0 := below_box (Below.refl w.heap.size w) (.cells #[.int .i64 Op, .int .i64 To, .int .i64 A, .int .i64 B, .int .i64 K, .slice la ll lc] 62)
  unfold takesP
  dsimp only
  generalize hasA Op = ba at *
  generalize hasB Op = bb at *
  generalize hasK Op = bk at *
  generalize hasL Op = bl at *
  generalize knownB Op = bn at *
  cases bb
  · cases ba
    · go_enter Tryz.func105, Tryz.ntmps105
      go_wp2_with (go_at_call 99; refine (hf _).mono ?_; rintro e w' ⟨rfl, hb⟩)
      go_ret
      exact ⟨none, 0, rfl, Ints.nil _ _, below_box (below_step hb0 hb) _⟩
    · go_enter Tryz.func105, Tryz.ntmps105
      go_wp2_with fail
      refine (hf _).mono ?_
      rintro e w' ⟨rfl, hb⟩
      obtain ⟨_, c0, c1, c2, c3, c4, c5⟩ := (hP.below hb).alloc (.cells #[.bool true, .bool false, .bool bk, .bool bl] 162)
      have hb1 := below_box (below_step hb0 hb) (.cells #[.bool true, .bool false, .bool bk, .bool bl] 162)
      have hb2 := below_box hb1 (.cells #[.int .i64 A] 3)
      have hi := ints_mine [A] hb1.size (by simp)
      rw [World.size_alloc] at hi
      go_wp2
      go_ret
      exact ⟨_, 1, rfl, hi, hb2⟩
  · go_enter Tryz.func105, Tryz.ntmps105
    go_wp2_with fail
    refine (hf _).mono ?_
    rintro e w' ⟨rfl, hb⟩
    obtain ⟨_, c0, c1, c2, c3, c4, c5⟩ := (hP.below hb).alloc (.cells #[.bool ba, .bool true, .bool bk, .bool bl] 162)
    have hb1 := below_box (below_step hb0 hb) (.cells #[.bool ba, .bool true, .bool bk, .bool bl] 162)
    have hb2 := below_box hb1 (.cells #[.int .i64 A, .int .i64 B] 3)
    have hi := ints_mine [A, B] hb1.size (by simp)
    rw [World.size_alloc] at hi
    go_wp2
    go_ret
    exact ⟨_, 2, rfl, hi, hb2⟩
theorem isBare_any (Op To A B K : Int) (la : Option Addr) (ll lc : Nat) (ls : List Lt) (w : World) (hl : ls.length = ll) (_hbig : ll ≤ 9223372036854775807) : Calls Tryz.prog 103 #[.agg #[.int .i64 Op, .int .i64 To, .int .i64 A, .int .i64 B, .int .i64 K, .slice la ll lc], .agg #[.bool (hasA Op), .bool (hasB Op), .bool (hasK Op), .bool (hasL Op)]] w fun e w' => e = .returned (.bool (bareB ⟨Op, To, A, B, K, ls⟩)) ∧ Below w.heap.size w w' := by
  unfold bareB
  dsimp only
  generalize hasA Op = ba at *
  generalize hasB Op = bb at *
  generalize hasK Op = bk at *
  generalize hasL Op = bl at *
  rw [hl]
  go_enter Tryz.func103, Tryz.ntmps103
  go_wp2
  all_goals (go_ret; refine ⟨?_, ((Below.refl _ _).alloc (Nat.le_refl _) _).alloc (by simp) _⟩; simp_all <;> (rw [Bool.eq_iff_iff]; simp))
theorem all_succG {α : Type} (f : α → Bool) (d : α) (ps : List α) (k : Nat) (hk : k < ps.length) (h : (ps.take k).all f = true) (h' : f (ps.getD k d) = true) : (ps.take (k + 1)).all f = true := by
  rw [List.getD_eq_getElem?_getD, List.getElem?_eq_getElem hk] at h'
  rw [List.take_succ_eq_append_getElem hk, List.all_append, h]
  simpa using h'
theorem all_notG {α : Type} (f : α → Bool) (d : α) (ps : List α) (k : Nat) (hk : k < ps.length) (h' : f (ps.getD k d) = false) : ps.all f = false := by
  rw [List.getD_eq_getElem?_getD, List.getElem?_eq_getElem hk] at h'
  rw [List.all_eq_false]
  exact ⟨ps[k], List.getElem_mem hk, by simpa using h'⟩
theorem any_succG {α : Type} (f : α → Bool) (d : α) (ps : List α) (k : Nat) (hk : k < ps.length) (h : (ps.take k).any f = false) (h' : f (ps.getD k d) = false) : (ps.take (k + 1)).any f = false := by
  rw [List.getD_eq_getElem?_getD, List.getElem?_eq_getElem hk] at h'
  rw [List.take_succ_eq_append_getElem hk, List.any_append, h]
  simpa using h'
theorem any_yesG {α : Type} (f : α → Bool) (d : α) (ps : List α) (k : Nat) (hk : k < ps.length) (h' : f (ps.getD k d) = true) : ps.any f = true := by
  rw [List.getD_eq_getElem?_getD, List.getElem?_eq_getElem hk] at h'
  rw [List.any_eq_true]
  exact ⟨ps[k], List.getElem_mem hk, by simpa using h'⟩
theorem Ints.nth {base : Nat} {w : World} {a : Option Addr} {len : Nat} {ps : List Int} (h : Ints base w a len ps) {k : Nat} (hk : k < len) : ∃ b off, a = some ⟨b, off, none⟩ ∧ w.cell? ⟨b, off + k, none⟩ = some (.int .i64 (ps.getD k 0)) := by
  rcases h.cells with e | ⟨b, off, ha, h0, hl, hc⟩
  · have := h.leng; subst e; simp at this; omega
  · exact ⟨b, off, ha, hc k hk⟩
theorem takesP_len (p : Ps) : (takesP p).length ≤ 2 := by unfold takesP; split; · simp
                                                          · split <;> simp
theorem hasSlots_any (Op To A B K : Int) (la : Option Addr) (ll lc : Nat) (ls : List Lt) (S : Int) (w : World) (hS : 1 ≤ S ∧ S ≤ 8) : Calls Tryz.prog 100 #[.agg #[.int .i64 Op, .int .i64 To, .int .i64 A, .int .i64 B, .int .i64 K, .slice la ll lc], .int .i64 S] w fun e w' => e = .returned (.bool (slotsB ⟨Op, To, A, B, K, ls⟩ S)) ∧ Below w.heap.size w w' := by
  have hP := PBox.new w Op To A B K la ll lc
  have hb0 := below_box (Below.refl w.heap.size w) (.cells #[.int .i64 Op, .int .i64 To, .int .i64 A, .int .i64 B, .int .i64 K, .slice la ll lc] 62)
  have ht := fun wx => takes_any Op To A B K la ll lc ls wx
  have hs := fun n wx => isSlot_any n S wx hS
  have hl2 := takesP_len ⟨Op, To, A, B, K, ls⟩
  unfold slotsB
  generalize takesP ⟨Op, To, A, B, K, ls⟩ = ts at *
  dsimp only
  go_enter Tryz.func100, Tryz.ntmps100
  go_wp2_with fail
  refine (ht _).mono ?_
  rintro e w2 ⟨a, cap, rfl, hI, hb⟩
  obtain ⟨_, c0, c1, c2, c3, c4, c5⟩ := hP.below hb
  have hb2 := below_step hb0 hb
  clear ht hb hb0 hP
  go_wp2
  go_loop [10] (fun i => ∃ k : Nat, k ≤ ts.length ∧ i = .int .i64 k ∧ (ts.take k).all (fun s => slotB s S) = true) (fun i => ts.length - (intOf i).toNat)
  case atStart => exact ⟨0, Nat.zero_le _, rfl, rfl⟩
  case round =>
    obtain ⟨k, hk, rfl, hall⟩ := hrel
    by_cases hlt : k < ts.length
    · obtain ⟨b, off, rfl, hcx⟩ := hI.nth hlt
      have n1 := all_succG (fun s => slotB s S) 0 ts k hlt hall
      have n2 := all_notG (fun s => slotB s S) 0 ts k hlt
      generalize ts.getD k 0 = n at hcx n1 n2
      by_cases hn : slotB n S = true
      · have N1 : Hid ((ts.take (k + 1)).all (fun s => slotB s S) = true) := n1 hn
        clear n1 n2 hall
        go_wp2_with (go_at_call 98; refine (hs _ _).mono ?_; rintro e w' ⟨rfl, rfl⟩)
        go_round
        case rel => exact ⟨k + 1, by omega, by go_num, N1.out⟩
        case measure => simp [intOf]; omega
      · have hn' := eq_false_of_ne_true hn
        have N2 := n2 hn'
        clear n1 n2 hall hn
        go_wp2_with (go_at_call 98; refine (hs _ _).mono ?_; rintro e w' ⟨rfl, rfl⟩)
        go_ret
        exact ⟨by first | rfl | (rw [N2]; rfl), hb2⟩
    · have hx : ts.all (fun s => slotB s S) = true := by rw [List.take_of_length_le (by omega)] at hall; exact hall
      clear hall
      go_wp2_with (go_at_call 98; refine (hs _ _).mono ?_; rintro e w' ⟨rfl, rfl⟩)
      go_ret
      exact ⟨by first | rfl | (rw [hx]; rfl), hb2⟩
theorem takesOwn_any (Op To A B K : Int) (la : Option Addr) (ll lc : Nat) (ls : List Lt) (w : World) : Calls Tryz.prog 104 #[.agg #[.int .i64 Op, .int .i64 To, .int .i64 A, .int .i64 B, .int .i64 K, .slice la ll lc]] w fun e w' => e = .returned (.bool (ownB ⟨Op, To, A, B, K, ls⟩)) ∧ Below w.heap.size w w' := by
  have hP := PBox.new w Op To A B K la ll lc
  have hb0 := below_box (Below.refl w.heap.size w) (.cells #[.int .i64 Op, .int .i64 To, .int .i64 A, .int .i64 B, .int .i64 K, .slice la ll lc] 62)
  have ht := fun wx => takes_any Op To A B K la ll lc ls wx
  have hl2 := takesP_len ⟨Op, To, A, B, K, ls⟩
  unfold ownB
  generalize takesP ⟨Op, To, A, B, K, ls⟩ = ts at *
  dsimp only
  go_enter Tryz.func104, Tryz.ntmps104
  go_wp2_with fail
  refine (ht _).mono ?_
  rintro e w2 ⟨a, cap, rfl, hI, hb⟩
  obtain ⟨_, c0, c1, c2, c3, c4, c5⟩ := hP.below hb
  have hb2 := below_step hb0 hb
  clear ht hb hb0 hP
  go_wp2
  go_loop [8] (fun i => ∃ k : Nat, k ≤ ts.length ∧ i = .int .i64 k ∧ (ts.take k).any (fun s => decide (s = To)) = false) (fun i => ts.length - (intOf i).toNat)
  case atStart => exact ⟨0, Nat.zero_le _, rfl, rfl⟩
  case round =>
    obtain ⟨k, hk, rfl, hall⟩ := hrel
    by_cases hlt : k < ts.length
    · obtain ⟨b, off, rfl, hcx⟩ := hI.nth hlt
      have n1 := any_succG (fun s => decide (s = To)) 0 ts k hlt hall
      have n2 := any_yesG (fun s => decide (s = To)) 0 ts k hlt
      generalize ts.getD k 0 = n at hcx n1 n2
      by_cases hn : n = To
      · have N2 := n2 (by simpa using hn)
        clear n1 n2 hall
        go_wp2
        go_ret
        exact ⟨by first | rfl | (rw [N2]; rfl), hb2⟩
      · have N1 : Hid ((ts.take (k + 1)).any (fun s => decide (s = To)) = false) := n1 (by simpa using hn)
        clear n1 n2 hall
        go_wp2
        go_round
        case rel => exact ⟨k + 1, by omega, by go_num, N1.out⟩
        case measure => simp [intOf]; omega
    · have hx : ts.any (fun s => decide (s = To)) = false := by rw [List.take_of_length_le (by omega)] at hall; exact hall
      clear hall
      go_wp2
      go_ret
      exact ⟨by first | rfl | (rw [hx]; rfl), hb2⟩
end Go.Proofs.YtihliofhhjjeaaaGreat
namespace Go.Proofs.YtihliofhhjjeaaaGreat
open Go.RowKit Im
theorem checkBounds_any (W H S O : Int) (a : Option Addr) (len cap : Nat) (ps : List Ps) (w : World) (hl : ps.length = len) (_hbig : len ≤ 9223372036854775807) : Calls Tryz.prog 62 #[.agg #[.int .i64 W, .int .i64 H, .int .i64 S, .int .i64 O, .slice a len cap]] w fun e w' => e = .returned (.int .i64 (boundsE ⟨W, H, S, O, ps⟩)) ∧ Below w.heap.size w w' := by
  have hb0 := below_box (Below.refl w.heap.size w) (.cells #[.int .i64 W, .int .i64 H, .int .i64 S, .int .i64 O, .slice a len cap] 24)
  have hw := fun n a b wx => fwithin_any n a b wx
  unfold boundsE
  dsimp only
  rw [hl]
  by_cases h1 : sideB W = true
  · have h1' : withinB W 1 16 = true := h1
    by_cases h2 : sideB H = true
    · have h2' : withinB H 1 16 = true := h2
      by_cases h3 : withinB S 1 8 = true
      · have hs := fun n wx => isSlot_any n S wx (by simp [withinB] at h3; exact h3)
        by_cases h4 : slotB O S = true
        · rw [if_pos ⟨h1, h2, h3, h4⟩]
          by_cases h5 : withinB (len : Int) 1 12 = true
          · rw [if_pos h5]
            clear h1 h2
            go_enter Tryz.func62, Tryz.ntmps62
            go_wp2_with (first | (go_at_call 97; refine (hw _ _ _ _).mono ?_; rintro e w' ⟨rfl, rfl⟩) | (go_at_call 98; refine (hs _ _).mono ?_; rintro e w' ⟨rfl, rfl⟩))
            go_ret
            exact ⟨rfl, hb0⟩
          · rw [if_neg h5]
            have h5' := eq_false_of_ne_true h5
            clear h1 h2 h5
            go_enter Tryz.func62, Tryz.ntmps62
            go_wp2_with (first | (go_at_call 97; refine (hw _ _ _ _).mono ?_; rintro e w' ⟨rfl, rfl⟩) | (go_at_call 98; refine (hs _ _).mono ?_; rintro e w' ⟨rfl, rfl⟩))
            go_ret
            exact ⟨rfl, hb0⟩
        · rw [if_neg (fun h => h4 h.2.2.2)]
          have h4' := eq_false_of_ne_true h4
          clear h1 h2 h4
          go_enter Tryz.func62, Tryz.ntmps62
          go_wp2_with (first | (go_at_call 97; refine (hw _ _ _ _).mono ?_; rintro e w' ⟨rfl, rfl⟩) | (go_at_call 98; refine (hs _ _).mono ?_; rintro e w' ⟨rfl, rfl⟩))
          go_ret
          exact ⟨rfl, hb0⟩
      · rw [if_neg (fun h => h3 h.2.2.1)]
        have h3' := eq_false_of_ne_true h3
        clear h1 h2 h3
        go_enter Tryz.func62, Tryz.ntmps62
        go_wp2_with (go_at_call 97; refine (hw _ _ _ _).mono ?_; rintro e w' ⟨rfl, rfl⟩)
        go_ret
        exact ⟨rfl, hb0⟩
    · rw [if_neg (fun h => h2 h.2.1)]
      have h2' : withinB H 1 16 = false := eq_false_of_ne_true h2
      clear h1 h2
      go_enter Tryz.func62, Tryz.ntmps62
      go_wp2_with (go_at_call 97; refine (hw _ _ _ _).mono ?_; rintro e w' ⟨rfl, rfl⟩)
      go_ret
      exact ⟨rfl, hb0⟩
  · rw [if_neg (fun h => h1 h.1)]
    have h1' : withinB W 1 16 = false := eq_false_of_ne_true h1
    clear h1
    go_enter Tryz.func62, Tryz.ntmps62
    go_wp2_with (go_at_call 97; refine (hw _ _ _ _).mono ?_; rintro e w' ⟨rfl, rfl⟩)
    go_ret
    exact ⟨rfl, hb0⟩
structure HBox (w : World) (b : Nat) (x0 x1 x2 x3 : Bool) : Prop where
  lt : b < w.heap.size
  c0 : w.cell? ⟨b, 0, none⟩ = some (.bool x0)
  c1 : w.cell? ⟨b, 1, none⟩ = some (.bool x1)
  c2 : w.cell? ⟨b, 2, none⟩ = some (.bool x2)
  c3 : w.cell? ⟨b, 3, none⟩ = some (.bool x3)
theorem HBox.below {w w' : World} {b : Nat} {x0 x1 x2 x3 : Bool} (h : HBox w b x0 x1 x2 x3) (hb : Below w.heap.size w w') : HBox w' b x0 x1 x2 x3 :=
  ⟨Nat.lt_of_lt_of_le h.lt hb.size, (hb.cell (p := ⟨b, 0, none⟩) h.lt).trans h.c0, (hb.cell (p := ⟨b, 1, none⟩) h.lt).trans h.c1, (hb.cell (p := ⟨b, 2, none⟩) h.lt).trans h.c2, (hb.cell (p := ⟨b, 3, none⟩) h.lt).trans h.c3⟩
theorem HBox.new (w : World) (x0 x1 x2 x3 : Bool) : HBox (w.alloc (.cells #[.bool x0, .bool x1, .bool x2, .bool x3] 162)) w.heap.size x0 x1 x2 x3 :=
  ⟨by simp, by simp [go_sem], by simp [go_sem], by simp [go_sem], by simp [go_sem]⟩
theorem Lights.alloc' {w : World} {a : Option Addr} {len : Nat} {ls : List Lt} (h : Lights w a len ls) (o : Obj) : Lights (w.alloc o) a len ls := h.below ((Below.refl _ _).alloc (Nat.le_refl _) _)
set_option maxHeartbeats 1000000 in
theorem checkPass_any (Op To A B K : Int) (la : Option Addr) (ll lc : Nat) (ls : List Lt) (S : Int) (w : World) (hS : 1 ≤ S ∧ S ≤ 8) (h : Lights w la ll ls) : Calls Tryz.prog 63 #[.agg #[.int .i64 Op, .int .i64 To, .int .i64 A, .int .i64 B, .int .i64 K, .slice la ll lc], .int .i64 S] w fun e w' => e = .returned (.int .i64 (ownE ⟨Op, To, A, B, K, ls⟩ S)) ∧ Below w.heap.size w w' := by
  have hP := PBox.new w Op To A B K la ll lc
  have hb0 := below_box (Below.refl w.heap.size w) (.cells #[.int .i64 Op, .int .i64 To, .int .i64 A, .int .i64 B, .int .i64 K, .slice la ll lc] 62)
  have hL := h.alloc' (.cells #[.int .i64 Op, .int .i64 To, .int .i64 A, .int .i64 B, .int .i64 K, .slice la ll lc] 62)
  have hf := fun wx => fieldsOf_any Op wx
  have hh := fun wx => hasSlots_any Op To A B K la ll lc ls S wx hS
  have hk := fun wx => isK_any Op K wx
  have hc := fun wx (hx : Lights wx la ll ls) => checkL_any lc hx
  have hbr := fun wx => isBare_any Op To A B K la ll lc ls wx h.leng h.big
  have how := fun wx => takesOwn_any Op To A B K la ll lc ls wx
  unfold ownE
  dsimp only
  generalize slotsB ⟨Op, To, A, B, K, ls⟩ S = sl at *
  generalize bareB ⟨Op, To, A, B, K, ls⟩ = br at *
  generalize ownB ⟨Op, To, A, B, K, ls⟩ = ow at *
  generalize kB Op K = kb at *
  generalize lightsErr ls = le at *
  generalize hasA Op = xa at *
  generalize hasB Op = xb at *
  generalize hasK Op = xk at *
  generalize hasL Op = xl at *
  generalize knownB Op = kn at *
  go_enter Tryz.func63, Tryz.ntmps63
  go_wp2_with fail
  refine (hf _).mono ?_
  rintro e w1 ⟨rfl, b1⟩
  replace hP := (hP.below b1).alloc (.cells #[.bool xa, .bool xb, .bool xk, .bool xl] 162)
  have hH := HBox.new w1 xa xb xk xl
  replace hL := (hL.below b1).alloc' (.cells #[.bool xa, .bool xb, .bool xk, .bool xl] 162)
  replace hb0 := below_box (below_step hb0 b1) (.cells #[.bool xa, .bool xb, .bool xk, .bool xl] 162)
  obtain ⟨_, p0, p1, p2, p3, p4, p5⟩ := id hP
  cases kn
  · go_wp2
    go_ret
    exact ⟨rfl, hb0⟩
  · go_wp2_with fail
    refine (hh _).mono ?_
    rintro e w2 ⟨rfl, b2⟩
    replace hP := hP.below b2
    replace hH := hH.below b2
    replace hL := hL.below b2
    replace hb0 := below_step hb0 b2
    clear p0 p1 p2 p3 p4 p5
    obtain ⟨_, p0, p1, p2, p3, p4, p5⟩ := id hP
    obtain ⟨_, k0, k1, k2, k3⟩ := id hH
    clear hf hh b1 b2
    cases sl
    · go_wp2_with (go_at_call 101; refine (hk _).mono ?_; rintro e w' ⟨rfl, rfl⟩)
      go_ret
      exact ⟨rfl, hb0⟩
    · cases xk
      · cases xl
        · go_wp2_with (go_at_call 101; refine (hk _).mono ?_; rintro e w' ⟨rfl, rfl⟩)
          refine (hbr _).mono ?_
          rintro e w4 ⟨rfl, b4⟩
          replace hP := hP.below b4
          replace hb0 := below_step hb0 b4
          clear p0 p1 p2 p3 p4 p5 k0 k1 k2 k3
          obtain ⟨_, p0, p1, p2, p3, p4, p5⟩ := id hP
          cases br
          · go_wp2
            go_ret
            exact ⟨rfl, hb0⟩
          · go_wp2_with fail
            refine (how _).mono ?_
            rintro e w5 ⟨rfl, b5⟩
            replace hb0 := below_step hb0 b5
            cases ow
            · go_wp2
              go_ret
              exact ⟨rfl, hb0⟩
            · go_wp2
              go_ret
              exact ⟨rfl, hb0⟩
        · go_wp2_with (go_at_call 101; refine (hk _).mono ?_; rintro e w' ⟨rfl, rfl⟩)
          refine (hc _ hL).mono ?_
          rintro e w3 ⟨rfl, b3⟩
          replace hP := hP.below b3
          replace hH := hH.below b3
          replace hb0 := below_step hb0 b3
          clear p0 p1 p2 p3 p4 p5 k0 k1 k2 k3
          obtain ⟨_, p0, p1, p2, p3, p4, p5⟩ := id hP
          obtain ⟨_, k0, k1, k2, k3⟩ := id hH
          by_cases hle : le = 0
          · subst hle
            go_wp2_with fail
            refine (hbr _).mono ?_
            rintro e w4 ⟨rfl, b4⟩
            replace hP := hP.below b4
            replace hb0 := below_step hb0 b4
            clear p0 p1 p2 p3 p4 p5 k0 k1 k2 k3
            obtain ⟨_, p0, p1, p2, p3, p4, p5⟩ := id hP
            cases br
            · go_wp2
              go_ret
              exact ⟨rfl, hb0⟩
            · go_wp2_with fail
              refine (how _).mono ?_
              rintro e w5 ⟨rfl, b5⟩
              replace hb0 := below_step hb0 b5
              cases ow
              · go_wp2
                go_ret
                exact ⟨rfl, hb0⟩
              · go_wp2
                go_ret
                exact ⟨rfl, hb0⟩
          · go_wp2
            go_ret
            exact ⟨rfl, hb0⟩
      · cases kb
        · go_wp2_with (go_at_call 101; refine (hk _).mono ?_; rintro e w' ⟨rfl, rfl⟩)
          go_ret
          exact ⟨rfl, hb0⟩
        · cases xl
          · go_wp2_with (go_at_call 101; refine (hk _).mono ?_; rintro e w' ⟨rfl, rfl⟩)
            refine (hbr _).mono ?_
            rintro e w4 ⟨rfl, b4⟩
            replace hP := hP.below b4
            replace hb0 := below_step hb0 b4
            clear p0 p1 p2 p3 p4 p5 k0 k1 k2 k3
            obtain ⟨_, p0, p1, p2, p3, p4, p5⟩ := id hP
            cases br
            · go_wp2
              go_ret
              exact ⟨rfl, hb0⟩
            · go_wp2_with fail
              refine (how _).mono ?_
              rintro e w5 ⟨rfl, b5⟩
              replace hb0 := below_step hb0 b5
              cases ow
              · go_wp2
                go_ret
                exact ⟨rfl, hb0⟩
              · go_wp2
                go_ret
                exact ⟨rfl, hb0⟩
          · go_wp2_with (go_at_call 101; refine (hk _).mono ?_; rintro e w' ⟨rfl, rfl⟩)
            refine (hc _ hL).mono ?_
            rintro e w3 ⟨rfl, b3⟩
            replace hP := hP.below b3
            replace hH := hH.below b3
            replace hb0 := below_step hb0 b3
            clear p0 p1 p2 p3 p4 p5 k0 k1 k2 k3
            obtain ⟨_, p0, p1, p2, p3, p4, p5⟩ := id hP
            obtain ⟨_, k0, k1, k2, k3⟩ := id hH
            by_cases hle : le = 0
            · subst hle
              go_wp2_with fail
              refine (hbr _).mono ?_
              rintro e w4 ⟨rfl, b4⟩
              replace hP := hP.below b4
              replace hb0 := below_step hb0 b4
              clear p0 p1 p2 p3 p4 p5 k0 k1 k2 k3
              obtain ⟨_, p0, p1, p2, p3, p4, p5⟩ := id hP
              cases br
              · go_wp2
                go_ret
                exact ⟨rfl, hb0⟩
              · go_wp2_with fail
                refine (how _).mono ?_
                rintro e w5 ⟨rfl, b5⟩
                replace hb0 := below_step hb0 b5
                cases ow
                · go_wp2
                  go_ret
                  exact ⟨rfl, hb0⟩
                · go_wp2
                  go_ret
                  exact ⟨rfl, hb0⟩
            · go_wp2
              go_ret
              exact ⟨rfl, hb0⟩
end Go.Proofs.YtihliofhhjjeaaaGreat
namespace Go.Proofs.YtihliofhhjjeaaaGreat
open Go.RowKit Im
structure Zs (w : World) (a : Option Addr) (len : Nat) (zs : List Sz) : Prop where
  leng : zs.length = len
  big : len ≤ 9223372036854775807
  cells : zs = [] ∨ ∃ b off, a = some ⟨b, off, none⟩ ∧ b < w.heap.size ∧ ∀ j, j < len → w.cell? ⟨b, off + j * 2, none⟩ = some (.int .i64 (zs.getD j Sz.zero).1) ∧ w.cell? ⟨b, off + j * 2 + 1, none⟩ = some (.int .i64 (zs.getD j Sz.zero).2)
theorem Zs.below {w w' : World} {a : Option Addr} {len : Nat} {zs : List Sz} (h : Zs w a len zs) (hb : Below w.heap.size w w') : Zs w' a len zs := by
  refine ⟨h.leng, h.big, ?_⟩
  rcases h.cells with e | ⟨b, off, ha, hl, hc⟩
  · exact .inl e
  · refine .inr ⟨b, off, ha, Nat.lt_of_lt_of_le hl hb.size, fun j hj => ?_⟩
    obtain ⟨c0, c1⟩ := hc j hj
    exact ⟨(hb.cell (p := ⟨b, off + j * 2, none⟩) hl).trans c0, (hb.cell (p := ⟨b, off + j * 2 + 1, none⟩) hl).trans c1⟩
theorem Zs.nil (w : World) : Zs w none 0 [] := ⟨rfl, by omega, .inl rfl⟩
theorem Zs.nth {w : World} {a : Option Addr} {len : Nat} {zs : List Sz} (h : Zs w a len zs) {k : Nat} (hk : k < len) : ∃ b off, a = some ⟨b, off, none⟩ ∧ b < w.heap.size ∧ w.cell? ⟨b, off + k * 2, none⟩ = some (.int .i64 (zs.getD k Sz.zero).1) ∧ w.cell? ⟨b, off + k * 2 + 1, none⟩ = some (.int .i64 (zs.getD k Sz.zero).2) := by
  rcases h.cells with e | ⟨b, off, ha, hl, hc⟩
  · have := h.leng; subst e; simp at this; omega
  · exact ⟨b, off, ha, hl, hc k hk⟩
def zcells (zs : List Sz) : List Value := zs.flatMap fun z => [.int .i64 z.1, .int .i64 z.2]
theorem zcells_len (zs : List Sz) : (zcells zs).length = zs.length * 2 := by
  induction zs with
  | nil => rfl
  | cons z zs ih => simp only [zcells, List.flatMap_cons, List.length_append, List.length_cons, List.length_nil] at ih ⊢; rw [ih]; omega
theorem zcells_snoc (zs : List Sz) (z : Sz) : zcells (zs ++ [z]) = zcells zs ++ [.int .i64 z.1, .int .i64 z.2] := by simp [zcells]
theorem zcells_get (zs : List Sz) (j : Nat) (h : j < zs.length) : (zcells zs)[j * 2]? = some (.int .i64 (zs.getD j Sz.zero).1) ∧ (zcells zs)[j * 2 + 1]? = some (.int .i64 (zs.getD j Sz.zero).2) := by
  induction zs generalizing j with
  | nil => simp at h
  | cons z zs ih =>
    have e : zcells (z :: zs) = .int .i64 z.1 :: .int .i64 z.2 :: zcells zs := rfl
    cases j with
    | zero => rw [e]; exact ⟨rfl, rfl⟩
    | succ j =>
      have := ih j (by simpa using h)
      rw [e, show (j + 1) * 2 = j * 2 + 1 + 1 by omega]
      simpa using this
def OwnsZ (base : Nat) (w : World) (v : Value) (zs : List Sz) : Prop := w.ownsRow base 80 2 v zs.length (zcells zs)
theorem OwnsZ.zs {base : Nat} {w : World} {v : Value} {zs : List Sz} (h : OwnsZ base w v zs) (hb : zs.length ≤ 12) : ∃ a cap, v = .slice a zs.length cap ∧ Zs w a zs.length zs := by
  obtain ⟨h1, h2⟩ := h
  rcases h2 with ⟨rfl, h0⟩ | ⟨g, cap, cur, rfl, hg, hh, hc, hm, hs, ht⟩
  · have : zs = [] := by simpa using h0
    subst this
    exact ⟨none, 0, rfl, Zs.nil w⟩
  · refine ⟨_, cap, rfl, rfl, by omega, .inr ⟨g, 0, rfl, ?_, fun j hj => ?_⟩⟩
    · rcases Nat.lt_or_ge g w.heap.size with h | h
      · exact h
      · rw [Array.getElem?_eq_none h] at hh; cases hh
    · have hl := zcells_len zs
      have hg2 := zcells_get zs j hj
      have this := fun i hi => World.ownsRow.cellAt (base := base) (e := 80) (size := 2) ⟨h1, .inr ⟨g, cap, cur, rfl, hg, hh, hc, hm, hs, ht⟩⟩ i hi
      rw [Nat.zero_add, this (j * 2) (by omega), this (j * 2 + 1) (by omega)]
      exact hg2
theorem Tryz.infoSize : (Tryz.prog.info? 80).map (fun i => (i.zero, i.size, i.bytes)) = some (some (.agg #[.int .i64 0, .int .i64 0]), 2, 16) := by kernel_rfl
theorem cell_two_new (w : World) (v0 v1 : Value) (t : TypeId) : ∀ (j : Nat) (u : Value), [v0, v1][j]? = some u → (w.alloc (.cells #[v0, v1] t)).cell? ((⟨w.heap.size, 0, none⟩ : Addr).add j) = some u := by
  intro j u h
  have hj : j < 2 := by
    rcases Nat.lt_or_ge j 2 with h4 | h4
    · exact h4
    · rw [List.getElem?_eq_none (by simpa using h4)] at h; cases h
  match j, hj with
  | 0, _ => simp at h; subst h; simp [go_sem]
  | 1, _ => simp at h; subst h; simp [go_sem]
theorem OwnsZ.push {base : Nat} {w wx w1 : World} {v v' : Value} {zs : List Sz} {z : Sz} {B0 : World} {o : Obj} (h : OwnsZ base w v zs) (hb : Below base B0 w) (hB : base ≤ w.heap.size)
    (h' : w1.ownsRow base 80 2 v' (zs.length + 1) (zcells zs ++ [.int .i64 z.1, .int .i64 z.2])) (hx : wx = w.alloc o) (hg : wx.grownBy w1 v.ownBlock) : OwnsZ base w1 v' (zs ++ [z]) ∧ Below base B0 w1 := by
  subst hx
  refine ⟨by unfold OwnsZ; rw [zcells_snoc]; simpa using h', ?_⟩
  exact (hb.alloc hB o).grown hg (by simp; omega) (fun j hj => (World.ownsRow.lt (w := w) h j hj).1)
def ToldZ (w : World) (zs : List Sz) (e : Ending) (w' : World) : Prop :=
  ∃ a cap, e = .returned (.slice a zs.length cap) ∧ Zs w' a zs.length zs ∧ Below w.heap.size w w'
theorem pickZ_succ (zs : List Sz) (is : List Int) (k : Nat) (hk : k < is.length) : pickZ zs (is.take (k + 1)) = pickZ zs (is.take k) ++ [zs.getD (is.getD k 0).toNat Sz.zero] := by
  unfold pickZ
  rw [List.take_succ_eq_append_getElem hk, List.map_append, List.getD_eq_getElem?_getD (l := is), List.getElem?_eq_getElem hk]
  rfl
set_option maxHeartbeats 1000000 in
theorem pickedZ_any {a a' : Option Addr} {len len' : Nat} (cap cap' : Nat) {zs : List Sz} {is : List Int} {base : Nat} {w : World} (hz : Zs w a len zs) (hI : Ints base w a' len' is) (hin : ∀ i ∈ is, 0 ≤ i ∧ i < len) (hl : is.length ≤ 2) :
    Calls Tryz.prog 66 #[.slice a len cap, .slice a' len' cap'] w (ToldZ w (pickZ zs is)) := by
  obtain ⟨i0, hi, hz0, hz1, hz2⟩ := info_parts Tryz.infoSize
  have hlen := hI.leng
  subst hlen
  go_enter Tryz.func66, Tryz.ntmps66
  go_wp2
  go_loopw [5, 10] (fun v i wr => ∃ k : Nat, k ≤ is.length ∧ i = .int .i64 k ∧ OwnsZ w.heap.size wr v (pickZ zs (is.take k)) ∧ Below w.heap.size w wr) (fun _ i _ => is.length - (intOf i).toNat)
  case atStart => exact ⟨0, Nat.zero_le _, rfl, World.ownsRow_nil _ _ _ _, Below.refl _ _⟩
  case round =>
    obtain ⟨k, hk, rfl, hown, hb⟩ := hrel
    by_cases hlt : k < is.length
    · obtain ⟨b, off, rfl, hcx⟩ := (hI.below (Nat.le_refl _) hb).nth hlt
      have hr := hin _ (getD_mem hlt 0)
      have HS := pickZ_succ zs is k hlt
      generalize is.getD k 0 = n at hcx hr HS
      obtain ⟨m, rfl⟩ := Int.eq_ofNat_of_zero_le hr.1
      obtain ⟨b', off', rfl, _, d0, d1⟩ := (hz.below hb).nth (k := m) (by omega)
      rw [Int.toNat_natCast] at HS
      have HS' : Hid (pickZ zs (is.take (k + 1)) = pickZ zs (is.take k) ++ [zs.getD m Sz.zero]) := HS
      have hpl : (pickZ zs (is.take k)).length = k := by simp [pickZ]; omega
      have hsz := hb.size
      generalize zs.getD m Sz.zero = z at d0 d1 HS'
      obtain ⟨zw, zh⟩ := z
      dsimp only at d0 d1
      clear HS hin
      go_wp2_with (at_builtin; refine wpList_append_own _ rfl _ _ 43 rfl w.heap.size 80 i0 _ 2 16 Tryz.underlying43 hi hz0 hz1 hz2 rfl (by decide) _ _ _ rfl (World.ownsRow.alloc hown _) ⟨wr.heap.size, 0, none⟩ 1 1 [.int .i64 zw, .int .i64 zh] rfl rfl (cell_two_new _ _ _ _) (by intro u hu; simp at hu; rcases hu with rfl | rfl <;> rfl) (by rw [hpl]; unfold maxLen; omega) (by rw [hpl]; omega) (by simp; omega) ?_; intro v' w9 hown9 hgrow9 _)
      have RR := OwnsZ.push (z := (zw, zh)) hown hb hsz hown9 rfl hgrow9
      go_roundw
      case rel => exact ⟨k + 1, by omega, by go_num, by rw [HS'.out]; exact RR.1, RR.2⟩
      case measure => simp [intOf]; omega
    · have hke : k = is.length := by omega
      subst hke
      rw [List.take_length] at hown
      have hpl : (pickZ zs is).length = is.length := by simp [pickZ]
      obtain ⟨sa, scap, rfl, hZ⟩ := hown.zs (by omega)
      go_wp2
      go_ret
      exact ⟨sa, scap, rfl, hZ, hb⟩
end Go.Proofs.YtihliofhhjjeaaaGreat
