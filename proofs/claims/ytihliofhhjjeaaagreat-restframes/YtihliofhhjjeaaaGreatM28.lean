/- SortLay, SortSpan, Place, Unplaced, BusyAt, CompM: joined, in this order. -/
import Derived.Test.YtihliofhhjjeaaaGreatM01
import Derived.Shelf.SlGeneric
import Derived.Shelf.SlSortCmp.WholeK
import Derived.Ground.SlsfProg
import Derived.Test.YtihliofhhjjeaaaGreatM23
import Derived.Test.YtihliofhhjjeaaaGreatM17
import Derived.Test.YtihliofhhjjeaaaGreatM19
import Derived.Test.YtihliofhhjjeaaaGreatM18
import Derived.Test.YtihliofhhjjeaaaGreatM02
set_option maxRecDepth 100000
namespace Go.Proofs.YtihliofhhjjeaaaGreat
open Go.Shelf
def sortSpan_ren : Go.Shelf.Ren := ⟨fun | 6 => 53 | 15 => 86 | 14 => 85 | 28 => 134 | 29 => 135 | 20 => 126 | 21 => 127 | 22 => 128 | 23 => 129 | 24 => 130 | 25 => 131 | 26 => 132 | 27 => 133 | 46 => 155 | 47 => 156 | 48 => 157 | 49 => 158 | 50 => 159 | 57 => 162 | n => n, fun | 22 => 59 | 24 => 58 | 25 => 106 | 3 => 3 | 39 => 149 | 0 => 0 | 53 => 194 | 55 => 196 | 4 => 4 | 46 => 188 | 45 => 187 | 50 => 128 | 5 => 5 | 9 => 9 | 66 => 204 | 70 => 208 | 76 => 210 | 77 => 143 | n => n, fun | n => n⟩
theorem sortSpan : Go.Proofs.SlLaysF0.n6 Tryz.prog sortSpan_ren := {
  mixed := by kernel_rfl
  f6 := ⟨Tryz.f53.name, by decide, Tryz.func53.trans (congrArg some (by kernel_rfl))⟩
  f14 := ⟨Tryz.f85.name, by decide, Tryz.func85.trans (congrArg some (by kernel_rfl))⟩
  f15 := Tryz.func86.trans (congrArg some (by kernel_rfl))
  f20 := ⟨Tryz.f126.name, by decide, Tryz.func126.trans (congrArg some (by kernel_rfl))⟩
  f21 := ⟨Tryz.f127.name, by decide, Tryz.func127.trans (congrArg some (by kernel_rfl))⟩
  f22 := ⟨Tryz.f128.name, by decide, Tryz.func128.trans (congrArg some (by kernel_rfl))⟩
  f23 := ⟨Tryz.f129.name, by decide, Tryz.func129.trans (congrArg some (by kernel_rfl))⟩
  f24 := ⟨Tryz.f130.name, by decide, Tryz.func130.trans (congrArg some (by kernel_rfl))⟩
  f25 := ⟨Tryz.f131.name, by decide, Tryz.func131.trans (congrArg some (by kernel_rfl))⟩
  f26 := ⟨Tryz.f132.name, by decide, Tryz.func132.trans (congrArg some (by kernel_rfl))⟩
  f27 := ⟨Tryz.f133.name, by decide, Tryz.func133.trans (congrArg some (by kernel_rfl))⟩
  f28 := Tryz.func134.trans (congrArg some (by kernel_rfl))
  f29 := Tryz.func135.trans (congrArg some (by kernel_rfl))
  f46 := ⟨Tryz.f155.name, by decide, Tryz.func155.trans (congrArg some (by kernel_rfl))⟩
  f47 := Tryz.func156.trans (congrArg some (by kernel_rfl))
  f48 := Tryz.func157.trans (congrArg some (by kernel_rfl))
  f49 := ⟨Tryz.f158.name, by decide, Tryz.func158.trans (congrArg some (by kernel_rfl))⟩
  f50 := ⟨Tryz.f159.name, by decide, Tryz.func159.trans (congrArg some (by kernel_rfl))⟩
  f57 := ⟨Tryz.f162.name, by decide, Tryz.func162.trans (congrArg some (by kernel_rfl))⟩
  t0 := Tryz.underlying0
  a0 := Tryz.isAgg0
  z0 := Tryz.sizeOf0
  v0 := Tryz.zeroValue0
  t3 := Tryz.underlying3
  a3 := Tryz.isAgg3
  z3 := Tryz.sizeOf3
  v3 := Tryz.zeroValue3
  t4 := Tryz.underlying4
  a4 := Tryz.isAgg4
  z4 := Tryz.sizeOf4
  v4 := Tryz.zeroValue4
  t5 := Tryz.underlying5
  a5 := Tryz.isAgg5
  z5 := Tryz.sizeOf5
  v5 := Tryz.zeroValue5
  t9 := Tryz.underlying9
  a9 := Tryz.isAgg9
  z9 := Tryz.sizeOf9
  v9 := Tryz.zeroValue9
  t22 := Tryz.underlying59
  a22 := Tryz.isAgg59
  z22 := Tryz.sizeOf59
  v22 := Tryz.zeroValue59
  t25 := Tryz.underlying106
  a25 := Tryz.isAgg106
  z25 := Tryz.sizeOf106
  v25 := Tryz.zeroValue106
  t39 := Tryz.underlying149
  a39 := Tryz.isAgg149
  z39 := Tryz.sizeOf149
  v39 := Tryz.zeroValue149
  t45 := Tryz.underlying187
  a45 := Tryz.isAgg187
  z45 := Tryz.sizeOf187
  v45 := Tryz.zeroValue187
  t46 := Tryz.underlying188
  a46 := Tryz.isAgg188
  z46 := Tryz.sizeOf188
  v46 := Tryz.zeroValue188
  t50 := Tryz.underlying128
  a50 := Tryz.isAgg128
  z50 := Tryz.sizeOf128
  v50 := Tryz.zeroValue128
  t53 := Tryz.underlying194
  a53 := Tryz.isAgg194
  z53 := Tryz.sizeOf194
  v53 := Tryz.zeroValue194
  t55 := Tryz.underlying196
  a55 := Tryz.isAgg196
  z55 := Tryz.sizeOf196
  v55 := Tryz.zeroValue196
  t66 := Tryz.underlying204
  a66 := Tryz.isAgg204
  z66 := Tryz.sizeOf204
  v66 := Tryz.zeroValue204
  t70 := Tryz.underlying208
  a70 := Tryz.isAgg208
  z70 := Tryz.sizeOf208
  v70 := Tryz.zeroValue208
  t76 := Tryz.underlying210
  a76 := Tryz.isAgg210
  z76 := Tryz.sizeOf210
  v76 := Tryz.zeroValue210
  t77 := Tryz.underlying143
  a77 := Tryz.isAgg143
  z77 := Tryz.sizeOf143
  v77 := Tryz.zeroValue143 }
end Go.Proofs.YtihliofhhjjeaaaGreat
namespace Go.Proofs.YtihliofhhjjeaaaGreat
open Go.RowKit Im Go.Maps Go.Shelf Go.Sort
def encS (x : Int × Int) : List Value := [.int .i64 x.1, .int .i64 x.2]
theorem compare_any (x y : Int) (w : World) : Calls Tryz.prog 55 #[.int .i64 x, .int .i64 y] w fun e w' => e = .returned (.int .i64 (Lib.compareInt x y)) ∧ w' = w := by
  unfold Lib.compareInt
  by_cases h1 : x < y
  · rw [if_pos h1]
    go_enter Tryz.func55, Tryz.ntmps55
    go_wp2
    go_ret
    exact ⟨rfl, rfl⟩
  · rw [if_neg h1]
    by_cases h2 : y < x
    · rw [if_pos h2]
      go_enter Tryz.func55, Tryz.ntmps55
      go_wp2
      go_ret
      exact ⟨rfl, rfl⟩
    · rw [if_neg h2]
      go_enter Tryz.func55, Tryz.ntmps55
      go_wp2
      go_ret
      exact ⟨rfl, rfl⟩
theorem closureS (x y : Int × Int) (W : World) : Calls Tryz.prog 54 #[.agg #[.int .i64 x.1, .int .i64 x.2], .agg #[.int .i64 y.1, .int .i64 y.2]] W fun e w' => e = .returned (.int .i64 (Lib.compareInt x.1 y.1)) ∧ ∃ q os', w' = grow (W.drewN q) os' := by
  have hcon := fun W' => compare_any x.1 y.1 W'
  generalize Lib.compareInt x.1 y.1 = r at hcon ⊢
  go_enter Tryz.func54, Tryz.ntmps54
  go_wp2_with (go_at_call 55; refine (hcon _).mono ?_; rintro e w' ⟨rfl, rfl⟩)
  go_ret
  exact ⟨rfl, 0, _, by rw [alloc_eq_grow, alloc_eq_grow, grow_grow]; rfl⟩
theorem cmpLaysS (blk off size : Nat) (w : World) : CmpLays Tryz.prog 54 #[] encS 2 (fun x y => Lib.compareInt x.1 y.1) blk off size w :=
  fun _ _ _ _ x y => closureS x y _
theorem ltS (x y : Int × Int) : ltOf (fun x y : Int × Int => Lib.compareInt x.1 y.1) x y = decide (x.1 < y.1) := by
  unfold ltOf Lib.compareInt
  by_cases h1 : x.1 < y.1
  · simp [h1]
  · by_cases h2 : y.1 < x.1 <;> simp [h1, h2]
theorem swoS : SWO (ltOf fun x y : Int × Int => Lib.compareInt x.1 y.1) where
  irrefl x := by rw [ltS]; simp
  trans x y z h1 h2 := by rw [ltS] at *; simp at *; omega
  ntrans x y z h1 h2 := by rw [ltS] at *; simp at *; omega
theorem sortFunc_some (blk off cap : Nat) (d : Array (Int × Int)) (w : World) (hH : HoldsK encS 2 w blk off d) (hblk : blk < w.heap.size) (hsz : d.size < 4611686018427387904) :
    Calls Tryz.prog 53 #[.slice (some ⟨blk, off, none⟩) d.size cap, .func (.func 54) #[] #[]] w fun e w' => e = .returned (.tuple #[]) ∧ ∃ d' n os, PermIn 0 d.size d d' ∧ SortedIn (ltOf fun x y : Int × Int => Lib.compareInt x.1 y.1) 0 d.size d' ∧ w' = sortWorldK encS 2 w blk off n d' os :=
  AnyQ.slices_SortFunc sortSpan 2 Tryz.isAgg58 Tryz.sizeOf58 encS (fun _ => rfl) (fun x v hv => by simp [encS] at hv; rcases hv with rfl | rfl <;> rfl) (fun x y => Lib.compareInt x.1 y.1) swoS 54 #[] blk off cap d w (enters_of Tryz.func54 (by kernel_rfl) rfl) (cmpLaysS blk off d.size w) hH hblk hsz
theorem insSort_none (p : Option Addr) (cap : Nat) (fv : Value) (w : World) : Calls Tryz.prog 126 #[.slice p 0 cap, .int .i64 0, .int .i64 0, fv] w fun e w' => e = .returned (.tuple #[]) ∧ w' = w := by
  go_enter Tryz.func126, Tryz.ntmps126
  go_wp2
  refine wp_loop_rounds 1 ?_
  rw [rounds_succ]
  go_wp2
  go_end0
  exact ⟨rfl, rfl⟩
theorem pdq_none (p : Option Addr) (cap : Nat) (lim : Int) (fv : Value) (w : World) : Calls Tryz.prog 85 #[.slice p 0 cap, .int .i64 0, .int .i64 0, .int .i64 lim, fv] w fun e w' => e = .returned (.tuple #[]) ∧ w' = w := by
  have hi := fun W => insSort_none p cap fv W
  go_enter Tryz.func85, Tryz.ntmps85
  go_wp2
  refine wp_loop_rounds 1 ?_
  rw [rounds_succ]
  go_wp2_with (go_at_call 126; refine (hi _).mono ?_; rintro e w' ⟨rfl, rfl⟩)
  (try simp only [Exit.inBlock, Exit.then]); refine bodyPost_ret (results_none rfl _ _ _) rfl ?_
  exact ⟨rfl, rfl⟩
theorem sortFunc_none (p : Option Addr) (cap : Nat) (fv : Value) (w : World) : Calls Tryz.prog 53 #[.slice p 0 cap, fv] w fun e w' => e = .returned (.tuple #[]) ∧ w' = w := by
  have hp := fun lim W => pdq_none p cap lim fv W
  have hl : ∀ W, Calls Tryz.prog 86 #[.int .u64 0] W fun e w' => e = .returned (.int .i64 (Lib.bitLen 0 : Nat)) ∧ w' = W := fun W => by
    have h := Any.bits_Len (SlLaysF0.n15.bits (P := Tryz.prog) (ρ := sortSpan_ren) { sortSpan with }) 0 W (by omega) (by omega)
    exact h
  go_enter Tryz.func53, Tryz.ntmps53
  go_wp2_with (first | (go_at_call 86; refine (hl _).mono ?_; rintro e w' ⟨rfl, rfl⟩) | (go_at_call 85; refine (hp _ _).mono ?_; rintro e w' ⟨rfl, rfl⟩))
  go_end0
  exact ⟨rfl, rfl⟩
theorem OwnsS.holds {base : Nat} {w : World} {b cap : Nat} {L : List Sz} (h : OwnsS base w (.slice (some ⟨b, 0, none⟩) L.length cap) L) : HoldsK encS 2 w b 0 L.toArray := by
  intro j hj
  rw [size_flatK] at hj
  simp only [List.size_toArray] at hj
  refine ⟨?_, by rw [Nat.zero_add]; exact World.ownsRow.frozenAt h j⟩
  rw [Nat.zero_add, World.ownsRow.cellAt h j hj]
  show (zcells L)[j]? = some (flatK encS 2 L.toArray)[j]!
  rw [get_flatK _ _ _ _ (by simpa using hj)]
  have hk : j / 2 < L.length := by omega
  have hg := zcells_get L (j / 2) hk
  have e : (L.toArray)[j / 2]! = L.getD (j / 2) Sz.zero := by simp [List.getD, hk]
  rw [e]
  rcases Nat.mod_two_eq_zero_or_one j with h0 | h0
  · rw [h0]
    have ej : j = j / 2 * 2 := by omega
    conv => lhs; rw [ej]
    rw [hg.1]; rfl
  · rw [h0]
    have ej : j = j / 2 * 2 + 1 := by omega
    conv => lhs; rw [ej]
    rw [hg.2]; rfl
theorem holds_zs {w : World} {b : Nat} {d : Array (Int × Int)} (h : HoldsK encS 2 w b 0 d) (hb : b < w.heap.size) (hs : d.size ≤ 4096) : Zs w (some ⟨b, 0, none⟩) d.size d.toList := by
  refine ⟨by simp, by omega, .inr ⟨b, 0, rfl, hb, fun j hj => ?_⟩⟩
  have hj' : j < d.toList.length := by simpa using hj
  have e : d[j]! = d.toList.getD j Sz.zero := by simp [List.getD, hj]
  have h0 := (h (j * 2) (by rw [size_flatK]; omega)).1
  have h1 := (h (j * 2 + 1) (by rw [size_flatK]; omega)).1
  rw [get_flatK _ _ _ _ (by omega)] at h0 h1
  rw [show j * 2 / 2 = j by omega, show j * 2 % 2 = 0 by omega, e] at h0
  rw [show (j * 2 + 1) / 2 = j by omega, show (j * 2 + 1) % 2 = 1 by omega, e] at h1
  exact ⟨h0, by rw [Nat.add_assoc]; exact h1⟩
theorem below_sort {w : World} {B blk off n : Nat} {d : Array (Int × Int)} {os : Array Obj} (hB : B ≤ blk) (hw : B ≤ w.heap.size) : Below B w (sortWorldK encS 2 w blk off n d os) := by
  refine ⟨rfl, rfl, rfl, ?_, fun k hk => ?_⟩
  · unfold sortWorldK grow putRowK putRow mapBlock Sort.ahead
    show w.heap.size ≤ ((w.heap.modify blk _) ++ os).size
    simp
  · unfold sortWorldK grow putRowK putRow mapBlock Sort.ahead
    show ((w.heap.modify blk _) ++ os)[k]? = w.heap[k]?
    rw [Array.getElem?_append_left (by simp; omega), Array.getElem?_modify, if_neg (by omega)]
end Go.Proofs.YtihliofhhjjeaaaGreat
namespace Go.Proofs.YtihliofhhjjeaaaGreat
open Go.RowKit Im Go.Maps Go.Shelf Go.Sort
def ToldCl (w : World) (L : List Sz) (e : Ending) (w' : World) : Prop :=
  (∃ a cap, e = .returned (.slice a L.length cap) ∧ (L = [] ∨ ∃ b, a = some ⟨b, 0, none⟩ ∧ w.heap.size ≤ b ∧ b < w'.heap.size ∧ HoldsK encS 2 w' b 0 L.toArray)) ∧ Below w.heap.size w w'
theorem zcells_one (L : List Sz) : ∀ u ∈ zcells L, u.oneCell' = true := by
  intro u hu
  unfold zcells at hu
  obtain ⟨z, _, hz⟩ := List.mem_flatMap.1 hu
  simp at hz
  rcases hz with rfl | rfl <;> rfl
theorem zs_news {w : World} {b off : Nat} {len : Nat} {L : List Sz} (h : Zs w (some ⟨b, off, none⟩) len L) : ∀ (j : Nat) (u : Value), (zcells L)[j]? = some u → w.cell? ((⟨b, off, none⟩ : Addr).add j) = some u := by
  intro j u hu
  have hl := zcells_len L
  have hj : j < L.length * 2 := by
    rcases Nat.lt_or_ge j (L.length * 2) with h | h
    · exact h
    · rw [List.getElem?_eq_none (by omega)] at hu; cases hu
  have hleng := h.leng
  obtain ⟨b', off', e, _, c0, c1⟩ := h.nth (k := j / 2) (by omega)
  injection e with e
  injection e with e1 e2
  subst e1 e2
  have hg := zcells_get L (j / 2) (by omega)
  rw [addr_add]
  rcases Nat.mod_two_eq_zero_or_one j with h0 | h0
  · have ej : j = j / 2 * 2 := by omega
    rw [ej] at hu ⊢
    rw [hg.1] at hu
    rw [c0, ← hu]
  · have ej : j = j / 2 * 2 + 1 := by omega
    rw [ej] at hu ⊢
    rw [hg.2] at hu
    rw [← Nat.add_assoc, c1, ← hu]
set_option maxHeartbeats 2000000 in
theorem clone_any {a : Option Addr} {len : Nat} (cap : Nat) {L : List Sz} {w : World} (hZ : Zs w a len L) (hl : L.length ≤ 12) :
    Calls Tryz.prog 52 #[.slice a len cap] w (ToldCl w L) := by
  obtain rfl := hZ.leng
  obtain ⟨i0, hi, hz0, hz1, hz2⟩ := info_parts Tryz.infoSpan
  have q22 : ∀ (w : World) (a : Option Addr) (n c n' c' : Nat), (binOp .eql 59 (.slice a n c) (.slice none n' c')).run Tryz.prog w = .ok (.bool a.isNone) w := fun w a n c n' c' => Lib.run_eql_slice_nil w _ _ a n c n' c' Tryz.underlying59
  by_cases hL : L = []
  · subst hL
    cases a with
    | none =>
      go_enter Tryz.func52, Tryz.ntmps52
      go_wp2
      go_ret
      exact ⟨⟨none, 0, rfl, .inl rfl⟩, Below.refl _ _⟩
    | some x =>
      go_enter Tryz.func52, Tryz.ntmps52
      go_wp2_with (at_builtin; refine list_append_nothing rfl _ _ 59 rfl 58 i0 Tryz.underlying59 hi (some ⟨w.heap.size, 0, none⟩) 0 0 (Nat.le_refl _) rfl (some x) cap rfl ?_)
      go_ret
      exact ⟨⟨_, _, rfl, .inl rfl⟩, below_box (Below.refl _ _) _⟩
  · rcases hZ.cells with e | ⟨b, off, rfl, hb, hc⟩
    · exact absurd e hL
    have hpos : 0 < L.length := by
      rcases Nat.eq_zero_or_pos L.length with h | h
      · exact absurd (List.length_eq_zero_iff.1 h) hL
      · exact h
    have hlit : (w.alloc (.cells #[] 58)).ownsRow w.heap.size 58 2 (.slice (some ⟨w.heap.size, 0, none⟩) 0 0) 0 [] := World.ownsRow_lit w #[] 0 (Nat.le_refl _) (by unfold maxLen; omega) rfl
    have hzA := zs_news (hZ.below (below_box (Below.refl w.heap.size w) (.cells #[] 58)))
    have HLC : Hid ((zcells L).length = L.length * 2) := zcells_len L
    have HL : Hid (_) := hL
    clear hL hc
    go_enter Tryz.func52, Tryz.ntmps52
    go_wp2_with (at_builtin; refine wpList_append_own _ rfl _ _ 59 rfl w.heap.size 58 i0 _ 2 16 Tryz.underlying59 hi hz0 hz1 hz2 rfl (by decide) (.slice (some ⟨w.heap.size, 0, none⟩) 0 0) 0 [] rfl hlit ⟨b, off, none⟩ L.length cap (zcells L) rfl (by rw [HLC.out]) hzA (zcells_one L) (by unfold maxLen; omega) (by omega) (by simp) ?_; intro v' w9 hown9 hgrow9 _)
    have hb9 : Below w.heap.size w w9 := (below_box (Below.refl w.heap.size w) (.cells #[] 58)).grown hgrow9 (by simp) (fun k hk => by cases hk; exact Nat.le_refl _)
    rw [Nat.zero_add, List.nil_append] at hown9
    have hS9 : OwnsS w.heap.size w9 v' L := hown9
    obtain ⟨sa, sc, rfl, hZ9⟩ := hS9.zs (by omega)
    have hlt := World.ownsRow.lt (w := w9) hown9
    clear hown9 hgrow9 hZ hzA
    go_wp2
    go_ret
    refine ⟨⟨sa, sc, rfl, .inr ?_⟩, hb9⟩
    rcases hS9 with ⟨h1, h2⟩
    rcases h2 with ⟨e, h0⟩ | ⟨g, cp, cur, e, r⟩
    · exact absurd (List.length_eq_zero_iff.1 h0) HL.out
    · injection e with e1 e2 e3
      subst e1 e3
      exact ⟨g, rfl, (hlt g rfl).1, (hlt g rfl).2, OwnsS.holds ⟨h1, .inr ⟨g, sc, cur, rfl, r⟩⟩⟩
theorem placeN_take (size : Int) : ∀ (l : List (Int × Int)) (p : Int) (k : Nat), k < l.length → ¬ p + size ≤ (l.getD k Sz.zero).1 → placeN size (l.drop k) p = placeN size (l.drop (k + 1)) (max p ((l.getD k Sz.zero).2 + 1)) := by
  intro l p k hk hn
  rw [List.drop_eq_getElem_cons hk]
  rw [List.getD_eq_getElem?_getD, List.getElem?_eq_getElem hk] at hn ⊢
  simp only [Option.getD_some] at hn ⊢
  conv => lhs; unfold placeN
  rw [if_neg hn]
theorem placeN_stop (size : Int) (l : List (Int × Int)) (p : Int) (k : Nat) (hk : k < l.length) (hn : p + size ≤ (l.getD k Sz.zero).1) : placeN size (l.drop k) p = p := by
  rw [List.drop_eq_getElem_cons hk]
  rw [List.getD_eq_getElem?_getD, List.getElem?_eq_getElem hk] at hn
  simp only [Option.getD_some] at hn
  unfold placeN
  rw [if_pos hn]
theorem sorted_list {d' : Array (Int × Int)} (h : SortedIn (ltOf fun x y : Int × Int => Lib.compareInt x.1 y.1) 0 d'.size d') : d'.toList.Pairwise (fun a b => a.1 ≤ b.1) := by
  rw [List.pairwise_iff_getElem]
  intro i j hi hj hij
  have hi' : i < d'.size := by simpa using hi
  have hj' : j < d'.size := by simpa using hj
  have := h i j (Nat.zero_le _) hij hj'
  rw [ltS] at this
  simp only [decide_eq_false_iff_not] at this
  rw [getElem!_pos d' i hi', getElem!_pos d' j hj'] at this
  simp only [Array.getElem_toList]
  omega
theorem perm_mem {d d' : Array (Int × Int)} (h : PermIn 0 d.size d d') (b : Int × Int) : b ∈ d'.toList ↔ b ∈ d.toList := by
  obtain ⟨h1, _, h3⟩ := h
  have e1 : d.extract 0 d.size = d := by simp
  have e2 : d'.extract 0 d.size = d' := by rw [← h1]; simp
  rw [e1, e2] at h3
  exact h3.mem_iff
def ToldSo (w0 : World) (sa : Option Addr) (L : List Sz) (e : Ending) (w' : World) : Prop :=
  e = .returned (.tuple #[]) ∧ (∃ L' : List Sz, Zs w' sa L.length L' ∧ (∀ b, b ∈ L' ↔ b ∈ L) ∧ L'.Pairwise (fun a b => a.1 ≤ b.1)) ∧ Below w0.heap.size w0 w'
theorem sort_told {w0 w2 : World} {sa : Option Addr} {sc B : Nat} {L : List Sz} (hl : L.length ≤ 12) (hc : L = [] ∨ ∃ b, sa = some ⟨b, 0, none⟩ ∧ B ≤ b ∧ b < w2.heap.size ∧ HoldsK encS 2 w2 b 0 L.toArray) (hB : w0.heap.size ≤ B) (hb : Below w0.heap.size w0 w2) :
    Calls Tryz.prog 53 #[.slice sa L.length sc, .func (.func 54) #[] #[]] w2 (ToldSo w0 sa L) := by
  rcases hc with rfl | ⟨b, rfl, hBb, hlt, hH⟩
  · refine (sortFunc_none sa sc _ w2).mono ?_
    rintro e w' ⟨rfl, rfl⟩
    exact ⟨rfl, ⟨[], ⟨rfl, by simp, .inl rfl⟩, fun b => Iff.rfl, List.Pairwise.nil⟩, hb⟩
  · have hs := sortFunc_some b 0 sc L.toArray w2 hH hlt (by simp; omega)
    simp only [List.size_toArray] at hs
    refine hs.mono ?_
    rintro e w' ⟨rfl, d', n, os, hp, hso, rfl⟩
    have hsz : d'.size = L.length := by simpa using hp.1
    have hH' := holdsK_sortWorldK encS 2 w2 b 0 n L.toArray d' os hlt hH (by simpa using hsz)
    have hz := holds_zs hH' (lt_sortWorldK encS 2 w2 b 0 n d' os hlt) (by omega)
    rw [hsz] at hz
    have hp' : PermIn 0 L.toArray.size L.toArray d' := by simpa using hp
    refine ⟨rfl, ⟨d'.toList, hz, fun x => ?_, sorted_list (by rw [hsz]; exact hso)⟩, hb.trans (below_sort (by omega) hb.size)⟩
    have := perm_mem hp' x
    simpa using this
def ToldPl (w : World) (L : List Sz) (size : Int) (e : Ending) (w' : World) : Prop :=
  e = .returned (.tuple #[.int .i64 (placeP L size), .int .i64 (placeE L size)]) ∧ Below w.heap.size w w'
set_option maxHeartbeats 4000000 in
theorem place_any {a : Option Addr} {len : Nat} (cap : Nat) {L : List Sz} {w : World} (hZ : Zs w a len L) (size : Int) :
    Calls Tryz.prog 23 #[.slice a len cap, .int .i64 size] w (ToldPl w L size) := by
  obtain rfl := hZ.leng
  have hbig := hZ.big
  by_cases h1 : 12 < L.length
  · have hi : (12 : Int) < (L.length : Int) := by omega
    have HE : Hid (_) := placeE_many (size := size) h1
    have HP : Hid (placeP L size = 0) := by show _ = _; unfold placeP; rw [HE.out]; rfl
    go_enter Tryz.func23, Tryz.ntmps23
    go_wp2
    go_ret2
    exact ⟨by rw [HE.out, HP.out]; rfl, Below.refl _ _⟩
  have hi : ¬ (12 : Int) < (L.length : Int) := by omega
  by_cases h2 : 1 ≤ size ∧ size ≤ 4096
  case neg =>
    have HE : Hid (_) := placeE_range h1 h2
    have HP : Hid (placeP L size = 0) := by show _ = _; unfold placeP; rw [HE.out]; rfl
    by_cases hs1 : size < 1
    · clear h2
      go_enter Tryz.func23, Tryz.ntmps23
      go_wp2
      go_ret2
      exact ⟨by rw [HE.out, HP.out]; rfl, Below.refl _ _⟩
    · have hs2 : 4096 < size := by omega
      clear h2
      go_enter Tryz.func23, Tryz.ntmps23
      go_wp2
      go_ret2
      exact ⟨by rw [HE.out, HP.out]; rfl, Below.refl _ _⟩
  have HOK : Hid (okAll L = true → placeE L size = 0) := fun h => placeE_ok h1 h2 h
  have HBAD : Hid (∀ k, k < L.length → okSpan (L.getD k Sz.zero) = false → placeE L size = 3 ∧ placeP L size = 0) := fun k hk hb => by
    have := placeE_bad (size := size) h1 hk hb
    exact ⟨this, by unfold placeP; rw [this]; rfl⟩
  have hs1 : ¬ size < 1 := by omega
  have hs2 : ¬ 4096 < size := by omega
  go_enter Tryz.func23, Tryz.ntmps23
  go_wp2
  go_loopw [23] (fun i wr => ∃ k : Nat, k ≤ L.length ∧ i = .int .i64 k ∧ allTo (fun i => okSpan (L.getD i Sz.zero)) k = true ∧ Below w.heap.size w wr) (fun i _ => L.length - (intOf i).toNat)
  case atStart => exact ⟨0, Nat.zero_le _, rfl, rfl, Below.refl _ _⟩
  case round =>
    obtain ⟨k, hk, rfl, hall, hbr⟩ := hrel
    by_cases hlt : k < L.length
    · obtain ⟨zb, zo, rfl, _, z0, z1⟩ := (hZ.below hbr).nth hlt
      have HA : Hid (okSpan (L.getD k Sz.zero) = true → allTo (fun i => okSpan (L.getD i Sz.zero)) (k + 1) = true) := fun h => allTo_succ hall h
      have HB : Hid (_) := HBAD.out k hlt
      have hkI : (k : Int) < (L.length : Int) := by omega
      have hk0 : (0 : Int) ≤ (k : Int) := by omega
      have HSP : Hid (okSpan (L.getD k Sz.zero) = (decide (0 ≤ (L.getD k Sz.zero).1) && decide ((L.getD k Sz.zero).1 ≤ (L.getD k Sz.zero).2) && decide ((L.getD k Sz.zero).2 ≤ 4096))) := rfl
      generalize (L.getD k Sz.zero).1 = x at z0 HSP
      generalize (L.getD k Sz.zero).2 = y at z1 HSP
      have hbd := below_box hbr (.cells #[.int .i64 x, .int .i64 y] 58)
      clear hall
      by_cases hx0 : 0 ≤ x
      case neg =>
        have hx0' : x < 0 := by omega
        have HX : Hid (_) := HB.out (by rw [HSP.out, decide_eq_false hx0]; rfl)
        go_wp2
        go_ret2
        exact ⟨by rw [HX.out.1, HX.out.2]; rfl, hbd⟩
      by_cases hxy : x ≤ y
      case neg =>
        have HX : Hid (_) := HB.out (by rw [HSP.out, decide_eq_false hxy]; simp)
        go_wp2
        go_ret2
        exact ⟨by rw [HX.out.1, HX.out.2]; rfl, hbd⟩
      by_cases hy : y ≤ 4096
      case neg =>
        have HX : Hid (_) := HB.out (by rw [HSP.out, decide_eq_false hy]; simp)
        go_wp2
        go_ret2
        exact ⟨by rw [HX.out.1, HX.out.2]; rfl, hbd⟩
      have HX : Hid (_) := HA.out (by rw [HSP.out, decide_eq_true hx0, decide_eq_true hxy, decide_eq_true hy]; rfl)
      go_wp2
      go_roundw
      case rel => exact ⟨k + 1, by omega, by go_num, HX.out, hbd⟩
      case measure => simp [intOf]; omega
    · have hke : k = L.length := by omega
      subst hke
      have hE : placeE L size = 0 := HOK.out hall
      have HPP : Hid (placeP L size = placeR L size) := by show _ = _; unfold placeP; rw [if_pos hE]
      have HE : Hid (_) := hE
      obtain ⟨_, _, hbs⟩ := placeE_zero hE
      have hcl := clone_any cap (hZ.below hbr) (by omega)
      clear hall hE
      go_wp2_with fail
      refine hcl.mono ?_
      clear hcl
      rintro e w2 ⟨⟨sa, sc, rfl, hcase⟩, b2⟩
      have hb2 := below_step hbr b2
      have hso := sort_told (w0 := w) (sc := sc) (by omega) hcase hbr.size hb2
      clear hcase b2
      go_wp2_with fail
      refine hso.mono ?_
      clear hso
      rintro e w3 ⟨rfl, ⟨L', hZ', hmem, hsort⟩, hb3⟩
      have HR : Hid (placeN size L' 0 = placeR L size) := placeR_of hmem hsort
      have HBS : Hid (∀ k, k < L.length → 0 ≤ (L'.getD k Sz.zero).1 ∧ (L'.getD k Sz.zero).1 ≤ 4096 ∧ 0 ≤ (L'.getD k Sz.zero).2 ∧ (L'.getD k Sz.zero).2 ≤ 4096) := fun k hk => by
        have := hbs _ ((hmem _).1 (getD_mem (l := L') (k := k) (by rw [hZ'.leng]; exact hk) Sz.zero))
        omega
      have hl' := hZ'.leng
      have hzn := hZ'
      clear hmem hsort hbs hZ hbr hb2
      generalize placeR L size = R at HR HPP
      go_wp2
      go_loopw [9, 49] (fun q i wr => ∃ (k : Nat) (p : Int), k ≤ L.length ∧ i = .int .i64 k ∧ q = .int .i64 p ∧ (0 ≤ p ∧ p ≤ 4097) ∧ placeN size (L'.drop k) p = R ∧ Below w3.heap.size w3 wr) (fun _ i _ => L.length - (intOf i).toNat)
      case atStart => exact ⟨0, 0, Nat.zero_le _, rfl, rfl, by omega, HR.out, Below.refl _ _⟩
      case round =>
        obtain ⟨k, p, hk, rfl, rfl, hpb, hpn, hbr⟩ := hrel
        by_cases hlt : k < L.length
        · obtain ⟨zb, zo, rfl, _, z0, z1⟩ := (hZ'.below hbr).nth hlt
          have hbb := HBS.out k hlt
          have HST : Hid (p + size ≤ (L'.getD k Sz.zero).1 → R = p) := fun h => by rw [← hpn]; exact placeN_stop size L' p k (by omega) h
          have HGO : Hid (¬ p + size ≤ (L'.getD k Sz.zero).1 → placeN size (L'.drop (k + 1)) (max p ((L'.getD k Sz.zero).2 + 1)) = R) := fun h => by rw [← placeN_take size L' p k (by omega) h]; exact hpn
          have hkI : (k : Int) < (L.length : Int) := by omega
          have hk0 : (0 : Int) ≤ (k : Int) := by omega
          generalize (L'.getD k Sz.zero).1 = x at z0 hbb HST HGO
          generalize (L'.getD k Sz.zero).2 = y at z1 hbb HGO
          have hbd := below_box hbr (.cells #[.int .i64 x, .int .i64 y] 58)
          clear hpn
          by_cases hst : p + size ≤ x
          · have HX : Hid (_) := HST.out hst
            go_wp2
            go_ret2
            exact ⟨by rw [HPP.out, HE.out, HX.out]; rfl, below_step hb3 hbd⟩
          · have HX : Hid (_) := HGO.out hst
            go_wp2
            go_roundw
            case rel => exact ⟨k + 1, max p (y + 1), by omega, by go_num, rfl, by omega, HX.out, hbd⟩
            case measure => simp [intOf]; omega
        · have hke : k = L.length := by omega
          subst hke
          have HX : Hid (R = p) := by show _ = _; rw [← hpn, List.drop_of_length_le (by omega)]; rfl
          clear hpn
          go_wp2
          go_ret2
          exact ⟨by rw [HPP.out, HE.out, HX.out]; rfl, below_step hb3 hbr⟩
end Go.Proofs.YtihliofhhjjeaaaGreat
namespace Go.Proofs.YtihliofhhjjeaaaGreat
open Go.RowKit Im Go.Maps
structure Nm (w : World) (b n : Nat) (g : Nat → Int) : Prop where
  lt : b < w.heap.size
  cells : ∀ j, j < n → w.cell? ⟨b, j, none⟩ = some (.int .i64 (g j))
  froz : ∀ o, w.frozen? ⟨b, o, none⟩ = false
theorem Nm.below {w w' : World} {b n B : Nat} {g : Nat → Int} (h : Nm w b n g) (hb : Below B w w') (hB : b < B) (hs : w.heap.size ≤ w'.heap.size) : Nm w' b n g :=
  ⟨Nat.lt_of_lt_of_le h.lt hs, fun j hj => (hb.cell (p := ⟨b, j, none⟩) hB).trans (h.cells j hj), fun o => (hb.frozen (p := ⟨b, o, none⟩) hB).trans (h.froz o)⟩
theorem Nm.put {w : World} {b n : Nat} {g g' : Nat → Int} (h : Nm w b n g) (m : Nat) (x : Int) (hm : m < n) (hg : ∀ j, j < n → g' j = if m = j then x else g j) : Nm (w.setCell ⟨b, m, none⟩ (.int .i64 x)) b n g' := by
  refine ⟨by simpa using h.lt, fun j hj => ?_, fun o => by simpa using h.froz o⟩
  rw [hg j hj]
  by_cases e : m = j
  · subst e
    rw [if_pos rfl]
    exact set_same (h.cells m hm)
  · rw [if_neg e, set_other _ (fun e' => e (by injection e'))]
    exact h.cells j hj
theorem Nm.other {w : World} {b n : Nat} {g : Nat → Int} (h : Nm w b n g) {p : Addr} (hp : p.block ≠ b) (u : Value) : Nm (w.setCell p u) b n g :=
  ⟨by simpa using h.lt, fun j hj => (set_other _ (fun e => hp (by rw [e]))).trans (h.cells j hj), fun o => by simpa using h.froz o⟩
theorem Nm.congr {w : World} {b n : Nat} {g g' : Nat → Int} (h : Nm w b n g) (hg : ∀ j, j < n → g' j = g j) : Nm w b n g' := ⟨h.lt, fun j hj => by rw [hg j hj]; exact h.cells j hj, h.froz⟩
theorem Nm.made {w : World} {base b N cap : Nat} (h : w.ownsRow base 3 1 (.slice (some ⟨b, 0, none⟩) N cap) N (madeCells (Value.int .i64 0).cells (N * 1)).toList) (hb : b < w.heap.size) : Nm w b N (fun _ => 0) := by
  refine ⟨hb, fun j hj => ?_, fun o => World.ownsRow.frozenAt h o⟩
  rw [World.ownsRow.cellAt h j (by omega)]
  have e : (Value.int .i64 0).cells = #[.int .i64 0] := rfl
  rw [e]
  simp only [madeCells, Array.toList_map, Array.toList_range, List.getElem?_map, List.getElem?_range (show j < N * 1 by omega), Option.map_some]
  congr 1
  show (#[Value.int .i64 0] : Array Value)[j % 1]! = _
  rw [Nat.mod_one]
  rfl
theorem Nm.ints {w : World} {b n : Nat} {g : Nat → Int} (h : Nm w b n g) (hn : n ≤ 4096) : Ints 0 w (some ⟨b, 0, none⟩) n ((List.range n).map g) := by
  refine ⟨by simp, by omega, .inr ⟨b, 0, rfl, by omega, h.lt, fun j hj => ?_⟩, fun h0 => absurd h0 (Nat.lt_irrefl 0)⟩
  rw [Nat.zero_add, h.cells j hj]
  simp [List.getD_eq_getElem?_getD, List.getElem?_range hj]
structure WBox (w : World) (b : Nat) (v0 v1 : Value) : Prop where
  lt : b < w.heap.size
  c0 : w.cell? ⟨b, 0, none⟩ = some v0
  c1 : w.cell? ⟨b, 1, none⟩ = some v1
  fz : ∀ o, w.frozen? ⟨b, o, none⟩ = false
theorem WBox.new (w : World) (v0 v1 : Value) (t : TypeId) : WBox (w.alloc (.cells #[v0, v1] t)) w.heap.size v0 v1 := ⟨by simp, by simp [go_sem], by simp [go_sem], fun o => frozen_new w _ _ o⟩
theorem WBox.below {w w' : World} {b B : Nat} {v0 v1 : Value} (h : WBox w b v0 v1) (hb : Below B w w') (hB : b < B) (hs : w.heap.size ≤ w'.heap.size) : WBox w' b v0 v1 :=
  ⟨Nat.lt_of_lt_of_le h.lt hs, (hb.cell (p := ⟨b, 0, none⟩) hB).trans h.c0, (hb.cell (p := ⟨b, 1, none⟩) hB).trans h.c1, fun o => (hb.frozen (p := ⟨b, o, none⟩) hB).trans (h.fz o)⟩
theorem WBox.put0 {w : World} {b : Nat} {v0 v1 : Value} (h : WBox w b v0 v1) (u : Value) : WBox (w.setCell ⟨b, 0, none⟩ u) b u v1 :=
  ⟨by simpa using h.lt, set_same h.c0, (set_other _ (fun e => by injection e with e1 e2; omega)).trans h.c1, fun o => by simpa using h.fz o⟩
theorem WBox.put1 {w : World} {b : Nat} {v0 v1 : Value} (h : WBox w b v0 v1) (u : Value) : WBox (w.setCell ⟨b, 1, none⟩ u) b v0 u :=
  ⟨by simpa using h.lt, (set_other _ (fun e => by injection e with e1 e2; omega)).trans h.c0, set_same h.c1, fun o => by simpa using h.fz o⟩
theorem WBox.other {w : World} {b : Nat} {v0 v1 : Value} (h : WBox w b v0 v1) {p : Addr} (hp : p.block ≠ b) (u : Value) : WBox (w.setCell p u) b v0 v1 :=
  ⟨by simpa using h.lt, (set_other _ (fun e => hp (by rw [e]))).trans h.c0, (set_other _ (fun e => hp (by rw [e]))).trans h.c1, fun o => by simpa using h.fz o⟩
theorem WBox.pl {w : World} {b : Nat} {v0 v1 : Value} (h : WBox w b v0 v1) : PlBox w b v0 v1 := ⟨h.lt, h.c0, h.c1⟩
set_option maxHeartbeats 1000000 in
theorem fitNum_any (x y : Int) (hx : 0 ≤ x ∧ x ≤ 16) (hy : 0 ≤ y ∧ y ≤ 16) (w : World) : Calls Tryz.prog 33 #[.agg #[.int .i64 x, .int .i64 y]] w fun e w' => e = .returned (.int .i64 (x * y)) ∧ w' = w.alloc (.cells #[.int .i64 x, .int .i64 y] 80) := by
  have hxy : IntKind.i64.wrap (x * y) = x * y := by
    have h1 : 0 ≤ x * y := Int.mul_nonneg hx.1 hy.1
    have h2 : x * y ≤ 16 * 16 := Int.mul_le_mul hx.2 hy.2 hy.1 (by omega)
    rw [IntKind.wrap_i64]; omega
  go_enter Tryz.func33, Tryz.ntmps33
  go_wp2
  go_ret
  exact ⟨rfl, rfl⟩
def ToldU (w : World) (G : Gp) (n : Nat) (e : Ending) (w' : World) : Prop :=
  (∃ v pb, e = .returned (.agg #[v, .slice (some ⟨pb, 0, none⟩) n n]) ∧ w.heap.size ≤ pb ∧ pb < w'.heap.size ∧ Owns (pb + 1) w' v (cOrd G n) ∧ Nm w' pb n (fun j => if G.kept j = true then 0 else -1)) ∧ Below w.heap.size w w'
set_option maxHeartbeats 4000000 in
theorem unplaced_any {G : Gp} {b n : Nat} (hn : n ≤ 12) {w : World} (hB : Bl w b n G.kept) (cap : Nat) :
    Calls Tryz.prog 30 #[.slice (some ⟨b, 0, none⟩) n cap] w (ToldU w G n) := by
  obtain ⟨i0, hi, hz0, hz1, hz2⟩ := info_parts Tryz.info3
  have hR0 := WBox.new w (.slice none 0 0) (.slice none 0 0) 27
  have hb0 := below_box (Below.refl w.heap.size w) (.cells #[.slice none 0 0, .slice none 0 0] 27)
  have hs0 : (w.alloc (.cells #[.slice none 0 0, .slice none 0 0] 27)).heap.size = w.heap.size + 1 := by simp
  have HCO : Hid (∀ k, cOrd G (k + 1) = if G.kept k = true then cOrd G k ++ [(k : Int)] else cOrd G k) := fun _ => rfl
  have HCL : Hid (∀ k, (cOrd G k).length ≤ k) := fun k => cOrd_len G k
  go_enter Tryz.func30, Tryz.ntmps30
  go_upto_region 2 with (at_make; refine wpList_make_full _ rfl _ _ 25 rfl (w.heap.size + 1) 3 i0 (.int .i64 0) 1 Tryz.underlying25 hi hz0 hz1 .i64 .i64 _ _ n rfl rfl (by simp) (by simp) (by rw [hz2]; omega) (by unfold maxLen; omega) (by simp) ?_; intro wM hown hgrow)
  rw [World.size_alloc] at hown
  have hbM : Below (w.heap.size + 1) (w.alloc (.cells #[.slice none 0 0, .slice none 0 0] 27)) wM := by
    have := (Below.refl (w.heap.size + 1) (w.alloc (.cells #[.slice none 0 0, .slice none 0 0] 27))).grown hgrow (by simp) (fun k hk => by cases hk)
    exact this
  have hlM := (World.ownsRow.lt (w := wM) hown (w.heap.size + 1) rfl).2
  have hKM := Nm.made hown hlM
  have hRM := hR0.below hbM (Nat.lt_succ_self _) hbM.size
  have hBM : Below w.heap.size w wM := hb0.trans (hbM.mono (Nat.le_succ _))
  clear hown hgrow hR0 hb0 hs0 hbM
  have hX1 := WBox.new wM (.slice none 0 0) (.slice (some ⟨w.heap.size + 1, 0, none⟩) n n) 27
  have bA : Below wM.heap.size wM (wM.alloc (.cells #[.slice none 0 0, .slice (some ⟨w.heap.size + 1, 0, none⟩) n n] 27)) := (Below.refl _ _).alloc (Nat.le_refl _) _
  have hK1 := hKM.below bA hlM bA.size
  have hR1 := hRM.below bA hRM.lt bA.size
  have hB1 := below_step hBM bA
  have hs1 : (wM.alloc (.cells #[.slice none 0 0, .slice (some ⟨w.heap.size + 1, 0, none⟩) n n] 27)).heap.size = wM.heap.size + 1 := by simp
  clear hKM hRM hBM bA
  generalize wM.alloc (.cells #[.slice none 0 0, .slice (some ⟨w.heap.size + 1, 0, none⟩) n n] 27) = w1 at hX1 hK1 hR1 hB1 hs1 ⊢
  generalize wM.heap.size = q at hlM hX1 hs1 ⊢
  clear wM
  go_wp2
  go_loopw [12] (fun i wr => ∃ (k : Nat) (v : Value), k ≤ n ∧ i = .int .i64 k ∧ Owns (q + 1) wr v (cOrd G k) ∧ WBox wr q v (.slice (some ⟨w.heap.size + 1, 0, none⟩) n n) ∧ WBox wr w.heap.size (.slice none 0 0) (.slice none 0 0) ∧ Nm wr (w.heap.size + 1) n (fun j => if j < k then (if G.kept j = true then 0 else -1) else 0) ∧ Below w.heap.size w wr ∧ q + 1 ≤ wr.heap.size) (fun i _ => n - (intOf i).toNat)
  case atStart => exact ⟨0, _, Nat.zero_le _, rfl, World.ownsRow_nil _ _ _ _, hX1, hR1, hK1.congr (fun j _ => by simp), hB1, by omega⟩
  case round =>
    obtain ⟨k, v, hk, rfl, hown, hX, hR, hK, hbr, hsz⟩ := hrel
    clear hX1 hR1 hK1 hB1 hs1
    obtain ⟨a, c, rfl⟩ := owns_slice hown
    have hXl := hX.lt
    have hcl := HCL.out k
    by_cases hlt : k < n
    · have hkI : (k : Int) < (n : Int) := by omega
      have hk0 : (0 : Int) ≤ (k : Int) := by omega
      have hBr := hB.below hbr hB.lt hbr.size
      have g0 := hBr.cells k hlt
      have HC : Hid (_) := HCO.out k
      obtain ⟨_, x0, x1, fx⟩ := id hX
      have fx0 := fx 0
      have p0 := hK.cells k hlt
      have pf := hK.froz k
      generalize hg : G.kept k = y at g0 HC
      cases y with
      | true =>
        have hK' : Nm wr (w.heap.size + 1) n (fun j => if j < k + 1 then (if G.kept j = true then 0 else -1) else 0) := hK.congr (fun j hj => by
          by_cases e : j = k
          · subst e; simp [hg]
          · by_cases h : j < k
            · rw [if_pos h, if_pos (by omega)]
            · rw [if_neg h, if_neg (by omega)])
        have HC2 : Hid (cOrd G (k + 1) = cOrd G k ++ [(k : Int)]) := HC.out.trans (if_pos rfl)
        clear HC hg hK p0 pf
        generalize cOrd G k = os at hown HC2 hcl x0 hX ⊢
        go_wp2_with (at_builtin; refine wpList_append_own _ rfl _ _ 25 rfl (q + 1) 3 i0 (.int .i64 0) 1 8 Tryz.underlying25 hi hz0 hz1 hz2 rfl (by decide) _ _ _ rfl (World.ownsRow.alloc hown _) ⟨wr.heap.size, 0, none⟩ 1 1 [.int .i64 k] rfl rfl (cell_one_new _ _ _) (by intro u hu; simp at hu; subst hu; rfl) (by unfold maxLen; omega) (by omega) (by simp; omega) ?_; intro v' w9 hown9 hgrow9 _; obtain ⟨a9, c9, hv9⟩ := owns_slice hown9; subst hv9; have RR := Owns.push (x := (k : Int)) hown (Below.refl (q + 1) wr) hsz hown9 rfl hgrow9; have hX9 := hX.below RR.2 (Nat.lt_succ_self _) RR.2.size; obtain ⟨_, y0, y1, fy⟩ := id hX9; have fy0 := fy 0)
        have hq0 : w.heap.size ≠ q := by omega
        have hq1 : w.heap.size + 1 ≠ q := by omega
        have hs9 := RR.2.size
        go_roundw
        case rel => exact ⟨k + 1, _, by omega, by go_num, by rw [HC2.out]; exact ownsRow_setCell_below RR.1 (a := ⟨q, 0, none⟩) (Nat.lt_succ_self _) _, hX9.put0 _, (hR.below RR.2 (by omega) RR.2.size).other (p := ⟨q, 0, none⟩) (Ne.symm hq0) _, (hK'.below RR.2 (by omega) RR.2.size).other (p := ⟨q, 0, none⟩) (Ne.symm hq1) _, (hbr.trans (RR.2.mono (by omega))).setCell (p := ⟨q, 0, none⟩) (by show w.heap.size ≤ q; omega) _, by rw [World.size_setCell]; omega⟩
        case measure => simp [intOf]; omega
      | false =>
        have hq0 : w.heap.size + 1 ≠ w.heap.size := by omega
        have hq1 : w.heap.size + 1 ≠ q := by omega
        have hK' : Nm (wr.setCell ⟨w.heap.size + 1, k, none⟩ (.int .i64 (-1))) (w.heap.size + 1) n (fun j => if j < k + 1 then (if G.kept j = true then 0 else -1) else 0) := hK.put k (-1) hlt (fun j hj => by
          by_cases e : k = j
          · subst e; simp [hg]
          · rw [if_neg e]
            by_cases h : j < k
            · rw [if_pos h, if_pos (by omega)]
            · rw [if_neg h, if_neg (by omega)])
        have HC2 : Hid (cOrd G (k + 1) = cOrd G k) := HC.out.trans (if_neg (by decide))
        clear HC hg hK
        go_wp2
        go_roundw
        case rel => exact ⟨k + 1, _, by omega, by go_num, by rw [HC2.out]; exact ownsRow_setCell_below hown (a := ⟨w.heap.size + 1, k, none⟩) (by show w.heap.size + 1 < q + 1; omega) _, hX.other (p := ⟨w.heap.size + 1, k, none⟩) hq1 _, hR.other (p := ⟨w.heap.size + 1, k, none⟩) hq0 _, hK', hbr.setCell (p := ⟨w.heap.size + 1, k, none⟩) (Nat.le_succ _) _, by rw [World.size_setCell]; omega⟩
        case measure => simp [intOf]; omega
    · have hke : k = n := by omega
      subst hke
      obtain ⟨_, x0, x1, _⟩ := id hX
      obtain ⟨_, r0, r1, fr⟩ := id hR
      have fr0 := fr 0
      have fr1 := fr 1
      have hR2 := (hR.put0 (.slice a (cOrd G k).length c)).put1 (.slice (some ⟨w.heap.size + 1, 0, none⟩) k k)
      obtain ⟨_, d0, d1, _⟩ := id hR2
      have hq0 : w.heap.size ≠ w.heap.size + 1 := by omega
      have hKe : Nm wr (w.heap.size + 1) k (fun j => if G.kept j = true then 0 else -1) := hK.congr (fun j hj => by rw [if_pos hj])
      have hT : ToldU w G k (.returned (.agg #[.slice a (cOrd G k).length c, .slice (some ⟨w.heap.size + 1, 0, none⟩) k k])) ((wr.setCell ⟨w.heap.size, 0, none⟩ (.slice a (cOrd G k).length c)).setCell ⟨w.heap.size, 1, none⟩ (.slice (some ⟨w.heap.size + 1, 0, none⟩) k k)) :=
        ⟨⟨_, w.heap.size + 1, rfl, by omega, by rw [World.size_setCell, World.size_setCell]; omega, Owns.mono (ownsRow_setCell_below (ownsRow_setCell_below hown (a := ⟨w.heap.size, 0, none⟩) (by show w.heap.size < q + 1; omega) _) (a := ⟨w.heap.size, 1, none⟩) (by show w.heap.size < q + 1; omega) _) (by omega), (hKe.other (p := ⟨w.heap.size, 0, none⟩) hq0 _).other (p := ⟨w.heap.size, 1, none⟩) hq0 _⟩, (hbr.setCell (p := ⟨w.heap.size, 0, none⟩) (Nat.le_refl _) _).setCell (p := ⟨w.heap.size, 1, none⟩) (Nat.le_refl _) _⟩
      have HT : Hid (_) := hT
      clear hT hKe hK hX hR hbr hown hR2
      go_wp2
      exact bodyPost_ret (v := .agg #[.slice a (cOrd G k).length c, .slice (some ⟨w.heap.size + 1, 0, none⟩) k k]) (by simp [results, Tryz.results30, go_sem, d0, d1]) rfl HT.out
end Go.Proofs.YtihliofhhjjeaaaGreat
namespace Go.Proofs.YtihliofhhjjeaaaGreat
open Go.RowKit Im Go.Maps
def busyF (sp : Nat → Int × Int) (ar pf : Nat → Int) (os : List Int) (t : Nat) : Nat → List Sz
  | 0 => []
  | m + 1 => if (t : Int) ≤ (sp (os.getD m 0).toNat).2 then busyF sp ar pf os t m ++ [(pf (os.getD m 0).toNat, pf (os.getD m 0).toNat + ar (os.getD m 0).toNat - 1)] else busyF sp ar pf os t m
theorem busyF_len (sp : Nat → Int × Int) (ar pf : Nat → Int) (os : List Int) (t : Nat) : ∀ m, (busyF sp ar pf os t m).length ≤ m
  | 0 => Nat.le_refl _
  | m + 1 => by
    have := busyF_len sp ar pf os t m
    unfold busyF
    split
    · rw [List.length_append]; simp; omega
    · omega
theorem busyF_eq {G : Gp} {os qs : List Int} {pf : Nat → Int} {t : Nat} : ∀ {m : Nat}, (∀ j, j < m → pf (os.getD j 0).toNat = qs.getD j 0) → busyF (spanP G os) G.ar pf os t m = busyQ G os qs t m
  | 0, _ => rfl
  | m + 1, h => by
    unfold busyF busyQ
    rw [busyF_eq (m := m) (fun j hj => h j (by omega)), h m (by omega)]
set_option maxHeartbeats 4000000 in
theorem busyAt_any {N : Nat} {os : List Int} {sp : Nat → Int × Int} {pf : Nat → Int} {zs : List Sz} (hos : ∀ o ∈ os, 0 ≤ o ∧ o < N) (hol : os.length ≤ 12) (hzs : ∀ k, k < N → (0 ≤ (zs.getD k Sz.zero).1 ∧ (zs.getD k Sz.zero).1 ≤ 16) ∧ (0 ≤ (zs.getD k Sz.zero).2 ∧ (zs.getD k Sz.zero).2 ≤ 16)) (hpf : ∀ k, k < N → -1 ≤ pf k ∧ pf k ≤ 4097)
    {oa : Option Addr} {olen ocap : Nat} (hcap : olen ≤ ocap) {sb pb : Nat} {za : Option Addr} (zc : Nat) {w : World} {t : Nat} (ht : t < os.length) (hO : Ints 0 w oa olen os) (hS : Sp w sb N sp) (hP : Nm w pb N pf) (hZ : Zs w za N zs) :
    Calls Tryz.prog 32 #[.int .i64 t, .agg #[.slice oa olen ocap, .slice (some ⟨pb, 0, none⟩) N N], .slice (some ⟨sb, 0, none⟩) N N, .slice za N zc] w fun e w' =>
      (∃ v, e = .returned v ∧ OwnsS w.heap.size w' v (busyF sp (fun k => areaZ (zs.getD k Sz.zero)) pf os t t)) ∧ Below w.heap.size w w' := by
  obtain rfl := hO.leng
  obtain ⟨i0, hi, hz0, hz1, hz2⟩ := info_parts Tryz.infoSpan
  have hX0 := PlBox.new w (.slice oa os.length ocap) (.slice (some ⟨pb, 0, none⟩) N N) 27
  have hb0 := below_box (Below.refl w.heap.size w) (.cells #[.slice oa os.length ocap, .slice (some ⟨pb, 0, none⟩) N N] 27)
  obtain ⟨ob, oo, rfl, _⟩ := hO.nth ht
  have htc : (t : Int) ≤ (ocap : Int) := by omega
  have ht0 : (0 : Int) ≤ (t : Int) := by omega
  have HBS : Hid (∀ m, busyF sp (fun k => areaZ (zs.getD k Sz.zero)) pf os t (m + 1) = if (t : Int) ≤ (sp (os.getD m 0).toNat).2 then busyF sp (fun k => areaZ (zs.getD k Sz.zero)) pf os t m ++ [(pf (os.getD m 0).toNat, pf (os.getD m 0).toNat + (zs.getD (os.getD m 0).toNat Sz.zero).1 * (zs.getD (os.getD m 0).toNat Sz.zero).2 - 1)] else busyF sp (fun k => areaZ (zs.getD k Sz.zero)) pf os t m) := fun _ => rfl
  have HBL : Hid (∀ m, (busyF sp (fun k => areaZ (zs.getD k Sz.zero)) pf os t m).length ≤ m) := fun m => busyF_len _ _ _ _ _ m
  have HOS : Hid (_) := hos
  have HZS : Hid (_) := hzs
  have HPF : Hid (_) := hpf
  have HB0 : Hid (OwnsS (w.heap.size + 1) (w.alloc (.cells #[.slice (some ⟨ob, oo, none⟩) os.length ocap, .slice (some ⟨pb, 0, none⟩) N N] 27)) (.slice none 0 0) (busyF sp (fun k => areaZ (zs.getD k Sz.zero)) pf os t 0)) := World.ownsRow_nil _ _ _ _
  generalize busyF sp (fun k => areaZ (zs.getD k Sz.zero)) pf os t = bf at *
  clear hos hzs hpf
  go_enter Tryz.func32, Tryz.ntmps32
  go_wp2
  go_loopw [9, 18] (fun v i wr => ∃ k : Nat, k ≤ t ∧ i = .int .i64 k ∧ OwnsS (w.heap.size + 1) wr v (bf k) ∧ PlBox wr w.heap.size (.slice (some ⟨ob, oo, none⟩) os.length ocap) (.slice (some ⟨pb, 0, none⟩) N N) ∧ Below w.heap.size w wr ∧ w.heap.size + 1 ≤ wr.heap.size) (fun _ i _ => t - (intOf i).toNat)
  case atStart => exact ⟨0, Nat.zero_le _, rfl, HB0.out, hX0, hb0, by simp⟩
  case round =>
    obtain ⟨k, hk, rfl, hown, hX, hbr, hsz⟩ := hrel
    clear hX0 hb0 HB0
    have hbl := HBL.out k
    obtain ⟨va, vc, rfl⟩ := owns_slice hown
    by_cases hlt : k < t
    · obtain ⟨ob', oo', hoe, hox⟩ := (hO.below (Nat.le_refl _) hbr).nth (show k < os.length by omega)
      injection hoe with hoe
      injection hoe with h1 h2
      subst h1 h2
      have hor := HOS.out _ (getD_mem (show k < os.length by omega) 0)
      have HB1 : Hid (_) := HBS.out k
      generalize os.getD k 0 = p at hox hor HB1
      obtain ⟨q, rfl⟩ := Int.eq_ofNat_of_zero_le hor.1
      rw [Int.toNat_natCast] at HB1
      have hql : q < N := by omega
      have hqI : (q : Int) < (N : Int) := by omega
      have hq0 : (0 : Int) ≤ (q : Int) := by omega
      have hkI : (k : Int) < (t : Int) := by omega
      have hk0 : (0 : Int) ≤ (k : Int) := by omega
      have hSr := hS.below hbr hS.lt hbr.size
      have hPr := hP.below hbr hP.lt hbr.size
      obtain ⟨zb, zo, rfl, _, z0, z1⟩ := (hZ.below hbr).nth hql
      have s1 := hSr.c1 q hql
      have p0 := hPr.cells q hql
      have hzb := HZS.out q hql
      have hpb := HPF.out q hql
      obtain ⟨_, x0, x1⟩ := id hX
      generalize (zs.getD q Sz.zero).1 = zx at z0 hzb HB1
      generalize (zs.getD q Sz.zero).2 = zy at z1 hzb HB1
      generalize (sp q).2 = s at s1 HB1
      generalize pf q = pq at p0 hpb HB1
      by_cases hs : (t : Int) ≤ s
      · have HB2 : Hid (_) := HB1.out.trans (if_pos hs)
        have hnu := fun wx => fitNum_any zx zy hzb.1 hzb.2 wx
        have hxy : 0 ≤ zx * zy ∧ zx * zy ≤ 256 := ⟨Int.mul_nonneg hzb.1.1 hzb.2.1, Int.mul_le_mul hzb.1.2 hzb.2.2 hzb.2.1 (by omega)⟩
        generalize zx * zy = ar at hnu hxy HB2
        generalize bf k = L at hown HB2 hbl ⊢
        have hw1 : IntKind.i64.wrap (pq + ar) = pq + ar := by rw [IntKind.wrap_i64]; omega
        have hw2 : IntKind.i64.wrap (pq + ar - 1) = pq + ar - 1 := by rw [IntKind.wrap_i64]; omega
        have bN : Below wr.heap.size wr (wr.alloc (.cells #[.int .i64 zx, .int .i64 zy] 80)) := (Below.refl _ _).alloc (Nat.le_refl _) _
        have hownN : OwnsS (w.heap.size + 1) (wr.alloc (.cells #[.int .i64 zx, .int .i64 zy] 80)) (.slice va L.length vc) L := World.ownsRow.alloc hown _
        have hszN : w.heap.size + 1 ≤ (wr.alloc (.cells #[.int .i64 zx, .int .i64 zy] 80)).heap.size := by simp; omega
        go_wp2_with (first
          | (go_at_call 33; refine (hnu _).mono ?_; rintro e wN ⟨rfl, hwN⟩; have hownN' : OwnsS (w.heap.size + 1) wN (.slice va L.length vc) L := hwN ▸ hownN; have hszN' : w.heap.size + 1 ≤ wN.heap.size := hwN ▸ hszN; have bN' : Below wr.heap.size wr wN := hwN ▸ bN; clear hwN hownN hszN bN)
          | (at_builtin; refine wpList_append_own _ rfl _ _ 59 rfl (w.heap.size + 1) 58 i0 _ 2 16 Tryz.underlying59 hi hz0 hz1 hz2 rfl (by decide) _ _ _ rfl (World.ownsRow.alloc hownN' _) ⟨wN.heap.size, 0, none⟩ 1 1 [.int .i64 pq, .int .i64 (pq + ar - 1)] rfl rfl (cell_two_new _ _ _ _) (by intro u hu; simp at hu; rcases hu with rfl | rfl <;> rfl) (by unfold maxLen; omega) (by omega) (by simp; omega) ?_; intro v' w9 hown9 hgrow9 _))
        have RR := OwnsS.push (z := (pq, pq + ar - 1)) hownN' (Below.refl (w.heap.size + 1) _) hszN' hown9 rfl hgrow9
        have bT : Below (w.heap.size + 1) wr w9 := (bN'.mono hsz).trans RR.2
        go_roundw
        case rel => exact ⟨k + 1, by omega, by go_num, by rw [HB2.out]; exact RR.1, ⟨Nat.lt_of_lt_of_le hX.lt bT.size, (bT.cell (p := ⟨w.heap.size, 0, none⟩) (Nat.lt_succ_self _)).trans x0, (bT.cell (p := ⟨w.heap.size, 1, none⟩) (Nat.lt_succ_self _)).trans x1⟩, hbr.trans (bT.mono (Nat.le_succ _)), Nat.le_trans hsz bT.size⟩
        case measure => simp [intOf]; omega
      · have HB2 : Hid (_) := HB1.out.trans (if_neg hs)
        go_wp2
        go_roundw
        case rel => exact ⟨k + 1, by omega, by go_num, by rw [HB2.out]; exact hown, hX, hbr, hsz⟩
        case measure => simp [intOf]; omega
    · have hke : k = t := by omega
      subst hke
      have HM : Hid (OwnsS w.heap.size wr (.slice va (bf k).length vc) (bf k)) := row_mono hown (Nat.le_succ _)
      go_wp2
      go_ret
      exact ⟨⟨_, rfl, HM.out⟩, hbr⟩
end Go.Proofs.YtihliofhhjjeaaaGreat
namespace Go.Proofs.YtihliofhhjjeaaaGreat
theorem nodup_take {os : List Int} (h : os.Nodup) (n : Nat) : (os.take n).Nodup := h.sublist (List.take_sublist n os)
theorem take_len {os : List Int} {n : Nat} (hn : n ≤ os.length) : (os.take n).length = n := by rw [List.length_take]; omega
theorem take_getD {os : List Int} {j n : Nat} (hj : j < n) : (os.take n).getD j 0 = os.getD j 0 := by
  rw [List.getD_eq_getElem?_getD, List.getD_eq_getElem?_getD, List.getElem?_take, if_pos hj]
theorem step_take {os : List Int} (h : os.Nodup) {n j : Nat} (hn : n ≤ os.length) (hj : j < n) : stepAt (os.take n) (os.getD j 0) = j := by
  have := stepAt_self (nodup_take h n) (show j < (os.take n).length by rw [take_len hn]; exact hj)
  rwa [take_getD hj] at this
theorem plcN_at {G : Gp} {os : List Int} (h : os.Nodup) (hin : ∀ o ∈ os, 0 ≤ o ∧ o < G.N) {z : Nat → Int} {n j : Nat} (hn : n ≤ os.length) (hj : j < n) : plcN G os z n (os.getD j 0).toNat = (qsP G os n).getD j 0 := by
  have ho := hin _ (getD_in (show j < os.length by omega))
  unfold plcN
  rw [Int.toNat_of_nonneg ho.1, step_take h hn hj, if_pos (by omega), Int.toNat_natCast]
theorem plcN_step {G : Gp} {os : List Int} (h : os.Nodup) (hin : ∀ o ∈ os, 0 ≤ o ∧ o < G.N) {z : Nat → Int} {n : Nat} (hn : n < os.length) (k : Nat) : plcN G os z (n + 1) k = if (os.getD n 0).toNat = k then placeR (busyQ G os (qsP G os n) n n) (G.ar (os.getD n 0).toNat) else plcN G os z n k := by
  have ho := hin _ (getD_in hn)
  by_cases e : (os.getD n 0).toNat = k
  · rw [if_pos e, ← e, plcN_at h hin (show n + 1 ≤ os.length by omega) (Nat.lt_succ_self n), qsP_get G os (Nat.lt_succ_self n)]
  · rw [if_neg e]
    have hne : ¬ os.getD n 0 = (k : Int) := fun h' => e (by rw [h', Int.toNat_natCast])
    have es : stepAt (os.take (n + 1)) (k : Int) = stepAt (os.take n) (k : Int) := by
      have hnn := nodup_take h (n + 1)
      have et : os.take (n + 1) = os.take n ++ [os.getD n 0] := by rw [List.take_succ_eq_append_getElem hn, List.getD_eq_getElem?_getD, List.getElem?_eq_getElem hn]; rfl
      rw [et] at hnn ⊢
      have hni : os.getD n 0 ∉ os.take n := fun hm => by
        rw [List.nodup_append] at hnn
        exact hnn.2.2 _ hm _ (by simp) rfl
      rw [stepAt_snoc (k : Int) hni, if_neg hne]
    unfold plcN
    rw [es]
    by_cases h0 : 0 ≤ stepAt (os.take n) (k : Int)
    · rw [if_pos h0, if_pos h0]
      have hb := stepAt_bd (os.take n) (k : Int)
      rw [take_len (by omega)] at hb
      rw [qsP_get G os (show (stepAt (os.take n) (k : Int)).toNat < n + 1 by omega), qsP_get G os (show (stepAt (os.take n) (k : Int)).toNat < n by omega)]
    · rw [if_neg h0, if_neg h0]
theorem cOrd_nodup (G : Gp) : (cOrd G G.N).Nodup := (cOrd_sorted G G.N).imp (fun h => by omega)
theorem comp_busy {G : Gp} {z : Nat → Int} {n : Nat} (hn : n ≤ (cOrd G G.N).length) : busyF (spanP G (cOrd G G.N)) G.ar (plcN G (cOrd G G.N) z n) (cOrd G G.N) n n = busyQ G (cOrd G G.N) (qsP G (cOrd G G.N) n) n n :=
  busyF_eq (fun _ hj => plcN_at (cOrd_nodup G) (cOrd_in G) hn hj)
theorem comp_top {G : Gp} (hG : G.Right) : arTo G (cOrd G G.N) (cOrd G G.N).length ≤ 3072 := by
  have h2 := arTo_bd hG (cOrd_in G) (n := (cOrd G G.N).length) (Nat.le_refl _)
  have h3 := cOrd_len G G.N
  have h4 := hG.hN
  omega
theorem plc_bd {G : Gp} (hG : G.Right) {z : Nat → Int} (hz : ∀ k, -1 ≤ z k ∧ z k ≤ 0) {n : Nat} (hn : n ≤ (cOrd G G.N).length) (k : Nat) : -1 ≤ plcN G (cOrd G G.N) z n k ∧ plcN G (cOrd G G.N) z n k ≤ 3072 := by
  unfold plcN
  by_cases h0 : 0 ≤ stepAt ((cOrd G G.N).take n) (k : Int)
  · rw [if_pos h0]
    have hb := stepAt_bd ((cOrd G G.N).take n) (k : Int)
    rw [take_len hn] at hb
    have h1 := qs_bd hG (cOrd_in G) hn (show (stepAt ((cOrd G G.N).take n) (k : Int)).toNat < n by omega)
    have ho := (cOrd_in G) _ (getD_in (show (stepAt ((cOrd G G.N).take n) (k : Int)).toNat < (cOrd G G.N).length by omega))
    have h5 := hG.ar ((cOrd G G.N).getD (stepAt ((cOrd G G.N).take n) (k : Int)).toNat 0).toNat (by omega)
    have := comp_top hG
    omega
  · rw [if_neg h0]
    have := hz k
    omega
theorem comp_place {G : Gp} (hG : G.Right) {n : Nat} (hn : n < (cOrd G G.N).length) : placeE (busyQ G (cOrd G G.N) (qsP G (cOrd G G.N) n) n n) (G.ar ((cOrd G G.N).getD n 0).toNat) = 0 := by
  have hN := hG.hN
  have hl := cOrd_len G G.N
  have hbl := busyQ_len G (cOrd G G.N) (qsP G (cOrd G G.N) n) n n
  have ho := (cOrd_in G) _ (getD_in hn)
  have ha := hG.ar ((cOrd G G.N).getD n 0).toNat (by omega)
  have htop := comp_top hG
  refine placeE_ok (by omega) (by omega) ((allTo_iff _ _).2 fun i hi => ?_)
  obtain ⟨j, hj, _, e⟩ := busyQ_mem.1 (getD_mem hi Sz.zero)
  have hq := qs_bd hG (cOrd_in G) (show n ≤ (cOrd G G.N).length by omega) hj
  have ho' := (cOrd_in G) _ (getD_in (show j < (cOrd G G.N).length by omega))
  have ha' := hG.ar ((cOrd G G.N).getD j 0).toNat (by omega)
  unfold okSpan
  rw [e]
  simp only [Bool.and_eq_true, decide_eq_true_eq]
  omega
theorem comp_placeP {G : Gp} (hG : G.Right) {n : Nat} (hn : n < (cOrd G G.N).length) : placeP (busyQ G (cOrd G G.N) (qsP G (cOrd G G.N) n) n n) (G.ar ((cOrd G G.N).getD n 0).toNat) = placeR (busyQ G (cOrd G G.N) (qsP G (cOrd G G.N) n) n n) (G.ar ((cOrd G G.N).getD n 0).toNat) := by
  unfold placeP; rw [if_pos (comp_place hG hn)]
theorem plc_zero {G : Gp} {os : List Int} {z : Nat → Int} (k : Nat) : plcN G os z 0 k = z k := by unfold plcN; rw [if_neg (by simp [stepAt])]
theorem plc_done {G : Gp} {z : Nat → Int} (hz : ∀ k, k < G.N → ¬ G.kept k = true → z k = -1) {k : Nat} (hk : k < G.N) : plcN G (cOrd G G.N) z (cOrd G G.N).length k = (cPl G).getD k 0 := by
  unfold cPl
  rw [getD_map_range _ hk, plcN_end, plcN_end]
  by_cases h0 : 0 ≤ stepAt (cOrd G G.N) (k : Int)
  · rw [if_pos h0, if_pos h0]
  · rw [if_neg h0, if_neg h0]
    exact hz k hk (fun hK => h0 (stepAt_mem.2 ((cOrd_mem G k G.N).2 ⟨by omega, by omega, by rw [Int.toNat_natCast]; exact hK⟩)))
theorem comp_ord {G : Gp} (hG : G.Right) (hC : Closed G) {z : Nat → Int} (hz0 : ∀ k, k < G.N → ¬ G.kept k = true → z k = -1) (hz1 : ∀ k, k < G.N → G.kept k = true → z k = 0) : Ord G (cOrd G G.N) ((List.range G.N).map z) := by
  refine cOrd_ord hG hC (by simp) (fun k hk hK => ?_) (fun k hk hK => ?_)
  · rw [getD_map_range _ hk, hz1 k hk hK]; omega
  · rw [getD_map_range _ hk, hz0 k hk hK]
end Go.Proofs.YtihliofhhjjeaaaGreat
