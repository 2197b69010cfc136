/-
  SLOTS: what lies in which slot, told by the pass that made it.
-/
import Derived.Test.YtfpkiimlaepnhaaM10
namespace Go.Proofs.Ytfpkiimlaepnhaa
set_option maxRecDepth 100000
open Go.RowKit Im

theorem maker_none {w : World} {b m : Nat} (hm : (m : Int) < 8) (hc : w.cell? ⟨b, m, none⟩ = some (.int .i64 0)) : Calls Try.prog 112 #[.pointer (some ⟨b, 0, none⟩), .int .i64 m] w fun e w' => e = .returned (.tuple #[.int .i64 0, .bool false]) ∧ w = w' := by
  go_enter Try.func112, Try.ntmps112
  go_wp2
  go_ret2
  exact ⟨rfl, rfl⟩
theorem maker_some {w : World} {b m : Nat} {n : Int} (hm : (m : Int) < 8) (hn : ¬ n = 0) (hw : IntKind.i64.wrap (n - 1) = n - 1) (hc : w.cell? ⟨b, m, none⟩ = some (.int .i64 n)) : Calls Try.prog 112 #[.pointer (some ⟨b, 0, none⟩), .int .i64 m] w fun e w' => e = .returned (.tuple #[.int .i64 (n - 1), .bool true]) ∧ w = w' := by
  go_enter Try.func112, Try.ntmps112
  go_wp2
  go_ret2
  exact ⟨rfl, rfl⟩
theorem put_any {w : World} {b m : Nat} {n : Int} {u : Value} (hm : (m : Int) < 8) (hw : IntKind.i64.wrap (n + 1) = n + 1) (hc : w.cell? ⟨b, m, none⟩ = some u) (hf : w.frozen? ⟨b, m, none⟩ = false) : Calls Try.prog 111 #[.pointer (some ⟨b, 0, none⟩), .int .i64 m, .int .i64 n] w fun e w' => (∃ x, e = .returned x) ∧ w' = w.setCell ⟨b, m, none⟩ (.int .i64 (n + 1)) := by
  go_enter Try.func111, Try.ntmps111
  go_wp2
  go_end0
  exact ⟨⟨_, rfl⟩, rfl⟩
theorem Owns.mono {base base' : Nat} {w : World} {v : Value} {qs : List Int} (h : Owns base w v qs) (hb : base' ≤ base) : Owns base' w v qs := by
  obtain ⟨h1, h2⟩ := h
  refine ⟨h1, ?_⟩
  rcases h2 with h2 | ⟨g, cap, cur, hv, hg, r⟩
  · exact .inl h2
  · exact .inr ⟨g, cap, cur, hv, Nat.le_trans hb hg, r⟩
/-- The call's end tells the passes is, if all are there. -/
def ToldS (w : World) (is : List Int) (e : Ending) (w' : World) : Prop :=
  (thereB is = true ∧ (∃ v, e = .returned (.tuple #[v, .bool true]) ∧ Owns w.heap.size w' v is) ∧ Below w.heap.size w w') ∨ (thereB is = false ∧ e = .returned (.tuple #[.slice none 0 0, .bool false]) ∧ Below w.heap.size w w')
theorem map_succ (q : Int → Int) (ts : List Int) (k : Nat) (hk : k < ts.length) : (ts.take (k + 1)).map q = (ts.take k).map q ++ [q (ts.getD k 0)] := by
  rw [List.take_succ_eq_append_getElem hk, List.map_append, List.getD_eq_getElem?_getD, List.getElem?_eq_getElem hk]
  rfl
theorem there_not (q : Int → Int) (ts : List Int) (k : Nat) (hk : k < ts.length) (h : q (ts.getD k 0) < 0) : thereB (ts.map q) = false := by
  unfold thereB
  rw [List.all_map]
  exact all_notG _ 0 ts k hk (by simpa using h)
set_option maxHeartbeats 1000000 in
theorem sourcesOf_any (Op To A B K : Int) (la : Option Addr) (ll lc : Nat) (ls : List Lt) {w : World} {b : Nat} (q : Int → Int) (hb : b < w.heap.size) (hs : ∀ s ∈ takesP ⟨Op, To, A, B, K, ls⟩, 0 ≤ s ∧ s < 8) (hq : ∀ s, -1 ≤ q s ∧ q s < 12) (hc : ∀ m : Nat, m < 8 → w.cell? ⟨b, m, none⟩ = some (.int .i64 (q m + 1))) :
    Calls Try.prog 108 #[.pointer (some ⟨b, 0, none⟩), .agg #[.int .i64 Op, .int .i64 To, .int .i64 A, .int .i64 B, .int .i64 K, .slice la ll lc]] w (ToldS w ((takesP ⟨Op, To, A, B, K, ls⟩).map q)) := by
  obtain ⟨i0, hi, hz0, hz1, hz2⟩ := info_parts Try.info3
  have hb0 := below_box (Below.refl w.heap.size w) (.cells #[.int .i64 Op, .int .i64 To, .int .i64 A, .int .i64 B, .int .i64 K, .slice la ll lc] 88)
  have ht := fun wx => takes_any Op To A B K la ll lc ls wx
  have hl2 := takesP_len ⟨Op, To, A, B, K, ls⟩
  generalize takesP ⟨Op, To, A, B, K, ls⟩ = ts at *
  have HQ : Hid (∀ s, -1 ≤ q s ∧ q s < 12) := hq
  have HS : Hid (∀ s ∈ ts, 0 ≤ s ∧ s < 8) := hs
  have HC : Hid (∀ m : Nat, m < 8 → w.cell? ⟨b, m, none⟩ = some (.int .i64 (q m + 1))) := hc
  clear hq hs hc
  go_enter Try.func108, Try.ntmps108
  go_wp2_with fail
  refine (ht _).mono ?_
  rintro e w2 ⟨a, cap, rfl, hI, hb1⟩
  have hb2 := below_step hb0 hb1
  clear ht
  go_wp2
  go_loopw [4, 13] (fun v i wr => ∃ k : Nat, k ≤ ts.length ∧ i = .int .i64 k ∧ Owns w2.heap.size wr v ((ts.take k).map q) ∧ Below w2.heap.size w2 wr ∧ thereB ((ts.take k).map q) = true) (fun _ i _ => ts.length - (intOf i).toNat)
  case atStart => exact ⟨0, Nat.zero_le _, rfl, World.ownsRow_nil _ _ _ _, Below.refl _ _, rfl⟩
  case round =>
    obtain ⟨k, hk, rfl, hown, hbr, hall⟩ := hrel
    by_cases hlt : k < ts.length
    · obtain ⟨b', off, rfl, hcx⟩ := (hI.below (Nat.le_refl _) hbr).nth hlt
      have hr := HS.out _ (getD_mem hlt 0)
      have HM : Hid ((ts.take (k + 1)).map q = (ts.take k).map q ++ [q (ts.getD k 0)]) := map_succ q ts k hlt
      have HN : Hid (q (ts.getD k 0) < 0 → thereB (ts.map q) = false) := there_not q ts k hlt
      generalize ts.getD k 0 = s at hcx hr HM HN
      obtain ⟨m, rfl⟩ := Int.eq_ofNat_of_zero_le hr.1
      have hqs := HQ.out (m : Int)
      have hcm := (below_step hb2 hbr).cell (p := ⟨b, m, none⟩) hb
      rw [HC.out m (by omega)] at hcm
      generalize q (m : Int) = n at hqs hcm HM HN
      have hsz := hbr.size
      have hpl : ((ts.take k).map q).length = k := by simp; omega
      have HA : Hid (thereB ((ts.take k).map q) = true) := hall
      clear hall
      by_cases hn : n = -1
      · subst hn
        have hmk := maker_none (w := wr) (b := b) (m := m) (by omega) hcm
        have HF := HN.out (by decide)
        go_wp2_with (go_at_call 112; refine hmk.mono ?_; rintro e w' ⟨rfl, rfl⟩)
        go_ret2
        exact .inr ⟨HF, rfl, below_step hb2 hbr⟩
      · have hmk := maker_some (w := wr) (b := b) (m := m) (n := n + 1) (by omega) (by omega) (by rw [IntKind.wrap_i64]; omega) hcm
        rw [show n + 1 - 1 = n by omega] at hmk
        go_wp2_with (first
          | (go_at_call 112; refine hmk.mono ?_; rintro e w' ⟨rfl, rfl⟩)
          | (at_builtin; refine wpList_append_own _ rfl _ _ 22 rfl w2.heap.size 3 i0 (.int .i64 0) 1 8 Try.underlying22 hi hz0 hz1 hz2 rfl (by decide) _ _ _ rfl (World.ownsRow.alloc hown _) ⟨wr.heap.size, 0, none⟩ 1 1 [.int .i64 n] rfl rfl (cell_one_new _ _ _) (by intro u hu; simp at hu; subst hu; rfl) (by rw [hpl]; unfold maxLen; omega) (by rw [hpl]; omega) (by simp; omega) ?_; intro v' w9 hown9 hgrow9 _))
        have RR := Owns.push (x := n) hown hbr hsz hown9 rfl hgrow9
        go_roundw
        case rel => exact ⟨k + 1, by omega, by go_num, by rw [HM.out]; exact RR.1, RR.2, by rw [HM.out]; unfold thereB; rw [List.all_append]; have := HA.out; unfold thereB at this; rw [this]; simp; omega⟩
        case measure => simp [intOf]; omega
    · have hke : k = ts.length := by omega
      subst hke
      rw [List.take_length] at hown hall
      have HA : Hid (thereB (ts.map q) = true) := hall
      clear hall
      have hpl : (ts.map q).length = ts.length := by simp
      obtain ⟨sa, scap, rfl, _⟩ := id (hown.ints (by rw [hpl]; omega))
      go_wp2
      go_ret2
      exact .inl ⟨HA.out, ⟨_, rfl, hown.mono hb2.size⟩, below_step hb2 hbr⟩
end Go.Proofs.Ytfpkiimlaepnhaa
