/- FrameRef, MadeRef: joined, in this order. -/
import Derived.Test.YtfpkiimlaepnhaaM13
import Derived.Test.YtfpkiimlaepnhaaM31
import Derived.Test.YtfpkiimlaepnhaaM32
/-
  FRAMEREF: the reference's small functions of frames.
-/
namespace Go.Proofs.Ytfpkiimlaepnhaa
set_option maxRecDepth 100000
open Go.RowKit Im

theorem isTwo_any' (op : Int) (w : World) : Calls Try.prog 26 #[.int .i64 op] w fun e w' => e = .returned (.bool (hasB op)) ∧ w = w' := by
  go_enter Try.func26, Try.ntmps26
  go_wp2_with (go_at_call 61; refine (within_any _ _ _ _).mono ?_; rintro e w' ⟨rfl, rfl⟩)
  go_ret
  exact ⟨rfl, rfl⟩
theorem kFine_any (Op To A B K : Int) (la : Option Addr) (ll lc : Nat) (w : World) : Calls Try.prog 114 #[.agg #[.int .i64 Op, .int .i64 To, .int .i64 A, .int .i64 B, .int .i64 K, .slice la ll lc]] w fun e w' => e = .returned (.bool (if hasK Op = true then kB Op K else true)) ∧ Below w.heap.size w w' := by
  have hb0 := below_box (Below.refl w.heap.size w) (.cells #[.int .i64 Op, .int .i64 To, .int .i64 A, .int .i64 B, .int .i64 K, .slice la ll lc] 88)
  by_cases h1 : Op = 1 ∨ Op = 2 ∨ Op = 8
  · have e1 : hasK Op = true := by rcases h1 with rfl | rfl | rfl <;> rfl
    have e2 : kB Op K = withinB K 0 65535 := by unfold kB; rw [if_neg (by omega), if_neg (by omega)]
    rw [if_pos e1, e2]
    clear e1 e2
    rcases h1 with rfl | rfl | rfl
    all_goals
      go_enter Try.func114, Try.ntmps114
      go_wp2_with (go_at_call 61; refine (within_any _ _ _ _).mono ?_; rintro e w' ⟨rfl, rfl⟩)
      go_ret
      exact ⟨rfl, hb0⟩
  · by_cases h2 : Op = 9 ∨ Op = 13
    · rcases h2 with rfl | rfl
      all_goals
        rw [if_pos (by decide)]
        unfold kB
        go_enter Try.func114, Try.ntmps114
        go_wp2_with (go_at_call 61; refine (within_any _ _ _ _).mono ?_; rintro e w' ⟨rfl, rfl⟩)
        go_ret
        exact ⟨rfl, hb0⟩
    · have e1 : ¬ hasK Op = true := by simp [hasK]; omega
      rw [if_neg e1]
      have n1 : ¬ Op = 1 := by omega
      have n2 : ¬ Op = 2 := by omega
      have n8 : ¬ Op = 8 := by omega
      have n9 : ¬ Op = 9 := by omega
      have n13 : ¬ Op = 13 := by omega
      clear h1 h2 e1
      go_enter Try.func114, Try.ntmps114
      go_wp2
      go_ret
      exact ⟨rfl, hb0⟩
/-- The reference's writer: the last pass ahead of n that made what lies in a slot. -/
theorem writer_any (W H S O : Int) (a : Option Addr) (len cap : Nat) (ps : List Ps) (n : Nat) (s : Int) (w : World) (hp : Passes w a len ps) (hn : n ≤ len) :
    Calls Try.prog 87 #[.agg #[.int .i64 W, .int .i64 H, .int .i64 S, .int .i64 O, .slice a len cap], .int .i64 n, .int .i64 s] w fun e w' => e = .returned (.int .i64 (wrt ps n s)) ∧ Below w.heap.size w w' := by
  have hbig := hp.big
  have hB := FBox.new w W H S O a len cap
  have hb0 := below_box (Below.refl w.heap.size w) (.cells #[.int .i64 W, .int .i64 H, .int .i64 S, .int .i64 O, .slice a len cap] 63)
  have hp1 := hp.below hb0
  have hw0 : IntKind.i64.wrap ((n : Int) - 1) = (n : Int) - 1 := by rw [IntKind.wrap_i64]; omega
  obtain ⟨_, g0, g1, g2, g3, g4⟩ := hB
  go_enter Try.func87, Try.ntmps87
  go_wp2
  go_loop [7] (fun i => ∃ k : Nat, k ≤ n ∧ i = .int .i64 ((k : Int) - 1) ∧ wrt ps n s = wrt ps k s) (fun i => (intOf i + 1).toNat)
  case atStart => exact ⟨n, Nat.le_refl _, rfl, rfl⟩
  case round =>
    obtain ⟨k, hk, rfl, hall⟩ := hrel
    cases k with
    | zero =>
      have HA : Hid (wrt ps n s = -1) := hall
      clear hall
      go_wp2
      go_ret
      exact ⟨by rw [HA.out]; rfl, hb0⟩
    | succ k =>
      have HA : Hid (wrt ps n s = if (ps.getD k Ps.zero).To = s then (k : Int) else wrt ps k s) := hall
      clear hall
      obtain ⟨b, off, la, ll, lc, rfl, p0, p1, p2, p3, p4, p5, _⟩ := hp1.nth (k := k) (by omega)
      generalize (ps.getD k Ps.zero).To = t at p1 HA
      rw [show ((k + 1 : Nat) : Int) - 1 = (k : Int) by omega]
      have hwk : IntKind.i64.wrap ((k : Int) - 1) = (k : Int) - 1 := by rw [IntKind.wrap_i64]; omega
      have hk0 : (0 : Int) ≤ (k : Int) := by omega
      by_cases ht : t = s
      · have HB : Hid (wrt ps n s = k) := by show _ = _; rw [HA.out, if_pos ht]
        subst ht
        go_wp2
        go_ret
        exact ⟨by rw [HB.out]; rfl, hb0⟩
      · have HB : Hid (wrt ps n s = wrt ps k s) := by show _ = _; rw [HA.out, if_neg ht]
        go_wp2
        go_round
        case rel => exact ⟨k, by omega, rfl, HB.out⟩
        case measure => simp [intOf]
end Go.Proofs.Ytfpkiimlaepnhaa
/-
  MADEREF: the reference's Made.
-/
namespace Go.Proofs.Ytfpkiimlaepnhaa
set_option maxRecDepth 100000
open Go.RowKit Im

/-- The call's end tells the image r. -/
def ToldM (w : World) (r : Res) (e : Ending) (w' : World) : Prop :=
  ∃ a cap, e = .returned (.agg #[.int .i64 r.W, .int .i64 r.H, .slice a r.ps.length cap]) ∧ Ints w.heap.size w' a r.ps.length r.ps ∧ Below w.heap.size w w'
theorem makeOf_told {op W H k : Int} (w : World) (h : (makeRes op W H k).E = 0) : Calls Try.prog 17 #[.int .i64 op, .int .i64 W, .int .i64 H, .int .i64 k] w (ToldM w (makeRes op W H k)) := by
  unfold makeRes at h ⊢
  by_cases hE : makeErr op W H k = 0
  · rw [if_pos hE] at h ⊢
    obtain ⟨W1, H1, rfl, rfl, hop, h1, h2, h3⟩ := makeErr_zero hE
    simp only [Int.toNat_natCast]
    have b1 := (side_iff _).1 h1
    have b2 := (side_iff _).1 h2
    have b3 := (num_iff _).1 h3
    refine (makeOf_any op W1 H1 k w hop (by omega) (by omega) b3).mono fun e w' ⟨a, cap', he, hi, hb⟩ => ⟨a, cap', ?_, ?_, hb⟩
    · simp only [pix_length]; exact he
    · simp only [pix_length]; exact hi
  · rw [if_neg hE] at h; exact absurd h hE
theorem oneOf_told {op W H : Int} {a : Option Addr} {len : Nat} (cap : Nat) {k : Int} {ps : List Int} {w : World} (h : Ints 0 w a len ps) (hr : (oneRes op W H ps k).E = 0) :
    Calls Try.prog 24 #[.int .i64 op, .agg #[.int .i64 W, .int .i64 H, .slice a len cap], .int .i64 k] w (ToldM w (oneRes op W H ps k)) := by
  unfold oneRes at hr ⊢
  by_cases hf : fineB W H ps = true
  · rw [if_pos hf] at hr ⊢
    obtain ⟨W', H', b, off, rfl, rfl, rfl, rfl, hF⟩ := fine_of h hf
    simp only [Int.toNat_natCast] at hr ⊢
    by_cases hE : oneErr op W' H' k = 0
    · rw [if_pos hE]
      refine (oneOf_any op cap k hF hE).mono fun e w' ⟨a, cap', he, hi, hb⟩ => ⟨a, cap', ?_, ?_, hb⟩
      · simp only [pix_length]; exact he
      · simp only [pix_length]; exact hi
    · rw [if_neg hE] at hr; exact absurd hr hE
  · rw [if_neg hf] at hr; cases hr
theorem twoOf_told {op W H W' H' : Int} {a a' : Option Addr} {len len' : Nat} (cap cap' : Nat) {ps qs : List Int} {w : World} (h : Ints 0 w a len ps) (h' : Ints 0 w a' len' qs) (hr : (twoRes op W H ps W' H' qs).E = 0) :
    Calls Try.prog 27 #[.int .i64 op, .agg #[.int .i64 W, .int .i64 H, .slice a len cap], .agg #[.int .i64 W', .int .i64 H', .slice a' len' cap']] w (ToldM w (twoRes op W H ps W' H' qs)) := by
  unfold twoRes at hr ⊢
  by_cases hf : (fineB W H ps && fineB W' H' qs) = true
  · rw [if_pos hf] at hr ⊢
    rw [Bool.and_eq_true] at hf
    by_cases hw : withinB op 4 7 = true
    · rw [if_pos hw] at hr ⊢
      have hop : op = 4 ∨ op = 5 ∨ op = 6 ∨ op = 7 := by simp [withinB] at hw; omega
      by_cases hs : W = W' ∧ H = H'
      · rw [if_pos hs]
        obtain ⟨rfl, rfl⟩ := hs
        obtain ⟨W1, H1, b, off, rfl, rfl, rfl, rfl, hF⟩ := fine_of h hf.1
        obtain ⟨W2, H2, b', off', e1, e2, rfl, rfl, hG⟩ := fine_of h' hf.2
        obtain rfl : W1 = W2 := by omega
        obtain rfl : H1 = H2 := by omega
        simp only [Int.toNat_natCast]
        refine (twoOf_any op cap cap' hF hG hop).mono fun e w' ⟨a, cap', he, hi, hb⟩ => ⟨a, cap', ?_, ?_, hb⟩
        · simp only [pix_length]; exact he
        · simp only [pix_length]; exact hi
      · rw [if_neg hs] at hr; cases hr
    · rw [if_neg hw] at hr; cases hr
  · rw [if_neg hf] at hr; cases hr
theorem litOf_told {W H : Int} {a : Option Addr} {len : Nat} (cap : Nat) {ps : List Int} {la : Option Addr} {llen : Nat} (lcap : Nat) {ls : List Lt} {tile : Int} {w : World} (h : Ints 0 w a len ps) (hl : Lights w la llen ls) (hr : (litRes W H ps ls tile).E = 0) :
    Calls Try.prog 38 #[.agg #[.int .i64 W, .int .i64 H, .slice a len cap], .slice la llen lcap] w (ToldM w (litRes W H ps ls tile)) := by
  unfold litRes at hr ⊢
  by_cases hf : fineB W H ps = true
  · rw [if_pos hf] at hr ⊢
    obtain ⟨W', H', b, off, rfl, rfl, rfl, rfl, hF⟩ := fine_of h hf
    simp only [Int.toNat_natCast] at hr ⊢
    by_cases hE : lightsErr ls = 0
    · rw [if_pos hE] at hr ⊢
      have h8 := lightsErr_zero hE
      by_cases ht : 1 ≤ tile ∧ tile ≤ 16
      · rw [if_pos ht]
        refine (litOf_any lcap hF hl h8.1 h8.2).mono fun e w' ⟨a, cap', he, hi, hb⟩ => ⟨a, cap', ?_, ?_, hb⟩
        · simp only [pix_length]; exact he
        · simp only [pix_length]; exact hi
      · rw [if_neg ht] at hr; cases hr
    · rw [if_neg hE] at hr; exact absurd hr hE
  · rw [if_neg hf] at hr; cases hr
/-- The world behind Made's boxes. -/
abbrev mw (w : World) (W H S O : Int) (a : Option Addr) (len cap : Nat) (Op To A B K : Int) (la : Option Addr) (ll lc : Nat) : World :=
  ((w.alloc (.cells #[.int .i64 W, .int .i64 H, .int .i64 S, .int .i64 O, .slice a len cap] 63)).alloc (.cells #[.int .i64 Op, .int .i64 To, .int .i64 A, .int .i64 B, .int .i64 K, .slice la ll lc] 88)).alloc (.cells #[.int .i64 0, .int .i64 0, .slice none 0 0] 24)
theorem mw_below (w : World) (W H S O : Int) (a : Option Addr) (len cap : Nat) (Op To A B K : Int) (la : Option Addr) (ll lc : Nat) : Below w.heap.size w (mw w W H S O a len cap Op To A B K la ll lc) := below_box (below_box (below_box (Below.refl _ _) _) _) _
theorem mw_size (w : World) (W H S O : Int) (a : Option Addr) (len cap : Nat) (Op To A B K : Int) (la : Option Addr) (ll lc : Nat) : (mw w W H S O a len cap Op To A B K la ll lc).heap.size = w.heap.size + 3 := by simp [mw]
theorem mw_box (w : World) (W H S O : Int) (a : Option Addr) (len cap : Nat) (Op To A B K : Int) (la : Option Addr) (ll lc : Nat) : IBox (mw w W H S O a len cap Op To A B K la ll lc) (w.heap.size + 2) := by
  have := IBox.new ((w.alloc (.cells #[.int .i64 W, .int .i64 H, .int .i64 S, .int .i64 O, .slice a len cap] 63)).alloc (.cells #[.int .i64 Op, .int .i64 To, .int .i64 A, .int .i64 B, .int .i64 K, .slice la ll lc] 88))
  simpa using this
theorem mw_pass (w : World) (W H S O : Int) (a : Option Addr) (len cap : Nat) (Op To A B K : Int) (la : Option Addr) (ll lc : Nat) : PBox (mw w W H S O a len cap Op To A B K la ll lc) (w.heap.size + 1) Op To A B K la ll lc := by
  have := (PBox.new (w.alloc (.cells #[.int .i64 W, .int .i64 H, .int .i64 S, .int .i64 O, .slice a len cap] 63)) Op To A B K la ll lc).alloc (.cells #[.int .i64 0, .int .i64 0, .slice none 0 0] 24)
  simpa using this
theorem made_told {w wx w' : World} {b : Nat} {r : Res} {ra : Option Addr} {rc : Nat} (hx : Below w.heap.size w wx) (hlt : b < wx.heap.size) (hb0 : w.heap.size ≤ b) (hi : Ints wx.heap.size w' ra r.ps.length r.ps) (hb : Below wx.heap.size wx w') :
    ToldM w r (.returned (.agg #[.int .i64 r.W, .int .i64 r.H, .slice ra r.ps.length rc])) (((w'.setCell ⟨b, 0, none⟩ (.int .i64 r.W)).setCell ⟨b, 1, none⟩ (.int .i64 r.H)).setCell ⟨b, 2, none⟩ (.slice ra r.ps.length rc)) :=
  ⟨ra, rc, rfl, (((hi.setCell (p := ⟨b, 0, none⟩) hlt _).setCell (p := ⟨b, 1, none⟩) hlt _).setCell (p := ⟨b, 2, none⟩) hlt _).mono hx.size, (((below_step hx hb).setCell (p := ⟨b, 0, none⟩) hb0 _).setCell (p := ⟨b, 1, none⟩) hb0 _).setCell (p := ⟨b, 2, none⟩) hb0 _⟩
set_option maxHeartbeats 1000000 in
theorem made_make (W H S O : Int) (a : Option Addr) (len cap : Nat) (Op To A B K : Int) (la : Option Addr) (ll lc : Nat) (fa : Option Addr) (flen fcap : Nat) (w : World) (h12 : Op = 1 ∨ Op = 2) (hr : (makeRes Op W H K).E = 0) :
    Calls Try.prog 115 #[.agg #[.int .i64 W, .int .i64 H, .int .i64 S, .int .i64 O, .slice a len cap], .agg #[.int .i64 Op, .int .i64 To, .int .i64 A, .int .i64 B, .int .i64 K, .slice la ll lc], .slice fa flen fcap] w (ToldM w (makeRes Op W H K)) := by
  have hm := fun wx => makeOf_told wx hr
  have hbx := mw_below w W H S O a len cap Op To A B K la ll lc
  have hbox := mw_box w W H S O a len cap Op To A B K la ll lc
  have hsz := mw_size w W H S O a len cap Op To A B K la ll lc
  clear hr
  generalize hrr : makeRes Op W H K = r at *
  clear hrr
  rcases h12 with rfl | rfl
  all_goals
    go_enter Try.func115, Try.ntmps115
    go_wp2_with fail
    refine (hm _).mono ?_
    rintro e w' ⟨ra, rc, rfl, hri, hb⟩
    obtain ⟨_, c0, c1, c2, f0, f1, f2⟩ := hbox.below hb hbox.lt hb.size
    clear hm
    have HT : Hid (_) := made_told (rc := rc) hbx hbox.lt (by omega) hri hb
    clear hri hb hbx hbox
    go_wp2
    refine bodyPost_ret (v := .agg #[.int .i64 r.W, .int .i64 r.H, .slice ra r.ps.length rc]) (by simp [results, Try.results115, go_sem, c0, c1, c2]) rfl HT.out
end Go.Proofs.Ytfpkiimlaepnhaa
