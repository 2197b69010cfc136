/- MadeRef, MadeRef2, ImagesRef, RowP, Cull, NeedMath: joined, in this order. -/
import Derived.Test.YtihliofhhjjeaaaGreatM12
import Derived.Test.YtihliofhhjjeaaaGreatM16
import Derived.Test.YtihliofhhjjeaaaGreatM13
import Derived.Deep.RegionLaw
import Derived.Test.YtihliofhhjjeaaaGreatM10
import Derived.Deep.Upon
set_option maxRecDepth 100000
namespace Go.Proofs.YtihliofhhjjeaaaGreat
open Go.RowKit Im
def ToldM (w : World) (r : Res) (e : Ending) (w' : World) : Prop :=
  ∃ a cap, e = .returned (.agg #[.int .i64 r.W, .int .i64 r.H, .slice a r.ps.length cap]) ∧ Ints w.heap.size w' a r.ps.length r.ps ∧ Below w.heap.size w w'
theorem makeOf_told {op W H k : Int} (w : World) (h : (makeRes op W H k).E = 0) : Calls Tryz.prog 121 #[.int .i64 op, .int .i64 W, .int .i64 H, .int .i64 k] w (ToldM w (makeRes op W H k)) := by
  unfold makeRes at h ⊢
  by_cases hE : makeErr op W H k = 0
  · rw [if_pos hE] at h ⊢
    obtain ⟨W1, H1, rfl, rfl, hop, h1, h2, h3⟩ := makeErr_zero hE
    simp only [Int.toNat_natCast]
    have b1 := (side_iff _).1 h1
    have b2 := (side_iff _).1 h2
    have b3 := (num_iff _).1 h3
    refine (makeOf_any op W1 H1 k w hop (by omega) (by omega) b3).mono fun e w' ⟨a, cap', he, hi, hb⟩ => ⟨a, cap', ?_, ?_, hb⟩
    · simp only [pix_length]; exact he
    · simp only [pix_length]; exact hi
  · rw [if_neg hE] at h; exact absurd h hE
theorem oneOf_told {op W H : Int} {a : Option Addr} {len : Nat} (cap : Nat) {k : Int} {ps : List Int} {w : World} (h : Ints 0 w a len ps) (hr : (oneRes op W H ps k).E = 0) :
    Calls Tryz.prog 125 #[.int .i64 op, .agg #[.int .i64 W, .int .i64 H, .slice a len cap], .int .i64 k] w (ToldM w (oneRes op W H ps k)) := by
  unfold oneRes at hr ⊢
  by_cases hf : fineB W H ps = true
  · rw [if_pos hf] at hr ⊢
    obtain ⟨W', H', b, off, rfl, rfl, rfl, rfl, hF⟩ := fine_of h hf
    simp only [Int.toNat_natCast] at hr ⊢
    by_cases hE : oneErr op W' H' k = 0
    · rw [if_pos hE]
      refine (oneOf_any op cap k hF hE).mono fun e w' ⟨a, cap', he, hi, hb⟩ => ⟨a, cap', ?_, ?_, hb⟩
      · simp only [pix_length]; exact he
      · simp only [pix_length]; exact hi
    · rw [if_neg hE] at hr; exact absurd hr hE
  · rw [if_neg hf] at hr; cases hr
theorem twoOf_told {op W H W' H' : Int} {a a' : Option Addr} {len len' : Nat} (cap cap' : Nat) {ps qs : List Int} {w : World} (h : Ints 0 w a len ps) (h' : Ints 0 w a' len' qs) (hr : (twoRes op W H ps W' H' qs).E = 0) :
    Calls Tryz.prog 123 #[.int .i64 op, .agg #[.int .i64 W, .int .i64 H, .slice a len cap], .agg #[.int .i64 W', .int .i64 H', .slice a' len' cap']] w (ToldM w (twoRes op W H ps W' H' qs)) := by
  unfold twoRes at hr ⊢
  by_cases hf : (fineB W H ps && fineB W' H' qs) = true
  · rw [if_pos hf] at hr ⊢
    rw [Bool.and_eq_true] at hf
    by_cases hw : withinB op 4 7 = true
    · rw [if_pos hw] at hr ⊢
      have hop : op = 4 ∨ op = 5 ∨ op = 6 ∨ op = 7 := by simp [withinB] at hw; omega
      by_cases hs : W = W' ∧ H = H'
      · rw [if_pos hs]
        obtain ⟨rfl, rfl⟩ := hs
        obtain ⟨W1, H1, b, off, rfl, rfl, rfl, rfl, hF⟩ := fine_of h hf.1
        obtain ⟨W2, H2, b', off', e1, e2, rfl, rfl, hG⟩ := fine_of h' hf.2
        obtain rfl : W1 = W2 := by omega
        obtain rfl : H1 = H2 := by omega
        simp only [Int.toNat_natCast]
        refine (twoOf_any op cap cap' hF hG hop).mono fun e w' ⟨a, cap', he, hi, hb⟩ => ⟨a, cap', ?_, ?_, hb⟩
        · simp only [pix_length]; exact he
        · simp only [pix_length]; exact hi
      · rw [if_neg hs] at hr; cases hr
    · rw [if_neg hw] at hr; cases hr
  · rw [if_neg hf] at hr; cases hr
theorem litOf_told {W H : Int} {a : Option Addr} {len : Nat} (cap : Nat) {ps : List Int} {la : Option Addr} {llen : Nat} (lcap : Nat) {ls : List Lt} {tile : Int} {w : World} (h : Ints 0 w a len ps) (hl : Lights w la llen ls) (hr : (litRes W H ps ls tile).E = 0) :
    Calls Tryz.prog 124 #[.agg #[.int .i64 W, .int .i64 H, .slice a len cap], .slice la llen lcap] w (ToldM w (litRes W H ps ls tile)) := by
  unfold litRes at hr ⊢
  by_cases hf : fineB W H ps = true
  · rw [if_pos hf] at hr ⊢
    obtain ⟨W', H', b, off, rfl, rfl, rfl, rfl, hF⟩ := fine_of h hf
    simp only [Int.toNat_natCast] at hr ⊢
    by_cases hE : lightsErr ls = 0
    · rw [if_pos hE] at hr ⊢
      have h8 := lightsErr_zero hE
      by_cases ht : 1 ≤ tile ∧ tile ≤ 16
      · rw [if_pos ht]
        refine (litOf_any lcap hF hl h8.1 h8.2).mono fun e w' ⟨a, cap', he, hi, hb⟩ => ⟨a, cap', ?_, ?_, hb⟩
        · simp only [pix_length]; exact he
        · simp only [pix_length]; exact hi
      · rw [if_neg ht] at hr; cases hr
    · rw [if_neg hE] at hr; exact absurd hr hE
  · rw [if_neg hf] at hr; cases hr
abbrev mw (w : World) (W H S O : Int) (a : Option Addr) (len cap : Nat) (Op To A B K : Int) (la : Option Addr) (ll lc : Nat) : World :=
  ((w.alloc (.cells #[.int .i64 W, .int .i64 H, .int .i64 S, .int .i64 O, .slice a len cap] 24)).alloc (.cells #[.int .i64 Op, .int .i64 To, .int .i64 A, .int .i64 B, .int .i64 K, .slice la ll lc] 62)).alloc (.cells #[.int .i64 0, .int .i64 0, .slice none 0 0] 31)
theorem mw_below (w : World) (W H S O : Int) (a : Option Addr) (len cap : Nat) (Op To A B K : Int) (la : Option Addr) (ll lc : Nat) : Below w.heap.size w (mw w W H S O a len cap Op To A B K la ll lc) := below_box (below_box (below_box (Below.refl _ _) _) _) _
theorem mw_size (w : World) (W H S O : Int) (a : Option Addr) (len cap : Nat) (Op To A B K : Int) (la : Option Addr) (ll lc : Nat) : (mw w W H S O a len cap Op To A B K la ll lc).heap.size = w.heap.size + 3 := by simp [mw]
theorem mw_box (w : World) (W H S O : Int) (a : Option Addr) (len cap : Nat) (Op To A B K : Int) (la : Option Addr) (ll lc : Nat) : IBox (mw w W H S O a len cap Op To A B K la ll lc) (w.heap.size + 2) := by
  have := IBox.new ((w.alloc (.cells #[.int .i64 W, .int .i64 H, .int .i64 S, .int .i64 O, .slice a len cap] 24)).alloc (.cells #[.int .i64 Op, .int .i64 To, .int .i64 A, .int .i64 B, .int .i64 K, .slice la ll lc] 62))
  simpa using this
theorem mw_pass (w : World) (W H S O : Int) (a : Option Addr) (len cap : Nat) (Op To A B K : Int) (la : Option Addr) (ll lc : Nat) : PBox (mw w W H S O a len cap Op To A B K la ll lc) (w.heap.size + 1) Op To A B K la ll lc := by
  have := (PBox.new (w.alloc (.cells #[.int .i64 W, .int .i64 H, .int .i64 S, .int .i64 O, .slice a len cap] 24)) Op To A B K la ll lc).alloc (.cells #[.int .i64 0, .int .i64 0, .slice none 0 0] 31)
  simpa using this
theorem made_told {w wx w' : World} {b : Nat} {r : Res} {ra : Option Addr} {rc : Nat} (hx : Below w.heap.size w wx) (hlt : b < wx.heap.size) (hb0 : w.heap.size ≤ b) (hi : Ints wx.heap.size w' ra r.ps.length r.ps) (hb : Below wx.heap.size wx w') :
    ToldM w r (.returned (.agg #[.int .i64 r.W, .int .i64 r.H, .slice ra r.ps.length rc])) (((w'.setCell ⟨b, 0, none⟩ (.int .i64 r.W)).setCell ⟨b, 1, none⟩ (.int .i64 r.H)).setCell ⟨b, 2, none⟩ (.slice ra r.ps.length rc)) :=
  ⟨ra, rc, rfl, (((hi.setCell (p := ⟨b, 0, none⟩) hlt _).setCell (p := ⟨b, 1, none⟩) hlt _).setCell (p := ⟨b, 2, none⟩) hlt _).mono hx.size, (((below_step hx hb).setCell (p := ⟨b, 0, none⟩) hb0 _).setCell (p := ⟨b, 1, none⟩) hb0 _).setCell (p := ⟨b, 2, none⟩) hb0 _⟩
set_option maxHeartbeats 1000000 in
theorem made_make (W H S O : Int) (a : Option Addr) (len cap : Nat) (Op To A B K : Int) (la : Option Addr) (ll lc : Nat) (fa : Option Addr) (flen fcap : Nat) (w : World) (h12 : Op = 1 ∨ Op = 2) (hr : (makeRes Op W H K).E = 0) :
    Calls Tryz.prog 76 #[.agg #[.int .i64 W, .int .i64 H, .int .i64 S, .int .i64 O, .slice a len cap], .agg #[.int .i64 Op, .int .i64 To, .int .i64 A, .int .i64 B, .int .i64 K, .slice la ll lc], .slice fa flen fcap] w (ToldM w (makeRes Op W H K)) := by
  have hm := fun wx => makeOf_told wx hr
  have hbx := mw_below w W H S O a len cap Op To A B K la ll lc
  have hbox := mw_box w W H S O a len cap Op To A B K la ll lc
  have hsz := mw_size w W H S O a len cap Op To A B K la ll lc
  clear hr
  generalize hrr : makeRes Op W H K = r at *
  clear hrr
  rcases h12 with rfl | rfl
  all_goals
    go_enter Tryz.func76, Tryz.ntmps76
    go_wp2_with fail
    refine (hm _).mono ?_
    rintro e w' ⟨ra, rc, rfl, hri, hb⟩
    obtain ⟨_, c0, c1, c2, f0, f1, f2⟩ := hbox.below hb hbox.lt hb.size
    clear hm
    have HT : Hid (_) := made_told (rc := rc) hbx hbox.lt (by omega) hri hb
    clear hri hb hbx hbox
    go_wp2
    refine bodyPost_ret (v := .agg #[.int .i64 r.W, .int .i64 r.H, .slice ra r.ps.length rc]) (by simp [results, Tryz.results76, go_sem, c0, c1, c2]) rfl HT.out
end Go.Proofs.YtihliofhhjjeaaaGreat
namespace Go.Proofs.YtihliofhhjjeaaaGreat
open Go.RowKit Im
set_option maxHeartbeats 2000000 in
theorem made_one (W H S O : Int) (a : Option Addr) (len cap0 : Nat) (Op To A B K : Int) (la : Option Addr) (ll lc : Nat) (flen fcap : Nat) (w : World) (hop : Op = 3 ∨ Op = 8 ∨ Op = 9 ∨ Op = 10 ∨ Op = 11 ∨ Op = 12) (b off : Nat) (hb : b < w.heap.size) (hl : 0 < flen) (iw ih : Int) (pa : Option Addr) (cap : Nat) (ps : List Int)
    (d0 : w.cell? ⟨b, off, none⟩ = some (.int .i64 iw)) (d1 : w.cell? ⟨b, off + 1, none⟩ = some (.int .i64 ih)) (d2 : w.cell? ⟨b, off + 2, none⟩ = some (.slice pa ps.length cap)) (hi : Ints 0 w pa ps.length ps) (hr : (oneRes Op iw ih ps K).E = 0) :
    Calls Tryz.prog 76 #[.agg #[.int .i64 W, .int .i64 H, .int .i64 S, .int .i64 O, .slice a len cap0], .agg #[.int .i64 Op, .int .i64 To, .int .i64 A, .int .i64 B, .int .i64 K, .slice la ll lc], .slice (some ⟨b, off, none⟩) flen fcap] w (ToldM w (oneRes Op iw ih ps K)) := by
  have htwo := fun wx => isTwo_any' Op wx
  rw [show hasB Op = false by simp [hasB, withinB]; omega] at htwo
  have hb3 := mw_below w W H S O a len cap0 Op To A B K la ll lc
  have hbx := hb3.drew
  have hbN : b < w.heap.size + 2 := by omega
  have hpN : w.heap.size + 1 < w.heap.size + 2 := by omega
  have hm := oneOf_told (op := Op) (W := iw) (H := ih) cap (k := K) (hi.below (Nat.le_refl _) hbx) hr
  have hbox0 := mw_box w W H S O a len cap0 Op To A B K la ll lc
  have hbox := hbox0.below (Below.refl _ _).drew hbox0.lt (Nat.le_refl _)
  clear hbox0
  have hsz := mw_size w W H S O a len cap0 Op To A B K la ll lc
  have hsN : w.heap.size + 2 ≤ (mw w W H S O a len cap0 Op To A B K la ll lc).drew.heap.size := by show _ ≤ (mw w W H S O a len cap0 Op To A B K la ll lc).heap.size; omega
  have e0 := (hb3.cell (p := ⟨b, off, none⟩) hb).trans d0
  have e1 := (hb3.cell (p := ⟨b, off + 1, none⟩) hb).trans d1
  have e2 := (hb3.cell (p := ⟨b, off + 2, none⟩) hb).trans d2
  have hP := mw_pass w W H S O a len cap0 Op To A B K la ll lc
  obtain ⟨_, p0, p1, p2, p3, p4, p5⟩ := hP
  clear hr
  generalize hrr : oneRes Op iw ih ps K = r at *
  clear hrr d0 d1 d2 hi
  have n1 : ¬ Op = 1 := by omega
  have n2 : ¬ Op = 2 := by omega
  have n13 : ¬ Op = 13 := by omega
  have m1 : (Op == 1) = false := by simpa using n1
  have m2 : (Op == 2) = false := by simpa using n2
  have m13 : (Op == 13) = false := by simpa using n13
  clear hop
  · go_enter Tryz.func76, Tryz.ntmps76
    go_wp2_with (go_at_call 122; refine (htwo _).mono ?_; rintro e w' ⟨rfl, rfl⟩)
    go_region_held3 (fun w' => w'.cell? ⟨b, off, none⟩ = some (.int .i64 iw) ∧ w'.cell? ⟨b, off + 1, none⟩ = some (.int .i64 ih) ∧ w'.cell? ⟨b, off + 2, none⟩ = some (.slice pa ps.length cap) ∧ w'.cell? ⟨w.heap.size + 1, 0, none⟩ = some (.int .i64 Op) ∧ w'.cell? ⟨w.heap.size + 1, 4, none⟩ = some (.int .i64 K))
      (first | exact keepI (Below.refl _ _).drew hbN hpN e0 e1 e2 p0 p4 | exact keepI hbW hbN hpN e0 e1 e2 p0 p4 | exact keepI (((hbW.setCell (Nat.le_refl _) _).setCell (Nat.le_refl _) _).setCell (Nat.le_refl _) _) hbN hpN e0 e1 e2 p0 p4)
      ((go_at_call 125; refine hm.mono ?_; rintro e w' ⟨ra, rc, rfl, hri, hbb⟩; obtain ⟨_, c0, c1, c2, f0, f1, f2⟩ := hbox.below hbb hbox.lt hbb.size; have hbW := (Below.refl (w.heap.size + 2) _).drew.trans (hbb.mono hsN)))
    all_goals
      have HT : Hid (_) := made_told (rc := rc) hbx hbox.lt (by omega) hri hbb
      clear hri hbb hbx hbox hm e0 e1 e2
      go_wp2
      refine bodyPost_ret (v := .agg #[.int .i64 r.W, .int .i64 r.H, .slice ra r.ps.length rc]) (by simp [results, Tryz.results76, go_sem, c0, c1, c2]) rfl HT.out
set_option maxHeartbeats 2000000 in
theorem made_lit (W H S O : Int) (a : Option Addr) (len cap0 : Nat) (To A B K : Int) (la : Option Addr) (ll lc : Nat) (ls : List Lt) (flen fcap : Nat) (w : World) (hL : Lights w la ll ls) (b off : Nat) (hb : b < w.heap.size) (hl : 0 < flen) (iw ih : Int) (pa : Option Addr) (cap : Nat) (ps : List Int)
    (d0 : w.cell? ⟨b, off, none⟩ = some (.int .i64 iw)) (d1 : w.cell? ⟨b, off + 1, none⟩ = some (.int .i64 ih)) (d2 : w.cell? ⟨b, off + 2, none⟩ = some (.slice pa ps.length cap)) (hi : Ints 0 w pa ps.length ps) (hr : (litRes iw ih ps ls K).E = 0) :
    Calls Tryz.prog 76 #[.agg #[.int .i64 W, .int .i64 H, .int .i64 S, .int .i64 O, .slice a len cap0], .agg #[.int .i64 13, .int .i64 To, .int .i64 A, .int .i64 B, .int .i64 K, .slice la ll lc], .slice (some ⟨b, off, none⟩) flen fcap] w (ToldM w (litRes iw ih ps ls K)) := by
  have htwo := fun wx => isTwo_any' 13 wx
  rw [show hasB 13 = false from rfl] at htwo
  have hb3 := mw_below w W H S O a len cap0 13 To A B K la ll lc
  have hbx := hb3.drew
  have hbN : b < w.heap.size + 2 := by omega
  have hpN : w.heap.size + 1 < w.heap.size + 2 := by omega
  have hm := litOf_told (W := iw) (H := ih) cap lc (tile := K) (hi.below (Nat.le_refl _) hbx) (hL.below hbx) hr
  have hbox0 := mw_box w W H S O a len cap0 13 To A B K la ll lc
  have hbox := hbox0.below (Below.refl _ _).drew hbox0.lt (Nat.le_refl _)
  clear hbox0
  have hsz := mw_size w W H S O a len cap0 13 To A B K la ll lc
  have hsN : w.heap.size + 2 ≤ (mw w W H S O a len cap0 13 To A B K la ll lc).drew.heap.size := by show _ ≤ (mw w W H S O a len cap0 13 To A B K la ll lc).heap.size; omega
  have e0 := (hb3.cell (p := ⟨b, off, none⟩) hb).trans d0
  have e1 := (hb3.cell (p := ⟨b, off + 1, none⟩) hb).trans d1
  have e2 := (hb3.cell (p := ⟨b, off + 2, none⟩) hb).trans d2
  have hP := mw_pass w W H S O a len cap0 13 To A B K la ll lc
  obtain ⟨_, p0, p1, p2, p3, p4, p5⟩ := hP
  clear hr
  generalize hrr : litRes iw ih ps ls K = r at *
  clear hrr d0 d1 d2 hi
  · go_enter Tryz.func76, Tryz.ntmps76
    go_wp2_with (go_at_call 122; refine (htwo _).mono ?_; rintro e w' ⟨rfl, rfl⟩)
    go_region_held3 (fun w' => w'.cell? ⟨b, off, none⟩ = some (.int .i64 iw) ∧ w'.cell? ⟨b, off + 1, none⟩ = some (.int .i64 ih) ∧ w'.cell? ⟨b, off + 2, none⟩ = some (.slice pa ps.length cap) ∧ w'.cell? ⟨w.heap.size + 1, 4, none⟩ = some (.int .i64 K) ∧ w'.cell? ⟨w.heap.size + 1, 5, none⟩ = some (.slice la ll lc))
      (first | exact keepI (Below.refl _ _).drew hbN hpN e0 e1 e2 p4 p5 | exact keepI hbW hbN hpN e0 e1 e2 p4 p5 | exact keepI (((hbW.setCell (Nat.le_refl _) _).setCell (Nat.le_refl _) _).setCell (Nat.le_refl _) _) hbN hpN e0 e1 e2 p4 p5)
      ((go_at_call 124; refine hm.mono ?_; rintro e w' ⟨ra, rc, rfl, hri, hbb⟩; obtain ⟨_, c0, c1, c2, f0, f1, f2⟩ := hbox.below hbb hbox.lt hbb.size; have hbW := (Below.refl (w.heap.size + 2) _).drew.trans (hbb.mono hsN)))
    all_goals
      have HT : Hid (_) := made_told (rc := rc) hbx hbox.lt (by omega) hri hbb
      clear hri hbb hbx hbox hm e0 e1 e2
      go_wp2
      refine bodyPost_ret (v := .agg #[.int .i64 r.W, .int .i64 r.H, .slice ra r.ps.length rc]) (by simp [results, Tryz.results76, go_sem, c0, c1, c2]) rfl HT.out
set_option maxHeartbeats 4000000 in
theorem made_two (W H S O : Int) (a : Option Addr) (len cap0 : Nat) (Op To A B K : Int) (la : Option Addr) (ll lc : Nat) (flen fcap : Nat) (w : World) (hop : Op = 4 ∨ Op = 5 ∨ Op = 6 ∨ Op = 7) (b off : Nat) (hb : b < w.heap.size) (hl0 : 0 < flen) (hl : (1 : Int) < (flen : Int)) (iw ih : Int) (pa : Option Addr) (cap : Nat) (ps : List Int)
    (d0 : w.cell? ⟨b, off, none⟩ = some (.int .i64 iw)) (d1 : w.cell? ⟨b, off + 1, none⟩ = some (.int .i64 ih)) (d2 : w.cell? ⟨b, off + 2, none⟩ = some (.slice pa ps.length cap)) (hi : Ints 0 w pa ps.length ps)
    (jw jh : Int) (qa : Option Addr) (qcap : Nat) (qs : List Int) (g0 : w.cell? ⟨b, off + 3, none⟩ = some (.int .i64 jw)) (g1 : w.cell? ⟨b, off + 3 + 1, none⟩ = some (.int .i64 jh)) (g2 : w.cell? ⟨b, off + 3 + 2, none⟩ = some (.slice qa qs.length qcap)) (hj : Ints 0 w qa qs.length qs) (hr : (twoRes Op iw ih ps jw jh qs).E = 0) :
    Calls Tryz.prog 76 #[.agg #[.int .i64 W, .int .i64 H, .int .i64 S, .int .i64 O, .slice a len cap0], .agg #[.int .i64 Op, .int .i64 To, .int .i64 A, .int .i64 B, .int .i64 K, .slice la ll lc], .slice (some ⟨b, off, none⟩) flen fcap] w (ToldM w (twoRes Op iw ih ps jw jh qs)) := by
  have htwo := fun wx => isTwo_any' Op wx
  rw [show hasB Op = true by rcases hop with rfl | rfl | rfl | rfl <;> rfl] at htwo
  have hb3 := mw_below w W H S O a len cap0 Op To A B K la ll lc
  have hbx := hb3.drew
  have hbN : b < w.heap.size + 2 := by omega
  have hpN : w.heap.size + 1 < w.heap.size + 2 := by omega
  have hm := twoOf_told (op := Op) (W := iw) (H := ih) (W' := jw) (H' := jh) cap qcap (hi.below (Nat.le_refl _) hbx) (hj.below (Nat.le_refl _) hbx) hr
  have hbox0 := mw_box w W H S O a len cap0 Op To A B K la ll lc
  have hbox := hbox0.below (Below.refl _ _).drew hbox0.lt (Nat.le_refl _)
  clear hbox0
  have hsz := mw_size w W H S O a len cap0 Op To A B K la ll lc
  have hsN : w.heap.size + 2 ≤ (mw w W H S O a len cap0 Op To A B K la ll lc).drew.heap.size := by show _ ≤ (mw w W H S O a len cap0 Op To A B K la ll lc).heap.size; omega
  have e0 := (hb3.cell (p := ⟨b, off, none⟩) hb).trans d0
  have e1 := (hb3.cell (p := ⟨b, off + 1, none⟩) hb).trans d1
  have e2 := (hb3.cell (p := ⟨b, off + 2, none⟩) hb).trans d2
  have e3 := (hb3.cell (p := ⟨b, off + 3, none⟩) hb).trans g0
  have e4 := (hb3.cell (p := ⟨b, off + 3 + 1, none⟩) hb).trans g1
  have e5 := (hb3.cell (p := ⟨b, off + 3 + 2, none⟩) hb).trans g2
  have hP := mw_pass w W H S O a len cap0 Op To A B K la ll lc
  obtain ⟨_, p0, p1, p2, p3, p4, p5⟩ := hP
  clear hr
  generalize hrr : twoRes Op iw ih ps jw jh qs = r at *
  clear hrr d0 d1 d2 hi g0 g1 g2 hj
  rcases hop with rfl | rfl | rfl | rfl
  · go_enter Tryz.func76, Tryz.ntmps76
    go_wp2_with (go_at_call 122; refine (htwo _).mono ?_; rintro e w' ⟨rfl, rfl⟩)
    go_region_held3 (fun w' => w'.cell? ⟨b, off, none⟩ = some (.int .i64 iw) ∧ w'.cell? ⟨b, off + 1, none⟩ = some (.int .i64 ih) ∧ w'.cell? ⟨b, off + 2, none⟩ = some (.slice pa ps.length cap) ∧ w'.cell? ⟨b, off + 3, none⟩ = some (.int .i64 jw) ∧ w'.cell? ⟨b, off + 3 + 1, none⟩ = some (.int .i64 jh) ∧ w'.cell? ⟨b, off + 3 + 2, none⟩ = some (.slice qa qs.length qcap) ∧ w'.cell? ⟨w.heap.size + 1, 0, none⟩ = some (.int .i64 4))
      (first | exact keepI2 (Below.refl _ _).drew hbN hpN e0 e1 e2 e3 e4 e5 p0 | exact keepI2 hbW hbN hpN e0 e1 e2 e3 e4 e5 p0 | exact keepI2 (((hbW.setCell (Nat.le_refl _) _).setCell (Nat.le_refl _) _).setCell (Nat.le_refl _) _) hbN hpN e0 e1 e2 e3 e4 e5 p0)
      ((go_at_call 123; refine hm.mono ?_; rintro e w' ⟨ra, rc, rfl, hri, hbb⟩; obtain ⟨_, c0, c1, c2, f0, f1, f2⟩ := hbox.below hbb hbox.lt hbb.size; have hbW := (Below.refl (w.heap.size + 2) _).drew.trans (hbb.mono hsN)))
    all_goals
      have HT : Hid (_) := made_told (rc := rc) hbx hbox.lt (by omega) hri hbb
      clear hri hbb hbx hbox hm e0 e1 e2 e3 e4 e5
      go_wp2
      refine bodyPost_ret (v := .agg #[.int .i64 r.W, .int .i64 r.H, .slice ra r.ps.length rc]) (by simp [results, Tryz.results76, go_sem, c0, c1, c2]) rfl HT.out
  · go_enter Tryz.func76, Tryz.ntmps76
    go_wp2_with (go_at_call 122; refine (htwo _).mono ?_; rintro e w' ⟨rfl, rfl⟩)
    go_region_held3 (fun w' => w'.cell? ⟨b, off, none⟩ = some (.int .i64 iw) ∧ w'.cell? ⟨b, off + 1, none⟩ = some (.int .i64 ih) ∧ w'.cell? ⟨b, off + 2, none⟩ = some (.slice pa ps.length cap) ∧ w'.cell? ⟨b, off + 3, none⟩ = some (.int .i64 jw) ∧ w'.cell? ⟨b, off + 3 + 1, none⟩ = some (.int .i64 jh) ∧ w'.cell? ⟨b, off + 3 + 2, none⟩ = some (.slice qa qs.length qcap) ∧ w'.cell? ⟨w.heap.size + 1, 0, none⟩ = some (.int .i64 5))
      (first | exact keepI2 (Below.refl _ _).drew hbN hpN e0 e1 e2 e3 e4 e5 p0 | exact keepI2 hbW hbN hpN e0 e1 e2 e3 e4 e5 p0 | exact keepI2 (((hbW.setCell (Nat.le_refl _) _).setCell (Nat.le_refl _) _).setCell (Nat.le_refl _) _) hbN hpN e0 e1 e2 e3 e4 e5 p0)
      ((go_at_call 123; refine hm.mono ?_; rintro e w' ⟨ra, rc, rfl, hri, hbb⟩; obtain ⟨_, c0, c1, c2, f0, f1, f2⟩ := hbox.below hbb hbox.lt hbb.size; have hbW := (Below.refl (w.heap.size + 2) _).drew.trans (hbb.mono hsN)))
    all_goals
      have HT : Hid (_) := made_told (rc := rc) hbx hbox.lt (by omega) hri hbb
      clear hri hbb hbx hbox hm e0 e1 e2 e3 e4 e5
      go_wp2
      refine bodyPost_ret (v := .agg #[.int .i64 r.W, .int .i64 r.H, .slice ra r.ps.length rc]) (by simp [results, Tryz.results76, go_sem, c0, c1, c2]) rfl HT.out
  · go_enter Tryz.func76, Tryz.ntmps76
    go_wp2_with (go_at_call 122; refine (htwo _).mono ?_; rintro e w' ⟨rfl, rfl⟩)
    go_region_held3 (fun w' => w'.cell? ⟨b, off, none⟩ = some (.int .i64 iw) ∧ w'.cell? ⟨b, off + 1, none⟩ = some (.int .i64 ih) ∧ w'.cell? ⟨b, off + 2, none⟩ = some (.slice pa ps.length cap) ∧ w'.cell? ⟨b, off + 3, none⟩ = some (.int .i64 jw) ∧ w'.cell? ⟨b, off + 3 + 1, none⟩ = some (.int .i64 jh) ∧ w'.cell? ⟨b, off + 3 + 2, none⟩ = some (.slice qa qs.length qcap) ∧ w'.cell? ⟨w.heap.size + 1, 0, none⟩ = some (.int .i64 6))
      (first | exact keepI2 (Below.refl _ _).drew hbN hpN e0 e1 e2 e3 e4 e5 p0 | exact keepI2 hbW hbN hpN e0 e1 e2 e3 e4 e5 p0 | exact keepI2 (((hbW.setCell (Nat.le_refl _) _).setCell (Nat.le_refl _) _).setCell (Nat.le_refl _) _) hbN hpN e0 e1 e2 e3 e4 e5 p0)
      ((go_at_call 123; refine hm.mono ?_; rintro e w' ⟨ra, rc, rfl, hri, hbb⟩; obtain ⟨_, c0, c1, c2, f0, f1, f2⟩ := hbox.below hbb hbox.lt hbb.size; have hbW := (Below.refl (w.heap.size + 2) _).drew.trans (hbb.mono hsN)))
    all_goals
      have HT : Hid (_) := made_told (rc := rc) hbx hbox.lt (by omega) hri hbb
      clear hri hbb hbx hbox hm e0 e1 e2 e3 e4 e5
      go_wp2
      refine bodyPost_ret (v := .agg #[.int .i64 r.W, .int .i64 r.H, .slice ra r.ps.length rc]) (by simp [results, Tryz.results76, go_sem, c0, c1, c2]) rfl HT.out
  · go_enter Tryz.func76, Tryz.ntmps76
    go_wp2_with (go_at_call 122; refine (htwo _).mono ?_; rintro e w' ⟨rfl, rfl⟩)
    go_region_held3 (fun w' => w'.cell? ⟨b, off, none⟩ = some (.int .i64 iw) ∧ w'.cell? ⟨b, off + 1, none⟩ = some (.int .i64 ih) ∧ w'.cell? ⟨b, off + 2, none⟩ = some (.slice pa ps.length cap) ∧ w'.cell? ⟨b, off + 3, none⟩ = some (.int .i64 jw) ∧ w'.cell? ⟨b, off + 3 + 1, none⟩ = some (.int .i64 jh) ∧ w'.cell? ⟨b, off + 3 + 2, none⟩ = some (.slice qa qs.length qcap) ∧ w'.cell? ⟨w.heap.size + 1, 0, none⟩ = some (.int .i64 7))
      (first | exact keepI2 (Below.refl _ _).drew hbN hpN e0 e1 e2 e3 e4 e5 p0 | exact keepI2 hbW hbN hpN e0 e1 e2 e3 e4 e5 p0 | exact keepI2 (((hbW.setCell (Nat.le_refl _) _).setCell (Nat.le_refl _) _).setCell (Nat.le_refl _) _) hbN hpN e0 e1 e2 e3 e4 e5 p0)
      ((go_at_call 123; refine hm.mono ?_; rintro e w' ⟨ra, rc, rfl, hri, hbb⟩; obtain ⟨_, c0, c1, c2, f0, f1, f2⟩ := hbox.below hbb hbox.lt hbb.size; have hbW := (Below.refl (w.heap.size + 2) _).drew.trans (hbb.mono hsN)))
    all_goals
      have HT : Hid (_) := made_told (rc := rc) hbx hbox.lt (by omega) hri hbb
      clear hri hbb hbx hbox hm e0 e1 e2 e3 e4 e5
      go_wp2
      refine bodyPost_ret (v := .agg #[.int .i64 r.W, .int .i64 r.H, .slice ra r.ps.length rc]) (by simp [results, Tryz.results76, go_sem, c0, c1, c2]) rfl HT.out
end Go.Proofs.YtihliofhhjjeaaaGreat
namespace Go.Proofs.YtihliofhhjjeaaaGreat
open Go.RowKit Im
theorem step_append_at {P : Program} {ops : Array Oper} {o : Oper} {a : Act} {w : World} {K : Act → World → Prop} {Q : Exit → Act → World → Prop} {E : Prop}
    (hg : o.guard = none) (s x : Operand) (t : TypeId) (ho : o.op = .call { callee := .builtin .append, args := #[s, x], argTypes := #[t, t] })
    (base : Nat) (e : TypeId) (i : TypeInfo) (z : Value) (size bytes : Nat) (ht : P.underlying t = some (.slice e)) (hi : P.info? e = some i) (hz : i.zero = some z)
    (hsize : i.size = size) (hby : i.bytes = bytes) (hzs : z.cells.size = size) (hsz : 0 < size)
    (v : Value) (n : Nat) (xs : List Value) (hs : a.eval s = v) (hown : w.ownsRow base e size v n xs)
    (ad : Addr) (m c : Nat) (news : List Value) (hx : a.eval x = .slice (some ad) m c) (hl : news.length = m * size) (hnews : ∀ j u, news[j]? = some u → w.cell? (ad.add j) = some u) (h1 : ∀ u ∈ news, u.oneCell' = true)
    (h63 : n + m ≤ maxLen) (hbytes : (n + m) * bytes ≤ 140737488355328) (hbase : base ≤ w.heap.size)
    (hK : ∀ v' w', w'.ownsRow base e size v' (n + m) (xs ++ news) → w.grownBy w' v.ownBlock → (v'.ownBlock = v.ownBlock ∨ v'.ownBlock = some w.heap.size) → K (a.put o.dst v') w') :
    if Region.wanted o (yielded ops a.tmps) = true then Oper.wp P o a w K Q else E := by
  have hw : Region.wanted o (yielded ops a.tmps) = true := by simp [Region.wanted, hg]
  rw [if_pos hw]
  obtain ⟨v', w', hr, h2, h3, h4, h5⟩ := run_append_own_at (P := P) w base t o.type e i z size bytes ht hi hz hsize hby hzs hsz v n xs hown ad m c news hl hnews h1 h63 hbytes hbase
  unfold Oper.wp execOp
  simp only [ho, resolve, invoke, builtin, Sem.run_bind, Sem.run_pure, Result.andThen_ok, List.map_toArray, List.map_cons, List.map_nil, hs, hx, hr]
  exact hK _ _ h2 h3 h5
def Px (base : Nat) (w : World) (v : Value) (x : Res × Option Addr × Nat) : Prop :=
  x.1.ps.length ≤ 9223372036854775807 ∧ (x.1.ps = [] ∨ ∃ b off, x.2.1 = some ⟨b, off, none⟩ ∧ base ≤ b ∧ b < w.heap.size ∧ v.ownBlock ≠ some b ∧ ∀ j, j < x.1.ps.length → w.cell? ⟨b, off + j, none⟩ = some (.int .i64 (x.1.ps.getD j 0)) ∧ (0 < base → w.frozen? ⟨b, off + j, none⟩ = false))
theorem Px.ints {base : Nat} {w : World} {v : Value} {x : Res × Option Addr × Nat} (h : Px base w v x) : Ints base w x.2.1 x.1.ps.length x.1.ps := by
  obtain ⟨h0, h1⟩ := h
  rcases h1 with h1 | ⟨b, off, ha, hB, hb, _, hc⟩
  · exact ⟨rfl, h0, .inl h1, fun _ => .inl h1⟩
  · refine ⟨rfl, h0, .inr ⟨b, off, ha, hB, hb, fun j hj => (hc j hj).1⟩, fun hp => .inr fun b' off' ha' j hj => ?_⟩
    rw [ha] at ha'
    injection ha' with ha'
    injection ha' with e1 e2
    subst e1 e2
    exact (hc j hj).2 hp
theorem Px.mono {base base' : Nat} {w : World} {v : Value} {x : Res × Option Addr × Nat} (h : Px base w v x) (hb : base' ≤ base) : Px base' w v x := by
  obtain ⟨h0, h1⟩ := h
  refine ⟨h0, ?_⟩
  rcases h1 with h1 | ⟨b, off, ha, hB, hl, hv, hc⟩
  · exact .inl h1
  · exact .inr ⟨b, off, ha, Nat.le_trans hb hB, hl, hv, fun j hj => ⟨(hc j hj).1, fun hp => (hc j hj).2 (by omega)⟩⟩
theorem Px.of {base : Nat} {w : World} {v : Value} {B : Nat} {r : Res} {a : Option Addr} {c : Nat} (h : Ints B w a r.ps.length r.ps) (hB : base ≤ B) (hv : ∀ j, v.ownBlock = some j → j < B) : Px base w v (r, a, c) := by
  refine ⟨h.big, ?_⟩
  rcases h.cells with h1 | ⟨b, off, ha, hb0, hb, hc⟩
  · exact .inl h1
  · by_cases hn : r.ps = []
    · exact .inl hn
    · exact .inr ⟨b, off, ha, Nat.le_trans hB hb0, hb, fun e => by have := hv b e; omega, fun j hj => ⟨hc j hj, fun hp => (h.free (by omega)).elim (fun e => absurd e hn) fun hf => hf b off ha j hj⟩⟩
theorem Px.below {base : Nat} {w w' : World} {v : Value} {x : Res × Option Addr × Nat} (h : Px base w v x) (hb : Below w.heap.size w w') : Px base w' v x := by
  obtain ⟨h0, h1⟩ := h
  refine ⟨h0, ?_⟩
  rcases h1 with h1 | ⟨b, off, ha, hB, hl, hv, hc⟩
  · exact .inl h1
  · exact .inr ⟨b, off, ha, hB, Nat.lt_of_lt_of_le hl hb.size, hv, fun j hj => ⟨(hb.cell (p := ⟨b, off + j, none⟩) hl).trans (hc j hj).1, fun hp => (hb.frozen (p := ⟨b, off + j, none⟩) hl).trans ((hc j hj).2 hp)⟩⟩
theorem Px.grown {base : Nat} {w w' : World} {v v' : Value} {x : Res × Option Addr × Nat} (h : Px base w v x) (hg : w.grownBy w' v.ownBlock) (hv' : v'.ownBlock = v.ownBlock ∨ v'.ownBlock = some w.heap.size) : Px base w' v' x := by
  obtain ⟨h0, h1⟩ := h
  refine ⟨h0, ?_⟩
  rcases h1 with h1 | ⟨b, off, ha, hB, hl, hv, hc⟩
  · exact .inl h1
  · have hgc := fun o => grown_cell hg hl (fun e => hv e.symm) o
    refine .inr ⟨b, off, ha, hB, Nat.lt_of_lt_of_le hl hg.size, ?_, fun j hj => ⟨(hgc (off + j)).1.trans (hc j hj).1, fun hp => (hgc (off + j)).2.trans ((hc j hj).2 hp)⟩⟩
    rcases hv' with e | e
    · rw [e]; exact hv
    · rw [e]; intro e'; injection e' with e'; omega
def RowI (base : Nat) (w : World) (v : Value) (L : Lr) : Prop := OwnsR base w v L ∧ ∀ x ∈ L, Px base w v x
theorem RowI.below {base : Nat} {w w' : World} {v : Value} {L : Lr} (h : RowI base w v L) (hb : Below w.heap.size w w') : RowI base w' v L :=
  ⟨ownsRow_below h.1 hb (Nat.le_refl _), fun x hx => (h.2 x hx).below hb⟩
theorem RowI.nil (base : Nat) (w : World) : RowI base w (.slice none 0 0) [] := ⟨World.ownsRow_nil _ _ _ _, fun x hx => by cases hx⟩
theorem RowI.lt {base : Nat} {w : World} {v : Value} {L : Lr} (h : RowI base w v L) : ∀ j, v.ownBlock = some j → base ≤ j ∧ j < w.heap.size := fun j hj => World.ownsRow.lt (w := w) h.1 j hj
theorem RowI.push {base : Nat} {w w1 : World} {v v' : Value} {L : Lr} {x : Res × Option Addr × Nat} (h : RowI base w v L) (hx : Px base w v x)
    (h' : w1.ownsRow base 31 3 v' (L.length + 1) (rcells L ++ [.int .i64 x.1.W, .int .i64 x.1.H, .slice x.2.1 x.1.ps.length x.2.2])) (hg : w.grownBy w1 v.ownBlock) (hl : v'.ownBlock = v.ownBlock ∨ v'.ownBlock = some w.heap.size) : RowI base w1 v' (L ++ [x]) := by
  refine ⟨by unfold OwnsR; rw [rcells_snoc]; simpa using h', fun y hy => ?_⟩
  rcases List.mem_append.1 hy with h1 | h1
  · exact (h.2 y h1).grown hg hl
  · rw [List.mem_singleton] at h1; subst h1; exact hx.grown hg hl
theorem made_any (W H S O : Int) (a : Option Addr) (len cap : Nat) {Op : Int} (To A B : Int) {K : Int} {la : Option Addr} {ll : Nat} (lc : Nat) {ls : List Lt} {fa : Option Addr} {flen : Nat} (fcap : Nat) {fr : List Res} {bi : Nat} {w : World} {z : Sz} (hk : knownB Op = true) (hL : Lights w la ll ls) (hI : Imgs bi w fa flen fr) (hA : hasA Op = true → 1 ≤ flen) (hB : hasB Op = true → 2 ≤ flen) (hz : Op = 1 ∨ Op = 2 → z = (W, H)) (hr : (paintRes ⟨Op, To, A, B, K, ls⟩ z fr).E = 0) :
    Calls Tryz.prog 76 #[.agg #[.int .i64 W, .int .i64 H, .int .i64 S, .int .i64 O, .slice a len cap], .agg #[.int .i64 Op, .int .i64 To, .int .i64 A, .int .i64 B, .int .i64 K, .slice la ll lc], .slice fa flen fcap] w (ToldM w (paintRes ⟨Op, To, A, B, K, ls⟩ z fr)) := by
  unfold paintRes at hr ⊢
  by_cases h12 : Op = 1 ∨ Op = 2
  · rw [if_pos h12] at hr ⊢
    rw [hz h12] at hr ⊢
    exact made_make W H S O a len cap Op To A B K la ll lc fa flen fcap w h12 hr
  · have hA1 : hasA Op = true := by simp [knownB, withinB] at hk; simp [hasA, withinB]; omega
    have hfl := hA hA1
    obtain ⟨b, off, pa, pc, rfl, hb, d0, d1, d2, hi⟩ := hI.nth (k := 0) (by omega)
    rw [Nat.zero_mul, Nat.add_zero] at d0 d1 d2
    rw [if_neg h12] at hr ⊢
    by_cases hB1 : hasB Op = true
    · have hf2 := hB hB1
      obtain ⟨b', off', qa, qc, e, _, g0, g1, g2, hj⟩ := hI.nth (k := 1) (by omega)
      injection e with e
      injection e with e1 e2
      subst e1 e2
      rw [Nat.one_mul] at g0 g1 g2
      have hop : Op = 4 ∨ Op = 5 ∨ Op = 6 ∨ Op = 7 := by simp [hasB, withinB] at hB1; omega
      rw [if_pos hB1] at hr ⊢
      exact made_two W H S O a len cap Op To A B K la ll lc flen fcap w hop b off hb (by omega) (by omega) _ _ pa pc _ d0 d1 d2 (hi.mono (Nat.zero_le _)) _ _ qa qc _ g0 g1 g2 (hj.mono (Nat.zero_le _)) hr
    · rw [if_neg hB1] at hr ⊢
      by_cases h13 : Op = 13
      · subst h13
        rw [if_pos rfl] at hr ⊢
        exact made_lit W H S O a len cap To A B K la ll lc ls flen fcap w hL b off hb (by omega) _ _ pa pc _ d0 d1 d2 (hi.mono (Nat.zero_le _)) hr
      · rw [if_neg h13] at hr ⊢
        have hop : Op = 3 ∨ Op = 8 ∨ Op = 9 ∨ Op = 10 ∨ Op = 11 ∨ Op = 12 := by simp [hasA, withinB] at hA1; simp [hasB, withinB] at hB1; omega
        exact made_one W H S O a len cap Op To A B K la ll lc flen fcap w hop b off hb (by omega) _ _ pa pc _ d0 d1 d2 (hi.mono (Nat.zero_le _)) hr
end Go.Proofs.YtihliofhhjjeaaaGreat
namespace Go.Proofs.YtihliofhhjjeaaaGreat
open Go.RowKit Im
theorem list_append_nothing {P : Program} {w : World} {ops : Array Oper} {rest : List Oper} {o : Oper} {a : Act} {Q : Exit → Act → World → Prop} (hgd : o.guard = none) (s x : Operand) (t : TypeId)
    (ho : o.op = .call { callee := .builtin .append, args := #[s, x], argTypes := #[t, t] }) (e : TypeId) (i : TypeInfo) (ht : P.underlying t = some (.slice e)) (hi : P.info? e = some i) (b : Option Addr) (n c : Nat) (hle : n ≤ c) (hs : a.eval s = .slice b n c) (la : Option Addr) (lc : Nat) (hx : a.eval x = .slice la 0 lc)
    (h : wpList P ops Q rest (a.put o.dst (.slice b n c)) w) : wpList P ops Q (o :: rest) a w := by
  refine wpList_plain hgd fun K hK => ?_
  have hrun : (Builtin.append_ #[t, t] o.type #[.slice b n c, .slice la 0 lc]).run P w = .ok (.slice b n c) w := by
    have hs' : Src P i.size t (.slice la 0 lc) 0 [] w := by
      cases la with
      | none => exact Src.ofNil w ht lc
      | some ad => exact Src.ofSlice w ht ad 0 lc [] (by simp) (fun j u h => by simp at h) (fun u hu => by cases hu)
    exact run_append_nothing w t t o.type e i ht hi b n c hle _ hs'
  unfold Oper.wp
  simp [execOp, ho, resolve, invoke, builtin, hs, hx, hrun, Result.andThen]
  exact hK _ _ h
abbrev Lp := List (Ps × Option Addr × Nat)
abbrev lp0 : Ps × Option Addr × Nat := (Ps.zero, none, 0)
def pcells (L : Lp) : List Value := L.flatMap fun x => [.int .i64 x.1.Op, .int .i64 x.1.To, .int .i64 x.1.A, .int .i64 x.1.B, .int .i64 x.1.K, .slice x.2.1 x.1.ls.length x.2.2]
theorem pcells_len (L : Lp) : (pcells L).length = L.length * 6 := by
  induction L with
  | nil => rfl
  | cons x L ih => simp only [pcells, List.flatMap_cons, List.length_append, List.length_cons, List.length_nil] at ih ⊢; rw [ih]; omega
theorem pcells_snoc (L : Lp) (x : Ps × Option Addr × Nat) : pcells (L ++ [x]) = pcells L ++ [.int .i64 x.1.Op, .int .i64 x.1.To, .int .i64 x.1.A, .int .i64 x.1.B, .int .i64 x.1.K, .slice x.2.1 x.1.ls.length x.2.2] := by simp [pcells]
theorem pcells_get (L : Lp) (j : Nat) (h : j < L.length) : (pcells L)[j * 6]? = some (.int .i64 (L.getD j lp0).1.Op) ∧ (pcells L)[j * 6 + 1]? = some (.int .i64 (L.getD j lp0).1.To) ∧ (pcells L)[j * 6 + 2]? = some (.int .i64 (L.getD j lp0).1.A) ∧ (pcells L)[j * 6 + 3]? = some (.int .i64 (L.getD j lp0).1.B) ∧ (pcells L)[j * 6 + 4]? = some (.int .i64 (L.getD j lp0).1.K) ∧ (pcells L)[j * 6 + 5]? = some (.slice (L.getD j lp0).2.1 (L.getD j lp0).1.ls.length (L.getD j lp0).2.2) := by
  induction L generalizing j with
  | nil => simp at h
  | cons x L ih =>
    have e : pcells (x :: L) = .int .i64 x.1.Op :: .int .i64 x.1.To :: .int .i64 x.1.A :: .int .i64 x.1.B :: .int .i64 x.1.K :: .slice x.2.1 x.1.ls.length x.2.2 :: pcells L := rfl
    cases j with
    | zero => rw [e]; exact ⟨rfl, rfl, rfl, rfl, rfl, rfl⟩
    | succ j =>
      have := ih j (by simpa using h)
      rw [e, show (j + 1) * 6 = j * 6 + 1 + 1 + 1 + 1 + 1 + 1 by omega]
      simpa using this
def OwnsP (base : Nat) (w : World) (v : Value) (L : Lp) : Prop := w.ownsRow base 62 6 v L.length (pcells L)
def Lx (base : Nat) (w : World) (v : Value) (x : Ps × Option Addr × Nat) : Prop :=
  x.1.ls.length ≤ 9223372036854775807 ∧ (x.1.ls = [] ∨ ∃ b off, x.2.1 = some ⟨b, off, none⟩ ∧ base ≤ b ∧ b < w.heap.size ∧ v.ownBlock ≠ some b ∧ ∀ j, j < x.1.ls.length → w.cell? ⟨b, off + j * 4, none⟩ = some (.int .i64 (x.1.ls.getD j Lt.zero).X) ∧ w.cell? ⟨b, off + j * 4 + 1, none⟩ = some (.int .i64 (x.1.ls.getD j Lt.zero).Y) ∧ w.cell? ⟨b, off + j * 4 + 2, none⟩ = some (.int .i64 (x.1.ls.getD j Lt.zero).R) ∧ w.cell? ⟨b, off + j * 4 + 3, none⟩ = some (.int .i64 (x.1.ls.getD j Lt.zero).P))
theorem Lx.lights {base : Nat} {w : World} {v : Value} {x : Ps × Option Addr × Nat} (h : Lx base w v x) : Lights w x.2.1 x.1.ls.length x.1.ls := by
  obtain ⟨h0, h1⟩ := h
  refine ⟨rfl, h0, ?_⟩
  rcases h1 with h1 | ⟨b, off, ha, hB, hb, _, hc⟩
  · exact .inl h1
  · exact .inr ⟨b, off, ha, hb, hc⟩
theorem Lx.mono {base base' : Nat} {w : World} {v : Value} {x : Ps × Option Addr × Nat} (h : Lx base w v x) (hb : base' ≤ base) : Lx base' w v x := by
  obtain ⟨h0, h1⟩ := h
  refine ⟨h0, ?_⟩
  rcases h1 with h1 | ⟨b, off, ha, hB, r⟩
  · exact .inl h1
  · exact .inr ⟨b, off, ha, Nat.le_trans hb hB, r⟩
theorem Lx.below {base : Nat} {w w' : World} {v : Value} {x : Ps × Option Addr × Nat} (h : Lx base w v x) (hb : Below w.heap.size w w') : Lx base w' v x := by
  obtain ⟨h0, h1⟩ := h
  refine ⟨h0, ?_⟩
  rcases h1 with h1 | ⟨b, off, ha, hB, hl, hv, hc⟩
  · exact .inl h1
  · refine .inr ⟨b, off, ha, hB, Nat.lt_of_lt_of_le hl hb.size, hv, fun j hj => ?_⟩
    obtain ⟨c0, c1, c2, c3⟩ := hc j hj
    exact ⟨(hb.cell (p := ⟨b, off + j * 4, none⟩) hl).trans c0, (hb.cell (p := ⟨b, off + j * 4 + 1, none⟩) hl).trans c1, (hb.cell (p := ⟨b, off + j * 4 + 2, none⟩) hl).trans c2, (hb.cell (p := ⟨b, off + j * 4 + 3, none⟩) hl).trans c3⟩
theorem Lx.setBelow {base : Nat} {w : World} {v : Value} {x : Ps × Option Addr × Nat} (h : Lx base w v x) {p : Addr} (hp : p.block < base) (u : Value) : Lx base (w.setCell p u) v x := by
  obtain ⟨h0, h1⟩ := h
  refine ⟨h0, ?_⟩
  rcases h1 with h1 | ⟨b, off, ha, hB, hl, hv, hc⟩
  · exact .inl h1
  · have hn : ∀ o, p ≠ (⟨b, o, none⟩ : Addr) := fun o e => by rw [e] at hp; exact absurd hp (by simpa using hB)
    refine .inr ⟨b, off, ha, hB, by simpa using hl, hv, fun j hj => ?_⟩
    obtain ⟨c0, c1, c2, c3⟩ := hc j hj
    exact ⟨(set_other _ (hn _)).trans c0, (set_other _ (hn _)).trans c1, (set_other _ (hn _)).trans c2, (set_other _ (hn _)).trans c3⟩
theorem Lx.grown {base : Nat} {w w' : World} {v v' : Value} {x : Ps × Option Addr × Nat} (h : Lx base w v x) (hg : w.grownBy w' v.ownBlock) (hv' : v'.ownBlock = v.ownBlock ∨ v'.ownBlock = some w.heap.size) : Lx base w' v' x := by
  obtain ⟨h0, h1⟩ := h
  refine ⟨h0, ?_⟩
  rcases h1 with h1 | ⟨b, off, ha, hB, hl, hv, hc⟩
  · exact .inl h1
  · have hk := fun o => (grown_cell hg hl (fun e => hv e.symm) o).1
    refine .inr ⟨b, off, ha, hB, Nat.lt_of_lt_of_le hl hg.size, ?_, fun j hj => ?_⟩
    · rcases hv' with e | e
      · rw [e]; exact hv
      · rw [e]; intro e'; injection e' with e'; omega
    · obtain ⟨c0, c1, c2, c3⟩ := hc j hj
      exact ⟨(hk _).trans c0, (hk _).trans c1, (hk _).trans c2, (hk _).trans c3⟩
def RowP (base : Nat) (w : World) (v : Value) (L : Lp) : Prop := OwnsP base w v L ∧ ∀ x ∈ L, Lx base w v x
theorem RowP.nil (base : Nat) (w : World) : RowP base w (.slice none 0 0) [] := ⟨World.ownsRow_nil _ _ _ _, fun x hx => by cases hx⟩
theorem RowP.below {base : Nat} {w w' : World} {v : Value} {L : Lp} (h : RowP base w v L) (hb : Below w.heap.size w w') : RowP base w' v L :=
  ⟨ownsRow_below h.1 hb (Nat.le_refl _), fun x hx => (h.2 x hx).below hb⟩
theorem RowP.setBelow {base : Nat} {w : World} {v : Value} {L : Lp} (h : RowP base w v L) {p : Addr} (hp : p.block < base) (u : Value) : RowP base (w.setCell p u) v L :=
  ⟨ownsRow_setCell_below h.1 hp u, fun x hx => (h.2 x hx).setBelow hp u⟩
theorem RowP.lt {base : Nat} {w : World} {v : Value} {L : Lp} (h : RowP base w v L) : ∀ j, v.ownBlock = some j → base ≤ j ∧ j < w.heap.size := fun j hj => World.ownsRow.lt (w := w) h.1 j hj
theorem RowP.push {base : Nat} {w w1 : World} {v v' : Value} {L : Lp} {x : Ps × Option Addr × Nat} (h : RowP base w v L) (hx : Lx base w v x)
    (h' : w1.ownsRow base 62 6 v' (L.length + 1) (pcells L ++ [.int .i64 x.1.Op, .int .i64 x.1.To, .int .i64 x.1.A, .int .i64 x.1.B, .int .i64 x.1.K, .slice x.2.1 x.1.ls.length x.2.2])) (hg : w.grownBy w1 v.ownBlock) (hl : v'.ownBlock = v.ownBlock ∨ v'.ownBlock = some w.heap.size) : RowP base w1 v' (L ++ [x]) := by
  refine ⟨by unfold OwnsP; rw [pcells_snoc]; simpa using h', fun y hy => ?_⟩
  rcases List.mem_append.1 hy with h1 | h1
  · exact (h.2 y h1).grown hg hl
  · rw [List.mem_singleton] at h1; subst h1; exact hx.grown hg hl
theorem mapP_getD {L : Lp} {ps : List Ps} (h : L.map Prod.fst = ps) (j : Nat) : ps.getD j Ps.zero = (L.getD j lp0).1 := by
  subst h
  simp only [List.getD_eq_getElem?_getD, List.getElem?_map]
  cases L[j]? <;> rfl
theorem RowP.passes {base : Nat} {w : World} {v : Value} {L : Lp} {ps : List Ps} (h : RowP base w v L) (he : L.map Prod.fst = ps) (hb : L.length ≤ 9223372036854775807) : ∃ a cap, v = .slice a ps.length cap ∧ Passes w a ps.length ps := by
  have hrl : ps.length = L.length := by rw [← he]; simp
  obtain ⟨⟨h1, h2⟩, hx⟩ := h
  rcases h2 with ⟨rfl, h0⟩ | ⟨g, cap, cur, rfl, hg, hh, hc, hm, hs, ht⟩
  · have : L = [] := by simpa using h0
    subst this
    subst he
    exact ⟨none, 0, rfl, rfl, by simp, .inl rfl⟩
  · rw [← hrl]
    refine ⟨_, cap, rfl, rfl, by omega, .inr ⟨g, 0, rfl, ?_, fun j hj => ?_⟩⟩
    · rcases Nat.lt_or_ge g w.heap.size with h | h
      · exact h
      · rw [Array.getElem?_eq_none h] at hh; cases hh
    · have hl := pcells_len L
      rw [hrl] at hj
      obtain ⟨k0, k1, k2, k3, k4, k5⟩ := pcells_get L j hj
      have this := fun i hi => World.ownsRow.cellAt (base := base) (e := 62) (size := 6) ⟨h1, .inr ⟨g, cap, cur, rfl, hg, hh, hc, hm, hs, ht⟩⟩ i hi
      have hL := (hx _ (getD_mem hj lp0)).lights
      rw [mapP_getD he j]
      refine ⟨(L.getD j lp0).2.1, (L.getD j lp0).1.ls.length, (L.getD j lp0).2.2, ?_, ?_, ?_, ?_, ?_, ?_, hL⟩
      all_goals rw [Nat.zero_add, this _ (by omega)]
      · exact k0
      · exact k1
      · exact k2
      · exact k3
      · exact k4
      · exact k5
theorem Tryz.infoPass : (Tryz.prog.info? 62).map (fun i => (i.zero, i.size, i.bytes)) = some (some (.agg #[.int .i64 0, .int .i64 0, .int .i64 0, .int .i64 0, .int .i64 0, .slice none 0 0]), 6, 64) := by kernel_rfl
theorem cell_six_new (w : World) (v0 v1 v2 v3 v4 v5 : Value) (t : TypeId) : ∀ (j : Nat) (u : Value), [v0, v1, v2, v3, v4, v5][j]? = some u → (w.alloc (.cells #[v0, v1, v2, v3, v4, v5] t)).cell? ((⟨w.heap.size, 0, none⟩ : Addr).add j) = some u := by
  intro j u h
  match j, h with
  | 0, h => simp at h; subst h; simp [go_sem, Addr.add]
  | 1, h => simp at h; subst h; simp [go_sem, Addr.add]
  | 2, h => simp at h; subst h; simp [go_sem, Addr.add]
  | 3, h => simp at h; subst h; simp [go_sem, Addr.add]
  | 4, h => simp at h; subst h; simp [go_sem, Addr.add]
  | 5, h => simp at h; subst h; simp [go_sem, Addr.add]
theorem Lx.of {base B : Nat} {w : World} {v u : Value} {p : Ps} {la : Option Addr} {lc : Nat} (h : OwnsL B w u p.ls) (hu : u = .slice la p.ls.length lc) (h8 : p.ls.length ≤ 9223372036854775807) (hB : base ≤ B) (hv : ∀ j, v.ownBlock = some j → j < B) : Lx base w v (p, la, lc) := by
  refine ⟨by dsimp only; omega, ?_⟩
  obtain ⟨a', cap', e, hL⟩ := id h.lights h8
  rcases h with ⟨h1, h2 | ⟨g, cap, cur, hvv, hg, r⟩⟩
  · left
    have := h2.2
    simpa using this
  · rw [e] at hvv hu
    injection hvv with e1 e2 e3
    injection hu with e4 e5 e6
    subst e1 e4
    rcases hL.cells with e7 | ⟨b, off, ha, hb, hc⟩
    · exact .inl e7
    · injection ha with ha
      injection ha with f1 f2
      subst f1 f2
      exact .inr ⟨g, 0, rfl, Nat.le_trans hB hg, hb, fun e => by have := hv _ e; omega, hc⟩
end Go.Proofs.YtihliofhhjjeaaaGreat
namespace Go.Proofs.YtihliofhhjjeaaaGreat
open Go.RowKit Im
def cullP (ps : List Ps) (g : Nat → Bool) : Nat → List Ps
  | 0 => []
  | k + 1 => cullP ps g k ++ (if g k = true then [ps.getD k Ps.zero] else [])
structure ZBox (w : World) (b : Nat) : Prop where
  lt : b < w.heap.size
  c0 : w.cell? ⟨b, 0, none⟩ = some (.int .i64 0)
  c1 : w.cell? ⟨b, 1, none⟩ = some (.int .i64 0)
  c2 : w.cell? ⟨b, 2, none⟩ = some (.int .i64 0)
  c3 : w.cell? ⟨b, 3, none⟩ = some (.int .i64 0)
  c4 : w.cell? ⟨b, 4, none⟩ = some (.slice none 0 0)
  fz : ∀ o, w.frozen? ⟨b, o, none⟩ = false
theorem frozen_new (w : World) (cs : Array Value) (t : TypeId) (o : Nat) : (w.alloc (.cells cs t)).frozen? ⟨w.heap.size, o, none⟩ = false := by
  have k0 : (w.alloc (.cells cs t)).heap[w.heap.size]? = some (.cells cs t (0, 0)) := (MapKept.heap_alloc w _).1
  unfold World.frozen?
  rw [k0]; simp
theorem ZBox.new (w : World) : ZBox (w.alloc (.cells #[.int .i64 0, .int .i64 0, .int .i64 0, .int .i64 0, .slice none 0 0] 24)) w.heap.size :=
  ⟨by simp, by simp [go_sem], by simp [go_sem], by simp [go_sem], by simp [go_sem], by simp [go_sem], fun o => frozen_new w _ _ o⟩
theorem ZBox.below {w w' : World} {b B : Nat} (h : ZBox w b) (hb : Below B w w') (hB : b < B) (hs : w.heap.size ≤ w'.heap.size) : ZBox w' b :=
  ⟨Nat.lt_of_lt_of_le h.lt hs, (hb.cell (p := ⟨b, 0, none⟩) hB).trans h.c0, (hb.cell (p := ⟨b, 1, none⟩) hB).trans h.c1, (hb.cell (p := ⟨b, 2, none⟩) hB).trans h.c2, (hb.cell (p := ⟨b, 3, none⟩) hB).trans h.c3, (hb.cell (p := ⟨b, 4, none⟩) hB).trans h.c4, fun o => (hb.frozen (p := ⟨b, o, none⟩) hB).trans (h.fz o)⟩
theorem lights_cells {w : World} {b off : Nat} {ls : List Lt} (h : ∀ j, j < ls.length → w.cell? ⟨b, off + j * 4, none⟩ = some (.int .i64 (ls.getD j Lt.zero).X) ∧ w.cell? ⟨b, off + j * 4 + 1, none⟩ = some (.int .i64 (ls.getD j Lt.zero).Y) ∧ w.cell? ⟨b, off + j * 4 + 2, none⟩ = some (.int .i64 (ls.getD j Lt.zero).R) ∧ w.cell? ⟨b, off + j * 4 + 3, none⟩ = some (.int .i64 (ls.getD j Lt.zero).P)) :
    ∀ (j : Nat) (u : Value), (lcells ls)[j]? = some u → w.cell? ((⟨b, off, none⟩ : Addr).add j) = some u := by
  intro j u hu
  have hl := lcells_len ls
  have hj : j < (lcells ls).length := by
    rcases Nat.lt_or_ge j (lcells ls).length with h' | h'
    · exact h'
    · rw [List.getElem?_eq_none h'] at hu; cases hu
  have hq : j / 4 < ls.length := by omega
  obtain ⟨c0, c1, c2, c3⟩ := h (j / 4) hq
  obtain ⟨g0, g1, g2, g3⟩ := lcells_get ls (j / 4) hq
  have ea : (⟨b, off, none⟩ : Addr).add j = ⟨b, off + j, none⟩ := by simp [Addr.add]
  rw [ea]
  clear ea
  have : j % 4 = 0 ∨ j % 4 = 1 ∨ j % 4 = 2 ∨ j % 4 = 3 := by omega
  rcases this with e | e | e | e
  · rw [show j = j / 4 * 4 by omega] at hu ⊢; rw [g0] at hu; rw [← hu]; exact c0
  · rw [show j = j / 4 * 4 + 1 by omega] at hu ⊢; rw [g1] at hu; rw [← hu, ← Nat.add_assoc]; exact c1
  · rw [show j = j / 4 * 4 + 2 by omega] at hu ⊢; rw [g2] at hu; rw [← hu, ← Nat.add_assoc]; exact c2
  · rw [show j = j / 4 * 4 + 3 by omega] at hu ⊢; rw [g3] at hu; rw [← hu, ← Nat.add_assoc]; exact c3
theorem lcells_one (ls : List Lt) : ∀ u ∈ lcells ls, u.oneCell' = true := by
  induction ls with
  | nil => intro u hu; cases hu
  | cons l ls ih =>
    intro u hu
    simp only [lcells, List.mem_cons] at hu
    rcases hu with rfl | rfl | rfl | rfl | hu
    · rfl
    · rfl
    · rfl
    · rfl
    · exact ih u hu
structure GBox (w : World) (b : Nat) (W H S O : Int) (v : Value) : Prop where
  lt : b < w.heap.size
  c0 : w.cell? ⟨b, 0, none⟩ = some (.int .i64 W)
  c1 : w.cell? ⟨b, 1, none⟩ = some (.int .i64 H)
  c2 : w.cell? ⟨b, 2, none⟩ = some (.int .i64 S)
  c3 : w.cell? ⟨b, 3, none⟩ = some (.int .i64 O)
  c4 : w.cell? ⟨b, 4, none⟩ = some v
  fz : ∀ o, w.frozen? ⟨b, o, none⟩ = false
theorem GBox.below {w w' : World} {b B : Nat} {W H S O : Int} {v : Value} (h : GBox w b W H S O v) (hb : Below B w w') (hB : b < B) (hs : w.heap.size ≤ w'.heap.size) : GBox w' b W H S O v :=
  ⟨Nat.lt_of_lt_of_le h.lt hs, (hb.cell (p := ⟨b, 0, none⟩) hB).trans h.c0, (hb.cell (p := ⟨b, 1, none⟩) hB).trans h.c1, (hb.cell (p := ⟨b, 2, none⟩) hB).trans h.c2, (hb.cell (p := ⟨b, 3, none⟩) hB).trans h.c3, (hb.cell (p := ⟨b, 4, none⟩) hB).trans h.c4, fun o => (hb.frozen (p := ⟨b, o, none⟩) hB).trans (h.fz o)⟩
theorem GBox.grown {w w' : World} {b : Nat} {W H S O : Int} {v : Value} {row : Option Nat} (h : GBox w b W H S O v) (hg : w.grownBy w' row) (hne : some b ≠ row) : GBox w' b W H S O v :=
  ⟨Nat.lt_of_lt_of_le h.lt hg.size, (grown_cell hg h.lt hne 0).1.trans h.c0, (grown_cell hg h.lt hne 1).1.trans h.c1, (grown_cell hg h.lt hne 2).1.trans h.c2, (grown_cell hg h.lt hne 3).1.trans h.c3, (grown_cell hg h.lt hne 4).1.trans h.c4, fun o => (grown_cell hg h.lt hne o).2.trans (h.fz o)⟩
theorem GBox.set {w : World} {b : Nat} {W H S O : Int} {v : Value} (h : GBox w b W H S O v) {p : Addr} (hp : p.block ≠ b) (u : Value) : GBox (w.setCell p u) b W H S O v := by
  have hn : ∀ o, p ≠ (⟨b, o, none⟩ : Addr) := fun o e => hp (by rw [e])
  exact ⟨by simpa using h.lt, (set_other _ (hn 0)).trans h.c0, (set_other _ (hn 1)).trans h.c1, (set_other _ (hn 2)).trans h.c2, (set_other _ (hn 3)).trans h.c3, (set_other _ (hn 4)).trans h.c4, fun o => by simpa using h.fz o⟩
theorem GBox.put {w : World} {b : Nat} {W H S O : Int} {v : Value} (h : GBox w b W H S O v) (v' : Value) : GBox (w.setCell ⟨b, 4, none⟩ v') b W H S O v' :=
  ⟨by simpa using h.lt, (set_other _ (by simp)).trans h.c0, (set_other _ (by simp)).trans h.c1, (set_other _ (by simp)).trans h.c2, (set_other _ (by simp)).trans h.c3, set_same h.c4, fun o => by simpa using h.fz o⟩
theorem GBox.new (w : World) (W H S O : Int) (v : Value) : GBox (w.alloc (.cells #[.int .i64 W, .int .i64 H, .int .i64 S, .int .i64 O, v] 24)) w.heap.size W H S O v :=
  ⟨by simp, by simp [go_sem], by simp [go_sem], by simp [go_sem], by simp [go_sem], by simp [go_sem], fun o => frozen_new w _ _ o⟩
end Go.Proofs.YtihliofhhjjeaaaGreat
namespace Go.Proofs.YtihliofhhjjeaaaGreat
open Go.RowKit Im
def SrcOk (ps : List Ps) (n : Nat) : Prop := ∀ m, m < n → ∀ i ∈ srcOf ps m, 0 ≤ i ∧ i < m
theorem srcOk_of {f : Fr} (hE : frameE f = 0) : SrcOk f.ps f.ps.length := fun m hm => by
  obtain ⟨_, hfirst, _⟩ := frameE_zero hE
  have hfk := firstE_down f hfirst (k := m) (by omega)
  have hpE : passE f m = 0 := (firstE_at f hfk).symm.trans (firstE_down f hfirst (k := m + 1) (by omega))
  exact src_bd (passE_zero hpE).2.1
theorem keptG_succ (ps : List Ps) (n : Nat) (last : Int) (k j : Nat) : keptG ps n last (k + 1) j = if keptG ps n last k (n - 1 - k) = true then markG (keptG ps n last k) (srcOf ps (n - 1 - k)) j else keptG ps n last k j := rfl
theorem keptG_up1 {ps : List Ps} {n : Nat} {last : Int} {k j : Nat} (h : keptG ps n last k j = true) : keptG ps n last (k + 1) j = true := by
  rw [keptG_succ]
  split
  · unfold markG; rw [h]; rfl
  · exact h
theorem keptG_up {ps : List Ps} {n : Nat} {last : Int} {k j : Nat} (h : keptG ps n last k j = true) (d : Nat) : keptG ps n last (k + d) j = true := by
  induction d with
  | zero => exact h
  | succ d ih => exact keptG_up1 ih
theorem keptG_le {ps : List Ps} {n : Nat} {last : Int} {k k' j : Nat} (h : keptG ps n last k j = true) (hk : k ≤ k') : keptG ps n last k' j = true := by
  obtain ⟨d, rfl⟩ : ∃ d, k' = k + d := ⟨k' - k, by omega⟩
  exact keptG_up h d
theorem keptG_stays {ps : List Ps} {n : Nat} {last : Int} (hs : SrcOk ps n) {k j : Nat} (hk : k < n) (hj : n - 1 - k ≤ j) : keptG ps n last (k + 1) j = keptG ps n last k j := by
  rw [keptG_succ]
  split
  · unfold markG
    have : (srcOf ps (n - 1 - k)).any (fun i => decide (i = (j : Int))) = false := by
      rw [List.any_eq_false]
      intro i hi
      have := hs (n - 1 - k) (by omega) i hi
      simp
      omega
    rw [this, Bool.or_false]
  · rfl
theorem keptG_final {ps : List Ps} {n : Nat} {last : Int} (hs : SrcOk ps n) {m : Nat} (hm : m < n) : ∀ d, n - 1 - m + d ≤ n → keptG ps n last (n - 1 - m + d) m = keptG ps n last (n - 1 - m) m
  | 0, _ => rfl
  | d + 1, h => by
    rw [← keptG_final hs hm d (by omega), ← Nat.add_assoc]
    exact keptG_stays hs (by omega) (by omega)
theorem kept_when {ps : List Ps} {n : Nat} {last : Int} (hs : SrcOk ps n) {m : Nat} (hm : m < n) : keptG ps n last n m = keptG ps n last (n - 1 - m) m := by
  have := keptG_final (last := last) hs hm (m + 1) (by omega)
  rwa [show n - 1 - m + (m + 1) = n by omega] at this
theorem kept_shown {ps : List Ps} {n N : Nat} : keptG ps n N n N = true := keptG_le (k := 0) (by show decide _ = true; simp) (Nat.zero_le _)
theorem kept_src {ps : List Ps} {n : Nat} {last : Int} (hs : SrcOk ps n) {m : Nat} (hm : m < n) (h : keptG ps n last n m = true) {i : Nat} (hi : (i : Int) ∈ srcOf ps m) : keptG ps n last n i = true := by
  rw [kept_when hs hm] at h
  refine keptG_le (k := n - 1 - m + 1) ?_ (by omega)
  rw [keptG_succ, show n - 1 - (n - 1 - m) = m by omega, if_pos h]
  unfold markG
  have : (srcOf ps m).any (fun x => decide (x = (i : Int))) = true := by
    rw [List.any_eq_true]
    exact ⟨_, hi, by simp⟩
  rw [this, Bool.or_true]
end Go.Proofs.YtihliofhhjjeaaaGreat
