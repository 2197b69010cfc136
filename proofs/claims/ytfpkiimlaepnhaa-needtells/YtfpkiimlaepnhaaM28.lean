/- Paint2, ImgRow: joined, in this order. -/
import Derived.Test.YtfpkiimlaepnhaaM27
import Derived.Test.YtfpkiimlaepnhaaM10
/-
  PAINT2: paint.Pass, of passes that take images.
-/
namespace Go.Proofs.Ytfpkiimlaepnhaa
set_option maxRecDepth 100000
open Go.RowKit Im

/-- What the walk holds: the boxes' own cells and the image's. -/
theorem keepI {W3 w' : World} {N b off pb i j : Nat} {x0 x1 x2 y0 y1 : Value} (h : Below N W3 w') (hb : b < N) (hp : pb < N) (e0 : W3.cell? ⟨b, off, none⟩ = some x0) (e1 : W3.cell? ⟨b, off + 1, none⟩ = some x1) (e2 : W3.cell? ⟨b, off + 2, none⟩ = some x2) (p0 : W3.cell? ⟨pb, i, none⟩ = some y0) (p1 : W3.cell? ⟨pb, j, none⟩ = some y1) :
    w'.cell? ⟨b, off, none⟩ = some x0 ∧ w'.cell? ⟨b, off + 1, none⟩ = some x1 ∧ w'.cell? ⟨b, off + 2, none⟩ = some x2 ∧ w'.cell? ⟨pb, i, none⟩ = some y0 ∧ w'.cell? ⟨pb, j, none⟩ = some y1 :=
  ⟨(h.cell (p := ⟨b, off, none⟩) hb).trans e0, (h.cell (p := ⟨b, off + 1, none⟩) hb).trans e1, (h.cell (p := ⟨b, off + 2, none⟩) hb).trans e2, (h.cell (p := ⟨pb, i, none⟩) hp).trans p0, (h.cell (p := ⟨pb, j, none⟩) hp).trans p1⟩
theorem keepI2 {W3 w' : World} {N b off pb i : Nat} {x0 x1 x2 x3 x4 x5 y0 : Value} (h : Below N W3 w') (hb : b < N) (hp : pb < N) (e0 : W3.cell? ⟨b, off, none⟩ = some x0) (e1 : W3.cell? ⟨b, off + 1, none⟩ = some x1) (e2 : W3.cell? ⟨b, off + 2, none⟩ = some x2) (e3 : W3.cell? ⟨b, off + 3, none⟩ = some x3) (e4 : W3.cell? ⟨b, off + 3 + 1, none⟩ = some x4) (e5 : W3.cell? ⟨b, off + 3 + 2, none⟩ = some x5) (p0 : W3.cell? ⟨pb, i, none⟩ = some y0) :
    w'.cell? ⟨b, off, none⟩ = some x0 ∧ w'.cell? ⟨b, off + 1, none⟩ = some x1 ∧ w'.cell? ⟨b, off + 2, none⟩ = some x2 ∧ w'.cell? ⟨b, off + 3, none⟩ = some x3 ∧ w'.cell? ⟨b, off + 3 + 1, none⟩ = some x4 ∧ w'.cell? ⟨b, off + 3 + 2, none⟩ = some x5 ∧ w'.cell? ⟨pb, i, none⟩ = some y0 :=
  ⟨(h.cell (p := ⟨b, off, none⟩) hb).trans e0, (h.cell (p := ⟨b, off + 1, none⟩) hb).trans e1, (h.cell (p := ⟨b, off + 2, none⟩) hb).trans e2, (h.cell (p := ⟨b, off + 3, none⟩) hb).trans e3, (h.cell (p := ⟨b, off + 3 + 1, none⟩) hb).trans e4, (h.cell (p := ⟨b, off + 3 + 2, none⟩) hb).trans e5, (h.cell (p := ⟨pb, i, none⟩) hp).trans p0⟩
set_option maxHeartbeats 2000000 in
theorem paint_one (Op To A B K : Int) (la : Option Addr) (ll lc : Nat) (zw zh : Int) (flen fcap : Nat) (w : World) (hop : Op = 3 ∨ Op = 8 ∨ Op = 9 ∨ Op = 10 ∨ Op = 11 ∨ Op = 12) (b off : Nat) (hb : b < w.heap.size) (hl : 0 < flen) (iw ih : Int) (pa : Option Addr) (cap : Nat) (ps : List Int)
    (d0 : w.cell? ⟨b, off, none⟩ = some (.int .i64 iw)) (d1 : w.cell? ⟨b, off + 1, none⟩ = some (.int .i64 ih)) (d2 : w.cell? ⟨b, off + 2, none⟩ = some (.slice pa ps.length cap)) (hi : Ints 0 w pa ps.length ps) {r : Res} (hr : oneRes Op iw ih ps K = r) :
    Calls Try.prog 89 #[.agg #[.int .i64 Op, .int .i64 To, .int .i64 A, .int .i64 B, .int .i64 K, .slice la ll lc], .agg #[.int .i64 zw, .int .i64 zh], .slice (some ⟨b, off, none⟩) flen fcap] w (Told w r) := by
  have hb3 := pw_below w Op To A B K la ll lc zw zh
  have hbx := hb3.drew
  have hbN : b < w.heap.size + 2 := by omega
  have hpN : w.heap.size < w.heap.size + 2 := by omega
  have hm := one_told (op := Op) (W := iw) (H := ih) cap (k := K) (hi.below (Nat.le_refl _) hbx) hr
  have hbox0 := pw_box w Op To A B K la ll lc zw zh
  have hbox := hbox0.below (Below.refl _ _).drew hbox0.lt (Nat.le_refl _)
  clear hbox0
  have hsz := pw_size w Op To A B K la ll lc zw zh
  have hsN : w.heap.size + 2 ≤ (pw w Op To A B K la ll lc zw zh).drew.heap.size := by show _ ≤ (pw w Op To A B K la ll lc zw zh).heap.size; omega
  have e0 := (hb3.cell (p := ⟨b, off, none⟩) hb).trans d0
  have e1 := (hb3.cell (p := ⟨b, off + 1, none⟩) hb).trans d1
  have e2 := (hb3.cell (p := ⟨b, off + 2, none⟩) hb).trans d2
  have hP := ((PBox.new w Op To A B K la ll lc).alloc (.cells #[.int .i64 zw, .int .i64 zh] 72)).alloc (.cells #[.int .i64 0, .int .i64 0, .slice none 0 0] 24)
  obtain ⟨_, p0, p1, p2, p3, p4, p5⟩ := hP
  clear hr d0 d1 d2 hi
  have n1 : ¬ Op = 1 := by omega
  have n2 : ¬ Op = 2 := by omega
  have n4 : ¬ Op = 4 := by omega
  have n5 : ¬ Op = 5 := by omega
  have n6 : ¬ Op = 6 := by omega
  have n7 : ¬ Op = 7 := by omega
  have n13 : ¬ Op = 13 := by omega
  clear hop
  · go_enter Try.func89, Try.ntmps89
    go_wp2_with fail
    go_region_held3 (fun w' => w'.cell? ⟨b, off, none⟩ = some (.int .i64 iw) ∧ w'.cell? ⟨b, off + 1, none⟩ = some (.int .i64 ih) ∧ w'.cell? ⟨b, off + 2, none⟩ = some (.slice pa ps.length cap) ∧ w'.cell? ⟨w.heap.size, 0, none⟩ = some (.int .i64 Op) ∧ w'.cell? ⟨w.heap.size, 4, none⟩ = some (.int .i64 K))
      (first | exact keepI (Below.refl _ _).drew hbN hpN e0 e1 e2 p0 p4 | exact keepI hbW hbN hpN e0 e1 e2 p0 p4 | exact keepI (((hbW.setCell (Nat.le_refl _) _).setCell (Nat.le_refl _) _).setCell (Nat.le_refl _) _) hbN hpN e0 e1 e2 p0 p4)
      ((go_at_call 22; refine hm.mono ?_; rintro e w' ⟨ra, rc, rfl, hri, hbb⟩; obtain ⟨_, c0, c1, c2, f0, f1, f2⟩ := hbox.below hbb hbox.lt hbb.size; have hbW := (Below.refl (w.heap.size + 2) _).drew.trans (hbb.mono hsN)))
    all_goals
      have HT : Hid (_) := paint_told (rc := rc) hbx hbox.lt (by omega) hri hbb
      clear hri hbb hbx hbox hm e0 e1 e2
      go_wp2
      refine bodyPost_ret (v := .tuple #[.agg #[.int .i64 r.W, .int .i64 r.H, .slice ra r.ps.length rc], .int .i64 r.E]) (by simp [results, Try.results89, go_sem, c0, c1, c2]) rfl HT.out
set_option maxHeartbeats 2000000 in
theorem paint_lit (To A B K : Int) (la : Option Addr) (ll lc : Nat) (ls : List Lt) (zw zh : Int) (flen fcap : Nat) (w : World) (hL : Lights w la ll ls) (b off : Nat) (hb : b < w.heap.size) (hl : 0 < flen) (iw ih : Int) (pa : Option Addr) (cap : Nat) (ps : List Int)
    (d0 : w.cell? ⟨b, off, none⟩ = some (.int .i64 iw)) (d1 : w.cell? ⟨b, off + 1, none⟩ = some (.int .i64 ih)) (d2 : w.cell? ⟨b, off + 2, none⟩ = some (.slice pa ps.length cap)) (hi : Ints 0 w pa ps.length ps) {r : Res} (hr : litRes iw ih ps ls K = r) :
    Calls Try.prog 89 #[.agg #[.int .i64 13, .int .i64 To, .int .i64 A, .int .i64 B, .int .i64 K, .slice la ll lc], .agg #[.int .i64 zw, .int .i64 zh], .slice (some ⟨b, off, none⟩) flen fcap] w (Told w r) := by
  have hb3 := pw_below w 13 To A B K la ll lc zw zh
  have hbx := hb3.drew
  have hbN : b < w.heap.size + 2 := by omega
  have hpN : w.heap.size < w.heap.size + 2 := by omega
  have hm := lit_told (W := iw) (H := ih) cap lc (tile := K) (hi.below (Nat.le_refl _) hbx) (hL.below hbx) hr
  have hbox0 := pw_box w 13 To A B K la ll lc zw zh
  have hbox := hbox0.below (Below.refl _ _).drew hbox0.lt (Nat.le_refl _)
  clear hbox0
  have hsz := pw_size w 13 To A B K la ll lc zw zh
  have hsN : w.heap.size + 2 ≤ (pw w 13 To A B K la ll lc zw zh).drew.heap.size := by show _ ≤ (pw w 13 To A B K la ll lc zw zh).heap.size; omega
  have e0 := (hb3.cell (p := ⟨b, off, none⟩) hb).trans d0
  have e1 := (hb3.cell (p := ⟨b, off + 1, none⟩) hb).trans d1
  have e2 := (hb3.cell (p := ⟨b, off + 2, none⟩) hb).trans d2
  have hP := ((PBox.new w 13 To A B K la ll lc).alloc (.cells #[.int .i64 zw, .int .i64 zh] 72)).alloc (.cells #[.int .i64 0, .int .i64 0, .slice none 0 0] 24)
  obtain ⟨_, p0, p1, p2, p3, p4, p5⟩ := hP
  clear hr d0 d1 d2 hi
  · go_enter Try.func89, Try.ntmps89
    go_wp2_with fail
    go_region_held3 (fun w' => w'.cell? ⟨b, off, none⟩ = some (.int .i64 iw) ∧ w'.cell? ⟨b, off + 1, none⟩ = some (.int .i64 ih) ∧ w'.cell? ⟨b, off + 2, none⟩ = some (.slice pa ps.length cap) ∧ w'.cell? ⟨w.heap.size, 4, none⟩ = some (.int .i64 K) ∧ w'.cell? ⟨w.heap.size, 5, none⟩ = some (.slice la ll lc))
      (first | exact keepI (Below.refl _ _).drew hbN hpN e0 e1 e2 p4 p5 | exact keepI hbW hbN hpN e0 e1 e2 p4 p5 | exact keepI (((hbW.setCell (Nat.le_refl _) _).setCell (Nat.le_refl _) _).setCell (Nat.le_refl _) _) hbN hpN e0 e1 e2 p4 p5)
      ((go_at_call 37; refine hm.mono ?_; rintro e w' ⟨ra, rc, rfl, hri, hbb⟩; obtain ⟨_, c0, c1, c2, f0, f1, f2⟩ := hbox.below hbb hbox.lt hbb.size; have hbW := (Below.refl (w.heap.size + 2) _).drew.trans (hbb.mono hsN)))
    all_goals
      have HT : Hid (_) := paint_told (rc := rc) hbx hbox.lt (by omega) hri hbb
      clear hri hbb hbx hbox hm e0 e1 e2
      go_wp2
      refine bodyPost_ret (v := .tuple #[.agg #[.int .i64 r.W, .int .i64 r.H, .slice ra r.ps.length rc], .int .i64 r.E]) (by simp [results, Try.results89, go_sem, c0, c1, c2]) rfl HT.out
set_option maxHeartbeats 4000000 in
theorem paint_two (Op To A B K : Int) (la : Option Addr) (ll lc : Nat) (zw zh : Int) (flen fcap : Nat) (w : World) (hop : Op = 4 ∨ Op = 5 ∨ Op = 6 ∨ Op = 7) (b off : Nat) (hb : b < w.heap.size) (hl0 : 0 < flen) (hl : (1 : Int) < (flen : Int)) (iw ih : Int) (pa : Option Addr) (cap : Nat) (ps : List Int)
    (d0 : w.cell? ⟨b, off, none⟩ = some (.int .i64 iw)) (d1 : w.cell? ⟨b, off + 1, none⟩ = some (.int .i64 ih)) (d2 : w.cell? ⟨b, off + 2, none⟩ = some (.slice pa ps.length cap)) (hi : Ints 0 w pa ps.length ps)
    (jw jh : Int) (qa : Option Addr) (qcap : Nat) (qs : List Int) (g0 : w.cell? ⟨b, off + 3, none⟩ = some (.int .i64 jw)) (g1 : w.cell? ⟨b, off + 3 + 1, none⟩ = some (.int .i64 jh)) (g2 : w.cell? ⟨b, off + 3 + 2, none⟩ = some (.slice qa qs.length qcap)) (hj : Ints 0 w qa qs.length qs) {r : Res} (hr : twoRes Op iw ih ps jw jh qs = r) :
    Calls Try.prog 89 #[.agg #[.int .i64 Op, .int .i64 To, .int .i64 A, .int .i64 B, .int .i64 K, .slice la ll lc], .agg #[.int .i64 zw, .int .i64 zh], .slice (some ⟨b, off, none⟩) flen fcap] w (Told w r) := by
  have hb3 := pw_below w Op To A B K la ll lc zw zh
  have hbx := hb3.drew
  have hbN : b < w.heap.size + 2 := by omega
  have hpN : w.heap.size < w.heap.size + 2 := by omega
  have hm := two_told (op := Op) (W := iw) (H := ih) (W' := jw) (H' := jh) cap qcap (hi.below (Nat.le_refl _) hbx) (hj.below (Nat.le_refl _) hbx) hr
  have hbox0 := pw_box w Op To A B K la ll lc zw zh
  have hbox := hbox0.below (Below.refl _ _).drew hbox0.lt (Nat.le_refl _)
  clear hbox0
  have hsz := pw_size w Op To A B K la ll lc zw zh
  have hsN : w.heap.size + 2 ≤ (pw w Op To A B K la ll lc zw zh).drew.heap.size := by show _ ≤ (pw w Op To A B K la ll lc zw zh).heap.size; omega
  have e0 := (hb3.cell (p := ⟨b, off, none⟩) hb).trans d0
  have e1 := (hb3.cell (p := ⟨b, off + 1, none⟩) hb).trans d1
  have e2 := (hb3.cell (p := ⟨b, off + 2, none⟩) hb).trans d2
  have e3 := (hb3.cell (p := ⟨b, off + 3, none⟩) hb).trans g0
  have e4 := (hb3.cell (p := ⟨b, off + 3 + 1, none⟩) hb).trans g1
  have e5 := (hb3.cell (p := ⟨b, off + 3 + 2, none⟩) hb).trans g2
  have hP := ((PBox.new w Op To A B K la ll lc).alloc (.cells #[.int .i64 zw, .int .i64 zh] 72)).alloc (.cells #[.int .i64 0, .int .i64 0, .slice none 0 0] 24)
  obtain ⟨_, p0, p1, p2, p3, p4, p5⟩ := hP
  clear hr d0 d1 d2 hi g0 g1 g2 hj
  rcases hop with rfl | rfl | rfl | rfl
  · go_enter Try.func89, Try.ntmps89
    go_wp2_with fail
    go_region_held3 (fun w' => w'.cell? ⟨b, off, none⟩ = some (.int .i64 iw) ∧ w'.cell? ⟨b, off + 1, none⟩ = some (.int .i64 ih) ∧ w'.cell? ⟨b, off + 2, none⟩ = some (.slice pa ps.length cap) ∧ w'.cell? ⟨b, off + 3, none⟩ = some (.int .i64 jw) ∧ w'.cell? ⟨b, off + 3 + 1, none⟩ = some (.int .i64 jh) ∧ w'.cell? ⟨b, off + 3 + 2, none⟩ = some (.slice qa qs.length qcap) ∧ w'.cell? ⟨w.heap.size, 0, none⟩ = some (.int .i64 4))
      (first | exact keepI2 (Below.refl _ _).drew hbN hpN e0 e1 e2 e3 e4 e5 p0 | exact keepI2 hbW hbN hpN e0 e1 e2 e3 e4 e5 p0 | exact keepI2 (((hbW.setCell (Nat.le_refl _) _).setCell (Nat.le_refl _) _).setCell (Nat.le_refl _) _) hbN hpN e0 e1 e2 e3 e4 e5 p0)
      ((go_at_call 25; refine hm.mono ?_; rintro e w' ⟨ra, rc, rfl, hri, hbb⟩; obtain ⟨_, c0, c1, c2, f0, f1, f2⟩ := hbox.below hbb hbox.lt hbb.size; have hbW := (Below.refl (w.heap.size + 2) _).drew.trans (hbb.mono hsN)))
    all_goals
      have HT : Hid (_) := paint_told (rc := rc) hbx hbox.lt (by omega) hri hbb
      clear hri hbb hbx hbox hm e0 e1 e2 e3 e4 e5
      go_wp2
      refine bodyPost_ret (v := .tuple #[.agg #[.int .i64 r.W, .int .i64 r.H, .slice ra r.ps.length rc], .int .i64 r.E]) (by simp [results, Try.results89, go_sem, c0, c1, c2]) rfl HT.out
  · go_enter Try.func89, Try.ntmps89
    go_wp2_with fail
    go_region_held3 (fun w' => w'.cell? ⟨b, off, none⟩ = some (.int .i64 iw) ∧ w'.cell? ⟨b, off + 1, none⟩ = some (.int .i64 ih) ∧ w'.cell? ⟨b, off + 2, none⟩ = some (.slice pa ps.length cap) ∧ w'.cell? ⟨b, off + 3, none⟩ = some (.int .i64 jw) ∧ w'.cell? ⟨b, off + 3 + 1, none⟩ = some (.int .i64 jh) ∧ w'.cell? ⟨b, off + 3 + 2, none⟩ = some (.slice qa qs.length qcap) ∧ w'.cell? ⟨w.heap.size, 0, none⟩ = some (.int .i64 5))
      (first | exact keepI2 (Below.refl _ _).drew hbN hpN e0 e1 e2 e3 e4 e5 p0 | exact keepI2 hbW hbN hpN e0 e1 e2 e3 e4 e5 p0 | exact keepI2 (((hbW.setCell (Nat.le_refl _) _).setCell (Nat.le_refl _) _).setCell (Nat.le_refl _) _) hbN hpN e0 e1 e2 e3 e4 e5 p0)
      ((go_at_call 25; refine hm.mono ?_; rintro e w' ⟨ra, rc, rfl, hri, hbb⟩; obtain ⟨_, c0, c1, c2, f0, f1, f2⟩ := hbox.below hbb hbox.lt hbb.size; have hbW := (Below.refl (w.heap.size + 2) _).drew.trans (hbb.mono hsN)))
    all_goals
      have HT : Hid (_) := paint_told (rc := rc) hbx hbox.lt (by omega) hri hbb
      clear hri hbb hbx hbox hm e0 e1 e2 e3 e4 e5
      go_wp2
      refine bodyPost_ret (v := .tuple #[.agg #[.int .i64 r.W, .int .i64 r.H, .slice ra r.ps.length rc], .int .i64 r.E]) (by simp [results, Try.results89, go_sem, c0, c1, c2]) rfl HT.out
  · go_enter Try.func89, Try.ntmps89
    go_wp2_with fail
    go_region_held3 (fun w' => w'.cell? ⟨b, off, none⟩ = some (.int .i64 iw) ∧ w'.cell? ⟨b, off + 1, none⟩ = some (.int .i64 ih) ∧ w'.cell? ⟨b, off + 2, none⟩ = some (.slice pa ps.length cap) ∧ w'.cell? ⟨b, off + 3, none⟩ = some (.int .i64 jw) ∧ w'.cell? ⟨b, off + 3 + 1, none⟩ = some (.int .i64 jh) ∧ w'.cell? ⟨b, off + 3 + 2, none⟩ = some (.slice qa qs.length qcap) ∧ w'.cell? ⟨w.heap.size, 0, none⟩ = some (.int .i64 6))
      (first | exact keepI2 (Below.refl _ _).drew hbN hpN e0 e1 e2 e3 e4 e5 p0 | exact keepI2 hbW hbN hpN e0 e1 e2 e3 e4 e5 p0 | exact keepI2 (((hbW.setCell (Nat.le_refl _) _).setCell (Nat.le_refl _) _).setCell (Nat.le_refl _) _) hbN hpN e0 e1 e2 e3 e4 e5 p0)
      ((go_at_call 25; refine hm.mono ?_; rintro e w' ⟨ra, rc, rfl, hri, hbb⟩; obtain ⟨_, c0, c1, c2, f0, f1, f2⟩ := hbox.below hbb hbox.lt hbb.size; have hbW := (Below.refl (w.heap.size + 2) _).drew.trans (hbb.mono hsN)))
    all_goals
      have HT : Hid (_) := paint_told (rc := rc) hbx hbox.lt (by omega) hri hbb
      clear hri hbb hbx hbox hm e0 e1 e2 e3 e4 e5
      go_wp2
      refine bodyPost_ret (v := .tuple #[.agg #[.int .i64 r.W, .int .i64 r.H, .slice ra r.ps.length rc], .int .i64 r.E]) (by simp [results, Try.results89, go_sem, c0, c1, c2]) rfl HT.out
  · go_enter Try.func89, Try.ntmps89
    go_wp2_with fail
    go_region_held3 (fun w' => w'.cell? ⟨b, off, none⟩ = some (.int .i64 iw) ∧ w'.cell? ⟨b, off + 1, none⟩ = some (.int .i64 ih) ∧ w'.cell? ⟨b, off + 2, none⟩ = some (.slice pa ps.length cap) ∧ w'.cell? ⟨b, off + 3, none⟩ = some (.int .i64 jw) ∧ w'.cell? ⟨b, off + 3 + 1, none⟩ = some (.int .i64 jh) ∧ w'.cell? ⟨b, off + 3 + 2, none⟩ = some (.slice qa qs.length qcap) ∧ w'.cell? ⟨w.heap.size, 0, none⟩ = some (.int .i64 7))
      (first | exact keepI2 (Below.refl _ _).drew hbN hpN e0 e1 e2 e3 e4 e5 p0 | exact keepI2 hbW hbN hpN e0 e1 e2 e3 e4 e5 p0 | exact keepI2 (((hbW.setCell (Nat.le_refl _) _).setCell (Nat.le_refl _) _).setCell (Nat.le_refl _) _) hbN hpN e0 e1 e2 e3 e4 e5 p0)
      ((go_at_call 25; refine hm.mono ?_; rintro e w' ⟨ra, rc, rfl, hri, hbb⟩; obtain ⟨_, c0, c1, c2, f0, f1, f2⟩ := hbox.below hbb hbox.lt hbb.size; have hbW := (Below.refl (w.heap.size + 2) _).drew.trans (hbb.mono hsN)))
    all_goals
      have HT : Hid (_) := paint_told (rc := rc) hbx hbox.lt (by omega) hri hbb
      clear hri hbb hbx hbox hm e0 e1 e2 e3 e4 e5
      go_wp2
      refine bodyPost_ret (v := .tuple #[.agg #[.int .i64 r.W, .int .i64 r.H, .slice ra r.ps.length rc], .int .i64 r.E]) (by simp [results, Try.results89, go_sem, c0, c1, c2]) rfl HT.out
end Go.Proofs.Ytfpkiimlaepnhaa
/-
  IMGROW: a growing row of images; frame.picked, of images.
-/
namespace Go.Proofs.Ytfpkiimlaepnhaa
set_option maxRecDepth 100000
open Go.RowKit Im

/-- An image, and where its numbers lie. -/
abbrev Lr := List (Res × Option Addr × Nat)
def rcells (L : Lr) : List Value := L.flatMap fun x => [.int .i64 x.1.W, .int .i64 x.1.H, .slice x.2.1 x.1.ps.length x.2.2]
abbrev lr0 : Res × Option Addr × Nat := (noRes 0, none, 0)
theorem rcells_len (L : Lr) : (rcells L).length = L.length * 3 := by
  induction L with
  | nil => rfl
  | cons x L ih => simp only [rcells, List.flatMap_cons, List.length_append, List.length_cons, List.length_nil] at ih ⊢; rw [ih]; omega
theorem rcells_snoc (L : Lr) (x : Res × Option Addr × Nat) : rcells (L ++ [x]) = rcells L ++ [.int .i64 x.1.W, .int .i64 x.1.H, .slice x.2.1 x.1.ps.length x.2.2] := by simp [rcells]
theorem rcells_get (L : Lr) (j : Nat) (h : j < L.length) : (rcells L)[j * 3]? = some (.int .i64 (L.getD j lr0).1.W) ∧ (rcells L)[j * 3 + 1]? = some (.int .i64 (L.getD j lr0).1.H) ∧ (rcells L)[j * 3 + 2]? = some (.slice (L.getD j lr0).2.1 (L.getD j lr0).1.ps.length (L.getD j lr0).2.2) := by
  induction L generalizing j with
  | nil => simp at h
  | cons x L ih =>
    have e : rcells (x :: L) = .int .i64 x.1.W :: .int .i64 x.1.H :: .slice x.2.1 x.1.ps.length x.2.2 :: rcells L := rfl
    cases j with
    | zero => rw [e]; exact ⟨rfl, rfl, rfl⟩
    | succ j =>
      have := ih j (by simpa using h)
      rw [e, show (j + 1) * 3 = j * 3 + 1 + 1 + 1 by omega]
      simpa using this
def OwnsR (base : Nat) (w : World) (v : Value) (L : Lr) : Prop := w.ownsRow base 24 3 v L.length (rcells L)
theorem map_getD {L : Lr} {rs : List Res} (h : L.map Prod.fst = rs) (j : Nat) : rs.getD j (noRes 0) = (L.getD j lr0).1 := by
  subst h
  simp only [List.getD_eq_getElem?_getD, List.getElem?_map]
  cases L[j]? <;> rfl
theorem OwnsR.imgs {base bi : Nat} {w : World} {v : Value} {L : Lr} {rs : List Res} (h : OwnsR base w v L) (he : L.map Prod.fst = rs) (hi : ∀ x ∈ L, Ints bi w x.2.1 x.1.ps.length x.1.ps) (hb : L.length ≤ 12) : ∃ a cap, v = .slice a rs.length cap ∧ Imgs bi w a rs.length rs := by
  have hrl : rs.length = L.length := by rw [← he]; simp
  obtain ⟨h1, h2⟩ := h
  rcases h2 with ⟨rfl, h0⟩ | ⟨g, cap, cur, rfl, hg, hh, hc, hm, hs, ht⟩
  · have : L = [] := by simpa using h0
    subst this
    subst he
    exact ⟨none, 0, rfl, rfl, by simp, .inl rfl⟩
  · rw [← hrl]
    refine ⟨_, cap, rfl, rfl, by omega, .inr ⟨g, 0, rfl, ?_, fun j hj => ?_⟩⟩
    · rcases Nat.lt_or_ge g w.heap.size with h | h
      · exact h
      · rw [Array.getElem?_eq_none h] at hh; cases hh
    · have hl := rcells_len L
      rw [hrl] at hj
      have hg2 := rcells_get L j hj
      have this := fun i hi => World.ownsRow.cellAt (base := base) (e := 24) (size := 3) ⟨h1, .inr ⟨g, cap, cur, rfl, hg, hh, hc, hm, hs, ht⟩⟩ i hi
      rw [map_getD he j]
      refine ⟨(L.getD j lr0).2.1, (L.getD j lr0).2.2, ?_, ?_, ?_, hi _ (getD_mem hj _)⟩
      all_goals rw [Nat.zero_add, this _ (by omega)]
      · exact hg2.1
      · exact hg2.2.1
      · exact hg2.2.2
theorem Try.infoImage : (Try.prog.info? 24).map (fun i => (i.zero, i.size, i.bytes)) = some (some (.agg #[.int .i64 0, .int .i64 0, .slice none 0 0]), 3, 40) := by kernel_rfl
theorem cell_three_new (w : World) (v0 v1 v2 : Value) (t : TypeId) : ∀ (j : Nat) (u : Value), [v0, v1, v2][j]? = some u → (w.alloc (.cells #[v0, v1, v2] t)).cell? ((⟨w.heap.size, 0, none⟩ : Addr).add j) = some u := by
  intro j u h
  match j, h with
  | 0, h => simp at h; subst h; simp [go_sem, Addr.add]
  | 1, h => simp at h; subst h; simp [go_sem, Addr.add]
  | 2, h => simp at h; subst h; simp [go_sem, Addr.add]
theorem OwnsR.push {base : Nat} {w wx w1 : World} {v v' : Value} {L : Lr} {x : Res × Option Addr × Nat} {B0 : World} {o : Obj} (h : OwnsR base w v L) (hb : Below base B0 w) (hB : base ≤ w.heap.size)
    (h' : w1.ownsRow base 24 3 v' (L.length + 1) (rcells L ++ [.int .i64 x.1.W, .int .i64 x.1.H, .slice x.2.1 x.1.ps.length x.2.2])) (hx : wx = w.alloc o) (hg : wx.grownBy w1 v.ownBlock) : OwnsR base w1 v' (L ++ [x]) ∧ Below base B0 w1 := by
  subst hx
  refine ⟨by unfold OwnsR; rw [rcells_snoc]; simpa using h', ?_⟩
  exact (hb.alloc hB o).grown hg (by simp; omega) (fun j hj => (World.ownsRow.lt (w := w) h j hj).1)
/-- The call's end tells the images rs. -/
def ToldR (w : World) (rs : List Res) (e : Ending) (w' : World) : Prop :=
  ∃ a cap, e = .returned (.slice a rs.length cap) ∧ Imgs 0 w' a rs.length rs ∧ Below w.heap.size w w'
theorem pickR_succ (rs : List Res) (is : List Int) (k : Nat) (hk : k < is.length) : pickR rs (is.take (k + 1)) = pickR rs (is.take k) ++ [rs.getD (is.getD k 0).toNat (noRes 0)] := by
  unfold pickR
  rw [List.take_succ_eq_append_getElem hk, List.map_append, List.getD_eq_getElem?_getD (l := is), List.getElem?_eq_getElem hk]
  rfl
set_option maxHeartbeats 1000000 in
/-- frame.picked, of images. -/
theorem pickedR_any {a a' : Option Addr} {len len' : Nat} (cap cap' : Nat) {rs : List Res} {is : List Int} {base bi : Nat} {w : World} (hz : Imgs bi w a len rs) (hI : Ints base w a' len' is) (hin : ∀ i ∈ is, 0 ≤ i ∧ i < len) (hl : is.length ≤ 2) :
    Calls Try.prog 90 #[.slice a len cap, .slice a' len' cap'] w (ToldR w (pickR rs is)) := by
  obtain ⟨i0, hi, hz0, hz1, hz2⟩ := info_parts Try.infoImage
  have hlen := hI.leng
  subst hlen
  go_enter Try.func90, Try.ntmps90
  go_wp2
  go_loopw [5, 10] (fun v i wr => ∃ (k : Nat) (L : Lr), k ≤ is.length ∧ i = .int .i64 k ∧ OwnsR w.heap.size wr v L ∧ L.map Prod.fst = pickR rs (is.take k) ∧ (∀ x ∈ L, Ints 0 w x.2.1 x.1.ps.length x.1.ps) ∧ Below w.heap.size w wr) (fun _ i _ => is.length - (intOf i).toNat)
  case atStart => exact ⟨0, [], Nat.zero_le _, rfl, World.ownsRow_nil _ _ _ _, rfl, (fun x hx => by cases hx), Below.refl _ _⟩
  case round =>
    obtain ⟨k, L, hk, rfl, hown, hmap, hints, hb⟩ := hrel
    have hLl : L.length = k := by
      have := congrArg List.length hmap
      simp [pickR] at this
      omega
    by_cases hlt : k < is.length
    · obtain ⟨b, off, rfl, hcx⟩ := (hI.below (Nat.le_refl _) hb).nth hlt
      have hr := hin _ (getD_mem hlt 0)
      have HS := pickR_succ rs is k hlt
      generalize is.getD k 0 = n at hcx hr HS
      obtain ⟨m, rfl⟩ := Int.eq_ofNat_of_zero_le hr.1
      obtain ⟨b', off', pa, pcap, rfl, hb', d0, d1, d2, hpi⟩ := hz.nth (k := m) (by omega)
      replace d0 := (hb.cell (p := ⟨b', off' + m * 3, none⟩) hb').trans d0
      replace d1 := (hb.cell (p := ⟨b', off' + m * 3 + 1, none⟩) hb').trans d1
      replace d2 := (hb.cell (p := ⟨b', off' + m * 3 + 2, none⟩) hb').trans d2
      rw [Int.toNat_natCast] at HS
      have HS' : Hid (pickR rs (is.take (k + 1)) = pickR rs (is.take k) ++ [rs.getD m (noRes 0)]) := HS
      have hsz := hb.size
      have HM : Hid (_) := hmap
      have HL : Hid (_) := hLl
      have HI : Hid (_) := hints
      have HP : Hid (_) := hpi.mono (Nat.zero_le _)
      clear HS hin hmap hLl hints hpi
      generalize rs.getD m (noRes 0) = r at d0 d1 d2 HS' HP
      go_wp2_with (at_builtin; refine wpList_append_own _ rfl _ _ 122 rfl w.heap.size 24 i0 _ 3 40 Try.underlying122 hi hz0 hz1 hz2 rfl (by decide) _ _ _ rfl (World.ownsRow.alloc hown _) ⟨wr.heap.size, 0, none⟩ 1 1 [.int .i64 r.W, .int .i64 r.H, .slice pa r.ps.length pcap] rfl rfl (cell_three_new _ _ _ _ _) (by intro u hu; simp at hu; rcases hu with rfl | rfl | rfl <;> rfl) (by rw [HL.out]; unfold maxLen; omega) (by rw [HL.out]; omega) (by simp; omega) ?_; intro v' w9 hown9 hgrow9 _)
      have RR := OwnsR.push (x := (r, pa, pcap)) hown hb hsz hown9 rfl hgrow9
      go_roundw
      case rel => exact ⟨k + 1, L ++ [(r, pa, pcap)], by omega, by go_num, RR.1, by rw [HS'.out, List.map_append, HM.out]; rfl, (fun x hx => by rcases List.mem_append.1 hx with h | h; exact HI.out x h; rw [List.mem_singleton] at h; subst h; exact HP.out), RR.2⟩
      case measure => simp [intOf]; omega
    · have hke : k = is.length := by omega
      subst hke
      rw [List.take_length] at hmap
      obtain ⟨sa, scap, rfl, hZ⟩ := hown.imgs hmap (fun x hx => (hints x hx).below (Nat.le_refl _) hb) (by omega)
      have HZ : Hid (_) := hZ
      clear hZ hmap hints hLl hown
      go_wp2
      go_ret
      exact ⟨sa, scap, rfl, HZ.out, hb⟩
end Go.Proofs.Ytfpkiimlaepnhaa
