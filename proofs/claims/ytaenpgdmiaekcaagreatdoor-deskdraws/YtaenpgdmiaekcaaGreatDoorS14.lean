/- MadeRef2, Render, HasRef, SourcesRef: joined, in this order. -/
import Derived.Test.YtaenpgdmiaekcaaGreatDoorS13
import Derived.Deep.CutRange
import Derived.Test.YtaenpgdmiaekcaaGreatDoorS07
/-
  MADEREF2: the reference's Made, of passes that take images.
-/
namespace Go.Proofs.YtaenpgdmiaekcaaGreatDoor
set_option maxRecDepth 100000
open Go.RowKit Im

set_option maxHeartbeats 2000000 in
theorem made_one (W H S O : Int) (a : Option Addr) (len cap0 : Nat) (Op To A B K : Int) (la : Option Addr) (ll lc : Nat) (flen fcap : Nat) (w : World) (hop : Op = 3 ∨ Op = 8 ∨ Op = 9 ∨ Op = 10 ∨ Op = 11 ∨ Op = 12) (b off : Nat) (hb : b < w.heap.size) (hl : 0 < flen) (iw ih : Int) (pa : Option Addr) (cap : Nat) (ps : List Int)
    (d0 : w.cell? ⟨b, off, none⟩ = some (.int .i64 iw)) (d1 : w.cell? ⟨b, off + 1, none⟩ = some (.int .i64 ih)) (d2 : w.cell? ⟨b, off + 2, none⟩ = some (.slice pa ps.length cap)) (hi : Ints 0 w pa ps.length ps) (hr : (oneRes Op iw ih ps K).E = 0) :
    Calls Tryz.prog 92 #[.agg #[.int .i64 W, .int .i64 H, .int .i64 S, .int .i64 O, .slice a len cap0], .agg #[.int .i64 Op, .int .i64 To, .int .i64 A, .int .i64 B, .int .i64 K, .slice la ll lc], .slice (some ⟨b, off, none⟩) flen fcap] w (ToldM w (oneRes Op iw ih ps K)) := by
  have htwo := fun wx => isTwo_any' Op wx
  rw [show hasB Op = false by simp [hasB, withinB]; omega] at htwo
  have hb3 := mw_below w W H S O a len cap0 Op To A B K la ll lc
  have hbx := hb3.drew
  have hbN : b < w.heap.size + 2 := by omega
  have hpN : w.heap.size + 1 < w.heap.size + 2 := by omega
  have hm := oneOf_told (op := Op) (W := iw) (H := ih) cap (k := K) (hi.below (Nat.le_refl _) hbx) hr
  have hbox0 := mw_box w W H S O a len cap0 Op To A B K la ll lc
  have hbox := hbox0.below (Below.refl _ _).drew hbox0.lt (Nat.le_refl _)
  clear hbox0
  have hsz := mw_size w W H S O a len cap0 Op To A B K la ll lc
  have hsN : w.heap.size + 2 ≤ (mw w W H S O a len cap0 Op To A B K la ll lc).drew.heap.size := by show _ ≤ (mw w W H S O a len cap0 Op To A B K la ll lc).heap.size; omega
  have e0 := (hb3.cell (p := ⟨b, off, none⟩) hb).trans d0
  have e1 := (hb3.cell (p := ⟨b, off + 1, none⟩) hb).trans d1
  have e2 := (hb3.cell (p := ⟨b, off + 2, none⟩) hb).trans d2
  have hP := mw_pass w W H S O a len cap0 Op To A B K la ll lc
  obtain ⟨_, p0, p1, p2, p3, p4, p5⟩ := hP
  clear hr
  generalize hrr : oneRes Op iw ih ps K = r at *
  clear hrr d0 d1 d2 hi
  have n1 : ¬ Op = 1 := by omega
  have n2 : ¬ Op = 2 := by omega
  have n13 : ¬ Op = 13 := by omega
  have m1 : (Op == 1) = false := by simpa using n1
  have m2 : (Op == 2) = false := by simpa using n2
  have m13 : (Op == 13) = false := by simpa using n13
  clear hop
  · go_enter Tryz.func92, Tryz.ntmps92
    go_wp2_with (go_at_call 136; refine (htwo _).mono ?_; rintro e w' ⟨rfl, rfl⟩)
    go_region_held3 (fun w' => w'.cell? ⟨b, off, none⟩ = some (.int .i64 iw) ∧ w'.cell? ⟨b, off + 1, none⟩ = some (.int .i64 ih) ∧ w'.cell? ⟨b, off + 2, none⟩ = some (.slice pa ps.length cap) ∧ w'.cell? ⟨w.heap.size + 1, 0, none⟩ = some (.int .i64 Op) ∧ w'.cell? ⟨w.heap.size + 1, 4, none⟩ = some (.int .i64 K))
      (first | exact keepI (Below.refl _ _).drew hbN hpN e0 e1 e2 p0 p4 | exact keepI hbW hbN hpN e0 e1 e2 p0 p4 | exact keepI (((hbW.setCell (Nat.le_refl _) _).setCell (Nat.le_refl _) _).setCell (Nat.le_refl _) _) hbN hpN e0 e1 e2 p0 p4)
      ((go_at_call 139; refine hm.mono ?_; rintro e w' ⟨ra, rc, rfl, hri, hbb⟩; obtain ⟨_, c0, c1, c2, f0, f1, f2⟩ := hbox.below hbb hbox.lt hbb.size; have hbW := (Below.refl (w.heap.size + 2) _).drew.trans (hbb.mono hsN)))
    all_goals
      have HT : Hid (_) := made_told (rc := rc) hbx hbox.lt (by omega) hri hbb
      clear hri hbb hbx hbox hm e0 e1 e2
      go_wp2
      refine bodyPost_ret (v := .agg #[.int .i64 r.W, .int .i64 r.H, .slice ra r.ps.length rc]) (by simp [results, Tryz.results92, go_sem, c0, c1, c2]) rfl HT.out
set_option maxHeartbeats 2000000 in
theorem made_lit (W H S O : Int) (a : Option Addr) (len cap0 : Nat) (To A B K : Int) (la : Option Addr) (ll lc : Nat) (ls : List Lt) (flen fcap : Nat) (w : World) (hL : Lights w la ll ls) (b off : Nat) (hb : b < w.heap.size) (hl : 0 < flen) (iw ih : Int) (pa : Option Addr) (cap : Nat) (ps : List Int)
    (d0 : w.cell? ⟨b, off, none⟩ = some (.int .i64 iw)) (d1 : w.cell? ⟨b, off + 1, none⟩ = some (.int .i64 ih)) (d2 : w.cell? ⟨b, off + 2, none⟩ = some (.slice pa ps.length cap)) (hi : Ints 0 w pa ps.length ps) (hr : (litRes iw ih ps ls K).E = 0) :
    Calls Tryz.prog 92 #[.agg #[.int .i64 W, .int .i64 H, .int .i64 S, .int .i64 O, .slice a len cap0], .agg #[.int .i64 13, .int .i64 To, .int .i64 A, .int .i64 B, .int .i64 K, .slice la ll lc], .slice (some ⟨b, off, none⟩) flen fcap] w (ToldM w (litRes iw ih ps ls K)) := by
  have htwo := fun wx => isTwo_any' 13 wx
  rw [show hasB 13 = false from rfl] at htwo
  have hb3 := mw_below w W H S O a len cap0 13 To A B K la ll lc
  have hbx := hb3.drew
  have hbN : b < w.heap.size + 2 := by omega
  have hpN : w.heap.size + 1 < w.heap.size + 2 := by omega
  have hm := litOf_told (W := iw) (H := ih) cap lc (tile := K) (hi.below (Nat.le_refl _) hbx) (hL.below hbx) hr
  have hbox0 := mw_box w W H S O a len cap0 13 To A B K la ll lc
  have hbox := hbox0.below (Below.refl _ _).drew hbox0.lt (Nat.le_refl _)
  clear hbox0
  have hsz := mw_size w W H S O a len cap0 13 To A B K la ll lc
  have hsN : w.heap.size + 2 ≤ (mw w W H S O a len cap0 13 To A B K la ll lc).drew.heap.size := by show _ ≤ (mw w W H S O a len cap0 13 To A B K la ll lc).heap.size; omega
  have e0 := (hb3.cell (p := ⟨b, off, none⟩) hb).trans d0
  have e1 := (hb3.cell (p := ⟨b, off + 1, none⟩) hb).trans d1
  have e2 := (hb3.cell (p := ⟨b, off + 2, none⟩) hb).trans d2
  have hP := mw_pass w W H S O a len cap0 13 To A B K la ll lc
  obtain ⟨_, p0, p1, p2, p3, p4, p5⟩ := hP
  clear hr
  generalize hrr : litRes iw ih ps ls K = r at *
  clear hrr d0 d1 d2 hi
  · go_enter Tryz.func92, Tryz.ntmps92
    go_wp2_with (go_at_call 136; refine (htwo _).mono ?_; rintro e w' ⟨rfl, rfl⟩)
    go_region_held3 (fun w' => w'.cell? ⟨b, off, none⟩ = some (.int .i64 iw) ∧ w'.cell? ⟨b, off + 1, none⟩ = some (.int .i64 ih) ∧ w'.cell? ⟨b, off + 2, none⟩ = some (.slice pa ps.length cap) ∧ w'.cell? ⟨w.heap.size + 1, 4, none⟩ = some (.int .i64 K) ∧ w'.cell? ⟨w.heap.size + 1, 5, none⟩ = some (.slice la ll lc))
      (first | exact keepI (Below.refl _ _).drew hbN hpN e0 e1 e2 p4 p5 | exact keepI hbW hbN hpN e0 e1 e2 p4 p5 | exact keepI (((hbW.setCell (Nat.le_refl _) _).setCell (Nat.le_refl _) _).setCell (Nat.le_refl _) _) hbN hpN e0 e1 e2 p4 p5)
      ((go_at_call 138; refine hm.mono ?_; rintro e w' ⟨ra, rc, rfl, hri, hbb⟩; obtain ⟨_, c0, c1, c2, f0, f1, f2⟩ := hbox.below hbb hbox.lt hbb.size; have hbW := (Below.refl (w.heap.size + 2) _).drew.trans (hbb.mono hsN)))
    all_goals
      have HT : Hid (_) := made_told (rc := rc) hbx hbox.lt (by omega) hri hbb
      clear hri hbb hbx hbox hm e0 e1 e2
      go_wp2
      refine bodyPost_ret (v := .agg #[.int .i64 r.W, .int .i64 r.H, .slice ra r.ps.length rc]) (by simp [results, Tryz.results92, go_sem, c0, c1, c2]) rfl HT.out
set_option maxHeartbeats 4000000 in
theorem made_two (W H S O : Int) (a : Option Addr) (len cap0 : Nat) (Op To A B K : Int) (la : Option Addr) (ll lc : Nat) (flen fcap : Nat) (w : World) (hop : Op = 4 ∨ Op = 5 ∨ Op = 6 ∨ Op = 7) (b off : Nat) (hb : b < w.heap.size) (hl0 : 0 < flen) (hl : (1 : Int) < (flen : Int)) (iw ih : Int) (pa : Option Addr) (cap : Nat) (ps : List Int)
    (d0 : w.cell? ⟨b, off, none⟩ = some (.int .i64 iw)) (d1 : w.cell? ⟨b, off + 1, none⟩ = some (.int .i64 ih)) (d2 : w.cell? ⟨b, off + 2, none⟩ = some (.slice pa ps.length cap)) (hi : Ints 0 w pa ps.length ps)
    (jw jh : Int) (qa : Option Addr) (qcap : Nat) (qs : List Int) (g0 : w.cell? ⟨b, off + 3, none⟩ = some (.int .i64 jw)) (g1 : w.cell? ⟨b, off + 3 + 1, none⟩ = some (.int .i64 jh)) (g2 : w.cell? ⟨b, off + 3 + 2, none⟩ = some (.slice qa qs.length qcap)) (hj : Ints 0 w qa qs.length qs) (hr : (twoRes Op iw ih ps jw jh qs).E = 0) :
    Calls Tryz.prog 92 #[.agg #[.int .i64 W, .int .i64 H, .int .i64 S, .int .i64 O, .slice a len cap0], .agg #[.int .i64 Op, .int .i64 To, .int .i64 A, .int .i64 B, .int .i64 K, .slice la ll lc], .slice (some ⟨b, off, none⟩) flen fcap] w (ToldM w (twoRes Op iw ih ps jw jh qs)) := by
  have htwo := fun wx => isTwo_any' Op wx
  rw [show hasB Op = true by rcases hop with rfl | rfl | rfl | rfl <;> rfl] at htwo
  have hb3 := mw_below w W H S O a len cap0 Op To A B K la ll lc
  have hbx := hb3.drew
  have hbN : b < w.heap.size + 2 := by omega
  have hpN : w.heap.size + 1 < w.heap.size + 2 := by omega
  have hm := twoOf_told (op := Op) (W := iw) (H := ih) (W' := jw) (H' := jh) cap qcap (hi.below (Nat.le_refl _) hbx) (hj.below (Nat.le_refl _) hbx) hr
  have hbox0 := mw_box w W H S O a len cap0 Op To A B K la ll lc
  have hbox := hbox0.below (Below.refl _ _).drew hbox0.lt (Nat.le_refl _)
  clear hbox0
  have hsz := mw_size w W H S O a len cap0 Op To A B K la ll lc
  have hsN : w.heap.size + 2 ≤ (mw w W H S O a len cap0 Op To A B K la ll lc).drew.heap.size := by show _ ≤ (mw w W H S O a len cap0 Op To A B K la ll lc).heap.size; omega
  have e0 := (hb3.cell (p := ⟨b, off, none⟩) hb).trans d0
  have e1 := (hb3.cell (p := ⟨b, off + 1, none⟩) hb).trans d1
  have e2 := (hb3.cell (p := ⟨b, off + 2, none⟩) hb).trans d2
  have e3 := (hb3.cell (p := ⟨b, off + 3, none⟩) hb).trans g0
  have e4 := (hb3.cell (p := ⟨b, off + 3 + 1, none⟩) hb).trans g1
  have e5 := (hb3.cell (p := ⟨b, off + 3 + 2, none⟩) hb).trans g2
  have hP := mw_pass w W H S O a len cap0 Op To A B K la ll lc
  obtain ⟨_, p0, p1, p2, p3, p4, p5⟩ := hP
  clear hr
  generalize hrr : twoRes Op iw ih ps jw jh qs = r at *
  clear hrr d0 d1 d2 hi g0 g1 g2 hj
  rcases hop with rfl | rfl | rfl | rfl
  · go_enter Tryz.func92, Tryz.ntmps92
    go_wp2_with (go_at_call 136; refine (htwo _).mono ?_; rintro e w' ⟨rfl, rfl⟩)
    go_region_held3 (fun w' => w'.cell? ⟨b, off, none⟩ = some (.int .i64 iw) ∧ w'.cell? ⟨b, off + 1, none⟩ = some (.int .i64 ih) ∧ w'.cell? ⟨b, off + 2, none⟩ = some (.slice pa ps.length cap) ∧ w'.cell? ⟨b, off + 3, none⟩ = some (.int .i64 jw) ∧ w'.cell? ⟨b, off + 3 + 1, none⟩ = some (.int .i64 jh) ∧ w'.cell? ⟨b, off + 3 + 2, none⟩ = some (.slice qa qs.length qcap) ∧ w'.cell? ⟨w.heap.size + 1, 0, none⟩ = some (.int .i64 4))
      (first | exact keepI2 (Below.refl _ _).drew hbN hpN e0 e1 e2 e3 e4 e5 p0 | exact keepI2 hbW hbN hpN e0 e1 e2 e3 e4 e5 p0 | exact keepI2 (((hbW.setCell (Nat.le_refl _) _).setCell (Nat.le_refl _) _).setCell (Nat.le_refl _) _) hbN hpN e0 e1 e2 e3 e4 e5 p0)
      ((go_at_call 137; refine hm.mono ?_; rintro e w' ⟨ra, rc, rfl, hri, hbb⟩; obtain ⟨_, c0, c1, c2, f0, f1, f2⟩ := hbox.below hbb hbox.lt hbb.size; have hbW := (Below.refl (w.heap.size + 2) _).drew.trans (hbb.mono hsN)))
    all_goals
      have HT : Hid (_) := made_told (rc := rc) hbx hbox.lt (by omega) hri hbb
      clear hri hbb hbx hbox hm e0 e1 e2 e3 e4 e5
      go_wp2
      refine bodyPost_ret (v := .agg #[.int .i64 r.W, .int .i64 r.H, .slice ra r.ps.length rc]) (by simp [results, Tryz.results92, go_sem, c0, c1, c2]) rfl HT.out
  · go_enter Tryz.func92, Tryz.ntmps92
    go_wp2_with (go_at_call 136; refine (htwo _).mono ?_; rintro e w' ⟨rfl, rfl⟩)
    go_region_held3 (fun w' => w'.cell? ⟨b, off, none⟩ = some (.int .i64 iw) ∧ w'.cell? ⟨b, off + 1, none⟩ = some (.int .i64 ih) ∧ w'.cell? ⟨b, off + 2, none⟩ = some (.slice pa ps.length cap) ∧ w'.cell? ⟨b, off + 3, none⟩ = some (.int .i64 jw) ∧ w'.cell? ⟨b, off + 3 + 1, none⟩ = some (.int .i64 jh) ∧ w'.cell? ⟨b, off + 3 + 2, none⟩ = some (.slice qa qs.length qcap) ∧ w'.cell? ⟨w.heap.size + 1, 0, none⟩ = some (.int .i64 5))
      (first | exact keepI2 (Below.refl _ _).drew hbN hpN e0 e1 e2 e3 e4 e5 p0 | exact keepI2 hbW hbN hpN e0 e1 e2 e3 e4 e5 p0 | exact keepI2 (((hbW.setCell (Nat.le_refl _) _).setCell (Nat.le_refl _) _).setCell (Nat.le_refl _) _) hbN hpN e0 e1 e2 e3 e4 e5 p0)
      ((go_at_call 137; refine hm.mono ?_; rintro e w' ⟨ra, rc, rfl, hri, hbb⟩; obtain ⟨_, c0, c1, c2, f0, f1, f2⟩ := hbox.below hbb hbox.lt hbb.size; have hbW := (Below.refl (w.heap.size + 2) _).drew.trans (hbb.mono hsN)))
    all_goals
      have HT : Hid (_) := made_told (rc := rc) hbx hbox.lt (by omega) hri hbb
      clear hri hbb hbx hbox hm e0 e1 e2 e3 e4 e5
      go_wp2
      refine bodyPost_ret (v := .agg #[.int .i64 r.W, .int .i64 r.H, .slice ra r.ps.length rc]) (by simp [results, Tryz.results92, go_sem, c0, c1, c2]) rfl HT.out
  · go_enter Tryz.func92, Tryz.ntmps92
    go_wp2_with (go_at_call 136; refine (htwo _).mono ?_; rintro e w' ⟨rfl, rfl⟩)
    go_region_held3 (fun w' => w'.cell? ⟨b, off, none⟩ = some (.int .i64 iw) ∧ w'.cell? ⟨b, off + 1, none⟩ = some (.int .i64 ih) ∧ w'.cell? ⟨b, off + 2, none⟩ = some (.slice pa ps.length cap) ∧ w'.cell? ⟨b, off + 3, none⟩ = some (.int .i64 jw) ∧ w'.cell? ⟨b, off + 3 + 1, none⟩ = some (.int .i64 jh) ∧ w'.cell? ⟨b, off + 3 + 2, none⟩ = some (.slice qa qs.length qcap) ∧ w'.cell? ⟨w.heap.size + 1, 0, none⟩ = some (.int .i64 6))
      (first | exact keepI2 (Below.refl _ _).drew hbN hpN e0 e1 e2 e3 e4 e5 p0 | exact keepI2 hbW hbN hpN e0 e1 e2 e3 e4 e5 p0 | exact keepI2 (((hbW.setCell (Nat.le_refl _) _).setCell (Nat.le_refl _) _).setCell (Nat.le_refl _) _) hbN hpN e0 e1 e2 e3 e4 e5 p0)
      ((go_at_call 137; refine hm.mono ?_; rintro e w' ⟨ra, rc, rfl, hri, hbb⟩; obtain ⟨_, c0, c1, c2, f0, f1, f2⟩ := hbox.below hbb hbox.lt hbb.size; have hbW := (Below.refl (w.heap.size + 2) _).drew.trans (hbb.mono hsN)))
    all_goals
      have HT : Hid (_) := made_told (rc := rc) hbx hbox.lt (by omega) hri hbb
      clear hri hbb hbx hbox hm e0 e1 e2 e3 e4 e5
      go_wp2
      refine bodyPost_ret (v := .agg #[.int .i64 r.W, .int .i64 r.H, .slice ra r.ps.length rc]) (by simp [results, Tryz.results92, go_sem, c0, c1, c2]) rfl HT.out
  · go_enter Tryz.func92, Tryz.ntmps92
    go_wp2_with (go_at_call 136; refine (htwo _).mono ?_; rintro e w' ⟨rfl, rfl⟩)
    go_region_held3 (fun w' => w'.cell? ⟨b, off, none⟩ = some (.int .i64 iw) ∧ w'.cell? ⟨b, off + 1, none⟩ = some (.int .i64 ih) ∧ w'.cell? ⟨b, off + 2, none⟩ = some (.slice pa ps.length cap) ∧ w'.cell? ⟨b, off + 3, none⟩ = some (.int .i64 jw) ∧ w'.cell? ⟨b, off + 3 + 1, none⟩ = some (.int .i64 jh) ∧ w'.cell? ⟨b, off + 3 + 2, none⟩ = some (.slice qa qs.length qcap) ∧ w'.cell? ⟨w.heap.size + 1, 0, none⟩ = some (.int .i64 7))
      (first | exact keepI2 (Below.refl _ _).drew hbN hpN e0 e1 e2 e3 e4 e5 p0 | exact keepI2 hbW hbN hpN e0 e1 e2 e3 e4 e5 p0 | exact keepI2 (((hbW.setCell (Nat.le_refl _) _).setCell (Nat.le_refl _) _).setCell (Nat.le_refl _) _) hbN hpN e0 e1 e2 e3 e4 e5 p0)
      ((go_at_call 137; refine hm.mono ?_; rintro e w' ⟨ra, rc, rfl, hri, hbb⟩; obtain ⟨_, c0, c1, c2, f0, f1, f2⟩ := hbox.below hbb hbox.lt hbb.size; have hbW := (Below.refl (w.heap.size + 2) _).drew.trans (hbb.mono hsN)))
    all_goals
      have HT : Hid (_) := made_told (rc := rc) hbx hbox.lt (by omega) hri hbb
      clear hri hbb hbx hbox hm e0 e1 e2 e3 e4 e5
      go_wp2
      refine bodyPost_ret (v := .agg #[.int .i64 r.W, .int .i64 r.H, .slice ra r.ps.length rc]) (by simp [results, Tryz.results92, go_sem, c0, c1, c2]) rfl HT.out
end Go.Proofs.YtaenpgdmiaekcaaGreatDoor
/-
  RENDER: frame.Render.
-/
namespace Go.Proofs.YtaenpgdmiaekcaaGreatDoor
set_option maxRecDepth 100000
open Go.RowKit Im

/-- What frame.Render tells. -/
def renderP (f : Fr) : Res := if frameE f = 0 then (pics f f.ps.length).getD (shownP f).toNat (noRes 0) else noRes (frameE f)
/-- Behind the region: the image r lies in a block of its own. -/
def Made9 (wP : World) (r : Res) (s9 s10 : Value) (wx : World) : Prop :=
  s10 = .int .i64 r.E ∧ ∃ b ra rc, s9 = .pointer (some ⟨b, 0, none⟩) ∧ wx.cell? ⟨b, 0, none⟩ = some (.int .i64 r.W) ∧ wx.cell? ⟨b, 1, none⟩ = some (.int .i64 r.H) ∧ wx.cell? ⟨b, 2, none⟩ = some (.slice ra r.ps.length rc) ∧ Ints wP.heap.size wx ra r.ps.length r.ps ∧ Below wP.heap.size wP wx
theorem szs_at (f : Fr) {n k : Nat} (h : k < n) : (szs f n).getD k Sz.zero = sizeN f k := by
  induction n with
  | zero => omega
  | succ n ih =>
    have e : szs f (n + 1) = szs f n ++ [sizeN f n] := rfl
    have l := szs_length f n
    rw [e]
    by_cases hk : k < n
    · rw [getD_left _ _ _ (by omega), ih hk]
    · have : k = n := by omega
      subst this
      rw [getD_last _ _ _ (by omega)]
theorem srcs_at (ps : List Ps) {n k : Nat} (h : k < n) : (srcs ps n).getD k [] = srcOf ps k := by
  unfold srcs
  simp [List.getD_eq_getElem?_getD, h]
end Go.Proofs.YtaenpgdmiaekcaaGreatDoor
/-
  HASREF: the reference's has, and the slots of a pass.
-/
namespace Go.Proofs.YtaenpgdmiaekcaaGreatDoor
set_option maxRecDepth 100000
open Go.RowKit Im

theorem has_any (op : Int) (w : World) : Calls Tryz.prog 130 #[.int .i64 op] w fun e w' => e = .returned (.tuple #[.bool (hasA op), .bool (hasB op), .bool (hasK op), .bool (hasL op)]) ∧ w = w' := by
  have hA : withinB op 3 13 = hasA op := rfl
  have hw := fun wx => within_any op 3 13 wx
  have ht := fun wx => isTwo_any' op wx
  rw [hA] at hw
  by_cases hk : knownB op = true
  · rcases op_cases hk with rfl | rfl | rfl | rfl | rfl | rfl | rfl | rfl | rfl | rfl | rfl | rfl | rfl
    all_goals
      clear hk hA
      go_enter Tryz.func130, Tryz.ntmps130
      go_wp2_with (first
        | (go_at_call 15; refine (hw _).mono ?_; rintro e w' ⟨rfl, rfl⟩)
        | (go_at_call 136; refine (ht _).mono ?_; rintro e w' ⟨rfl, rfl⟩))
      exact bodyPost_ret (by simp [results, Tryz.results130, go_sem]; decide) rfl ⟨rfl, rfl⟩
  · have hn : op < 1 ∨ 13 < op := by simp [knownB, withinB] at hk; omega
    have e3 : hasK op = false := by simp [hasK]; omega
    have e4 : hasL op = false := by simp [hasL]; omega
    have n1 : ¬ op = 1 := by omega
    have n2 : ¬ op = 2 := by omega
    have n8 : ¬ op = 8 := by omega
    have n9 : ¬ op = 9 := by omega
    have n13 : ¬ op = 13 := by omega
    have m13 : (op == 13) = false := by simpa using n13
    rw [e3, e4]
    clear hn e3 e4 hk hA
    go_enter Tryz.func130, Tryz.ntmps130
    go_wp2_with (first
      | (go_at_call 15; refine (hw _).mono ?_; rintro e w' ⟨rfl, rfl⟩)
      | (go_at_call 136; refine (ht _).mono ?_; rintro e w' ⟨rfl, rfl⟩))
    exact bodyPost_ret (by simp [results, Tryz.results130, go_sem]; exact ⟨⟨⟨n1, n2⟩, n8⟩, n9⟩) rfl ⟨rfl, rfl⟩
theorem slot_any (W H S O : Int) (a : Option Addr) (len cap : Nat) (w : World) (b : Nat) (n : Int) (hB : FBox w b W H S O a len cap) (hS : 1 ≤ S ∧ S ≤ 8) : Calls Tryz.prog 131 #[.int .i64 n, .pointer (some ⟨b, 0, none⟩)] w fun e w' => e = .returned (.bool (slotB n S)) ∧ w = w' := by
  obtain ⟨_, g0, g1, g2, g3, g4⟩ := hB
  have hw : IntKind.i64.wrap (S - 1) = S - 1 := by rw [IntKind.wrap_i64]; omega
  go_enter Tryz.func131, Tryz.ntmps131
  go_wp2_with (go_at_call 15; refine (within_any _ _ _ _).mono ?_; rintro e w' ⟨rfl, rfl⟩)
  go_ret
  exact ⟨rfl, rfl⟩
end Go.Proofs.YtaenpgdmiaekcaaGreatDoor
/-
  SOURCESREF: the reference's SourcesOf: of each pass, which passes made what it takes.
-/
namespace Go.Proofs.YtaenpgdmiaekcaaGreatDoor
set_option maxRecDepth 100000
open Go.RowKit Im

theorem ll_push {base : Nat} {wr w3 : World} {v2 v' u : Value} {ss : List (List Int)} {is : List Int} {us : List Value} (hu : Owns base wr u is) (hg : wr.grownBy w3 v2.ownBlock) (hus : wr.ownsRow base 22 1 v2 ss.length us) (hul : us.length = ss.length)
    (hue : ∀ (j : Nat) (x : List Int), ss[j]? = some x → ∃ u, us[j]? = some u ∧ Owns base wr u x) (h' : w3.ownsRow base 22 1 v' (ss.length + 1) (us ++ [u])) : OwnsLL base w3 v' (ss ++ [is]) := by
  have keep : ∀ {u : Value} {is : List Int}, Owns base wr u is → Owns base w3 u is := fun ho => World.ownsRow.kept ho hg (rows_apart ho hus (by decide))
  refine ⟨us ++ [u], by simpa using h', by simp [hul], fun j x hj => ?_⟩
  by_cases hjl : j < ss.length
  · rw [List.getElem?_append_left hjl] at hj
    obtain ⟨u', hu', ho'⟩ := hue j x hj
    exact ⟨u', by rw [List.getElem?_append_left (by omega)]; exact hu', keep ho'⟩
  · have hje : j = ss.length := by
      rcases Nat.lt_or_ge j (ss ++ [is]).length with hh | hh
      · simp at hh; omega
      · rw [List.getElem?_eq_none hh] at hj; cases hj
    subst hje
    have : x = is := by simpa using hj.symm
    subst this
    exact ⟨u, by rw [← hul]; simp, keep hu⟩
/-- The call's end tells the lists ss, in a slice of its own. -/
def ToldLL (w : World) (ss : List (List Int)) (e : Ending) (w' : World) : Prop :=
  (∃ v, e = .returned v ∧ OwnsLL w.heap.size w' v ss) ∧ Below w.heap.size w w'
set_option maxHeartbeats 4000000 in
theorem sourcesOfRef_any (W H S O : Int) (a : Option Addr) (len cap : Nat) (ps : List Ps) (w : World) (hp : Passes w a len ps) (hlen : len ≤ 12) :
    Calls Tryz.prog 89 #[.agg #[.int .i64 W, .int .i64 H, .int .i64 S, .int .i64 O, .slice a len cap]] w (ToldLL w (srcs ps len)) := by
  obtain ⟨i0, hi, hz0, hz1, hz2⟩ := info_parts Tryz.info3
  obtain ⟨l0, li, lz0, lz1, lz2⟩ := info_parts Tryz.infoInts
  have hB := FBox.new w W H S O a len cap
  have hb0 := below_box (Below.refl w.heap.size w) (.cells #[.int .i64 W, .int .i64 H, .int .i64 S, .int .i64 O, .slice a len cap] 35)
  have hp1 := hp.below hb0
  have hs1 : (w.alloc (.cells #[.int .i64 W, .int .i64 H, .int .i64 S, .int .i64 O, .slice a len cap] 35)).heap.size = w.heap.size + 1 := by simp
  clear hp
  go_enter Tryz.func89, Tryz.ntmps89
  go_wp2
  generalize w.alloc (.cells #[.int .i64 W, .int .i64 H, .int .i64 S, .int .i64 O, .slice a len cap] 35) = w1 at hB hb0 hp1 hs1 ⊢
  go_loopw [3, 4] (fun v i wr => ∃ k : Nat, k ≤ len ∧ i = .int .i64 k ∧ OwnsLL w1.heap.size wr v (srcs ps k) ∧ Below w1.heap.size w1 wr) (fun _ i _ => len - (intOf i).toNat)
  case atStart => exact ⟨0, Nat.zero_le _, rfl, OwnsLL.nil _ _, Below.refl _ _⟩
  case round =>
    obtain ⟨k, hk, rfl, hown, hbr⟩ := hrel
    have hBr := hB.below hbr
    have hpr := hp1.below hbr
    by_cases hlt : k < len
    · have H7 : Hid (srcOf ps k = (takesP (ps.getD k Ps.zero)).map (wrt ps k)) := rfl
      have H8 : Hid (srcs ps (k + 1) = srcs ps k ++ [srcOf ps k]) := srcs_succ ps k
      have H13 : Hid ((srcs ps k).length = k) := srcs_length _ _
      have hwr := fun (s : Int) wx (hx : Passes wx a len ps) => writer_any W H S O a len cap ps k s wx hx (by omega)
      generalize wrt ps k = q at hwr H7
      generalize srcs ps k = ss at hown H8 H13
      generalize srcOf ps k = sr at H7 H8
      obtain ⟨b, off, la, ll, lc, rfl, p0, p1, p2, p3, p4, p5, hLi⟩ := hpr.nth hlt
      generalize ps.getD k Ps.zero = p at p0 p1 p2 p3 p4 p5 hLi H7
      obtain ⟨Op, To, A, B, K, ls⟩ := p
      dsimp only at p0 p1 p2 p3 p4 p5 hLi
      have hh := fun wx => has_any Op wx
      have hab : hasB Op = true → hasA Op = true := by simp [hasA, hasB, withinB]; omega
      have hBp := hBr.alloc (.cells #[.int .i64 Op, .int .i64 To, .int .i64 A, .int .i64 B, .int .i64 K, .slice la ll lc] 72)
      have hPp := PBox.new wr Op To A B K la ll lc
      have hpp := hpr.below ((Below.refl _ _).alloc (Nat.le_refl _) (.cells #[.int .i64 Op, .int .i64 To, .int .i64 A, .int .i64 B, .int .i64 K, .slice la ll lc] 72))
      have hbp := hbr.alloc hbr.size (.cells #[.int .i64 Op, .int .i64 To, .int .i64 A, .int .i64 B, .int .i64 K, .slice la ll lc] 72)
      have howp := hown.below ((Below.refl _ _).alloc (Nat.le_refl _) (.cells #[.int .i64 Op, .int .i64 To, .int .i64 A, .int .i64 B, .int .i64 K, .slice la ll lc] 72))
      obtain ⟨_, g0, g1, g2, g3, g4⟩ := id hBr
      unfold takesP at H7
      dsimp only at H7
      generalize hasA Op = xa at hh H7 hab
      generalize hasB Op = xb at hh H7 hab
      generalize hasK Op = xk at hh
      generalize hasL Op = xl at hh
      go_upto_region 8 with (go_at_call 130; refine (hh _).mono ?_; rintro e w' ⟨rfl, rfl⟩)
      clear g0 g1 g2 g3 g4 p0 p1 p2 p3 p4 p5 hh hBr hpr hown hbr hLi
      generalize wr.alloc (.cells #[.int .i64 Op, .int .i64 To, .int .i64 A, .int .i64 B, .int .i64 K, .slice la ll lc] 72) = wA at hBp hPp hpp hbp howp ⊢
      cases xa
      · have hxb : xb = false := by cases xb; · rfl
                                    · exact absurd (hab rfl) (by decide)
        subst hxb
        have H7' : Hid (sr = []) := H7
        go_upto_region 12 with fail
        have hsr := H7'.out
        subst hsr
        have hfX := (howp).below ((Below.refl _ wA).alloc (Nat.le_refl _) (.cells #[.slice none 0 0] 22))
        have huX := World.ownsRow.alloc (World.ownsRow_nil wA w1.heap.size 3 1) (.cells #[.slice none 0 0] 22)
        have hbX : Below w1.heap.size w1 wA := hbp
        have hsX := hbX.size
        obtain ⟨us, hus, hul, hue⟩ := hfX
        go_wp2_with (at_builtin; refine wpList_append_own _ rfl _ _ 64 rfl w1.heap.size 22 l0 _ 1 24 Tryz.underlying64 li lz0 lz1 lz2 rfl (by decide) _ _ _ rfl hus ⟨wA.heap.size, 0, none⟩ 1 1 [.slice none 0 0] rfl rfl (cell_one_new _ _ _) (by intro u hu; simp at hu; subst hu; rfl) (by rw [H13.out]; unfold maxLen; omega) (by rw [H13.out]; omega) (by simp; omega) ?_; intro vY wY hownY hgrowY _)
        have RR := ll_push (is := []) (show Owns w1.heap.size _ _ [] from huX) hgrowY hus hul hue hownY
        have hbY := (hbX.alloc hsX (.cells #[.slice none 0 0] 22)).grown hgrowY (by simp; omega) (fun j hj => (World.ownsRow.lt hus j hj).1)
        go_roundw
        case rel => exact ⟨k + 1, by omega, by go_num, by rw [H8.out]; exact RR, hbY⟩
        case measure => simp [intOf]; omega
      · obtain ⟨_, g0, g1, g2, g3, g4⟩ := id hBp
        obtain ⟨_, p0, p1, p2, p3, p4, p5⟩ := id hPp
        go_upto_region 10 with (first
          | (go_at_call 93; refine (hwr _ _ hpp).mono ?_; rintro e wB ⟨rfl, bB⟩)
          | (at_builtin; refine wpList_append_own _ rfl _ _ 22 rfl wB.heap.size 3 i0 (.int .i64 0) 1 8 Tryz.underlying22 hi hz0 hz1 hz2 rfl (by decide) _ _ _ rfl (World.ownsRow_nil _ _ _ _) ⟨wB.heap.size, 0, none⟩ 1 1 [.int .i64 (q A)] rfl rfl (cell_one_new _ _ _) (by intro u hu; simp at hu; subst hu; rfl) (by unfold maxLen; omega) (by omega) (by simp; try omega) ?_; intro vC wC hownC hgrowC _; obtain ⟨aC, capC, hvC⟩ := owns_slice hownC; subst hvC))
        have bC : Below wB.heap.size wB wC := ((Below.refl _ wB).alloc (Nat.le_refl _) _).grown hgrowC (by simp) (fun j hj => by cases hj)
        clear g0 g1 g2 g3 g4 p0 p1 p2 p3 p4 p5 hgrowC
        have bAC := below_step bB bC
        have hsz : w1.heap.size ≤ wB.heap.size := Nat.le_trans hbp.size bB.size
        have howC := (howp.below bB).below bC
        cases xb
        · have H7' : Hid (sr = [q A]) := H7
          go_upto_region 12 with fail
          have hsr := H7'.out
          subst hsr
          have hfX := (howC).below ((Below.refl _ wC).alloc (Nat.le_refl _) (.cells #[.slice aC (0 + 1) capC] 22))
          have huX := World.ownsRow.alloc (row_mono hownC hsz) (.cells #[.slice aC (0 + 1) capC] 22)
          have hbX : Below w1.heap.size w1 wC := hbp.trans (bAC.mono hbp.size)
          have hsX := hbX.size
          obtain ⟨us, hus, hul, hue⟩ := hfX
          go_wp2_with (at_builtin; refine wpList_append_own _ rfl _ _ 64 rfl w1.heap.size 22 l0 _ 1 24 Tryz.underlying64 li lz0 lz1 lz2 rfl (by decide) _ _ _ rfl hus ⟨wC.heap.size, 0, none⟩ 1 1 [.slice aC (0 + 1) capC] rfl rfl (cell_one_new _ _ _) (by intro u hu; simp at hu; subst hu; rfl) (by rw [H13.out]; unfold maxLen; omega) (by rw [H13.out]; omega) (by simp; omega) ?_; intro vY wY hownY hgrowY _)
          have RR := ll_push (is := [q A]) (show Owns w1.heap.size _ _ [q A] from huX) hgrowY hus hul hue hownY
          have hbY := (hbX.alloc hsX (.cells #[.slice aC (0 + 1) capC] 22)).grown hgrowY (by simp; omega) (fun j hj => (World.ownsRow.lt hus j hj).1)
          go_roundw
          case rel => exact ⟨k + 1, by omega, by go_num, by rw [H8.out]; exact RR, hbY⟩
          case measure => simp [intOf]; omega
        · have H7' : Hid (sr = [q A, q B]) := H7
          obtain ⟨_, g0, g1, g2, g3, g4⟩ := hBp.below bAC
          obtain ⟨_, p0, p1, p2, p3, p4, p5⟩ := hPp.below bAC
          have hpC := hpp.below bAC
          go_upto_region 12 with (first
            | (go_at_call 93; refine (hwr _ _ hpC).mono ?_; rintro e wD ⟨rfl, bD⟩)
            | (at_builtin; refine wpList_append_own _ rfl _ _ 22 rfl wB.heap.size 3 i0 (.int .i64 0) 1 8 Tryz.underlying22 hi hz0 hz1 hz2 rfl (by decide) _ _ _ rfl (World.ownsRow.alloc (ownsRow_below hownC bD (Nat.le_refl _)) _) ⟨wD.heap.size, 0, none⟩ 1 1 [.int .i64 (q B)] rfl rfl (cell_one_new _ _ _) (by intro u hu; simp at hu; subst hu; rfl) (by unfold maxLen; omega) (by omega) (by have h1 := bC.size; have h2 := bD.size; simp; omega) ?_; intro vE wE hownE hgrowE _; obtain ⟨aE, capE, hvE⟩ := owns_slice hownE; subst hvE))
          have bE : Below wB.heap.size wB wE := ((bC.trans (bD.mono bC.size)).alloc (Nat.le_trans bC.size bD.size) _).grown hgrowE (by have h1 := bC.size; have h2 := bD.size; simp; omega) (fun j hj => (World.ownsRow.lt (w := wC) hownC j hj).1)
          clear g0 g1 g2 g3 g4 p0 p1 p2 p3 p4 p5 hgrowE
          have hsr := H7'.out
          subst hsr
          have hfX := (((howp.below bB).below bE)).below ((Below.refl _ wE).alloc (Nat.le_refl _) (.cells #[.slice aE (0 + 1 + 1) capE] 22))
          have huX := World.ownsRow.alloc (row_mono hownE hsz) (.cells #[.slice aE (0 + 1 + 1) capE] 22)
          have hbX : Below w1.heap.size w1 wE := hbp.trans ((below_step bB bE).mono hbp.size)
          have hsX := hbX.size
          obtain ⟨us, hus, hul, hue⟩ := hfX
          go_wp2_with (at_builtin; refine wpList_append_own _ rfl _ _ 64 rfl w1.heap.size 22 l0 _ 1 24 Tryz.underlying64 li lz0 lz1 lz2 rfl (by decide) _ _ _ rfl hus ⟨wE.heap.size, 0, none⟩ 1 1 [.slice aE (0 + 1 + 1) capE] rfl rfl (cell_one_new _ _ _) (by intro u hu; simp at hu; subst hu; rfl) (by rw [H13.out]; unfold maxLen; omega) (by rw [H13.out]; omega) (by simp; omega) ?_; intro vY wY hownY hgrowY _)
          have RR := ll_push (is := [q A, q B]) (show Owns w1.heap.size _ _ [q A, q B] from huX) hgrowY hus hul hue hownY
          have hbY := (hbX.alloc hsX (.cells #[.slice aE (0 + 1 + 1) capE] 22)).grown hgrowY (by simp; omega) (fun j hj => (World.ownsRow.lt hus j hj).1)
          go_roundw
          case rel => exact ⟨k + 1, by omega, by go_num, by rw [H8.out]; exact RR, hbY⟩
          case measure => simp [intOf]; omega
    · have hke : k = len := by omega
      subst hke
      obtain ⟨a2, c2, rfl⟩ : ∃ a cap, _ = Value.slice a (srcs ps k).length cap := by obtain ⟨us, h1, _⟩ := id hown; exact owns_slice h1
      obtain ⟨_, g0, g1, g2, g3, g4⟩ := id hBr
      go_wp2
      go_ret
      exact ⟨⟨_, rfl, hown.mono hb0.size⟩, below_step hb0 hbr⟩
end Go.Proofs.YtaenpgdmiaekcaaGreatDoor
