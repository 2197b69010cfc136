/- Paint, Paint2: joined, in this order. -/
import Derived.Test.YtfpkiimlaepnhaaM20
import Derived.Test.YtfpkiimlaepnhaaM21
import Derived.Test.YtfpkiimlaepnhaaM25
import Derived.Deep.RegionHeld3
/-
  PAINT: lists of images in memory; paint.Pass.
-/
namespace Go.Proofs.Ytfpkiimlaepnhaa
set_option maxRecDepth 100000
open Go.RowKit Im

/-- A slice's elements are the images rs; their numbers lie in blocks from base on. -/
structure Imgs (base : Nat) (w : World) (a : Option Addr) (len : Nat) (rs : List Res) : Prop where
  leng : rs.length = len
  big : len ≤ 9223372036854775807
  cells : rs = [] ∨ ∃ b off, a = some ⟨b, off, none⟩ ∧ b < w.heap.size ∧ ∀ j, j < len → ∃ pa cap, w.cell? ⟨b, off + j * 3, none⟩ = some (.int .i64 (rs.getD j (noRes 0)).W) ∧ w.cell? ⟨b, off + j * 3 + 1, none⟩ = some (.int .i64 (rs.getD j (noRes 0)).H) ∧ w.cell? ⟨b, off + j * 3 + 2, none⟩ = some (.slice pa (rs.getD j (noRes 0)).ps.length cap) ∧ Ints base w pa (rs.getD j (noRes 0)).ps.length (rs.getD j (noRes 0)).ps
theorem Imgs.below {base : Nat} {w w' : World} {a : Option Addr} {len : Nat} {rs : List Res} (h : Imgs base w a len rs) (hb : Below w.heap.size w w') : Imgs base w' a len rs := by
  refine ⟨h.leng, h.big, ?_⟩
  rcases h.cells with e | ⟨b, off, ha, hl, hc⟩
  · exact .inl e
  · refine .inr ⟨b, off, ha, Nat.lt_of_lt_of_le hl hb.size, fun j hj => ?_⟩
    obtain ⟨pa, cap, c0, c1, c2, hi⟩ := hc j hj
    exact ⟨pa, cap, (hb.cell (p := ⟨b, off + j * 3, none⟩) hl).trans c0, (hb.cell (p := ⟨b, off + j * 3 + 1, none⟩) hl).trans c1, (hb.cell (p := ⟨b, off + j * 3 + 2, none⟩) hl).trans c2, hi.below (Nat.le_refl _) hb⟩
theorem Imgs.nth {base : Nat} {w : World} {a : Option Addr} {len : Nat} {rs : List Res} (h : Imgs base w a len rs) {k : Nat} (hk : k < len) : ∃ b off pa cap, a = some ⟨b, off, none⟩ ∧ b < w.heap.size ∧ w.cell? ⟨b, off + k * 3, none⟩ = some (.int .i64 (rs.getD k (noRes 0)).W) ∧ w.cell? ⟨b, off + k * 3 + 1, none⟩ = some (.int .i64 (rs.getD k (noRes 0)).H) ∧ w.cell? ⟨b, off + k * 3 + 2, none⟩ = some (.slice pa (rs.getD k (noRes 0)).ps.length cap) ∧ Ints base w pa (rs.getD k (noRes 0)).ps.length (rs.getD k (noRes 0)).ps := by
  rcases h.cells with e | ⟨b, off, ha, hl, hc⟩
  · have := h.leng; subst e; simp at this; omega
  · obtain ⟨pa, cap, r⟩ := hc k hk
    exact ⟨b, off, pa, cap, ha, hl, r⟩
/-- The world behind paint.Pass's boxes. -/
abbrev pw (w : World) (Op To A B K : Int) (la : Option Addr) (ll lc : Nat) (zw zh : Int) : World :=
  ((w.alloc (.cells #[.int .i64 Op, .int .i64 To, .int .i64 A, .int .i64 B, .int .i64 K, .slice la ll lc] 88)).alloc (.cells #[.int .i64 zw, .int .i64 zh] 72)).alloc (.cells #[.int .i64 0, .int .i64 0, .slice none 0 0] 24)
/-- An image that is nothing, in a block of its own. -/
structure IBox (w : World) (b : Nat) : Prop where
  lt : b < w.heap.size
  c0 : w.cell? ⟨b, 0, none⟩ = some (.int .i64 0)
  c1 : w.cell? ⟨b, 1, none⟩ = some (.int .i64 0)
  c2 : w.cell? ⟨b, 2, none⟩ = some (.slice none 0 0)
  f0 : w.frozen? ⟨b, 0, none⟩ = false
  f1 : w.frozen? ⟨b, 1, none⟩ = false
  f2 : w.frozen? ⟨b, 2, none⟩ = false
theorem IBox.new (w : World) : IBox (w.alloc (.cells #[.int .i64 0, .int .i64 0, .slice none 0 0] 24)) w.heap.size :=
  ⟨by simp, by simp [go_sem], by simp [go_sem], by simp [go_sem], by simp [go_sem], by simp [go_sem], by simp [go_sem]⟩
theorem IBox.below {w w' : World} {b B : Nat} (h : IBox w b) (hb : Below B w w') (hB : b < B) (hs : w.heap.size ≤ w'.heap.size) : IBox w' b :=
  ⟨Nat.lt_of_lt_of_le h.lt hs, (hb.cell (p := ⟨b, 0, none⟩) hB).trans h.c0, (hb.cell (p := ⟨b, 1, none⟩) hB).trans h.c1, (hb.cell (p := ⟨b, 2, none⟩) hB).trans h.c2, (hb.frozen (p := ⟨b, 0, none⟩) hB).trans h.f0, (hb.frozen (p := ⟨b, 1, none⟩) hB).trans h.f1, (hb.frozen (p := ⟨b, 2, none⟩) hB).trans h.f2⟩
theorem pw_below (w : World) (Op To A B K : Int) (la : Option Addr) (ll lc : Nat) (zw zh : Int) : Below w.heap.size w (pw w Op To A B K la ll lc zw zh) := below_box (below_box (below_box (Below.refl _ _) _) _) _
theorem pw_size (w : World) (Op To A B K : Int) (la : Option Addr) (ll lc : Nat) (zw zh : Int) : (pw w Op To A B K la ll lc zw zh).heap.size = w.heap.size + 3 := by simp [pw]
theorem pw_box (w : World) (Op To A B K : Int) (la : Option Addr) (ll lc : Nat) (zw zh : Int) : IBox (pw w Op To A B K la ll lc zw zh) (w.heap.size + 2) := by
  have := IBox.new ((w.alloc (.cells #[.int .i64 Op, .int .i64 To, .int .i64 A, .int .i64 B, .int .i64 K, .slice la ll lc] 88)).alloc (.cells #[.int .i64 zw, .int .i64 zh] 72))
  simpa using this
/-- What is told, behind the store of the image into its box. -/
theorem paint_told {w wx w' : World} {b : Nat} {r : Res} {ra : Option Addr} {rc : Nat} (hx : Below w.heap.size w wx) (hlt : b < wx.heap.size) (hb0 : w.heap.size ≤ b) (hi : Ints wx.heap.size w' ra r.ps.length r.ps) (hb : Below wx.heap.size wx w') :
    Told w r (.returned (.tuple #[.agg #[.int .i64 r.W, .int .i64 r.H, .slice ra r.ps.length rc], .int .i64 r.E])) (((w'.setCell ⟨b, 0, none⟩ (.int .i64 r.W)).setCell ⟨b, 1, none⟩ (.int .i64 r.H)).setCell ⟨b, 2, none⟩ (.slice ra r.ps.length rc)) :=
  ⟨ra, rc, rfl, (((hi.setCell (p := ⟨b, 0, none⟩) hlt _).setCell (p := ⟨b, 1, none⟩) hlt _).setCell (p := ⟨b, 2, none⟩) hlt _).mono hx.size, (((below_step hx hb).setCell (p := ⟨b, 0, none⟩) hb0 _).setCell (p := ⟨b, 1, none⟩) hb0 _).setCell (p := ⟨b, 2, none⟩) hb0 _⟩
set_option maxHeartbeats 1000000 in
theorem paint_make (Op To A B K : Int) (la : Option Addr) (ll lc : Nat) (zw zh : Int) (fa : Option Addr) (flen fcap : Nat) (w : World) (h12 : Op = 1 ∨ Op = 2) {r : Res} (hr : makeRes Op zw zh K = r) :
    Calls Try.prog 89 #[.agg #[.int .i64 Op, .int .i64 To, .int .i64 A, .int .i64 B, .int .i64 K, .slice la ll lc], .agg #[.int .i64 zw, .int .i64 zh], .slice fa flen fcap] w (Told w r) := by
  have hm := fun wx => make_told wx hr
  have hbx := pw_below w Op To A B K la ll lc zw zh
  have hbox := pw_box w Op To A B K la ll lc zw zh
  have hsz := pw_size w Op To A B K la ll lc zw zh
  clear hr
  rcases h12 with rfl | rfl
  all_goals
    go_enter Try.func89, Try.ntmps89
    go_wp2_with fail
    refine (hm _).mono ?_
    rintro e w' ⟨ra, rc, rfl, hri, hb⟩
    obtain ⟨_, c0, c1, c2, f0, f1, f2⟩ := hbox.below hb hbox.lt hb.size
    clear hm
    have hT := paint_told (rc := rc) hbx hbox.lt (by omega) hri hb
    have HT : Hid (_) := hT
    clear hT hri hb hbx hbox
    go_wp2
    refine bodyPost_ret (v := .tuple #[.agg #[.int .i64 r.W, .int .i64 r.H, .slice ra r.ps.length rc], .int .i64 r.E]) (by simp [results, Try.results89, go_sem, c0, c1, c2]) rfl HT.out
end Go.Proofs.Ytfpkiimlaepnhaa
/-
  PAINT2: paint.Pass, of passes that take images.
-/
namespace Go.Proofs.Ytfpkiimlaepnhaa
set_option maxRecDepth 100000
open Go.RowKit Im

/-- What the walk holds: the boxes' own cells and the image's. -/
theorem keepI {W3 w' : World} {N b off pb i j : Nat} {x0 x1 x2 y0 y1 : Value} (h : Below N W3 w') (hb : b < N) (hp : pb < N) (e0 : W3.cell? ⟨b, off, none⟩ = some x0) (e1 : W3.cell? ⟨b, off + 1, none⟩ = some x1) (e2 : W3.cell? ⟨b, off + 2, none⟩ = some x2) (p0 : W3.cell? ⟨pb, i, none⟩ = some y0) (p1 : W3.cell? ⟨pb, j, none⟩ = some y1) :
    w'.cell? ⟨b, off, none⟩ = some x0 ∧ w'.cell? ⟨b, off + 1, none⟩ = some x1 ∧ w'.cell? ⟨b, off + 2, none⟩ = some x2 ∧ w'.cell? ⟨pb, i, none⟩ = some y0 ∧ w'.cell? ⟨pb, j, none⟩ = some y1 :=
  ⟨(h.cell (p := ⟨b, off, none⟩) hb).trans e0, (h.cell (p := ⟨b, off + 1, none⟩) hb).trans e1, (h.cell (p := ⟨b, off + 2, none⟩) hb).trans e2, (h.cell (p := ⟨pb, i, none⟩) hp).trans p0, (h.cell (p := ⟨pb, j, none⟩) hp).trans p1⟩
theorem keepI2 {W3 w' : World} {N b off pb i : Nat} {x0 x1 x2 x3 x4 x5 y0 : Value} (h : Below N W3 w') (hb : b < N) (hp : pb < N) (e0 : W3.cell? ⟨b, off, none⟩ = some x0) (e1 : W3.cell? ⟨b, off + 1, none⟩ = some x1) (e2 : W3.cell? ⟨b, off + 2, none⟩ = some x2) (e3 : W3.cell? ⟨b, off + 3, none⟩ = some x3) (e4 : W3.cell? ⟨b, off + 3 + 1, none⟩ = some x4) (e5 : W3.cell? ⟨b, off + 3 + 2, none⟩ = some x5) (p0 : W3.cell? ⟨pb, i, none⟩ = some y0) :
    w'.cell? ⟨b, off, none⟩ = some x0 ∧ w'.cell? ⟨b, off + 1, none⟩ = some x1 ∧ w'.cell? ⟨b, off + 2, none⟩ = some x2 ∧ w'.cell? ⟨b, off + 3, none⟩ = some x3 ∧ w'.cell? ⟨b, off + 3 + 1, none⟩ = some x4 ∧ w'.cell? ⟨b, off + 3 + 2, none⟩ = some x5 ∧ w'.cell? ⟨pb, i, none⟩ = some y0 :=
  ⟨(h.cell (p := ⟨b, off, none⟩) hb).trans e0, (h.cell (p := ⟨b, off + 1, none⟩) hb).trans e1, (h.cell (p := ⟨b, off + 2, none⟩) hb).trans e2, (h.cell (p := ⟨b, off + 3, none⟩) hb).trans e3, (h.cell (p := ⟨b, off + 3 + 1, none⟩) hb).trans e4, (h.cell (p := ⟨b, off + 3 + 2, none⟩) hb).trans e5, (h.cell (p := ⟨pb, i, none⟩) hp).trans p0⟩
set_option maxHeartbeats 2000000 in
theorem paint_one (Op To A B K : Int) (la : Option Addr) (ll lc : Nat) (zw zh : Int) (flen fcap : Nat) (w : World) (hop : Op = 3 ∨ Op = 8 ∨ Op = 9 ∨ Op = 10 ∨ Op = 11 ∨ Op = 12) (b off : Nat) (hb : b < w.heap.size) (hl : 0 < flen) (iw ih : Int) (pa : Option Addr) (cap : Nat) (ps : List Int)
    (d0 : w.cell? ⟨b, off, none⟩ = some (.int .i64 iw)) (d1 : w.cell? ⟨b, off + 1, none⟩ = some (.int .i64 ih)) (d2 : w.cell? ⟨b, off + 2, none⟩ = some (.slice pa ps.length cap)) (hi : Ints 0 w pa ps.length ps) {r : Res} (hr : oneRes Op iw ih ps K = r) :
    Calls Try.prog 89 #[.agg #[.int .i64 Op, .int .i64 To, .int .i64 A, .int .i64 B, .int .i64 K, .slice la ll lc], .agg #[.int .i64 zw, .int .i64 zh], .slice (some ⟨b, off, none⟩) flen fcap] w (Told w r) := by
  have hb3 := pw_below w Op To A B K la ll lc zw zh
  have hbx := hb3.drew
  have hbN : b < w.heap.size + 2 := by omega
  have hpN : w.heap.size < w.heap.size + 2 := by omega
  have hm := one_told (op := Op) (W := iw) (H := ih) cap (k := K) (hi.below (Nat.le_refl _) hbx) hr
  have hbox0 := pw_box w Op To A B K la ll lc zw zh
  have hbox := hbox0.below (Below.refl _ _).drew hbox0.lt (Nat.le_refl _)
  clear hbox0
  have hsz := pw_size w Op To A B K la ll lc zw zh
  have hsN : w.heap.size + 2 ≤ (pw w Op To A B K la ll lc zw zh).drew.heap.size := by show _ ≤ (pw w Op To A B K la ll lc zw zh).heap.size; omega
  have e0 := (hb3.cell (p := ⟨b, off, none⟩) hb).trans d0
  have e1 := (hb3.cell (p := ⟨b, off + 1, none⟩) hb).trans d1
  have e2 := (hb3.cell (p := ⟨b, off + 2, none⟩) hb).trans d2
  have hP := ((PBox.new w Op To A B K la ll lc).alloc (.cells #[.int .i64 zw, .int .i64 zh] 72)).alloc (.cells #[.int .i64 0, .int .i64 0, .slice none 0 0] 24)
  obtain ⟨_, p0, p1, p2, p3, p4, p5⟩ := hP
  clear hr d0 d1 d2 hi
  have n1 : ¬ Op = 1 := by omega
  have n2 : ¬ Op = 2 := by omega
  have n4 : ¬ Op = 4 := by omega
  have n5 : ¬ Op = 5 := by omega
  have n6 : ¬ Op = 6 := by omega
  have n7 : ¬ Op = 7 := by omega
  have n13 : ¬ Op = 13 := by omega
  clear hop
  · go_enter Try.func89, Try.ntmps89
    go_wp2_with fail
    go_region_held3 (fun w' => w'.cell? ⟨b, off, none⟩ = some (.int .i64 iw) ∧ w'.cell? ⟨b, off + 1, none⟩ = some (.int .i64 ih) ∧ w'.cell? ⟨b, off + 2, none⟩ = some (.slice pa ps.length cap) ∧ w'.cell? ⟨w.heap.size, 0, none⟩ = some (.int .i64 Op) ∧ w'.cell? ⟨w.heap.size, 4, none⟩ = some (.int .i64 K))
      (first | exact keepI (Below.refl _ _).drew hbN hpN e0 e1 e2 p0 p4 | exact keepI hbW hbN hpN e0 e1 e2 p0 p4 | exact keepI (((hbW.setCell (Nat.le_refl _) _).setCell (Nat.le_refl _) _).setCell (Nat.le_refl _) _) hbN hpN e0 e1 e2 p0 p4)
      ((go_at_call 22; refine hm.mono ?_; rintro e w' ⟨ra, rc, rfl, hri, hbb⟩; obtain ⟨_, c0, c1, c2, f0, f1, f2⟩ := hbox.below hbb hbox.lt hbb.size; have hbW := (Below.refl (w.heap.size + 2) _).drew.trans (hbb.mono hsN)))
    all_goals
      have HT : Hid (_) := paint_told (rc := rc) hbx hbox.lt (by omega) hri hbb
      clear hri hbb hbx hbox hm e0 e1 e2
      go_wp2
      refine bodyPost_ret (v := .tuple #[.agg #[.int .i64 r.W, .int .i64 r.H, .slice ra r.ps.length rc], .int .i64 r.E]) (by simp [results, Try.results89, go_sem, c0, c1, c2]) rfl HT.out
set_option maxHeartbeats 2000000 in
theorem paint_lit (To A B K : Int) (la : Option Addr) (ll lc : Nat) (ls : List Lt) (zw zh : Int) (flen fcap : Nat) (w : World) (hL : Lights w la ll ls) (b off : Nat) (hb : b < w.heap.size) (hl : 0 < flen) (iw ih : Int) (pa : Option Addr) (cap : Nat) (ps : List Int)
    (d0 : w.cell? ⟨b, off, none⟩ = some (.int .i64 iw)) (d1 : w.cell? ⟨b, off + 1, none⟩ = some (.int .i64 ih)) (d2 : w.cell? ⟨b, off + 2, none⟩ = some (.slice pa ps.length cap)) (hi : Ints 0 w pa ps.length ps) {r : Res} (hr : litRes iw ih ps ls K = r) :
    Calls Try.prog 89 #[.agg #[.int .i64 13, .int .i64 To, .int .i64 A, .int .i64 B, .int .i64 K, .slice la ll lc], .agg #[.int .i64 zw, .int .i64 zh], .slice (some ⟨b, off, none⟩) flen fcap] w (Told w r) := by
  have hb3 := pw_below w 13 To A B K la ll lc zw zh
  have hbx := hb3.drew
  have hbN : b < w.heap.size + 2 := by omega
  have hpN : w.heap.size < w.heap.size + 2 := by omega
  have hm := lit_told (W := iw) (H := ih) cap lc (tile := K) (hi.below (Nat.le_refl _) hbx) (hL.below hbx) hr
  have hbox0 := pw_box w 13 To A B K la ll lc zw zh
  have hbox := hbox0.below (Below.refl _ _).drew hbox0.lt (Nat.le_refl _)
  clear hbox0
  have hsz := pw_size w 13 To A B K la ll lc zw zh
  have hsN : w.heap.size + 2 ≤ (pw w 13 To A B K la ll lc zw zh).drew.heap.size := by show _ ≤ (pw w 13 To A B K la ll lc zw zh).heap.size; omega
  have e0 := (hb3.cell (p := ⟨b, off, none⟩) hb).trans d0
  have e1 := (hb3.cell (p := ⟨b, off + 1, none⟩) hb).trans d1
  have e2 := (hb3.cell (p := ⟨b, off + 2, none⟩) hb).trans d2
  have hP := ((PBox.new w 13 To A B K la ll lc).alloc (.cells #[.int .i64 zw, .int .i64 zh] 72)).alloc (.cells #[.int .i64 0, .int .i64 0, .slice none 0 0] 24)
  obtain ⟨_, p0, p1, p2, p3, p4, p5⟩ := hP
  clear hr d0 d1 d2 hi
  · go_enter Try.func89, Try.ntmps89
    go_wp2_with fail
    go_region_held3 (fun w' => w'.cell? ⟨b, off, none⟩ = some (.int .i64 iw) ∧ w'.cell? ⟨b, off + 1, none⟩ = some (.int .i64 ih) ∧ w'.cell? ⟨b, off + 2, none⟩ = some (.slice pa ps.length cap) ∧ w'.cell? ⟨w.heap.size, 4, none⟩ = some (.int .i64 K) ∧ w'.cell? ⟨w.heap.size, 5, none⟩ = some (.slice la ll lc))
      (first | exact keepI (Below.refl _ _).drew hbN hpN e0 e1 e2 p4 p5 | exact keepI hbW hbN hpN e0 e1 e2 p4 p5 | exact keepI (((hbW.setCell (Nat.le_refl _) _).setCell (Nat.le_refl _) _).setCell (Nat.le_refl _) _) hbN hpN e0 e1 e2 p4 p5)
      ((go_at_call 37; refine hm.mono ?_; rintro e w' ⟨ra, rc, rfl, hri, hbb⟩; obtain ⟨_, c0, c1, c2, f0, f1, f2⟩ := hbox.below hbb hbox.lt hbb.size; have hbW := (Below.refl (w.heap.size + 2) _).drew.trans (hbb.mono hsN)))
    all_goals
      have HT : Hid (_) := paint_told (rc := rc) hbx hbox.lt (by omega) hri hbb
      clear hri hbb hbx hbox hm e0 e1 e2
      go_wp2
      refine bodyPost_ret (v := .tuple #[.agg #[.int .i64 r.W, .int .i64 r.H, .slice ra r.ps.length rc], .int .i64 r.E]) (by simp [results, Try.results89, go_sem, c0, c1, c2]) rfl HT.out
set_option maxHeartbeats 4000000 in
theorem paint_two (Op To A B K : Int) (la : Option Addr) (ll lc : Nat) (zw zh : Int) (flen fcap : Nat) (w : World) (hop : Op = 4 ∨ Op = 5 ∨ Op = 6 ∨ Op = 7) (b off : Nat) (hb : b < w.heap.size) (hl0 : 0 < flen) (hl : (1 : Int) < (flen : Int)) (iw ih : Int) (pa : Option Addr) (cap : Nat) (ps : List Int)
    (d0 : w.cell? ⟨b, off, none⟩ = some (.int .i64 iw)) (d1 : w.cell? ⟨b, off + 1, none⟩ = some (.int .i64 ih)) (d2 : w.cell? ⟨b, off + 2, none⟩ = some (.slice pa ps.length cap)) (hi : Ints 0 w pa ps.length ps)
    (jw jh : Int) (qa : Option Addr) (qcap : Nat) (qs : List Int) (g0 : w.cell? ⟨b, off + 3, none⟩ = some (.int .i64 jw)) (g1 : w.cell? ⟨b, off + 3 + 1, none⟩ = some (.int .i64 jh)) (g2 : w.cell? ⟨b, off + 3 + 2, none⟩ = some (.slice qa qs.length qcap)) (hj : Ints 0 w qa qs.length qs) {r : Res} (hr : twoRes Op iw ih ps jw jh qs = r) :
    Calls Try.prog 89 #[.agg #[.int .i64 Op, .int .i64 To, .int .i64 A, .int .i64 B, .int .i64 K, .slice la ll lc], .agg #[.int .i64 zw, .int .i64 zh], .slice (some ⟨b, off, none⟩) flen fcap] w (Told w r) := by
  have hb3 := pw_below w Op To A B K la ll lc zw zh
  have hbx := hb3.drew
  have hbN : b < w.heap.size + 2 := by omega
  have hpN : w.heap.size < w.heap.size + 2 := by omega
  have hm := two_told (op := Op) (W := iw) (H := ih) (W' := jw) (H' := jh) cap qcap (hi.below (Nat.le_refl _) hbx) (hj.below (Nat.le_refl _) hbx) hr
  have hbox0 := pw_box w Op To A B K la ll lc zw zh
  have hbox := hbox0.below (Below.refl _ _).drew hbox0.lt (Nat.le_refl _)
  clear hbox0
  have hsz := pw_size w Op To A B K la ll lc zw zh
  have hsN : w.heap.size + 2 ≤ (pw w Op To A B K la ll lc zw zh).drew.heap.size := by show _ ≤ (pw w Op To A B K la ll lc zw zh).heap.size; omega
  have e0 := (hb3.cell (p := ⟨b, off, none⟩) hb).trans d0
  have e1 := (hb3.cell (p := ⟨b, off + 1, none⟩) hb).trans d1
  have e2 := (hb3.cell (p := ⟨b, off + 2, none⟩) hb).trans d2
  have e3 := (hb3.cell (p := ⟨b, off + 3, none⟩) hb).trans g0
  have e4 := (hb3.cell (p := ⟨b, off + 3 + 1, none⟩) hb).trans g1
  have e5 := (hb3.cell (p := ⟨b, off + 3 + 2, none⟩) hb).trans g2
  have hP := ((PBox.new w Op To A B K la ll lc).alloc (.cells #[.int .i64 zw, .int .i64 zh] 72)).alloc (.cells #[.int .i64 0, .int .i64 0, .slice none 0 0] 24)
  obtain ⟨_, p0, p1, p2, p3, p4, p5⟩ := hP
  clear hr d0 d1 d2 hi g0 g1 g2 hj
  rcases hop with rfl | rfl | rfl | rfl
  · go_enter Try.func89, Try.ntmps89
    go_wp2_with fail
    go_region_held3 (fun w' => w'.cell? ⟨b, off, none⟩ = some (.int .i64 iw) ∧ w'.cell? ⟨b, off + 1, none⟩ = some (.int .i64 ih) ∧ w'.cell? ⟨b, off + 2, none⟩ = some (.slice pa ps.length cap) ∧ w'.cell? ⟨b, off + 3, none⟩ = some (.int .i64 jw) ∧ w'.cell? ⟨b, off + 3 + 1, none⟩ = some (.int .i64 jh) ∧ w'.cell? ⟨b, off + 3 + 2, none⟩ = some (.slice qa qs.length qcap) ∧ w'.cell? ⟨w.heap.size, 0, none⟩ = some (.int .i64 4))
      (first | exact keepI2 (Below.refl _ _).drew hbN hpN e0 e1 e2 e3 e4 e5 p0 | exact keepI2 hbW hbN hpN e0 e1 e2 e3 e4 e5 p0 | exact keepI2 (((hbW.setCell (Nat.le_refl _) _).setCell (Nat.le_refl _) _).setCell (Nat.le_refl _) _) hbN hpN e0 e1 e2 e3 e4 e5 p0)
      ((go_at_call 25; refine hm.mono ?_; rintro e w' ⟨ra, rc, rfl, hri, hbb⟩; obtain ⟨_, c0, c1, c2, f0, f1, f2⟩ := hbox.below hbb hbox.lt hbb.size; have hbW := (Below.refl (w.heap.size + 2) _).drew.trans (hbb.mono hsN)))
    all_goals
      have HT : Hid (_) := paint_told (rc := rc) hbx hbox.lt (by omega) hri hbb
      clear hri hbb hbx hbox hm e0 e1 e2 e3 e4 e5
      go_wp2
      refine bodyPost_ret (v := .tuple #[.agg #[.int .i64 r.W, .int .i64 r.H, .slice ra r.ps.length rc], .int .i64 r.E]) (by simp [results, Try.results89, go_sem, c0, c1, c2]) rfl HT.out
  · go_enter Try.func89, Try.ntmps89
    go_wp2_with fail
    go_region_held3 (fun w' => w'.cell? ⟨b, off, none⟩ = some (.int .i64 iw) ∧ w'.cell? ⟨b, off + 1, none⟩ = some (.int .i64 ih) ∧ w'.cell? ⟨b, off + 2, none⟩ = some (.slice pa ps.length cap) ∧ w'.cell? ⟨b, off + 3, none⟩ = some (.int .i64 jw) ∧ w'.cell? ⟨b, off + 3 + 1, none⟩ = some (.int .i64 jh) ∧ w'.cell? ⟨b, off + 3 + 2, none⟩ = some (.slice qa qs.length qcap) ∧ w'.cell? ⟨w.heap.size, 0, none⟩ = some (.int .i64 5))
      (first | exact keepI2 (Below.refl _ _).drew hbN hpN e0 e1 e2 e3 e4 e5 p0 | exact keepI2 hbW hbN hpN e0 e1 e2 e3 e4 e5 p0 | exact keepI2 (((hbW.setCell (Nat.le_refl _) _).setCell (Nat.le_refl _) _).setCell (Nat.le_refl _) _) hbN hpN e0 e1 e2 e3 e4 e5 p0)
      ((go_at_call 25; refine hm.mono ?_; rintro e w' ⟨ra, rc, rfl, hri, hbb⟩; obtain ⟨_, c0, c1, c2, f0, f1, f2⟩ := hbox.below hbb hbox.lt hbb.size; have hbW := (Below.refl (w.heap.size + 2) _).drew.trans (hbb.mono hsN)))
    all_goals
      have HT : Hid (_) := paint_told (rc := rc) hbx hbox.lt (by omega) hri hbb
      clear hri hbb hbx hbox hm e0 e1 e2 e3 e4 e5
      go_wp2
      refine bodyPost_ret (v := .tuple #[.agg #[.int .i64 r.W, .int .i64 r.H, .slice ra r.ps.length rc], .int .i64 r.E]) (by simp [results, Try.results89, go_sem, c0, c1, c2]) rfl HT.out
  · go_enter Try.func89, Try.ntmps89
    go_wp2_with fail
    go_region_held3 (fun w' => w'.cell? ⟨b, off, none⟩ = some (.int .i64 iw) ∧ w'.cell? ⟨b, off + 1, none⟩ = some (.int .i64 ih) ∧ w'.cell? ⟨b, off + 2, none⟩ = some (.slice pa ps.length cap) ∧ w'.cell? ⟨b, off + 3, none⟩ = some (.int .i64 jw) ∧ w'.cell? ⟨b, off + 3 + 1, none⟩ = some (.int .i64 jh) ∧ w'.cell? ⟨b, off + 3 + 2, none⟩ = some (.slice qa qs.length qcap) ∧ w'.cell? ⟨w.heap.size, 0, none⟩ = some (.int .i64 6))
      (first | exact keepI2 (Below.refl _ _).drew hbN hpN e0 e1 e2 e3 e4 e5 p0 | exact keepI2 hbW hbN hpN e0 e1 e2 e3 e4 e5 p0 | exact keepI2 (((hbW.setCell (Nat.le_refl _) _).setCell (Nat.le_refl _) _).setCell (Nat.le_refl _) _) hbN hpN e0 e1 e2 e3 e4 e5 p0)
      ((go_at_call 25; refine hm.mono ?_; rintro e w' ⟨ra, rc, rfl, hri, hbb⟩; obtain ⟨_, c0, c1, c2, f0, f1, f2⟩ := hbox.below hbb hbox.lt hbb.size; have hbW := (Below.refl (w.heap.size + 2) _).drew.trans (hbb.mono hsN)))
    all_goals
      have HT : Hid (_) := paint_told (rc := rc) hbx hbox.lt (by omega) hri hbb
      clear hri hbb hbx hbox hm e0 e1 e2 e3 e4 e5
      go_wp2
      refine bodyPost_ret (v := .tuple #[.agg #[.int .i64 r.W, .int .i64 r.H, .slice ra r.ps.length rc], .int .i64 r.E]) (by simp [results, Try.results89, go_sem, c0, c1, c2]) rfl HT.out
  · go_enter Try.func89, Try.ntmps89
    go_wp2_with fail
    go_region_held3 (fun w' => w'.cell? ⟨b, off, none⟩ = some (.int .i64 iw) ∧ w'.cell? ⟨b, off + 1, none⟩ = some (.int .i64 ih) ∧ w'.cell? ⟨b, off + 2, none⟩ = some (.slice pa ps.length cap) ∧ w'.cell? ⟨b, off + 3, none⟩ = some (.int .i64 jw) ∧ w'.cell? ⟨b, off + 3 + 1, none⟩ = some (.int .i64 jh) ∧ w'.cell? ⟨b, off + 3 + 2, none⟩ = some (.slice qa qs.length qcap) ∧ w'.cell? ⟨w.heap.size, 0, none⟩ = some (.int .i64 7))
      (first | exact keepI2 (Below.refl _ _).drew hbN hpN e0 e1 e2 e3 e4 e5 p0 | exact keepI2 hbW hbN hpN e0 e1 e2 e3 e4 e5 p0 | exact keepI2 (((hbW.setCell (Nat.le_refl _) _).setCell (Nat.le_refl _) _).setCell (Nat.le_refl _) _) hbN hpN e0 e1 e2 e3 e4 e5 p0)
      ((go_at_call 25; refine hm.mono ?_; rintro e w' ⟨ra, rc, rfl, hri, hbb⟩; obtain ⟨_, c0, c1, c2, f0, f1, f2⟩ := hbox.below hbb hbox.lt hbb.size; have hbW := (Below.refl (w.heap.size + 2) _).drew.trans (hbb.mono hsN)))
    all_goals
      have HT : Hid (_) := paint_told (rc := rc) hbx hbox.lt (by omega) hri hbb
      clear hri hbb hbx hbox hm e0 e1 e2 e3 e4 e5
      go_wp2
      refine bodyPost_ret (v := .tuple #[.agg #[.int .i64 r.W, .int .i64 r.H, .slice ra r.ps.length rc], .int .i64 r.E]) (by simp [results, Try.results89, go_sem, c0, c1, c2]) rfl HT.out
end Go.Proofs.Ytfpkiimlaepnhaa
