/- FrameCalls, RenderA, LightRef: joined, in this order. -/
import Derived.Test.YtfpkiimlaepnhaaM30
import Derived.Test.YtfpkiimlaepnhaaM28
import Derived.Test.YtfpkiimlaepnhaaM15
/-
  FRAMECALLS: frame.Check, frame.Sizes and frame.Sources.
-/
namespace Go.Proofs.Ytfpkiimlaepnhaa
set_option maxRecDepth 100000
open Go.RowKit Im

theorem ll_slice {base : Nat} {w : World} {v : Value} {ss : List (List Int)} (h : OwnsLL base w v ss) : ∃ a cap, v = .slice a ss.length cap := by
  obtain ⟨us, h1, _⟩ := h
  exact owns_slice h1
theorem frameCheck_any (W H S O : Int) (a : Option Addr) (len cap : Nat) (ps : List Ps) (w : World) (hp : Passes w a len ps) :
    Calls Try.prog 44 #[.agg #[.int .i64 W, .int .i64 H, .int .i64 S, .int .i64 O, .slice a len cap]] w fun e w' => e = .returned (.int .i64 (frameE ⟨W, H, S, O, ps⟩)) ∧ Below w.heap.size w w' := by
  have hb0 := below_box (Below.refl w.heap.size w) (.cells #[.int .i64 W, .int .i64 H, .int .i64 S, .int .i64 O, .slice a len cap] 63)
  have hfo := follow_any W H S O a len cap ps _ (hp.below hb0)
  go_enter Try.func44, Try.ntmps44
  go_wp2_with fail
  refine hfo.mono ?_
  clear hfo
  rintro e w1 (⟨hE, ⟨v1, v2, rfl, hZ, hL⟩, b1⟩ | ⟨hE, rfl, b1⟩)
  · obtain ⟨a1, c1, rfl⟩ := owns_slice hZ
    obtain ⟨a2, c2, rfl⟩ := ll_slice hL
    have HE : Hid (frameE ⟨W, H, S, O, ps⟩ = 0) := hE
    clear hZ hL hE
    go_wp2
    go_ret
    exact ⟨by rw [HE.out]; rfl, below_box (below_step hb0 b1) _⟩
  · clear hE
    go_wp2
    go_ret
    exact ⟨rfl, below_box (below_step hb0 b1) _⟩
/-- The call's end tells the sizes of the frame f, or its error. -/
def ToldFZ (w : World) (f : Fr) (e : Ending) (w' : World) : Prop :=
  (∃ v, e = .returned (.tuple #[v, .int .i64 (frameE f)]) ∧ OwnsZ w.heap.size w' v (if frameE f = 0 then szs f f.ps.length else [])) ∧ Below w.heap.size w w'
def ToldFS (w : World) (f : Fr) (e : Ending) (w' : World) : Prop :=
  (∃ v, e = .returned (.tuple #[v, .int .i64 (frameE f)]) ∧ OwnsLL w.heap.size w' v (if frameE f = 0 then srcs f.ps f.ps.length else [])) ∧ Below w.heap.size w w'
theorem sizes_any (W H S O : Int) (a : Option Addr) (len cap : Nat) (ps : List Ps) (w : World) (hp : Passes w a len ps) :
    Calls Try.prog 39 #[.agg #[.int .i64 W, .int .i64 H, .int .i64 S, .int .i64 O, .slice a len cap]] w (ToldFZ w ⟨W, H, S, O, ps⟩) := by
  have hb0 := below_box (Below.refl w.heap.size w) (.cells #[.int .i64 W, .int .i64 H, .int .i64 S, .int .i64 O, .slice a len cap] 63)
  have hfo := follow_any W H S O a len cap ps _ (hp.below hb0)
  go_enter Try.func39, Try.ntmps39
  go_wp2_with fail
  refine hfo.mono ?_
  clear hfo
  rintro e w1 (⟨hE, ⟨v1, v2, rfl, hZ, hL⟩, b1⟩ | ⟨hE, rfl, b1⟩)
  · obtain ⟨a1, c1, rfl⟩ := owns_slice hZ
    obtain ⟨a2, c2, rfl⟩ := ll_slice hL
    have HE : Hid (frameE ⟨W, H, S, O, ps⟩ = 0) := hE
    clear hE hL
    go_wp2
    go_ret2
    refine ⟨⟨.slice a1 (szs ⟨W, H, S, O, ps⟩ ps.length).length c1, by rw [HE.out]; rfl, ?_⟩, below_box (below_step hb0 b1) _⟩
    rw [HE.out, if_pos rfl]
    exact row_mono (World.ownsRow.alloc hZ _) (by simp)
  · have HE : Hid (frameE ⟨W, H, S, O, ps⟩ ≠ 0) := hE
    clear hE
    go_wp2
    go_ret2
    refine ⟨⟨_, rfl, ?_⟩, below_box (below_step hb0 b1) _⟩
    rw [if_neg HE.out]
    exact World.ownsRow_nil _ _ _ _
theorem sources_any (W H S O : Int) (a : Option Addr) (len cap : Nat) (ps : List Ps) (w : World) (hp : Passes w a len ps) :
    Calls Try.prog 40 #[.agg #[.int .i64 W, .int .i64 H, .int .i64 S, .int .i64 O, .slice a len cap]] w (ToldFS w ⟨W, H, S, O, ps⟩) := by
  have hb0 := below_box (Below.refl w.heap.size w) (.cells #[.int .i64 W, .int .i64 H, .int .i64 S, .int .i64 O, .slice a len cap] 63)
  have hfo := follow_any W H S O a len cap ps _ (hp.below hb0)
  go_enter Try.func40, Try.ntmps40
  go_wp2_with fail
  refine hfo.mono ?_
  clear hfo
  rintro e w1 (⟨hE, ⟨v1, v2, rfl, hZ, hL⟩, b1⟩ | ⟨hE, rfl, b1⟩)
  · obtain ⟨a1, c1, rfl⟩ := owns_slice hZ
    obtain ⟨a2, c2, rfl⟩ := ll_slice hL
    have HE : Hid (frameE ⟨W, H, S, O, ps⟩ = 0) := hE
    clear hE hZ
    go_wp2
    go_ret2
    refine ⟨⟨.slice a2 (srcs ps ps.length).length c2, by rw [HE.out]; rfl, ?_⟩, below_box (below_step hb0 b1) _⟩
    rw [HE.out, if_pos rfl]
    exact (hL.below ((Below.refl _ _).alloc (Nat.le_refl _) _)).mono (by simp)
  · have HE : Hid (frameE ⟨W, H, S, O, ps⟩ ≠ 0) := hE
    clear hE
    go_wp2
    go_ret2
    refine ⟨⟨_, rfl, ?_⟩, below_box (below_step hb0 b1) _⟩
    rw [if_neg HE.out]
    exact OwnsLL.nil _ _
end Go.Proofs.Ytfpkiimlaepnhaa
/-
  RENDERA: paint.Pass in one; lists of lists of numbers in memory; the images of frame.Render, by number.
-/
namespace Go.Proofs.Ytfpkiimlaepnhaa
set_option maxRecDepth 100000
open Go.RowKit Im

/-- paint.Pass. -/
theorem paint_any {Op : Int} (To A B : Int) {K : Int} {la : Option Addr} {ll : Nat} (lc : Nat) {ls : List Lt} (zw zh : Int) {fa : Option Addr} {flen : Nat} (fcap : Nat) {fr : List Res} {bi : Nat} {w : World} (hk : knownB Op = true) (hL : Lights w la ll ls) (hI : Imgs bi w fa flen fr) (hA : hasA Op = true → 1 ≤ flen) (hB : hasB Op = true → 2 ≤ flen) :
    Calls Try.prog 89 #[.agg #[.int .i64 Op, .int .i64 To, .int .i64 A, .int .i64 B, .int .i64 K, .slice la ll lc], .agg #[.int .i64 zw, .int .i64 zh], .slice fa flen fcap] w (Told w (paintRes ⟨Op, To, A, B, K, ls⟩ (zw, zh) fr)) := by
  by_cases h12 : Op = 1 ∨ Op = 2
  · refine paint_make Op To A B K la ll lc zw zh fa flen fcap w h12 ?_
    unfold paintRes
    rw [if_pos h12]
  · have hA1 : hasA Op = true := by simp [knownB, withinB] at hk; simp [hasA, withinB]; omega
    have hfl := hA hA1
    obtain ⟨b, off, pa, pc, rfl, hb, d0, d1, d2, hi⟩ := hI.nth (k := 0) (by omega)
    rw [Nat.zero_mul, Nat.add_zero] at d0 d1 d2
    by_cases hB1 : hasB Op = true
    · have hf2 := hB hB1
      obtain ⟨b', off', qa, qc, e, _, g0, g1, g2, hj⟩ := hI.nth (k := 1) (by omega)
      injection e with e
      injection e with e1 e2
      subst e1 e2
      rw [Nat.one_mul] at g0 g1 g2
      have hop : Op = 4 ∨ Op = 5 ∨ Op = 6 ∨ Op = 7 := by simp [hasB, withinB] at hB1; omega
      refine paint_two Op To A B K la ll lc zw zh flen fcap w hop b off hb (by omega) (by omega) _ _ pa pc _ d0 d1 d2 (hi.mono (Nat.zero_le _)) _ _ qa qc _ g0 g1 g2 (hj.mono (Nat.zero_le _)) ?_
      unfold paintRes
      rw [if_neg h12, if_pos hB1]
    · by_cases h13 : Op = 13
      · subst h13
        refine paint_lit To A B K la ll lc ls zw zh flen fcap w hL b off hb (by omega) _ _ pa pc _ d0 d1 d2 (hi.mono (Nat.zero_le _)) ?_
        unfold paintRes
        rw [if_neg h12, if_neg hB1, if_pos rfl]
      · have hop : Op = 3 ∨ Op = 8 ∨ Op = 9 ∨ Op = 10 ∨ Op = 11 ∨ Op = 12 := by simp [hasA, withinB] at hA1; simp [hasB, withinB] at hB1; omega
        refine paint_one Op To A B K la ll lc zw zh flen fcap w hop b off hb (by omega) _ _ pa pc _ d0 d1 d2 (hi.mono (Nat.zero_le _)) ?_
        unfold paintRes
        rw [if_neg h12, if_neg hB1, if_neg h13]
/-- A slice's elements are the lists of numbers ss. -/
structure LLs (w : World) (a : Option Addr) (len : Nat) (ss : List (List Int)) : Prop where
  leng : ss.length = len
  cells : ss = [] ∨ ∃ b off, a = some ⟨b, off, none⟩ ∧ b < w.heap.size ∧ ∀ j, j < len → ∃ ua uc, w.cell? ⟨b, off + j, none⟩ = some (.slice ua (ss.getD j []).length uc) ∧ Ints 0 w ua (ss.getD j []).length (ss.getD j [])
theorem LLs.below {w w' : World} {a : Option Addr} {len : Nat} {ss : List (List Int)} (h : LLs w a len ss) (hb : Below w.heap.size w w') : LLs w' a len ss := by
  refine ⟨h.leng, ?_⟩
  rcases h.cells with e | ⟨b, off, ha, hl, hc⟩
  · exact .inl e
  · refine .inr ⟨b, off, ha, Nat.lt_of_lt_of_le hl hb.size, fun j hj => ?_⟩
    obtain ⟨ua, uc, c0, hi⟩ := hc j hj
    exact ⟨ua, uc, (hb.cell (p := ⟨b, off + j, none⟩) hl).trans c0, hi.below (Nat.le_refl _) hb⟩
theorem LLs.nth {w : World} {a : Option Addr} {len : Nat} {ss : List (List Int)} (h : LLs w a len ss) {k : Nat} (hk : k < len) : ∃ b off ua uc, a = some ⟨b, off, none⟩ ∧ b < w.heap.size ∧ w.cell? ⟨b, off + k, none⟩ = some (.slice ua (ss.getD k []).length uc) ∧ Ints 0 w ua (ss.getD k []).length (ss.getD k []) := by
  rcases h.cells with e | ⟨b, off, ha, hl, hc⟩
  · have := h.leng; subst e; simp at this; omega
  · obtain ⟨ua, uc, r⟩ := hc k hk
    exact ⟨b, off, ua, uc, ha, hl, r⟩
theorem OwnsLL.lls {base : Nat} {w : World} {v : Value} {ss : List (List Int)} (h : OwnsLL base w v ss) (hs : ∀ x ∈ ss, x.length ≤ 2) : ∃ a cap, v = .slice a ss.length cap ∧ LLs w a ss.length ss := by
  obtain ⟨us, h1, h2, h3⟩ := h
  obtain ⟨g1, g2⟩ := id h1
  rcases g2 with ⟨rfl, h0⟩ | ⟨g, cap, cur, rfl, hg, hh, hc, hm, hs', ht⟩
  · have : ss = [] := by simpa using h0
    subst this
    exact ⟨none, 0, rfl, rfl, .inl rfl⟩
  · refine ⟨_, cap, rfl, rfl, .inr ⟨g, 0, rfl, ?_, fun j hj => ?_⟩⟩
    · rcases Nat.lt_or_ge g w.heap.size with h | h
      · exact h
      · rw [Array.getElem?_eq_none h] at hh; cases hh
    · obtain ⟨u, hu, ho⟩ := h3 j (ss.getD j []) (by rw [List.getD_eq_getElem?_getD, List.getElem?_eq_getElem hj]; rfl)
      have hl := hs _ (getD_mem hj [])
      obtain ⟨ua, uc, rfl, hi⟩ := ho.ints (by omega)
      refine ⟨ua, uc, ?_, hi.mono (Nat.zero_le _)⟩
      rw [Nat.zero_add, World.ownsRow.cellAt h1 j (by omega)]
      exact hu
/-- The images by number, in the block bI; their numbers lie behind it. -/
structure ImB (w : World) (bI n : Nat) (g : Nat → Res) : Prop where
  lt : bI < w.heap.size
  cells : ∀ j, j < n → ∃ pa cap, w.cell? ⟨bI, 0 + j * 3, none⟩ = some (.int .i64 (g j).W) ∧ w.cell? ⟨bI, 0 + j * 3 + 1, none⟩ = some (.int .i64 (g j).H) ∧ w.cell? ⟨bI, 0 + j * 3 + 2, none⟩ = some (.slice pa (g j).ps.length cap) ∧ Ints (bI + 1) w pa (g j).ps.length (g j).ps
  froz : ∀ o, w.frozen? ⟨bI, o, none⟩ = false
theorem ImB.below {w w' : World} {bI n : Nat} {g : Nat → Res} (h : ImB w bI n g) (hb : Below w.heap.size w w') : ImB w' bI n g := by
  refine ⟨Nat.lt_of_lt_of_le h.lt hb.size, fun j hj => ?_, fun o => (hb.frozen (p := ⟨bI, o, none⟩) h.lt).trans (h.froz o)⟩
  obtain ⟨pa, cap, c0, c1, c2, hi⟩ := h.cells j hj
  exact ⟨pa, cap, (hb.cell (p := ⟨bI, 0 + j * 3, none⟩) h.lt).trans c0, (hb.cell (p := ⟨bI, 0 + j * 3 + 1, none⟩) h.lt).trans c1, (hb.cell (p := ⟨bI, 0 + j * 3 + 2, none⟩) h.lt).trans c2, hi.below (Nat.le_refl _) hb⟩
theorem ImB.imgs {w : World} {bI n : Nat} {g : Nat → Res} (h : ImB w bI n g) (hn : n ≤ 12) : Imgs (bI + 1) w (some ⟨bI, 0, none⟩) n ((List.range n).map g) := by
  refine ⟨by simp, by omega, .inr ⟨bI, 0, rfl, h.lt, fun j hj => ?_⟩⟩
  have e : ((List.range n).map g).getD j (noRes 0) = g j := by simp [List.getD_eq_getElem?_getD, hj]
  rw [e]
  exact h.cells j hj
theorem ImB.put {w : World} {bI n : Nat} {g g' : Nat → Res} (h : ImB w bI n g) (m : Nat) (r : Res) (ra : Option Addr) (rc : Nat) (hm : m < n) (hi : Ints (bI + 1) w ra r.ps.length r.ps) (hg : ∀ j, j < n → g' j = if m = j then r else g j) :
    ImB (((w.setCell ⟨bI, 0 + m * 3, none⟩ (.int .i64 r.W)).setCell ⟨bI, 0 + m * 3 + 1, none⟩ (.int .i64 r.H)).setCell ⟨bI, 0 + m * 3 + 2, none⟩ (.slice ra r.ps.length rc)) bI n g' := by
  refine ⟨by simpa using h.lt, fun j hj => ?_, fun o => by simpa using h.froz o⟩
  rw [hg j hj]
  by_cases e : m = j
  · subst e
    rw [if_pos rfl]
    obtain ⟨pa, cap, c0, c1, c2, _⟩ := h.cells m hm
    refine ⟨ra, rc, ?_, ?_, ?_, ((hi.setCell (by simp) _).setCell (by simp) _).setCell (by simp) _⟩
    · rw [set_other _ (fun e => by injection e with e1 e2; omega), set_other _ (fun e => by injection e with e1 e2; omega)]; exact set_same c0
    · rw [set_other _ (fun e => by injection e with e1 e2; omega)]; exact set_same ((set_other _ (fun e => by injection e with e1 e2; omega)).trans c1)
    · exact set_same ((set_other _ (fun e => by injection e with e1 e2; omega)).trans ((set_other _ (fun e => by injection e with e1 e2; omega)).trans c2))
  · rw [if_neg e]
    obtain ⟨pa, cap, c0, c1, c2, hi'⟩ := h.cells j hj
    refine ⟨pa, cap, ?_, ?_, ?_, ((hi'.setCell (by simp) _).setCell (by simp) _).setCell (by simp) _⟩
    all_goals rw [set_other _ (fun e => by injection e with e1 e2; omega), set_other _ (fun e => by injection e with e1 e2; omega), set_other _ (fun e => by injection e with e1 e2; omega)]
    · exact c0
    · exact c1
    · exact c2
theorem ImB.made {w : World} {base b N cap : Nat} (h : w.ownsRow base 24 3 (.slice (some ⟨b, 0, none⟩) N cap) N (madeCells (Value.agg #[.int .i64 0, .int .i64 0, .slice none 0 0]).cells (N * 3)).toList) (hb : b < w.heap.size) : ImB w b N (fun _ => noRes 0) := by
  have hc : ∀ j, j < N * 3 → w.cell? ⟨b, j, none⟩ = some ((#[Value.int .i64 0, Value.int .i64 0, Value.slice none 0 0] : Array Value)[j % 3]!) := by
    intro j hj
    rw [World.ownsRow.cellAt h j hj]
    have e : (Value.agg #[.int .i64 0, .int .i64 0, .slice none 0 0]).cells = #[.int .i64 0, .int .i64 0, .slice none 0 0] := rfl
    rw [e]
    simp only [madeCells, Array.toList_map, Array.toList_range, List.getElem?_map, List.getElem?_range hj, Option.map_some]
    rfl
  refine ⟨hb, fun m hm => ⟨none, 0, ?_, ?_, ?_, Ints.nil _ _⟩, fun o => World.ownsRow.frozenAt h o⟩
  · rw [hc _ (by omega), show (0 + m * 3) % 3 = 0 by omega]; rfl
  · rw [hc _ (by omega), show (0 + m * 3 + 1) % 3 = 1 by omega]; rfl
  · rw [hc _ (by omega), show (0 + m * 3 + 2) % 3 = 2 by omega]; rfl
theorem pick_range {rs : List Res} {n : Nat} {is : List Int} (hi : ∀ i ∈ is, 0 ≤ i ∧ i < n) : pickR ((List.range n).map fun j => rs.getD j (noRes 0)) is = pickR rs is := by
  unfold pickR
  refine List.map_congr_left fun i h => ?_
  have := hi i h
  have hlt : i.toNat < n := by omega
  simp [List.getD_eq_getElem?_getD, hlt]
end Go.Proofs.Ytfpkiimlaepnhaa
/-
  LIGHTREF: the reference's CheckLights, far and LightAt.
-/
namespace Go.Proofs.Ytfpkiimlaepnhaa
set_option maxRecDepth 100000
open Go.RowKit Im

theorem rightW (l : Lt) : rightB l = (withinB l.X 0 15 && withinB l.Y 0 15 && withinB l.R 1 32 && withinB l.P 0 65535) := by
  rw [Bool.eq_iff_iff, right_iff]; simp [withinB]; omega
theorem checkR_many (a : Option Addr) (len cap : Nat) (w : World) (h : 8 < len) (_hb : len ≤ 9223372036854775807) : Calls Try.prog 31 #[.slice a len cap] w fun e w' => e = .returned (.int .i64 2) ∧ Below w.heap.size w w' := by
  have h' : (8 : Int) < (len : Int) := by omega
  go_enter Try.func31, Try.ntmps31
  go_wp2
  go_ret
  exact ⟨rfl, Below.refl _ _⟩
theorem checkR_nil (a : Option Addr) (cap : Nat) (w : World) : Calls Try.prog 31 #[.slice a 0 cap] w fun e w' => e = .returned (.int .i64 0) ∧ Below w.heap.size w w' := by
  go_enter Try.func31, Try.ntmps31
  go_wp2
  go_loop [3] (fun i => i = .int .i64 0) (fun _ => 0)
  case atStart => rfl
  case round =>
    subst hrel
    go_wp2
    go_ret
    exact ⟨rfl, Below.refl _ _⟩
set_option maxHeartbeats 1000000 in
theorem checkR_row (b off len cap : Nat) (ls : List Lt) (w : World) (hl : ls.length = len) (h8 : len ≤ 8) (hc : ∀ j, j < len → w.cell? ⟨b, off + j * 4, none⟩ = some (.int .i64 (ls.getD j Lt.zero).X) ∧ w.cell? ⟨b, off + j * 4 + 1, none⟩ = some (.int .i64 (ls.getD j Lt.zero).Y) ∧ w.cell? ⟨b, off + j * 4 + 2, none⟩ = some (.int .i64 (ls.getD j Lt.zero).R) ∧ w.cell? ⟨b, off + j * 4 + 3, none⟩ = some (.int .i64 (ls.getD j Lt.zero).P)) :
    Calls Try.prog 31 #[.slice (some ⟨b, off, none⟩) len cap] w fun e w' => e = .returned (.int .i64 (okIf (ls.all rightB) 3)) ∧ Below w.heap.size w w' := by
  have h8' : ¬ (8 : Int) < (len : Int) := by omega
  go_enter Try.func31, Try.ntmps31
  go_wp2
  go_loop [3] (fun i => ∃ k : Nat, k ≤ len ∧ i = .int .i64 k ∧ (ls.take k).all rightB = true) (fun i => len - (intOf i).toNat)
  case atStart => exact ⟨0, Nat.zero_le _, rfl, rfl⟩
  case round =>
    obtain ⟨k, hk, rfl, hall⟩ := hrel
    by_cases hlt : k < len
    · obtain ⟨c0, c1, c2, c3⟩ := hc k hlt
      have n1 := rall_succ ls k (by omega) hall
      have n2 := rall_not ls k (by omega)
      rw [rightW] at n1 n2
      generalize ls.getD k Lt.zero = l at c0 c1 c2 c3 n1 n2
      obtain ⟨X, Y, R, P⟩ := l
      dsimp only at c0 c1 c2 c3 n1 n2
      clear hc
      by_cases h1 : withinB X 0 15 = true
      · by_cases h2 : withinB Y 0 15 = true
        · by_cases h3 : withinB R 1 32 = true
          · by_cases h4 : withinB P 0 65535 = true
            · have hx := n1 (by rw [h1, h2, h3, h4]; rfl)
              clear n1 n2
              go_wp2_with (go_at_call 61; refine (within_any _ _ _ _).mono ?_; rintro e w' ⟨rfl, rfl⟩)
              go_round
              case rel => exact ⟨k + 1, by omega, by go_num, hx⟩
              case measure => simp [intOf]; omega
            · have h4' := eq_false_of_ne_true h4
              have hx := n2 (by rw [h1, h2, h3, h4']; rfl)
              clear n1 n2
              go_wp2_with (go_at_call 61; refine (within_any _ _ _ _).mono ?_; rintro e w' ⟨rfl, rfl⟩)
              go_ret
              exact ⟨by first | rfl | (rw [hx]; rfl), Below.refl _ _⟩
          · have h3' := eq_false_of_ne_true h3
            have hx := n2 (by rw [h1, h2, h3']; rfl)
            clear n1 n2
            go_wp2_with (go_at_call 61; refine (within_any _ _ _ _).mono ?_; rintro e w' ⟨rfl, rfl⟩)
            go_ret
            exact ⟨by first | rfl | (rw [hx]; rfl), Below.refl _ _⟩
        · have h2' := eq_false_of_ne_true h2
          have hx := n2 (by rw [h1, h2']; rfl)
          clear n1 n2
          go_wp2_with (go_at_call 61; refine (within_any _ _ _ _).mono ?_; rintro e w' ⟨rfl, rfl⟩)
          go_ret
          exact ⟨by first | rfl | (rw [hx]; rfl), Below.refl _ _⟩
      · have h1' := eq_false_of_ne_true h1
        have hx := n2 (by rw [h1']; rfl)
        clear n1 n2
        go_wp2_with (go_at_call 61; refine (within_any _ _ _ _).mono ?_; rintro e w' ⟨rfl, rfl⟩)
        go_ret
        exact ⟨by first | rfl | (rw [hx]; rfl), Below.refl _ _⟩
    · have hx : ls.all rightB = true := by rw [List.take_of_length_le (by omega)] at hall; exact hall
      go_wp2
      go_ret
      exact ⟨by first | rfl | (rw [hx]; rfl), Below.refl _ _⟩
/-- The reference's CheckLights. -/
theorem checkR_any {a : Option Addr} {len : Nat} (cap : Nat) {ls : List Lt} {w : World} (h : Lights w a len ls) : Calls Try.prog 31 #[.slice a len cap] w fun e w' => e = .returned (.int .i64 (lightsErr ls)) ∧ Below w.heap.size w w' := by
  have hl := h.leng
  by_cases h8 : ls.length ≤ 8
  · have e : lightsErr ls = okIf (ls.all rightB) 3 := by simp [lightsErr, h8]
    rw [e]
    rcases h.cells with e | ⟨b, off, rfl, hb, hc⟩
    · subst e
      have : len = 0 := by simpa using hl.symm
      subst this
      exact checkR_nil a cap w
    · exact checkR_row b off len cap ls w hl (by omega) hc
  · have e : lightsErr ls = 2 := by simp [lightsErr, h8]
    rw [e]
    exact checkR_many a len cap w (by omega) h.big

theorem abs_any (n m : Int) (w : World) (hn : -100 ≤ n ∧ n ≤ 100) (hm : max n (-n) = m) : Calls Try.prog 105 #[.int .i64 n] w fun e w' => e = .returned (.int .i64 m) ∧ w' = w := by
  have h : (if n < -n then -n else n) = m := by rw [← hm]; split <;> omega
  clear hm
  go_enter Try.func105, Try.ntmps105
  go_wp2
  go_ret
  exact ⟨rfl, rfl⟩
/-- The reference's far: the distance. -/
theorem far_any (l : Lt) (x y : Int) (w : World) (hl : rightB l = true) (hx : 0 ≤ x ∧ x < 16) (hy : 0 ≤ y ∧ y < 16) :
    Calls Try.prog 76 #[.agg #[.int .i64 l.X, .int .i64 l.Y, .int .i64 l.R, .int .i64 l.P], .int .i64 x, .int .i64 y] w fun e w' => e = .returned (.int .i64 (awayP l.X x 1 + awayP l.Y y 1)) ∧ Below w.heap.size w w' := by
  obtain ⟨hX, hY, hR, hP⟩ := (right_iff l).1 hl
  have c1 := fun wx => abs_any (l.X - x) (awayP l.X x 1) wx (by omega) (by unfold awayP; omega)
  have c2 := fun wx => abs_any (l.Y - y) (awayP l.Y y 1) wx (by omega) (by unfold awayP; omega)
  have a1 := away_bd l.X x 1 hX hx (by omega)
  have a2 := away_bd l.Y y 1 hY hy (by omega)
  generalize awayP l.X x 1 = d1 at *
  generalize awayP l.Y y 1 = d2 at *
  obtain ⟨X, Y, R, P⟩ := l
  dsimp only at *
  clear hl
  go_enter Try.func76, Try.ntmps76
  go_wp2
  go_quiet ((first | (go_at_call 105; with_reducible exact Calls.quiet_of_same (c1 _)) | (go_at_call 105; with_reducible exact Calls.quiet_of_same (c2 _))))
  clear c1 c2
  go_wp2
  go_ret
  exact ⟨rfl, below_drewN ((Below.refl _ _).alloc (Nat.le_refl _) _) _⟩
set_option maxHeartbeats 1000000 in
/-- The reference's LightAt, of right lights and a place. -/
theorem lightAt_any {a : Option Addr} {len : Nat} (cap : Nat) {ls : List Lt} (x y : Int) {w : World} (h : Lights w a len ls) (h8 : ls.length ≤ 8) (hr : ls.all rightB = true) (hx : 0 ≤ x ∧ x < 16) (hy : 0 ≤ y ∧ y < 16) :
    Calls Try.prog 32 #[.slice a len cap, .int .i64 x, .int .i64 y] w fun e w' => e = .returned (.int .i64 (sumG x y ls)) ∧ Below w.heap.size w w' := by
  have hl := h.leng
  rcases h.cells with e | ⟨b, off, rfl, hb, hcl⟩
  · subst e
    have : len = 0 := by simpa using hl.symm
    subst this
    go_enter Try.func32, Try.ntmps32
    go_wp2
    go_loop [7, 8] (fun s i => s = .int .i64 0 ∧ i = .int .i64 0) (fun _ _ => 0)
    case atStart => exact ⟨rfl, rfl⟩
    case round =>
      obtain ⟨rfl, rfl⟩ := hrel
      go_wp2
      go_ret
      exact ⟨rfl, Below.refl _ _⟩
  · go_enter Try.func32, Try.ntmps32
    go_wp2
    go_loopw [7, 8] (fun s i wr => ∃ k : Nat, k ≤ len ∧ i = .int .i64 k ∧ s = .int .i64 (sumG x y (ls.take k)) ∧ Below w.heap.size w wr) (fun _ i _ => len - (intOf i).toNat)
    case atStart => exact ⟨0, Nat.zero_le _, rfl, rfl, Below.refl _ _⟩
    case round =>
      obtain ⟨k, hk, rfl, rfl, hbr⟩ := hrel
      have sb := sumG_bd x y hx hy (ls.take k) (all_take ls k hr)
      have sl : (ls.take k).length ≤ 8 := by rw [List.length_take]; omega
      have sb2 : sumG x y (ls.take k) ≤ 65535 * 8 := by omega
      obtain ⟨sb1, _⟩ := sb
      by_cases hlt : k < len
      · have hcw := fun (w2 : World) (hb2 : Below w.heap.size w w2) => (show w2.cell? ⟨b, off + k * 4, none⟩ = some (.int .i64 (ls.getD k Lt.zero).X) ∧ w2.cell? ⟨b, off + k * 4 + 1, none⟩ = some (.int .i64 (ls.getD k Lt.zero).Y) ∧ w2.cell? ⟨b, off + k * 4 + 2, none⟩ = some (.int .i64 (ls.getD k Lt.zero).R) ∧ w2.cell? ⟨b, off + k * 4 + 3, none⟩ = some (.int .i64 (ls.getD k Lt.zero).P) from ⟨(hb2.cell (p := ⟨b, off + k * 4, none⟩) hb).trans (hcl k hlt).1, (hb2.cell (p := ⟨b, off + k * 4 + 1, none⟩) hb).trans (hcl k hlt).2.1, (hb2.cell (p := ⟨b, off + k * 4 + 2, none⟩) hb).trans (hcl k hlt).2.2.1, (hb2.cell (p := ⟨b, off + k * 4 + 3, none⟩) hb).trans (hcl k hlt).2.2.2⟩)
        have hrk := all_getD ls k (by omega) hr
        have hgv := fun wx => far_any (ls.getD k Lt.zero) x y wx hrk hx hy
        have hgb := given_bd hrk x y hx hy
        have g1 := given_pos (l := ls.getD k Lt.zero) (x := x) (y := y) rfl
        have g2 := given_zero (l := ls.getD k Lt.zero) (x := x) (y := y) rfl
        have hsn : Hid (sumG x y (ls.take (k + 1)) = sumG x y (ls.take k) + givenP (ls.getD k Lt.zero) x y) := by show _ = _; rw [take_snocL ls k (by omega), sumG_snoc]
        obtain ⟨hX, hY, hR, hP⟩ := (right_iff _).1 hrk
        have a1 := away_bd (ls.getD k Lt.zero).X x 1 hX hx (by omega)
        have a2 := away_bd (ls.getD k Lt.zero).Y y 1 hY hy (by omega)
        have ad : 0 ≤ awayP (ls.getD k Lt.zero).X x 1 + awayP (ls.getD k Lt.zero).Y y 1 ∧ awayP (ls.getD k Lt.zero).X x 1 + awayP (ls.getD k Lt.zero).Y y 1 ≤ 30 := by omega
        clear hrk a1 a2
        generalize awayP (ls.getD k Lt.zero).X x 1 + awayP (ls.getD k Lt.zero).Y y 1 = d at hgv g1 g2 ad
        generalize givenP (ls.getD k Lt.zero) x y = gv at hgb hsn g1 g2
        generalize ls.getD k Lt.zero = l at hcw hgv g1 g2 hX hY hR hP
        obtain ⟨X, Y, R, P⟩ := l
        dsimp only at hcw hgv g1 g2 hX hY hR hP
        obtain ⟨c0, c1, c2, c3⟩ := hcw wr hbr
        clear hcl
        by_cases hd : d < R
        · have hg := g1 hd
          have m1 : 0 ≤ P * (R - d) := Int.mul_nonneg hP.1 (by omega)
          have m2 : P * (R - d) ≤ 65535 * 32 := Int.mul_le_mul hP.2 (by omega) (by omega) (by omega)
          have hg' : P * (R - d) / R = gv := hg.symm
          clear g1 g2 hg
          go_wp2_with (go_at_call 76; refine (hgv _).mono ?_; rintro e w2 ⟨rfl, hb2⟩; have hbn := below_stepL hbr hb2; obtain ⟨z0, z1, z2, z3⟩ := hcw w2 hbn)
          go_quiet (fail)
          go_wp2
          go_roundw
          case rel => exact ⟨k + 1, by omega, by go_num, by rw [hsn.out], below_drewN hbn _⟩
          case measure => simp [intOf]; omega
        · have hg := g2 hd
          subst hg
          clear g1 g2
          go_wp2_with (go_at_call 76; refine (hgv _).mono ?_; rintro e w2 ⟨rfl, hb2⟩; have hbn := below_stepL hbr hb2; obtain ⟨z0, z1, z2, z3⟩ := hcw w2 hbn)
          go_roundw
          case rel => exact ⟨k + 1, by omega, by go_num, by rw [hsn.out, Int.add_zero], hbn⟩
          case measure => simp [intOf]; omega
      · have e : ls.take k = ls := List.take_of_length_le (by omega)
        go_wp2
        go_ret
        exact ⟨by first | rfl | (rw [e]; rfl), hbr⟩
end Go.Proofs.Ytfpkiimlaepnhaa
