/-
  TILESMATH: Lit and Near, each told by one answer; lights picked out of a list; what choose answers.
-/
import Derived.Test.YtfpkiimlaepnhaaLightBegun
import Derived.Test.YtfpkiimlaepnhaaRes
namespace Go.Proofs.Ytfpkiimlaepnhaa
set_option maxRecDepth 100000
open Go.RowKit Im

def litRes (W H : Int) (ps : List Int) (ls : List Lt) (tile : Int) : Res :=
  if fineB W H ps = true then
    if lightsErr ls = 0 then
      if 1 ≤ tile ∧ tile ≤ 16 then ⟨0, W, H, pix W.toNat (litG W.toNat ps ls) (W.toNat * H.toNat)⟩ else noRes 3
    else noRes (lightsErr ls)
  else noRes 1
theorem lit_told {W H : Int} {a : Option Addr} {len : Nat} (cap : Nat) {ps : List Int} {la : Option Addr} {llen : Nat} (lcap : Nat) {ls : List Lt} {tile : Int} {w : World} (h : Ints 0 w a len ps) (hl : Lights w la llen ls) {r : Res} (hr : litRes W H ps ls tile = r) :
    Calls Try.prog 37 #[.agg #[.int .i64 W, .int .i64 H, .slice a len cap], .slice la llen lcap, .int .i64 tile] w (Told w r) := by
  subst hr
  unfold litRes
  by_cases hf : fineB W H ps = true
  · rw [if_pos hf]
    obtain ⟨W', H', b, off, rfl, rfl, rfl, rfl, hF⟩ := fine_of h hf
    simp only [Int.toNat_natCast]
    by_cases hE : lightsErr ls = 0
    · rw [if_pos hE]
      by_cases ht : 1 ≤ tile ∧ tile ≤ 16
      · rw [if_pos ht]
        obtain ⟨tn, rfl⟩ := Int.eq_ofNat_of_zero_le (show 0 ≤ tile by omega)
        refine (lit_ok cap lcap tn hF hl hE (by omega)).mono fun e w' ⟨a, cap', he, hi, hb⟩ => ⟨a, cap', ?_, ?_, hb⟩
        · simp only [pix_length]; exact he
        · simp only [pix_length]; exact hi
      · rw [if_neg ht]
        exact (lit_range cap lcap tile hF hl hE (by omega)).mono fun e w' h => told_no h
    · rw [if_neg hE]
      exact (lit_lights cap lcap tile hF hl hE).mono fun e w' h => told_no h
  · rw [if_neg hf]
    exact (lit_form cap lcap tile h (eq_false_of_ne_true hf)).mono fun e w' h => told_no h

theorem pix_getD (W : Nat) (g : Nat → Nat → Int) (n i : Nat) (h : i < n) : (pix W g n).getD i 0 = g (i % W) (i / W) := by
  unfold pix
  simp [List.getD_eq_getElem?_getD, h]
/-- Tiles of either size give the same; and what is lit is not darker. -/
theorem litRes_same {W H : Int} {ps : List Int} {ls : List Lt} {one two : Int} (h1 : (litRes W H ps ls one).E = 0) (h2 : (litRes W H ps ls two).E = 0) :
    litRes W H ps ls one = litRes W H ps ls two ∧ ¬ ps = [] ∧ (litRes W H ps ls one).ps.length = ps.length ∧ ∀ i, i < ps.length → ps.getD i 0 ≤ (litRes W H ps ls one).ps.getD i 0 := by
  unfold litRes at h1 h2 ⊢
  by_cases hf : fineB W H ps = true
  · rw [if_pos hf] at h1 h2 ⊢
    rw [if_pos hf]
    by_cases hE : lightsErr ls = 0
    · rw [if_pos hE] at h1 h2 ⊢
      rw [if_pos hE]
      by_cases t1 : 1 ≤ one ∧ one ≤ 16
      · by_cases t2 : 1 ≤ two ∧ two ≤ 16
        · rw [if_pos t1, if_pos t2]
          obtain ⟨f1, f2, f3, f4⟩ := (fine_iff W H ps).1 hf
          obtain ⟨W', rfl⟩ := Int.eq_ofNat_of_zero_le (show 0 ≤ W by omega)
          obtain ⟨H', rfl⟩ := Int.eq_ofNat_of_zero_le (show 0 ≤ H by omega)
          simp only [Int.toNat_natCast, pix_length]
          have hl : ps.length = W' * H' := by exact_mod_cast f3
          have hpos : 0 < W' * H' := Nat.mul_pos (by omega) (by omega)
          refine ⟨trivial, fun e => by rw [e] at hl; simp at hl; omega, hl.symm, fun i hi => ?_⟩
          rw [pix_getD _ _ _ _ (by omega)]
          have hr := (lightsErr_zero hE).2
          have hx : i % W' < W' := Nat.mod_lt _ (by omega)
          have hy : i / W' < H' := Nat.div_lt_of_lt_mul (by omega)
          have hs := sumG_bd (i % W' : Nat) (i / W' : Nat) (by generalize i % W' = X at hx; omega) (by generalize i / W' = Y at hy; omega) ls hr
          have hn := f4 (ps.getD i 0) (by rw [List.getD_eq_getElem?_getD, List.getElem?_eq_getElem hi]; exact List.getElem_mem hi)
          have hp : px W' ps (i % W') (i / W') = ps.getD i 0 := by
            unfold px
            rw [Nat.mul_comm, Nat.div_add_mod]
          unfold litG
          rw [hp]
          omega
        · rw [if_neg t2] at h2; cases h2
      · rw [if_neg t1] at h1; cases h1
    · rw [if_neg hE] at h1; exact absurd h1 hE
  · rw [if_neg hf] at h1; cases h1

/-- Near, where it tells an error. -/
theorem near_bad {a : Option Addr} {len : Nat} (cap : Nat) {ls : List Lt} (x y pw ph : Int) {w : World} (h : Lights w a len ls) (hN : ¬ (lightsErr ls = 0 ∧ stretchB x pw = true ∧ stretchB y ph = true)) :
    ∃ E, (E != 0) = true ∧ Calls Try.prog 30 #[.slice a len cap, .int .i64 x, .int .i64 y, .int .i64 pw, .int .i64 ph] w fun e w' => e = .returned (.tuple #[.slice none 0 0, .int .i64 E]) ∧ Below w.heap.size w w' := by
  by_cases hE : lightsErr ls = 0
  · refine ⟨3, by decide, near_range cap x y pw ph h hE ?_⟩
    cases h1 : stretchB x pw <;> cases h2 : stretchB y ph <;> simp_all
  · exact ⟨lightsErr ls, by simpa using hE, near_error cap x y pw ph h hE⟩

/-- What choose answers. -/
def chooseV (c n : Int) : Int := (if c < 0 then -(c + 1) else c) % n
theorem chooseV_bd (c n : Int) (hn : 1 ≤ n) : 0 ≤ chooseV c n ∧ chooseV c n < n := ⟨Int.emod_nonneg _ (by omega), Int.emod_lt_of_pos _ (by omega)⟩
theorem choose_all (c n : Int) (w : World) (h0 : -9223372036854775808 ≤ c) (h1 : c ≤ 9223372036854775807) (hn : 1 ≤ n) : Calls Try.prog 28 #[.int .i64 c, .int .i64 n] w fun e w' => e = .returned (.int .i64 (chooseV c n)) ∧ w = w' := by
  have hz : ¬ n = 0 := by omega
  by_cases hc : c < 0
  · have e : chooseV c n = (-(c + 1)) % n := by simp [chooseV, hc]
    rw [e]
    obtain ⟨d, hd⟩ : ∃ d, -(c + 1) = d := ⟨_, rfl⟩
    rw [hd]
    have hp : 0 ≤ d := by omega
    have hq : d ≤ 9223372036854775807 := by omega
    clear e
    go_enter Try.func28, Try.ntmps28
    go_wp2
    go_ret
    exact ⟨rfl, rfl⟩
  · have e : chooseV c n = c % n := by simp [chooseV, hc]
    rw [e]
    go_enter Try.func28, Try.ntmps28
    go_wp2
    go_ret
    exact ⟨rfl, rfl⟩

/-- The lights of the first k numbers. -/
def selL (ls : List Lt) (qs : List Int) (k : Nat) : List Lt := (qs.take k).map fun i => ls.getD i.toNat Lt.zero
theorem selL_len (ls : List Lt) (qs : List Int) (k : Nat) (h : k ≤ qs.length) : (selL ls qs k).length = k := by simp [selL, h]
theorem selL_succ (ls : List Lt) (qs : List Int) (k : Nat) (h : k < qs.length) : selL ls qs (k + 1) = selL ls qs k ++ [ls.getD (qs.getD k 0).toNat Lt.zero] := by
  unfold selL
  rw [List.take_succ_eq_append_getElem h, List.map_append, List.getD_eq_getElem?_getD (l := qs), List.getElem?_eq_getElem h]
  rfl
theorem sumG_sel (x y : Int) (ls : List Lt) : ∀ qs : List Int, sumG x y (qs.map fun i => ls.getD i.toNat Lt.zero) = sumN x y ls qs
  | [] => rfl
  | i :: r => by simp only [List.map_cons, sumG, sumN, sumG_sel x y ls r]
/-- The lights that are near a part: they are right, and give to its places what all give. -/
theorem sel_near {ls : List Lt} (x y : Int) (pw ph : Nat) (hE : lightsErr ls = 0) :
    lightsErr (selL ls (pickL (nearB x y pw ph) ls ls.length) (pickL (nearB x y pw ph) ls ls.length).length) = 0 ∧
      ∀ r s : Nat, r < pw → s < ph → sumG (x + r) (y + s) (selL ls (pickL (nearB x y pw ph) ls ls.length) (pickL (nearB x y pw ph) ls ls.length).length) = sumG (x + r) (y + s) ls := by
  obtain ⟨h8, hr⟩ := lightsErr_zero hE
  have hlen := pickL_len (nearB x y pw ph) ls ls.length
  constructor
  · have hl := selL_len ls (pickL (nearB x y pw ph) ls ls.length) (pickL (nearB x y pw ph) ls ls.length).length (Nat.le_refl _)
    have hall : (selL ls (pickL (nearB x y pw ph) ls ls.length) (pickL (nearB x y pw ph) ls ls.length).length).all rightB = true := by
      rw [List.all_eq_true]
      intro l hl
      unfold selL at hl
      rw [List.take_length, List.mem_map] at hl
      obtain ⟨i, hi, rfl⟩ := hl
      unfold pickL at hi
      simp only [List.mem_map, List.mem_filter, List.mem_range] at hi
      obtain ⟨m, ⟨h1, _⟩, rfl⟩ := hi
      exact all_getD ls m h1 hr
    unfold lightsErr
    rw [if_pos (by omega), hall]
    rfl
  · intro r s hr' hs
    unfold selL
    rw [List.take_length, sumG_sel, sumN_pick (x + r) (y + s) (nearB x y pw ph) ls ls.length (Nat.le_refl _) (fun k _ hk => not_near x y pw ph r s hr' hs hk), List.take_length]

/-- Lights' cells, one after another. -/
def lcells : List Lt → List Value
  | [] => []
  | l :: r => .int .i64 l.X :: .int .i64 l.Y :: .int .i64 l.R :: .int .i64 l.P :: lcells r
theorem lcells_len : ∀ ls, (lcells ls).length = ls.length * 4
  | [] => rfl
  | l :: r => by simp only [lcells, List.length_cons, lcells_len r]; omega
theorem lcells_snoc (l : Lt) : ∀ ls, lcells (ls ++ [l]) = lcells ls ++ [.int .i64 l.X, .int .i64 l.Y, .int .i64 l.R, .int .i64 l.P]
  | [] => rfl
  | m :: r => by simp only [List.cons_append, lcells, lcells_snoc l r]
theorem lcells_get : ∀ (ls : List Lt) (j : Nat), j < ls.length → (lcells ls)[j * 4]? = some (.int .i64 (ls.getD j Lt.zero).X) ∧ (lcells ls)[j * 4 + 1]? = some (.int .i64 (ls.getD j Lt.zero).Y) ∧ (lcells ls)[j * 4 + 2]? = some (.int .i64 (ls.getD j Lt.zero).R) ∧ (lcells ls)[j * 4 + 3]? = some (.int .i64 (ls.getD j Lt.zero).P)
  | [], j, h => by simp at h
  | l :: r, 0, _ => by simp [lcells]
  | l :: r, j + 1, h => by
    have ih := lcells_get r j (by simpa using h)
    have e0 : ∀ t, (lcells (l :: r))[t + 4]? = (lcells r)[t]? := fun t => by simp [lcells]
    rw [show (j + 1) * 4 = j * 4 + 4 by omega, show j * 4 + 4 + 1 = j * 4 + 1 + 4 by omega, show j * 4 + 4 + 2 = j * 4 + 2 + 4 by omega, show j * 4 + 4 + 3 = j * 4 + 3 + 4 by omega, e0, e0, e0, e0]
    exact ih
/-- A slice of the call's own that holds the lights ls. -/
def OwnsL (base : Nat) (w : World) (v : Value) (ls : List Lt) : Prop := w.ownsRow base 59 4 v ls.length (lcells ls)
theorem OwnsL.lights {base : Nat} {w : World} {v : Value} {ls : List Lt} (h : OwnsL base w v ls) (hb : ls.length ≤ 8) : ∃ a cap, v = .slice a ls.length cap ∧ Lights w a ls.length ls := by
  obtain ⟨h1, h2⟩ := h
  rcases h2 with ⟨rfl, h0⟩ | ⟨g, cap, cur, rfl, hg, hh, hc, hm, hs, ht⟩
  · have : ls = [] := by simpa using h0
    subst this
    exact ⟨none, 0, rfl, rfl, by simp, .inl rfl⟩
  · refine ⟨_, cap, rfl, rfl, by omega, .inr ⟨g, 0, rfl, ?_, fun j hj => ?_⟩⟩
    · rcases Nat.lt_or_ge g w.heap.size with h | h
      · exact h
      · rw [Array.getElem?_eq_none h] at hh; cases hh
    · have hl := lcells_len ls
      have hg4 := lcells_get ls j hj
      have this := fun i hi => World.ownsRow.cellAt (base := base) (e := 59) (size := 4) ⟨h1, .inr ⟨g, cap, cur, rfl, hg, hh, hc, hm, hs, ht⟩⟩ i hi
      rw [Nat.zero_add]
      exact ⟨(this (j * 4) (by omega)).trans hg4.1, (this (j * 4 + 1) (by omega)).trans hg4.2.1, (this (j * 4 + 2) (by omega)).trans hg4.2.2.1, (this (j * 4 + 3) (by omega)).trans hg4.2.2.2⟩
theorem OwnsL.push {base : Nat} {w wx w1 : World} {v v' : Value} {ls : List Lt} {l : Lt} {B0 : World} {o : Obj} (h : OwnsL base w v ls) (hb : Below base B0 w) (hB : base ≤ w.heap.size)
    (h' : w1.ownsRow base 59 4 v' (ls.length + 1) (lcells ls ++ [.int .i64 l.X, .int .i64 l.Y, .int .i64 l.R, .int .i64 l.P])) (hx : wx = w.alloc o) (hg : wx.grownBy w1 v.ownBlock) : OwnsL base w1 v' (ls ++ [l]) ∧ Below base B0 w1 := by
  subst hx
  refine ⟨by unfold OwnsL; rw [lcells_snoc]; simpa using h', ?_⟩
  exact (hb.alloc hB o).grown hg (by simp; omega) (fun j hj => (World.ownsRow.lt (w := w) h j hj).1)
theorem Try.infoLight : (Try.prog.info? 59).map (fun i => (i.zero, i.size, i.bytes)) = some (some (.agg #[.int .i64 0, .int .i64 0, .int .i64 0, .int .i64 0]), 4, 32) := by kernel_rfl
theorem cell_four_new (w : World) (v0 v1 v2 v3 : Value) (t : TypeId) : ∀ (j : Nat) (u : Value), [v0, v1, v2, v3][j]? = some u → (w.alloc (.cells #[v0, v1, v2, v3] t)).cell? ((⟨w.heap.size, 0, none⟩ : Addr).add j) = some u := by
  intro j u h
  have hj : j < 4 := by
    rcases Nat.lt_or_ge j 4 with h4 | h4
    · exact h4
    · rw [List.getElem?_eq_none (by simpa using h4)] at h; cases h
  match j, hj with
  | 0, _ => simp at h; subst h; simp [go_sem]
  | 1, _ => simp at h; subst h; simp [go_sem]
  | 2, _ => simp at h; subst h; simp [go_sem]
  | 3, _ => simp at h; subst h; simp [go_sem]
end Go.Proofs.Ytfpkiimlaepnhaa
