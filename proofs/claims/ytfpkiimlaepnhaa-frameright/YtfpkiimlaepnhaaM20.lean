/- TilesMath, Pics: joined, in this order. -/
import Derived.Test.YtfpkiimlaepnhaaM11
import Derived.Test.YtfpkiimlaepnhaaM19
import Derived.Test.YtfpkiimlaepnhaaM03
/-
  TILESMATH: Lit and Near, each told by one answer; lights picked out of a list; what choose answers.
-/
namespace Go.Proofs.Ytfpkiimlaepnhaa
set_option maxRecDepth 100000
open Go.RowKit Im

def litRes (W H : Int) (ps : List Int) (ls : List Lt) (tile : Int) : Res :=
  if fineB W H ps = true then
    if lightsErr ls = 0 then
      if 1 ≤ tile ∧ tile ≤ 16 then ⟨0, W, H, pix W.toNat (litG W.toNat ps ls) (W.toNat * H.toNat)⟩ else noRes 3
    else noRes (lightsErr ls)
  else noRes 1
theorem lit_told {W H : Int} {a : Option Addr} {len : Nat} (cap : Nat) {ps : List Int} {la : Option Addr} {llen : Nat} (lcap : Nat) {ls : List Lt} {tile : Int} {w : World} (h : Ints 0 w a len ps) (hl : Lights w la llen ls) {r : Res} (hr : litRes W H ps ls tile = r) :
    Calls Try.prog 37 #[.agg #[.int .i64 W, .int .i64 H, .slice a len cap], .slice la llen lcap, .int .i64 tile] w (Told w r) := by
  subst hr
  unfold litRes
  by_cases hf : fineB W H ps = true
  · rw [if_pos hf]
    obtain ⟨W', H', b, off, rfl, rfl, rfl, rfl, hF⟩ := fine_of h hf
    simp only [Int.toNat_natCast]
    by_cases hE : lightsErr ls = 0
    · rw [if_pos hE]
      by_cases ht : 1 ≤ tile ∧ tile ≤ 16
      · rw [if_pos ht]
        obtain ⟨tn, rfl⟩ := Int.eq_ofNat_of_zero_le (show 0 ≤ tile by omega)
        refine (lit_ok cap lcap tn hF hl hE (by omega)).mono fun e w' ⟨a, cap', he, hi, hb⟩ => ⟨a, cap', ?_, ?_, hb⟩
        · simp only [pix_length]; exact he
        · simp only [pix_length]; exact hi
      · rw [if_neg ht]
        exact (lit_range cap lcap tile hF hl hE (by omega)).mono fun e w' h => told_no h
    · rw [if_neg hE]
      exact (lit_lights cap lcap tile hF hl hE).mono fun e w' h => told_no h
  · rw [if_neg hf]
    exact (lit_form cap lcap tile h (eq_false_of_ne_true hf)).mono fun e w' h => told_no h

theorem pix_getD (W : Nat) (g : Nat → Nat → Int) (n i : Nat) (h : i < n) : (pix W g n).getD i 0 = g (i % W) (i / W) := by
  unfold pix
  simp [List.getD_eq_getElem?_getD, h]
/-- Tiles of either size give the same; and what is lit is not darker. -/
theorem litRes_same {W H : Int} {ps : List Int} {ls : List Lt} {one two : Int} (h1 : (litRes W H ps ls one).E = 0) (h2 : (litRes W H ps ls two).E = 0) :
    litRes W H ps ls one = litRes W H ps ls two ∧ ¬ ps = [] ∧ (litRes W H ps ls one).ps.length = ps.length ∧ ∀ i, i < ps.length → ps.getD i 0 ≤ (litRes W H ps ls one).ps.getD i 0 := by
  unfold litRes at h1 h2 ⊢
  by_cases hf : fineB W H ps = true
  · rw [if_pos hf] at h1 h2 ⊢
    rw [if_pos hf]
    by_cases hE : lightsErr ls = 0
    · rw [if_pos hE] at h1 h2 ⊢
      rw [if_pos hE]
      by_cases t1 : 1 ≤ one ∧ one ≤ 16
      · by_cases t2 : 1 ≤ two ∧ two ≤ 16
        · rw [if_pos t1, if_pos t2]
          obtain ⟨f1, f2, f3, f4⟩ := (fine_iff W H ps).1 hf
          obtain ⟨W', rfl⟩ := Int.eq_ofNat_of_zero_le (show 0 ≤ W by omega)
          obtain ⟨H', rfl⟩ := Int.eq_ofNat_of_zero_le (show 0 ≤ H by omega)
          simp only [Int.toNat_natCast, pix_length]
          have hl : ps.length = W' * H' := by exact_mod_cast f3
          have hpos : 0 < W' * H' := Nat.mul_pos (by omega) (by omega)
          refine ⟨trivial, fun e => by rw [e] at hl; simp at hl; omega, hl.symm, fun i hi => ?_⟩
          rw [pix_getD _ _ _ _ (by omega)]
          have hr := (lightsErr_zero hE).2
          have hx : i % W' < W' := Nat.mod_lt _ (by omega)
          have hy : i / W' < H' := Nat.div_lt_of_lt_mul (by omega)
          have hs := sumG_bd (i % W' : Nat) (i / W' : Nat) (by generalize i % W' = X at hx; omega) (by generalize i / W' = Y at hy; omega) ls hr
          have hn := f4 (ps.getD i 0) (by rw [List.getD_eq_getElem?_getD, List.getElem?_eq_getElem hi]; exact List.getElem_mem hi)
          have hp : px W' ps (i % W') (i / W') = ps.getD i 0 := by
            unfold px
            rw [Nat.mul_comm, Nat.div_add_mod]
          unfold litG
          rw [hp]
          omega
        · rw [if_neg t2] at h2; cases h2
      · rw [if_neg t1] at h1; cases h1
    · rw [if_neg hE] at h1; exact absurd h1 hE
  · rw [if_neg hf] at h1; cases h1

/-- Near, where it tells an error. -/
theorem near_bad {a : Option Addr} {len : Nat} (cap : Nat) {ls : List Lt} (x y pw ph : Int) {w : World} (h : Lights w a len ls) (hN : ¬ (lightsErr ls = 0 ∧ stretchB x pw = true ∧ stretchB y ph = true)) :
    ∃ E, (E != 0) = true ∧ Calls Try.prog 30 #[.slice a len cap, .int .i64 x, .int .i64 y, .int .i64 pw, .int .i64 ph] w fun e w' => e = .returned (.tuple #[.slice none 0 0, .int .i64 E]) ∧ Below w.heap.size w w' := by
  by_cases hE : lightsErr ls = 0
  · refine ⟨3, by decide, near_range cap x y pw ph h hE ?_⟩
    cases h1 : stretchB x pw <;> cases h2 : stretchB y ph <;> simp_all
  · exact ⟨lightsErr ls, by simpa using hE, near_error cap x y pw ph h hE⟩

/-- What choose answers. -/
def chooseV (c n : Int) : Int := (if c < 0 then -(c + 1) else c) % n
theorem chooseV_bd (c n : Int) (hn : 1 ≤ n) : 0 ≤ chooseV c n ∧ chooseV c n < n := ⟨Int.emod_nonneg _ (by omega), Int.emod_lt_of_pos _ (by omega)⟩
theorem choose_all (c n : Int) (w : World) (h0 : -9223372036854775808 ≤ c) (h1 : c ≤ 9223372036854775807) (hn : 1 ≤ n) : Calls Try.prog 28 #[.int .i64 c, .int .i64 n] w fun e w' => e = .returned (.int .i64 (chooseV c n)) ∧ w = w' := by
  have hz : ¬ n = 0 := by omega
  by_cases hc : c < 0
  · have e : chooseV c n = (-(c + 1)) % n := by simp [chooseV, hc]
    rw [e]
    obtain ⟨d, hd⟩ : ∃ d, -(c + 1) = d := ⟨_, rfl⟩
    rw [hd]
    have hp : 0 ≤ d := by omega
    have hq : d ≤ 9223372036854775807 := by omega
    clear e
    go_enter Try.func28, Try.ntmps28
    go_wp2
    go_ret
    exact ⟨rfl, rfl⟩
  · have e : chooseV c n = c % n := by simp [chooseV, hc]
    rw [e]
    go_enter Try.func28, Try.ntmps28
    go_wp2
    go_ret
    exact ⟨rfl, rfl⟩

/-- The lights of the first k numbers. -/
def selL (ls : List Lt) (qs : List Int) (k : Nat) : List Lt := (qs.take k).map fun i => ls.getD i.toNat Lt.zero
theorem selL_len (ls : List Lt) (qs : List Int) (k : Nat) (h : k ≤ qs.length) : (selL ls qs k).length = k := by simp [selL, h]
theorem selL_succ (ls : List Lt) (qs : List Int) (k : Nat) (h : k < qs.length) : selL ls qs (k + 1) = selL ls qs k ++ [ls.getD (qs.getD k 0).toNat Lt.zero] := by
  unfold selL
  rw [List.take_succ_eq_append_getElem h, List.map_append, List.getD_eq_getElem?_getD (l := qs), List.getElem?_eq_getElem h]
  rfl
theorem sumG_sel (x y : Int) (ls : List Lt) : ∀ qs : List Int, sumG x y (qs.map fun i => ls.getD i.toNat Lt.zero) = sumN x y ls qs
  | [] => rfl
  | i :: r => by simp only [List.map_cons, sumG, sumN, sumG_sel x y ls r]
/-- The lights that are near a part: they are right, and give to its places what all give. -/
theorem sel_near {ls : List Lt} (x y : Int) (pw ph : Nat) (hE : lightsErr ls = 0) :
    lightsErr (selL ls (pickL (nearB x y pw ph) ls ls.length) (pickL (nearB x y pw ph) ls ls.length).length) = 0 ∧
      ∀ r s : Nat, r < pw → s < ph → sumG (x + r) (y + s) (selL ls (pickL (nearB x y pw ph) ls ls.length) (pickL (nearB x y pw ph) ls ls.length).length) = sumG (x + r) (y + s) ls := by
  obtain ⟨h8, hr⟩ := lightsErr_zero hE
  have hlen := pickL_len (nearB x y pw ph) ls ls.length
  constructor
  · have hl := selL_len ls (pickL (nearB x y pw ph) ls ls.length) (pickL (nearB x y pw ph) ls ls.length).length (Nat.le_refl _)
    have hall : (selL ls (pickL (nearB x y pw ph) ls ls.length) (pickL (nearB x y pw ph) ls ls.length).length).all rightB = true := by
      rw [List.all_eq_true]
      intro l hl
      unfold selL at hl
      rw [List.take_length, List.mem_map] at hl
      obtain ⟨i, hi, rfl⟩ := hl
      unfold pickL at hi
      simp only [List.mem_map, List.mem_filter, List.mem_range] at hi
      obtain ⟨m, ⟨h1, _⟩, rfl⟩ := hi
      exact all_getD ls m h1 hr
    unfold lightsErr
    rw [if_pos (by omega), hall]
    rfl
  · intro r s hr' hs
    unfold selL
    rw [List.take_length, sumG_sel, sumN_pick (x + r) (y + s) (nearB x y pw ph) ls ls.length (Nat.le_refl _) (fun k _ hk => not_near x y pw ph r s hr' hs hk), List.take_length]

/-- Lights' cells, one after another. -/
def lcells : List Lt → List Value
  | [] => []
  | l :: r => .int .i64 l.X :: .int .i64 l.Y :: .int .i64 l.R :: .int .i64 l.P :: lcells r
theorem lcells_len : ∀ ls, (lcells ls).length = ls.length * 4
  | [] => rfl
  | l :: r => by simp only [lcells, List.length_cons, lcells_len r]; omega
theorem lcells_snoc (l : Lt) : ∀ ls, lcells (ls ++ [l]) = lcells ls ++ [.int .i64 l.X, .int .i64 l.Y, .int .i64 l.R, .int .i64 l.P]
  | [] => rfl
  | m :: r => by simp only [List.cons_append, lcells, lcells_snoc l r]
theorem lcells_get : ∀ (ls : List Lt) (j : Nat), j < ls.length → (lcells ls)[j * 4]? = some (.int .i64 (ls.getD j Lt.zero).X) ∧ (lcells ls)[j * 4 + 1]? = some (.int .i64 (ls.getD j Lt.zero).Y) ∧ (lcells ls)[j * 4 + 2]? = some (.int .i64 (ls.getD j Lt.zero).R) ∧ (lcells ls)[j * 4 + 3]? = some (.int .i64 (ls.getD j Lt.zero).P)
  | [], j, h => by simp at h
  | l :: r, 0, _ => by simp [lcells]
  | l :: r, j + 1, h => by
    have ih := lcells_get r j (by simpa using h)
    have e0 : ∀ t, (lcells (l :: r))[t + 4]? = (lcells r)[t]? := fun t => by simp [lcells]
    rw [show (j + 1) * 4 = j * 4 + 4 by omega, show j * 4 + 4 + 1 = j * 4 + 1 + 4 by omega, show j * 4 + 4 + 2 = j * 4 + 2 + 4 by omega, show j * 4 + 4 + 3 = j * 4 + 3 + 4 by omega, e0, e0, e0, e0]
    exact ih
/-- A slice of the call's own that holds the lights ls. -/
def OwnsL (base : Nat) (w : World) (v : Value) (ls : List Lt) : Prop := w.ownsRow base 59 4 v ls.length (lcells ls)
theorem OwnsL.lights {base : Nat} {w : World} {v : Value} {ls : List Lt} (h : OwnsL base w v ls) (hb : ls.length ≤ 8) : ∃ a cap, v = .slice a ls.length cap ∧ Lights w a ls.length ls := by
  obtain ⟨h1, h2⟩ := h
  rcases h2 with ⟨rfl, h0⟩ | ⟨g, cap, cur, rfl, hg, hh, hc, hm, hs, ht⟩
  · have : ls = [] := by simpa using h0
    subst this
    exact ⟨none, 0, rfl, rfl, by simp, .inl rfl⟩
  · refine ⟨_, cap, rfl, rfl, by omega, .inr ⟨g, 0, rfl, ?_, fun j hj => ?_⟩⟩
    · rcases Nat.lt_or_ge g w.heap.size with h | h
      · exact h
      · rw [Array.getElem?_eq_none h] at hh; cases hh
    · have hl := lcells_len ls
      have hg4 := lcells_get ls j hj
      have this := fun i hi => World.ownsRow.cellAt (base := base) (e := 59) (size := 4) ⟨h1, .inr ⟨g, cap, cur, rfl, hg, hh, hc, hm, hs, ht⟩⟩ i hi
      rw [Nat.zero_add]
      exact ⟨(this (j * 4) (by omega)).trans hg4.1, (this (j * 4 + 1) (by omega)).trans hg4.2.1, (this (j * 4 + 2) (by omega)).trans hg4.2.2.1, (this (j * 4 + 3) (by omega)).trans hg4.2.2.2⟩
theorem OwnsL.push {base : Nat} {w wx w1 : World} {v v' : Value} {ls : List Lt} {l : Lt} {B0 : World} {o : Obj} (h : OwnsL base w v ls) (hb : Below base B0 w) (hB : base ≤ w.heap.size)
    (h' : w1.ownsRow base 59 4 v' (ls.length + 1) (lcells ls ++ [.int .i64 l.X, .int .i64 l.Y, .int .i64 l.R, .int .i64 l.P])) (hx : wx = w.alloc o) (hg : wx.grownBy w1 v.ownBlock) : OwnsL base w1 v' (ls ++ [l]) ∧ Below base B0 w1 := by
  subst hx
  refine ⟨by unfold OwnsL; rw [lcells_snoc]; simpa using h', ?_⟩
  exact (hb.alloc hB o).grown hg (by simp; omega) (fun j hj => (World.ownsRow.lt (w := w) h j hj).1)
theorem Try.infoLight : (Try.prog.info? 59).map (fun i => (i.zero, i.size, i.bytes)) = some (some (.agg #[.int .i64 0, .int .i64 0, .int .i64 0, .int .i64 0]), 4, 32) := by kernel_rfl
theorem cell_four_new (w : World) (v0 v1 v2 v3 : Value) (t : TypeId) : ∀ (j : Nat) (u : Value), [v0, v1, v2, v3][j]? = some u → (w.alloc (.cells #[v0, v1, v2, v3] t)).cell? ((⟨w.heap.size, 0, none⟩ : Addr).add j) = some u := by
  intro j u h
  have hj : j < 4 := by
    rcases Nat.lt_or_ge j 4 with h4 | h4
    · exact h4
    · rw [List.getElem?_eq_none (by simpa using h4)] at h; cases h
  match j, hj with
  | 0, _ => simp at h; subst h; simp [go_sem]
  | 1, _ => simp at h; subst h; simp [go_sem]
  | 2, _ => simp at h; subst h; simp [go_sem]
  | 3, _ => simp at h; subst h; simp [go_sem]
end Go.Proofs.Ytfpkiimlaepnhaa
/-
  PICS: numbers and lists alone: the images that the passes of a frame make, and that they are right.
-/
namespace Go.Proofs.Ytfpkiimlaepnhaa
set_option maxRecDepth 100000
open Go.RowKit Im

/-- What a pass makes out of the images fr, where z is its size. -/
def paintRes (p : Ps) (z : Sz) (fr : List Res) : Res :=
  if p.Op = 1 ∨ p.Op = 2 then makeRes p.Op z.1 z.2 p.K
  else if hasB p.Op = true then twoRes p.Op (fr.getD 0 (noRes 0)).W (fr.getD 0 (noRes 0)).H (fr.getD 0 (noRes 0)).ps (fr.getD 1 (noRes 0)).W (fr.getD 1 (noRes 0)).H (fr.getD 1 (noRes 0)).ps
  else if p.Op = 13 then litRes (fr.getD 0 (noRes 0)).W (fr.getD 0 (noRes 0)).H (fr.getD 0 (noRes 0)).ps p.ls p.K
  else oneRes p.Op (fr.getD 0 (noRes 0)).W (fr.getD 0 (noRes 0)).H (fr.getD 0 (noRes 0)).ps p.K
def pickR (rs : List Res) (is : List Int) : List Res := is.map fun i => rs.getD i.toNat (noRes 0)
/-- The size of what pass n makes. -/
def sizeN (f : Fr) (n : Nat) : Sz := sizeP f.W f.H (f.ps.getD n Ps.zero).Op (pickZ (szs f n) (srcOf f.ps n))
/-- The images of the first n passes. -/
def pics (f : Fr) : Nat → List Res
  | 0 => []
  | n + 1 => pics f n ++ [paintRes (f.ps.getD n Ps.zero) (sizeN f n) (pickR (pics f n) (srcOf f.ps n))]
theorem pics_length (f : Fr) (n : Nat) : (pics f n).length = n := by
  induction n with
  | zero => rfl
  | succ n ih => simp [pics, ih]
/-- A right image of the size z. -/
def RB (r : Res) (z : Sz) : Prop := r.E = 0 ∧ fineB r.W r.H r.ps = true ∧ r.W = z.1 ∧ r.H = z.2
theorem make_right {op W H k : Int} (hop : op = 1 ∨ op = 2) (hW : 1 ≤ W ∧ W ≤ 16) (hH : 1 ≤ H ∧ H ≤ 16) (hk : 0 ≤ k ∧ k ≤ 65535) : RB (makeRes op W H k) (W, H) := by
  have hE : makeErr op W H k = 0 := by
    unfold makeErr
    rw [if_pos hop, (side_iff W).2 hW, (side_iff H).2 hH, (num_iff k).2 hk]; rfl
  unfold makeRes
  rw [if_pos hE]
  obtain ⟨W1, rfl⟩ := Int.eq_ofNat_of_zero_le (show 0 ≤ W by omega)
  obtain ⟨H1, rfl⟩ := Int.eq_ofNat_of_zero_le (show 0 ≤ H by omega)
  simp only [Int.toNat_natCast]
  refine ⟨rfl, fine_pix (by omega) (by omega) (fun x y _ _ => ?_), rfl, rfl⟩
  unfold makeG
  split
  · exact hk
  · have := Int.emod_nonneg ((x : Int) * k + y) (show (65536 : Int) ≠ 0 by decide)
    have := Int.emod_lt_of_pos ((x : Int) * k + y) (show (0 : Int) < 65536 by decide)
    omega
theorem two_right {op : Int} {a b : Res} {z : Sz} (hop : op = 4 ∨ op = 5 ∨ op = 6 ∨ op = 7) (ha : RB a z) (hb : RB b z) : RB (twoRes op a.W a.H a.ps b.W b.H b.ps) z := by
  obtain ⟨_, a1, a2, a3⟩ := ha
  obtain ⟨_, b1, b2, b3⟩ := hb
  have hw : withinB op 4 7 = true := by simp [withinB]; omega
  have hE : (twoRes op a.W a.H a.ps b.W b.H b.ps).E = 0 := by
    unfold twoRes
    rw [if_pos (by rw [a1, b1]; rfl), if_pos hw, if_pos (by rw [a2, b2, a3, b3]; exact ⟨rfl, rfl⟩)]
  refine ⟨hE, twoRes_fine hE, ?_, ?_⟩
  all_goals
    unfold twoRes
    rw [if_pos (by rw [a1, b1]; rfl), if_pos hw, if_pos (by rw [a2, b2, a3, b3]; exact ⟨rfl, rfl⟩)]
    assumption
theorem one_right {op k : Int} {a : Res} {z : Sz} (hA : hasA op = true) (hB : hasB op = false) (hL : ¬ op = 13) (hk : hasK op = true → kB op k = true) (hf : fitP op [z] = true) (ha : RB a z) : RB (oneRes op a.W a.H a.ps k) (sizeP 0 0 op [z]) := by
  obtain ⟨_, a1, a2, a3⟩ := ha
  obtain ⟨zw, zh⟩ := z
  dsimp only at a2 a3
  obtain ⟨E, aW, aH, aps⟩ := a
  dsimp only at a1 a2 a3 ⊢
  subst a2 a3
  obtain ⟨b1, b2, b3, b4⟩ := (fine_iff _ _ _).1 a1
  obtain ⟨W, rfl⟩ := Int.eq_ofNat_of_zero_le (show 0 ≤ aW by omega)
  obtain ⟨H, rfl⟩ := Int.eq_ofNat_of_zero_le (show 0 ≤ aH by omega)
  have hop : op = 3 ∨ op = 8 ∨ op = 9 ∨ op = 10 ∨ op = 11 ∨ op = 12 := by simp [hasA, withinB] at hA; simp [hasB, withinB] at hB; omega
  have hE : oneErr op W H k = 0 := by
    rcases hop with rfl | rfl | rfl | rfl | rfl | rfl
    · rfl
    · have := hk rfl
      have e : withinB k 0 65535 = true := this
      have e' : numB k = true := by simp [withinB] at e; exact (num_iff k).2 e
      simp [oneErr, e', okIf]
    · have := hk rfl
      have e : withinB k (-16) 16 = true := this
      simp [oneErr, e, okIf]
    · rfl
    · have e : (decide ((W : Int) % 2 = 0) && decide ((H : Int) % 2 = 0)) = true := hf
      simp only [Bool.and_eq_true, decide_eq_true_eq] at e
      have e1 : W % 2 = 0 := by omega
      have e2 : H % 2 = 0 := by omega
      simp [oneErr, okIf, e1, e2]
    · have e : (decide (2 * (W : Int) ≤ 16) && decide (2 * (H : Int) ≤ 16)) = true := hf
      simp only [Bool.and_eq_true, decide_eq_true_eq] at e
      have e1 : 2 * W ≤ 16 := by omega
      have e2 : 2 * H ≤ 16 := by omega
      simp [oneErr, okIf, e1, e2]
  have h0 : (oneRes op W H aps k).E = 0 := by
    unfold oneRes
    rw [if_pos a1]; simp only [Int.toNat_natCast]; rw [if_pos hE]
  refine ⟨h0, oneRes_fine h0, ?_, ?_⟩
  all_goals
    unfold oneRes
    rw [if_pos a1]; simp only [Int.toNat_natCast]; rw [if_pos hE]
    rcases hop with rfl | rfl | rfl | rfl | rfl | rfl <;> simp [oneN, sizeP]
theorem lit_right {k : Int} {a : Res} {z : Sz} {ls : List Lt} (hl : lightsErr ls = 0) (hk : 1 ≤ k ∧ k ≤ 16) (ha : RB a z) : RB (litRes a.W a.H a.ps ls k) z := by
  obtain ⟨_, a1, a2, a3⟩ := ha
  obtain ⟨b1, b2, b3, b4⟩ := (fine_iff _ _ _).1 a1
  have hr := lightsErr_zero hl
  unfold litRes
  rw [if_pos a1, if_pos hl, if_pos hk]
  refine ⟨rfl, ?_, a2, a3⟩
  dsimp only
  clear a2 a3
  generalize a.W = aW at *
  generalize a.H = aH at *
  generalize a.ps = ps at *
  obtain ⟨W, rfl⟩ := Int.eq_ofNat_of_zero_le (show 0 ≤ aW by omega)
  obtain ⟨H, rfl⟩ := Int.eq_ofNat_of_zero_le (show 0 ≤ aH by omega)
  simp only [Int.toNat_natCast]
  refine fine_pix (by omega) (by omega) (fun x y hx hy => ?_)
  have h1 := px_bd' (W := W) (H := H) (by rw [← Int.natCast_mul] at b3; omega) b4 x y hx hy
  have h2 := sumG_bd x y (by omega) (by omega) ls hr.2
  unfold litG
  omega
theorem takes_two' {p : Ps} (h : hasB p.Op = true) : takesP p = [p.A, p.B] := by unfold takesP; rw [if_pos h]
theorem pickR_right {f : Fr} {n : Nat} (hR : ∀ k, k < n → RB ((pics f n).getD k (noRes 0)) ((szs f n).getD k Sz.zero)) {is : List Int} (hi : ∀ i ∈ is, 0 ≤ i ∧ i < n) {j : Nat} (hj : j < is.length) : RB ((pickR (pics f n) is).getD j (noRes 0)) ((pickZ (szs f n) is).getD j Sz.zero) := by
  have h1 := hi _ (List.getElem_mem hj)
  have e1 : (pickR (pics f n) is).getD j (noRes 0) = (pics f n).getD (is[j]).toNat (noRes 0) := by
    unfold pickR
    simp [List.getD_eq_getElem?_getD, List.getElem?_map, List.getElem?_eq_getElem hj]
  have e2 : (pickZ (szs f n) is).getD j Sz.zero = (szs f n).getD (is[j]).toNat Sz.zero := by
    unfold pickZ
    simp [List.getD_eq_getElem?_getD, List.getElem?_map, List.getElem?_eq_getElem hj]
  rw [e1, e2]
  exact hR _ (by omega)
theorem sizeP_one {W H op : Int} {zs : List Sz} (h : ¬ (op = 1 ∨ op = 2)) : sizeP W H op zs = sizeP 0 0 op [zs.getD 0 Sz.zero] := by
  unfold sizeP
  rw [if_neg h, if_neg h]
  rfl
/-- What a right pass makes is a right image. -/
theorem paint_right {f : Fr} {n : Nat} (hb : boundsE f = 0) (hE : passE f n = 0) (hR : ∀ k, k < n → RB ((pics f n).getD k (noRes 0)) ((szs f n).getD k Sz.zero)) : RB (paintRes (f.ps.getD n Ps.zero) (sizeN f n) (pickR (pics f n) (srcOf f.ps n))) (sizeN f n) := by
  obtain ⟨hW, hH, _⟩ := boundsE_zero hb
  obtain ⟨o1, o2, o3⟩ := passE_zero hE
  obtain ⟨hkn, hsl, hk, hl, hbare, _⟩ := ownE_zero o1
  have hs := src_bd o2
  have hpick := fun j hj => pickR_right hR hs (j := j) hj
  have hlen : (srcOf f.ps n).length = (takesP (f.ps.getD n Ps.zero)).length := by simp [srcOf]
  unfold sizeN at *
  generalize f.ps.getD n Ps.zero = p at *
  generalize pickR (pics f n) (srcOf f.ps n) = rs at *
  generalize pickZ (szs f n) (srcOf f.ps n) = zs at *
  unfold paintRes
  by_cases h12 : p.Op = 1 ∨ p.Op = 2
  · rw [if_pos h12]
    have e : sizeP f.W f.H p.Op zs = (f.W, f.H) := by unfold sizeP; rw [if_pos h12]
    rw [e]
    have hK : hasK p.Op = true := by rcases h12 with h | h <;> rw [h] <;> rfl
    have := hk hK
    have e2 : kB p.Op p.K = withinB p.K 0 65535 := by unfold kB; rw [if_neg (by omega), if_neg (by omega)]
    rw [e2] at this
    exact make_right h12 hW hH (by simp [withinB] at this; omega)
  · rw [if_neg h12]
    have hA := hasA_of hkn (fun h => h12 (.inl h)) (fun h => h12 (.inr h))
    obtain ⟨r, hr⟩ := takes_pos hA
    have h0 := hpick 0 (by rw [hlen, hr]; simp)
    rw [sizeP_one h12]
    by_cases hB : hasB p.Op = true
    · rw [if_pos hB]
      have h1 := hpick 1 (by rw [hlen, takes_two' hB]; simp)
      have hop : p.Op = 4 ∨ p.Op = 5 ∨ p.Op = 6 ∨ p.Op = 7 := by simp [hasB, withinB] at hB; omega
      have ef : zs.getD 0 Sz.zero = zs.getD 1 Sz.zero := by
        unfold fitP at o3
        rw [if_neg (by omega), if_neg (by omega), if_pos hB] at o3
        simpa using o3
      rw [← ef] at h1
      have e : sizeP 0 0 p.Op [zs.getD 0 Sz.zero] = zs.getD 0 Sz.zero := by
        unfold sizeP
        rw [if_neg (by omega), if_neg (by omega), if_neg (by omega)]; rfl
      rw [e]
      exact two_right hop h0 h1
    · rw [if_neg hB]
      have hB' := eq_false_of_ne_true hB
      by_cases h13 : p.Op = 13
      · rw [if_pos h13]
        have e : sizeP 0 0 p.Op [zs.getD 0 Sz.zero] = zs.getD 0 Sz.zero := by
          unfold sizeP
          rw [if_neg (by omega), if_neg (by omega), if_neg (by omega)]; rfl
        rw [e]
        have hK : hasK p.Op = true := by rw [h13]; rfl
        have hL : hasL p.Op = true := by rw [h13]; rfl
        have := hk hK
        have e2 : kB p.Op p.K = withinB p.K 1 16 := by unfold kB; rw [if_neg (by omega), if_pos h13]
        rw [e2] at this
        exact lit_right (hl hL) (by simp [withinB] at this; omega) h0
      · rw [if_neg h13]
        refine one_right hA hB' h13 hk ?_ h0
        unfold fitP at o3 ⊢
        rw [hB'] at o3 ⊢
        exact o3
theorem getD_left {α : Type} (l m : List α) (d : α) {k : Nat} (h : k < l.length) : (l ++ m).getD k d = l.getD k d := by
  rw [List.getD_eq_getElem?_getD, List.getD_eq_getElem?_getD, List.getElem?_append_left h]
theorem getD_last {α : Type} (l : List α) (x d : α) {k : Nat} (h : k = l.length) : (l ++ [x]).getD k d = x := by
  subst h
  rw [List.getD_eq_getElem?_getD, List.getElem?_append_right (Nat.le_refl _), Nat.sub_self]; rfl
theorem pics_right {f : Fr} (hb : boundsE f = 0) : ∀ {n : Nat}, firstE f n = 0 → ∀ k, k < n → RB ((pics f n).getD k (noRes 0)) ((szs f n).getD k Sz.zero)
  | 0, _ => fun k hk => by omega
  | n + 1, h => by
    have h0 := firstE_down f h (Nat.le_succ n)
    have ih := pics_right hb h0
    rw [firstE_at f h0] at h
    have hp := paint_right hb h ih
    intro k hk
    have e1 : pics f (n + 1) = pics f n ++ [paintRes (f.ps.getD n Ps.zero) (sizeN f n) (pickR (pics f n) (srcOf f.ps n))] := rfl
    have e2 : szs f (n + 1) = szs f n ++ [sizeN f n] := rfl
    have l1 := pics_length f n
    have l2 := szs_length f n
    rw [e1, e2]
    by_cases hkn : k < n
    · rw [getD_left _ _ _ (by omega), getD_left _ _ _ (by omega)]
      exact ih k hkn
    · rw [getD_last _ _ _ (by omega), getD_last _ _ _ (by omega)]
      exact hp
end Go.Proofs.Ytfpkiimlaepnhaa
