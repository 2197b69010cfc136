/- ImgRow, Passes, Follow: joined, in this order. -/
import Derived.Test.YtfpkiimlaepnhaaM26
import Derived.Test.YtfpkiimlaepnhaaM22
import Derived.Test.YtfpkiimlaepnhaaM25
/-
  IMGROW: a growing row of images; frame.picked, of images.
-/
namespace Go.Proofs.Ytfpkiimlaepnhaa
set_option maxRecDepth 100000
open Go.RowKit Im

/-- An image, and where its numbers lie. -/
abbrev Lr := List (Res × Option Addr × Nat)
def rcells (L : Lr) : List Value := L.flatMap fun x => [.int .i64 x.1.W, .int .i64 x.1.H, .slice x.2.1 x.1.ps.length x.2.2]
abbrev lr0 : Res × Option Addr × Nat := (noRes 0, none, 0)
theorem rcells_len (L : Lr) : (rcells L).length = L.length * 3 := by
  induction L with
  | nil => rfl
  | cons x L ih => simp only [rcells, List.flatMap_cons, List.length_append, List.length_cons, List.length_nil] at ih ⊢; rw [ih]; omega
theorem rcells_snoc (L : Lr) (x : Res × Option Addr × Nat) : rcells (L ++ [x]) = rcells L ++ [.int .i64 x.1.W, .int .i64 x.1.H, .slice x.2.1 x.1.ps.length x.2.2] := by simp [rcells]
theorem rcells_get (L : Lr) (j : Nat) (h : j < L.length) : (rcells L)[j * 3]? = some (.int .i64 (L.getD j lr0).1.W) ∧ (rcells L)[j * 3 + 1]? = some (.int .i64 (L.getD j lr0).1.H) ∧ (rcells L)[j * 3 + 2]? = some (.slice (L.getD j lr0).2.1 (L.getD j lr0).1.ps.length (L.getD j lr0).2.2) := by
  induction L generalizing j with
  | nil => simp at h
  | cons x L ih =>
    have e : rcells (x :: L) = .int .i64 x.1.W :: .int .i64 x.1.H :: .slice x.2.1 x.1.ps.length x.2.2 :: rcells L := rfl
    cases j with
    | zero => rw [e]; exact ⟨rfl, rfl, rfl⟩
    | succ j =>
      have := ih j (by simpa using h)
      rw [e, show (j + 1) * 3 = j * 3 + 1 + 1 + 1 by omega]
      simpa using this
def OwnsR (base : Nat) (w : World) (v : Value) (L : Lr) : Prop := w.ownsRow base 24 3 v L.length (rcells L)
theorem map_getD {L : Lr} {rs : List Res} (h : L.map Prod.fst = rs) (j : Nat) : rs.getD j (noRes 0) = (L.getD j lr0).1 := by
  subst h
  simp only [List.getD_eq_getElem?_getD, List.getElem?_map]
  cases L[j]? <;> rfl
theorem OwnsR.imgs {base bi : Nat} {w : World} {v : Value} {L : Lr} {rs : List Res} (h : OwnsR base w v L) (he : L.map Prod.fst = rs) (hi : ∀ x ∈ L, Ints bi w x.2.1 x.1.ps.length x.1.ps) (hb : L.length ≤ 12) : ∃ a cap, v = .slice a rs.length cap ∧ Imgs bi w a rs.length rs := by
  have hrl : rs.length = L.length := by rw [← he]; simp
  obtain ⟨h1, h2⟩ := h
  rcases h2 with ⟨rfl, h0⟩ | ⟨g, cap, cur, rfl, hg, hh, hc, hm, hs, ht⟩
  · have : L = [] := by simpa using h0
    subst this
    subst he
    exact ⟨none, 0, rfl, rfl, by simp, .inl rfl⟩
  · rw [← hrl]
    refine ⟨_, cap, rfl, rfl, by omega, .inr ⟨g, 0, rfl, ?_, fun j hj => ?_⟩⟩
    · rcases Nat.lt_or_ge g w.heap.size with h | h
      · exact h
      · rw [Array.getElem?_eq_none h] at hh; cases hh
    · have hl := rcells_len L
      rw [hrl] at hj
      have hg2 := rcells_get L j hj
      have this := fun i hi => World.ownsRow.cellAt (base := base) (e := 24) (size := 3) ⟨h1, .inr ⟨g, cap, cur, rfl, hg, hh, hc, hm, hs, ht⟩⟩ i hi
      rw [map_getD he j]
      refine ⟨(L.getD j lr0).2.1, (L.getD j lr0).2.2, ?_, ?_, ?_, hi _ (getD_mem hj _)⟩
      all_goals rw [Nat.zero_add, this _ (by omega)]
      · exact hg2.1
      · exact hg2.2.1
      · exact hg2.2.2
theorem Try.infoImage : (Try.prog.info? 24).map (fun i => (i.zero, i.size, i.bytes)) = some (some (.agg #[.int .i64 0, .int .i64 0, .slice none 0 0]), 3, 40) := by kernel_rfl
theorem cell_three_new (w : World) (v0 v1 v2 : Value) (t : TypeId) : ∀ (j : Nat) (u : Value), [v0, v1, v2][j]? = some u → (w.alloc (.cells #[v0, v1, v2] t)).cell? ((⟨w.heap.size, 0, none⟩ : Addr).add j) = some u := by
  intro j u h
  match j, h with
  | 0, h => simp at h; subst h; simp [go_sem, Addr.add]
  | 1, h => simp at h; subst h; simp [go_sem, Addr.add]
  | 2, h => simp at h; subst h; simp [go_sem, Addr.add]
theorem OwnsR.push {base : Nat} {w wx w1 : World} {v v' : Value} {L : Lr} {x : Res × Option Addr × Nat} {B0 : World} {o : Obj} (h : OwnsR base w v L) (hb : Below base B0 w) (hB : base ≤ w.heap.size)
    (h' : w1.ownsRow base 24 3 v' (L.length + 1) (rcells L ++ [.int .i64 x.1.W, .int .i64 x.1.H, .slice x.2.1 x.1.ps.length x.2.2])) (hx : wx = w.alloc o) (hg : wx.grownBy w1 v.ownBlock) : OwnsR base w1 v' (L ++ [x]) ∧ Below base B0 w1 := by
  subst hx
  refine ⟨by unfold OwnsR; rw [rcells_snoc]; simpa using h', ?_⟩
  exact (hb.alloc hB o).grown hg (by simp; omega) (fun j hj => (World.ownsRow.lt (w := w) h j hj).1)
/-- The call's end tells the images rs. -/
def ToldR (w : World) (rs : List Res) (e : Ending) (w' : World) : Prop :=
  ∃ a cap, e = .returned (.slice a rs.length cap) ∧ Imgs 0 w' a rs.length rs ∧ Below w.heap.size w w'
theorem pickR_succ (rs : List Res) (is : List Int) (k : Nat) (hk : k < is.length) : pickR rs (is.take (k + 1)) = pickR rs (is.take k) ++ [rs.getD (is.getD k 0).toNat (noRes 0)] := by
  unfold pickR
  rw [List.take_succ_eq_append_getElem hk, List.map_append, List.getD_eq_getElem?_getD (l := is), List.getElem?_eq_getElem hk]
  rfl
set_option maxHeartbeats 1000000 in
/-- frame.picked, of images. -/
theorem pickedR_any {a a' : Option Addr} {len len' : Nat} (cap cap' : Nat) {rs : List Res} {is : List Int} {base bi : Nat} {w : World} (hz : Imgs bi w a len rs) (hI : Ints base w a' len' is) (hin : ∀ i ∈ is, 0 ≤ i ∧ i < len) (hl : is.length ≤ 2) :
    Calls Try.prog 90 #[.slice a len cap, .slice a' len' cap'] w (ToldR w (pickR rs is)) := by
  obtain ⟨i0, hi, hz0, hz1, hz2⟩ := info_parts Try.infoImage
  have hlen := hI.leng
  subst hlen
  go_enter Try.func90, Try.ntmps90
  go_wp2
  go_loopw [5, 10] (fun v i wr => ∃ (k : Nat) (L : Lr), k ≤ is.length ∧ i = .int .i64 k ∧ OwnsR w.heap.size wr v L ∧ L.map Prod.fst = pickR rs (is.take k) ∧ (∀ x ∈ L, Ints 0 w x.2.1 x.1.ps.length x.1.ps) ∧ Below w.heap.size w wr) (fun _ i _ => is.length - (intOf i).toNat)
  case atStart => exact ⟨0, [], Nat.zero_le _, rfl, World.ownsRow_nil _ _ _ _, rfl, (fun x hx => by cases hx), Below.refl _ _⟩
  case round =>
    obtain ⟨k, L, hk, rfl, hown, hmap, hints, hb⟩ := hrel
    have hLl : L.length = k := by
      have := congrArg List.length hmap
      simp [pickR] at this
      omega
    by_cases hlt : k < is.length
    · obtain ⟨b, off, rfl, hcx⟩ := (hI.below (Nat.le_refl _) hb).nth hlt
      have hr := hin _ (getD_mem hlt 0)
      have HS := pickR_succ rs is k hlt
      generalize is.getD k 0 = n at hcx hr HS
      obtain ⟨m, rfl⟩ := Int.eq_ofNat_of_zero_le hr.1
      obtain ⟨b', off', pa, pcap, rfl, hb', d0, d1, d2, hpi⟩ := hz.nth (k := m) (by omega)
      replace d0 := (hb.cell (p := ⟨b', off' + m * 3, none⟩) hb').trans d0
      replace d1 := (hb.cell (p := ⟨b', off' + m * 3 + 1, none⟩) hb').trans d1
      replace d2 := (hb.cell (p := ⟨b', off' + m * 3 + 2, none⟩) hb').trans d2
      rw [Int.toNat_natCast] at HS
      have HS' : Hid (pickR rs (is.take (k + 1)) = pickR rs (is.take k) ++ [rs.getD m (noRes 0)]) := HS
      have hsz := hb.size
      have HM : Hid (_) := hmap
      have HL : Hid (_) := hLl
      have HI : Hid (_) := hints
      have HP : Hid (_) := hpi.mono (Nat.zero_le _)
      clear HS hin hmap hLl hints hpi
      generalize rs.getD m (noRes 0) = r at d0 d1 d2 HS' HP
      go_wp2_with (at_builtin; refine wpList_append_own _ rfl _ _ 122 rfl w.heap.size 24 i0 _ 3 40 Try.underlying122 hi hz0 hz1 hz2 rfl (by decide) _ _ _ rfl (World.ownsRow.alloc hown _) ⟨wr.heap.size, 0, none⟩ 1 1 [.int .i64 r.W, .int .i64 r.H, .slice pa r.ps.length pcap] rfl rfl (cell_three_new _ _ _ _ _) (by intro u hu; simp at hu; rcases hu with rfl | rfl | rfl <;> rfl) (by rw [HL.out]; unfold maxLen; omega) (by rw [HL.out]; omega) (by simp; omega) ?_; intro v' w9 hown9 hgrow9 _)
      have RR := OwnsR.push (x := (r, pa, pcap)) hown hb hsz hown9 rfl hgrow9
      go_roundw
      case rel => exact ⟨k + 1, L ++ [(r, pa, pcap)], by omega, by go_num, RR.1, by rw [HS'.out, List.map_append, HM.out]; rfl, (fun x hx => by rcases List.mem_append.1 hx with h | h; exact HI.out x h; rw [List.mem_singleton] at h; subst h; exact HP.out), RR.2⟩
      case measure => simp [intOf]; omega
    · have hke : k = is.length := by omega
      subst hke
      rw [List.take_length] at hmap
      obtain ⟨sa, scap, rfl, hZ⟩ := hown.imgs hmap (fun x hx => (hints x hx).below (Nat.le_refl _) hb) (by omega)
      have HZ : Hid (_) := hZ
      clear hZ hmap hints hLl hown
      go_wp2
      go_ret
      exact ⟨sa, scap, rfl, HZ.out, hb⟩
end Go.Proofs.Ytfpkiimlaepnhaa
/-
  PASSES: how the passes of a frame lie in memory; what frame.follow tells.
-/
namespace Go.Proofs.Ytfpkiimlaepnhaa
set_option maxRecDepth 100000
open Go.RowKit Im

/-- A slice's elements are the passes ps. -/
structure Passes (w : World) (a : Option Addr) (len : Nat) (ps : List Ps) : Prop where
  leng : ps.length = len
  big : len ≤ 9223372036854775807
  cells : ps = [] ∨ ∃ b off, a = some ⟨b, off, none⟩ ∧ b < w.heap.size ∧ ∀ j, j < len → ∃ la ll lc, w.cell? ⟨b, off + j * 6, none⟩ = some (.int .i64 (ps.getD j Ps.zero).Op) ∧ w.cell? ⟨b, off + j * 6 + 1, none⟩ = some (.int .i64 (ps.getD j Ps.zero).To) ∧ w.cell? ⟨b, off + j * 6 + 2, none⟩ = some (.int .i64 (ps.getD j Ps.zero).A) ∧ w.cell? ⟨b, off + j * 6 + 3, none⟩ = some (.int .i64 (ps.getD j Ps.zero).B) ∧ w.cell? ⟨b, off + j * 6 + 4, none⟩ = some (.int .i64 (ps.getD j Ps.zero).K) ∧ w.cell? ⟨b, off + j * 6 + 5, none⟩ = some (.slice la ll lc) ∧ Lights w la ll (ps.getD j Ps.zero).ls
theorem Passes.below {w w' : World} {a : Option Addr} {len : Nat} {ps : List Ps} (h : Passes w a len ps) (hb : Below w.heap.size w w') : Passes w' a len ps := by
  refine ⟨h.leng, h.big, ?_⟩
  rcases h.cells with e | ⟨b, off, ha, hl, hc⟩
  · exact .inl e
  · refine .inr ⟨b, off, ha, Nat.lt_of_lt_of_le hl hb.size, fun j hj => ?_⟩
    obtain ⟨la, ll, lc, c0, c1, c2, c3, c4, c5, hL⟩ := hc j hj
    exact ⟨la, ll, lc, (hb.cell (p := ⟨b, off + j * 6, none⟩) hl).trans c0, (hb.cell (p := ⟨b, off + j * 6 + 1, none⟩) hl).trans c1, (hb.cell (p := ⟨b, off + j * 6 + 2, none⟩) hl).trans c2, (hb.cell (p := ⟨b, off + j * 6 + 3, none⟩) hl).trans c3, (hb.cell (p := ⟨b, off + j * 6 + 4, none⟩) hl).trans c4, (hb.cell (p := ⟨b, off + j * 6 + 5, none⟩) hl).trans c5, hL.below hb⟩
theorem Passes.nth {w : World} {a : Option Addr} {len : Nat} {ps : List Ps} (h : Passes w a len ps) {k : Nat} (hk : k < len) : ∃ b off la ll lc, a = some ⟨b, off, none⟩ ∧ w.cell? ⟨b, off + k * 6, none⟩ = some (.int .i64 (ps.getD k Ps.zero).Op) ∧ w.cell? ⟨b, off + k * 6 + 1, none⟩ = some (.int .i64 (ps.getD k Ps.zero).To) ∧ w.cell? ⟨b, off + k * 6 + 2, none⟩ = some (.int .i64 (ps.getD k Ps.zero).A) ∧ w.cell? ⟨b, off + k * 6 + 3, none⟩ = some (.int .i64 (ps.getD k Ps.zero).B) ∧ w.cell? ⟨b, off + k * 6 + 4, none⟩ = some (.int .i64 (ps.getD k Ps.zero).K) ∧ w.cell? ⟨b, off + k * 6 + 5, none⟩ = some (.slice la ll lc) ∧ Lights w la ll (ps.getD k Ps.zero).ls := by
  rcases h.cells with e | ⟨b, off, ha, hl, hc⟩
  · have := h.leng; subst e; simp at this; omega
  · obtain ⟨la, ll, lc, r⟩ := hc k hk
    exact ⟨b, off, la, ll, lc, ha, r⟩
def srcs (ps : List Ps) (n : Nat) : List (List Int) := (List.range n).map (srcOf ps)
theorem srcs_succ (ps : List Ps) (n : Nat) : srcs ps (n + 1) = srcs ps n ++ [srcOf ps n] := by simp [srcs, List.range_succ]
theorem srcs_length (ps : List Ps) (n : Nat) : (srcs ps n).length = n := by simp [srcs]
/-- The call's end tells the course of the frame f, or its error. -/
def ToldC (w : World) (f : Fr) (e : Ending) (w' : World) : Prop :=
  (frameE f = 0 ∧ (∃ v1 v2, e = .returned (.tuple #[.agg #[v1, v2, .int .i64 (shownP f)], .int .i64 0]) ∧ OwnsZ w.heap.size w' v1 (szs f f.ps.length) ∧ OwnsLL w.heap.size w' v2 (srcs f.ps f.ps.length)) ∧ Below w.heap.size w w') ∨
  (frameE f ≠ 0 ∧ e = .returned (.tuple #[.agg #[.slice none 0 0, .slice none 0 0, .int .i64 0], .int .i64 (frameE f)]) ∧ Below w.heap.size w w')
/-- A course that is nothing, in a block of its own. -/
structure CBox (w : World) (b : Nat) : Prop where
  lt : b < w.heap.size
  c0 : w.cell? ⟨b, 0, none⟩ = some (.slice none 0 0)
  c1 : w.cell? ⟨b, 1, none⟩ = some (.slice none 0 0)
  c2 : w.cell? ⟨b, 2, none⟩ = some (.int .i64 0)
  f0 : w.frozen? ⟨b, 0, none⟩ = false
  f1 : w.frozen? ⟨b, 1, none⟩ = false
  f2 : w.frozen? ⟨b, 2, none⟩ = false
theorem CBox.below {w w' : World} {b B : Nat} (h : CBox w b) (hb : Below B w w') (hB : b < B) (hs : b < w'.heap.size) : CBox w' b :=
  ⟨hs, (hb.cell (p := ⟨b, 0, none⟩) hB).trans h.c0, (hb.cell (p := ⟨b, 1, none⟩) hB).trans h.c1, (hb.cell (p := ⟨b, 2, none⟩) hB).trans h.c2, (hb.frozen (p := ⟨b, 0, none⟩) hB).trans h.f0, (hb.frozen (p := ⟨b, 1, none⟩) hB).trans h.f1, (hb.frozen (p := ⟨b, 2, none⟩) hB).trans h.f2⟩
theorem CBox.new (w : World) : CBox (w.alloc (.cells #[.slice none 0 0, .slice none 0 0, .int .i64 0] 113)) w.heap.size :=
  ⟨by simp, by simp [go_sem], by simp [go_sem], by simp [go_sem], by simp [go_sem], by simp [go_sem], by simp [go_sem]⟩
end Go.Proofs.Ytfpkiimlaepnhaa
/-
  FOLLOW: frame.follow goes through the passes of a frame, and tells the first error.
-/
namespace Go.Proofs.Ytfpkiimlaepnhaa
set_option maxRecDepth 100000
open Go.RowKit Im

set_option maxHeartbeats 2000000 in
/-- frame.follow, of a frame whose bounds are not right. -/
theorem follow_bounds (W H S O : Int) (a : Option Addr) (len cap : Nat) (ps : List Ps) (w : World) (hp : Passes w a len ps) (hE : boundsE ⟨W, H, S, O, ps⟩ ≠ 0) :
    Calls Try.prog 83 #[.agg #[.int .i64 W, .int .i64 H, .int .i64 S, .int .i64 O, .slice a len cap]] w (ToldC w ⟨W, H, S, O, ps⟩) := by
  have hcb := fun wx => checkBounds_any W H S O a len cap ps wx hp.leng hp.big
  have hf : frameE ⟨W, H, S, O, ps⟩ = boundsE ⟨W, H, S, O, ps⟩ := by unfold frameE; rw [if_neg hE]
  have HF : Hid (frameE ⟨W, H, S, O, ps⟩ = boundsE ⟨W, H, S, O, ps⟩) := hf
  clear hf
  generalize boundsE ⟨W, H, S, O, ps⟩ = E at hcb hE HF
  have hB := FBox.new w W H S O a len cap
  have hC := CBox.new (w.alloc (.cells #[.int .i64 W, .int .i64 H, .int .i64 S, .int .i64 O, .slice a len cap] 63))
  have hb0 := below_box (below_box (Below.refl w.heap.size w) (.cells #[.int .i64 W, .int .i64 H, .int .i64 S, .int .i64 O, .slice a len cap] 63)) (.cells #[.slice none 0 0, .slice none 0 0, .int .i64 0] 113)
  rw [World.size_alloc] at hC
  go_enter Try.func83, Try.ntmps83
  go_wp2_with fail
  refine (hcb _).mono ?_
  rintro e w1 ⟨rfl, b1⟩
  obtain ⟨_, d0, d1, d2, f0, f1, f2⟩ := hC.below b1 hC.lt (Nat.lt_of_lt_of_le hC.lt b1.size)
  replace hb0 := below_step hb0 b1
  go_wp2
  refine bodyPost_ret (v := .tuple #[.agg #[.slice none 0 0, .slice none 0 0, .int .i64 0], .int .i64 E]) (by simp [results, Try.results83, go_sem, d0, d1, d2]) rfl ?_
  refine .inr ⟨by rw [HF.out]; exact hE, by rw [HF.out], ?_⟩
  exact ((hb0.setCell (by simp) _).setCell (by simp) _).setCell (by simp) _
end Go.Proofs.Ytfpkiimlaepnhaa
