/- ImgRow, RenderA, LightRef, NearRef, LitRef, FrameRef, MadeRef: joined, in this order. -/
import Derived.Test.YtaenpgdmiaekcaaGreatDoorS12
import Derived.Test.YtaenpgdmiaekcaaGreatDoorS05
import Derived.Test.YtaenpgdmiaekcaaGreatDoorS07
import Derived.Test.YtaenpgdmiaekcaaGreatDoorS08
import Derived.Deep.RegionHeld3
import Derived.Test.YtaenpgdmiaekcaaGreatDoorS09
import Derived.Deep.RegionLaw
import Derived.Test.YtaenpgdmiaekcaaGreatDoorS06
/-
  IMGROW: a growing row of images; frame.picked, of images.
-/
namespace Go.Proofs.YtaenpgdmiaekcaaGreatDoor
set_option maxRecDepth 100000
open Go.RowKit Im

/-- An image, and where its numbers lie. -/
abbrev Lr := List (Res × Option Addr × Nat)
def rcells (L : Lr) : List Value := L.flatMap fun x => [.int .i64 x.1.W, .int .i64 x.1.H, .slice x.2.1 x.1.ps.length x.2.2]
abbrev lr0 : Res × Option Addr × Nat := (noRes 0, none, 0)
theorem rcells_len (L : Lr) : (rcells L).length = L.length * 3 := by
  induction L with
  | nil => rfl
  | cons x L ih => simp only [rcells, List.flatMap_cons, List.length_append, List.length_cons, List.length_nil] at ih ⊢; rw [ih]; omega
theorem rcells_snoc (L : Lr) (x : Res × Option Addr × Nat) : rcells (L ++ [x]) = rcells L ++ [.int .i64 x.1.W, .int .i64 x.1.H, .slice x.2.1 x.1.ps.length x.2.2] := by simp [rcells]
theorem rcells_get (L : Lr) (j : Nat) (h : j < L.length) : (rcells L)[j * 3]? = some (.int .i64 (L.getD j lr0).1.W) ∧ (rcells L)[j * 3 + 1]? = some (.int .i64 (L.getD j lr0).1.H) ∧ (rcells L)[j * 3 + 2]? = some (.slice (L.getD j lr0).2.1 (L.getD j lr0).1.ps.length (L.getD j lr0).2.2) := by
  induction L generalizing j with
  | nil => simp at h
  | cons x L ih =>
    have e : rcells (x :: L) = .int .i64 x.1.W :: .int .i64 x.1.H :: .slice x.2.1 x.1.ps.length x.2.2 :: rcells L := rfl
    cases j with
    | zero => rw [e]; exact ⟨rfl, rfl, rfl⟩
    | succ j =>
      have := ih j (by simpa using h)
      rw [e, show (j + 1) * 3 = j * 3 + 1 + 1 + 1 by omega]
      simpa using this
def OwnsR (base : Nat) (w : World) (v : Value) (L : Lr) : Prop := w.ownsRow base 24 3 v L.length (rcells L)
theorem map_getD {L : Lr} {rs : List Res} (h : L.map Prod.fst = rs) (j : Nat) : rs.getD j (noRes 0) = (L.getD j lr0).1 := by
  subst h
  simp only [List.getD_eq_getElem?_getD, List.getElem?_map]
  cases L[j]? <;> rfl
theorem OwnsR.imgs {base bi : Nat} {w : World} {v : Value} {L : Lr} {rs : List Res} (h : OwnsR base w v L) (he : L.map Prod.fst = rs) (hi : ∀ x ∈ L, Ints bi w x.2.1 x.1.ps.length x.1.ps) (hb : L.length ≤ 12) : ∃ a cap, v = .slice a rs.length cap ∧ Imgs bi w a rs.length rs := by
  have hrl : rs.length = L.length := by rw [← he]; simp
  obtain ⟨h1, h2⟩ := h
  rcases h2 with ⟨rfl, h0⟩ | ⟨g, cap, cur, rfl, hg, hh, hc, hm, hs, ht⟩
  · have : L = [] := by simpa using h0
    subst this
    subst he
    exact ⟨none, 0, rfl, rfl, by simp, .inl rfl⟩
  · rw [← hrl]
    refine ⟨_, cap, rfl, rfl, by omega, .inr ⟨g, 0, rfl, ?_, fun j hj => ?_⟩⟩
    · rcases Nat.lt_or_ge g w.heap.size with h | h
      · exact h
      · rw [Array.getElem?_eq_none h] at hh; cases hh
    · have hl := rcells_len L
      rw [hrl] at hj
      have hg2 := rcells_get L j hj
      have this := fun i hi => World.ownsRow.cellAt (base := base) (e := 24) (size := 3) ⟨h1, .inr ⟨g, cap, cur, rfl, hg, hh, hc, hm, hs, ht⟩⟩ i hi
      rw [map_getD he j]
      refine ⟨(L.getD j lr0).2.1, (L.getD j lr0).2.2, ?_, ?_, ?_, hi _ (getD_mem hj _)⟩
      all_goals rw [Nat.zero_add, this _ (by omega)]
      · exact hg2.1
      · exact hg2.2.1
      · exact hg2.2.2
theorem Tryz.infoImage : (Tryz.prog.info? 24).map (fun i => (i.zero, i.size, i.bytes)) = some (some (.agg #[.int .i64 0, .int .i64 0, .slice none 0 0]), 3, 40) := by kernel_rfl
theorem cell_three_new (w : World) (v0 v1 v2 : Value) (t : TypeId) : ∀ (j : Nat) (u : Value), [v0, v1, v2][j]? = some u → (w.alloc (.cells #[v0, v1, v2] t)).cell? ((⟨w.heap.size, 0, none⟩ : Addr).add j) = some u := by
  intro j u h
  match j, h with
  | 0, h => simp at h; subst h; simp [go_sem, Addr.add]
  | 1, h => simp at h; subst h; simp [go_sem, Addr.add]
  | 2, h => simp at h; subst h; simp [go_sem, Addr.add]
theorem OwnsR.push {base : Nat} {w wx w1 : World} {v v' : Value} {L : Lr} {x : Res × Option Addr × Nat} {B0 : World} {o : Obj} (h : OwnsR base w v L) (hb : Below base B0 w) (hB : base ≤ w.heap.size)
    (h' : w1.ownsRow base 24 3 v' (L.length + 1) (rcells L ++ [.int .i64 x.1.W, .int .i64 x.1.H, .slice x.2.1 x.1.ps.length x.2.2])) (hx : wx = w.alloc o) (hg : wx.grownBy w1 v.ownBlock) : OwnsR base w1 v' (L ++ [x]) ∧ Below base B0 w1 := by
  subst hx
  refine ⟨by unfold OwnsR; rw [rcells_snoc]; simpa using h', ?_⟩
  exact (hb.alloc hB o).grown hg (by simp; omega) (fun j hj => (World.ownsRow.lt (w := w) h j hj).1)
theorem pickR_succ (rs : List Res) (is : List Int) (k : Nat) (hk : k < is.length) : pickR rs (is.take (k + 1)) = pickR rs (is.take k) ++ [rs.getD (is.getD k 0).toNat (noRes 0)] := by
  unfold pickR
  rw [List.take_succ_eq_append_getElem hk, List.map_append, List.getD_eq_getElem?_getD (l := is), List.getElem?_eq_getElem hk]
  rfl
end Go.Proofs.YtaenpgdmiaekcaaGreatDoor
/-
  RENDERA: paint.Pass in one; lists of lists of numbers in memory; the images of frame.Render, by number.
-/
namespace Go.Proofs.YtaenpgdmiaekcaaGreatDoor
set_option maxRecDepth 100000
open Go.RowKit Im

/-- paint.Pass. -/
theorem paint_any {Op : Int} (To A B : Int) {K : Int} {la : Option Addr} {ll : Nat} (lc : Nat) {ls : List Lt} (zw zh : Int) {fa : Option Addr} {flen : Nat} (fcap : Nat) {fr : List Res} {bi : Nat} {w : World} (hk : knownB Op = true) (hL : Lights w la ll ls) (hI : Imgs bi w fa flen fr) (hA : hasA Op = true → 1 ≤ flen) (hB : hasB Op = true → 2 ≤ flen) :
    Calls Tryz.prog 31 #[.agg #[.int .i64 Op, .int .i64 To, .int .i64 A, .int .i64 B, .int .i64 K, .slice la ll lc], .agg #[.int .i64 zw, .int .i64 zh], .slice fa flen fcap] w (Told w (paintRes ⟨Op, To, A, B, K, ls⟩ (zw, zh) fr)) := by
  by_cases h12 : Op = 1 ∨ Op = 2
  · refine paint_make Op To A B K la ll lc zw zh fa flen fcap w h12 ?_
    unfold paintRes
    rw [if_pos h12]
  · have hA1 : hasA Op = true := by simp [knownB, withinB] at hk; simp [hasA, withinB]; omega
    have hfl := hA hA1
    obtain ⟨b, off, pa, pc, rfl, hb, d0, d1, d2, hi⟩ := hI.nth (k := 0) (by omega)
    rw [Nat.zero_mul, Nat.add_zero] at d0 d1 d2
    by_cases hB1 : hasB Op = true
    · have hf2 := hB hB1
      obtain ⟨b', off', qa, qc, e, _, g0, g1, g2, hj⟩ := hI.nth (k := 1) (by omega)
      injection e with e
      injection e with e1 e2
      subst e1 e2
      rw [Nat.one_mul] at g0 g1 g2
      have hop : Op = 4 ∨ Op = 5 ∨ Op = 6 ∨ Op = 7 := by simp [hasB, withinB] at hB1; omega
      refine paint_two Op To A B K la ll lc zw zh flen fcap w hop b off hb (by omega) (by omega) _ _ pa pc _ d0 d1 d2 (hi.mono (Nat.zero_le _)) _ _ qa qc _ g0 g1 g2 (hj.mono (Nat.zero_le _)) ?_
      unfold paintRes
      rw [if_neg h12, if_pos hB1]
    · by_cases h13 : Op = 13
      · subst h13
        refine paint_lit To A B K la ll lc ls zw zh flen fcap w hL b off hb (by omega) _ _ pa pc _ d0 d1 d2 (hi.mono (Nat.zero_le _)) ?_
        unfold paintRes
        rw [if_neg h12, if_neg hB1, if_pos rfl]
      · have hop : Op = 3 ∨ Op = 8 ∨ Op = 9 ∨ Op = 10 ∨ Op = 11 ∨ Op = 12 := by simp [hasA, withinB] at hA1; simp [hasB, withinB] at hB1; omega
        refine paint_one Op To A B K la ll lc zw zh flen fcap w hop b off hb (by omega) _ _ pa pc _ d0 d1 d2 (hi.mono (Nat.zero_le _)) ?_
        unfold paintRes
        rw [if_neg h12, if_neg hB1, if_neg h13]
/-- A slice's elements are the lists of numbers ss. -/
structure LLs (w : World) (a : Option Addr) (len : Nat) (ss : List (List Int)) : Prop where
  leng : ss.length = len
  cells : ss = [] ∨ ∃ b off, a = some ⟨b, off, none⟩ ∧ b < w.heap.size ∧ ∀ j, j < len → ∃ ua uc, w.cell? ⟨b, off + j, none⟩ = some (.slice ua (ss.getD j []).length uc) ∧ Ints 0 w ua (ss.getD j []).length (ss.getD j [])
theorem LLs.below {w w' : World} {a : Option Addr} {len : Nat} {ss : List (List Int)} (h : LLs w a len ss) (hb : Below w.heap.size w w') : LLs w' a len ss := by
  refine ⟨h.leng, ?_⟩
  rcases h.cells with e | ⟨b, off, ha, hl, hc⟩
  · exact .inl e
  · refine .inr ⟨b, off, ha, Nat.lt_of_lt_of_le hl hb.size, fun j hj => ?_⟩
    obtain ⟨ua, uc, c0, hi⟩ := hc j hj
    exact ⟨ua, uc, (hb.cell (p := ⟨b, off + j, none⟩) hl).trans c0, hi.below (Nat.le_refl _) hb⟩
theorem LLs.nth {w : World} {a : Option Addr} {len : Nat} {ss : List (List Int)} (h : LLs w a len ss) {k : Nat} (hk : k < len) : ∃ b off ua uc, a = some ⟨b, off, none⟩ ∧ b < w.heap.size ∧ w.cell? ⟨b, off + k, none⟩ = some (.slice ua (ss.getD k []).length uc) ∧ Ints 0 w ua (ss.getD k []).length (ss.getD k []) := by
  rcases h.cells with e | ⟨b, off, ha, hl, hc⟩
  · have := h.leng; subst e; simp at this; omega
  · obtain ⟨ua, uc, r⟩ := hc k hk
    exact ⟨b, off, ua, uc, ha, hl, r⟩
theorem OwnsLL.lls {base : Nat} {w : World} {v : Value} {ss : List (List Int)} (h : OwnsLL base w v ss) (hs : ∀ x ∈ ss, x.length ≤ 2) : ∃ a cap, v = .slice a ss.length cap ∧ LLs w a ss.length ss := by
  obtain ⟨us, h1, h2, h3⟩ := h
  obtain ⟨g1, g2⟩ := id h1
  rcases g2 with ⟨rfl, h0⟩ | ⟨g, cap, cur, rfl, hg, hh, hc, hm, hs', ht⟩
  · have : ss = [] := by simpa using h0
    subst this
    exact ⟨none, 0, rfl, rfl, .inl rfl⟩
  · refine ⟨_, cap, rfl, rfl, .inr ⟨g, 0, rfl, ?_, fun j hj => ?_⟩⟩
    · rcases Nat.lt_or_ge g w.heap.size with h | h
      · exact h
      · rw [Array.getElem?_eq_none h] at hh; cases hh
    · obtain ⟨u, hu, ho⟩ := h3 j (ss.getD j []) (by rw [List.getD_eq_getElem?_getD, List.getElem?_eq_getElem hj]; rfl)
      have hl := hs _ (getD_mem hj [])
      obtain ⟨ua, uc, rfl, hi⟩ := ho.ints (by omega)
      refine ⟨ua, uc, ?_, hi.mono (Nat.zero_le _)⟩
      rw [Nat.zero_add, World.ownsRow.cellAt h1 j (by omega)]
      exact hu
end Go.Proofs.YtaenpgdmiaekcaaGreatDoor
/-
  LIGHTREF: the reference's CheckLights, far and LightAt.
-/
namespace Go.Proofs.YtaenpgdmiaekcaaGreatDoor
set_option maxRecDepth 100000
open Go.RowKit Im

theorem rightW (l : Lt) : rightB l = (withinB l.X 0 15 && withinB l.Y 0 15 && withinB l.R 1 32 && withinB l.P 0 65535) := by
  rw [Bool.eq_iff_iff, right_iff]; simp [withinB]; omega
theorem checkR_many (a : Option Addr) (len cap : Nat) (w : World) (h : 8 < len) (_hb : len ≤ 9223372036854775807) : Calls Tryz.prog 133 #[.slice a len cap] w fun e w' => e = .returned (.int .i64 2) ∧ Below w.heap.size w w' := by
  have h' : (8 : Int) < (len : Int) := by omega
  go_enter Tryz.func133, Tryz.ntmps133
  go_wp2
  go_ret
  exact ⟨rfl, Below.refl _ _⟩
theorem checkR_nil (a : Option Addr) (cap : Nat) (w : World) : Calls Tryz.prog 133 #[.slice a 0 cap] w fun e w' => e = .returned (.int .i64 0) ∧ Below w.heap.size w w' := by
  go_enter Tryz.func133, Tryz.ntmps133
  go_wp2
  go_loop [3] (fun i => i = .int .i64 0) (fun _ => 0)
  case atStart => rfl
  case round =>
    subst hrel
    go_wp2
    go_ret
    exact ⟨rfl, Below.refl _ _⟩
set_option maxHeartbeats 1000000 in
theorem checkR_row (b off len cap : Nat) (ls : List Lt) (w : World) (hl : ls.length = len) (h8 : len ≤ 8) (hc : ∀ j, j < len → w.cell? ⟨b, off + j * 4, none⟩ = some (.int .i64 (ls.getD j Lt.zero).X) ∧ w.cell? ⟨b, off + j * 4 + 1, none⟩ = some (.int .i64 (ls.getD j Lt.zero).Y) ∧ w.cell? ⟨b, off + j * 4 + 2, none⟩ = some (.int .i64 (ls.getD j Lt.zero).R) ∧ w.cell? ⟨b, off + j * 4 + 3, none⟩ = some (.int .i64 (ls.getD j Lt.zero).P)) :
    Calls Tryz.prog 133 #[.slice (some ⟨b, off, none⟩) len cap] w fun e w' => e = .returned (.int .i64 (okIf (ls.all rightB) 3)) ∧ Below w.heap.size w w' := by
  have h8' : ¬ (8 : Int) < (len : Int) := by omega
  go_enter Tryz.func133, Tryz.ntmps133
  go_wp2
  go_loop [3] (fun i => ∃ k : Nat, k ≤ len ∧ i = .int .i64 k ∧ (ls.take k).all rightB = true) (fun i => len - (intOf i).toNat)
  case atStart => exact ⟨0, Nat.zero_le _, rfl, rfl⟩
  case round =>
    obtain ⟨k, hk, rfl, hall⟩ := hrel
    by_cases hlt : k < len
    · obtain ⟨c0, c1, c2, c3⟩ := hc k hlt
      have n1 := rall_succ ls k (by omega) hall
      have n2 := rall_not ls k (by omega)
      rw [rightW] at n1 n2
      generalize ls.getD k Lt.zero = l at c0 c1 c2 c3 n1 n2
      obtain ⟨X, Y, R, P⟩ := l
      dsimp only at c0 c1 c2 c3 n1 n2
      clear hc
      by_cases h1 : withinB X 0 15 = true
      · by_cases h2 : withinB Y 0 15 = true
        · by_cases h3 : withinB R 1 32 = true
          · by_cases h4 : withinB P 0 65535 = true
            · have hx := n1 (by rw [h1, h2, h3, h4]; rfl)
              clear n1 n2
              go_wp2_with (go_at_call 15; refine (within_any _ _ _ _).mono ?_; rintro e w' ⟨rfl, rfl⟩)
              go_round
              case rel => exact ⟨k + 1, by omega, by go_num, hx⟩
              case measure => simp [intOf]; omega
            · have h4' := eq_false_of_ne_true h4
              have hx := n2 (by rw [h1, h2, h3, h4']; rfl)
              clear n1 n2
              go_wp2_with (go_at_call 15; refine (within_any _ _ _ _).mono ?_; rintro e w' ⟨rfl, rfl⟩)
              go_ret
              exact ⟨by first | rfl | (rw [hx]; rfl), Below.refl _ _⟩
          · have h3' := eq_false_of_ne_true h3
            have hx := n2 (by rw [h1, h2, h3']; rfl)
            clear n1 n2
            go_wp2_with (go_at_call 15; refine (within_any _ _ _ _).mono ?_; rintro e w' ⟨rfl, rfl⟩)
            go_ret
            exact ⟨by first | rfl | (rw [hx]; rfl), Below.refl _ _⟩
        · have h2' := eq_false_of_ne_true h2
          have hx := n2 (by rw [h1, h2']; rfl)
          clear n1 n2
          go_wp2_with (go_at_call 15; refine (within_any _ _ _ _).mono ?_; rintro e w' ⟨rfl, rfl⟩)
          go_ret
          exact ⟨by first | rfl | (rw [hx]; rfl), Below.refl _ _⟩
      · have h1' := eq_false_of_ne_true h1
        have hx := n2 (by rw [h1']; rfl)
        clear n1 n2
        go_wp2_with (go_at_call 15; refine (within_any _ _ _ _).mono ?_; rintro e w' ⟨rfl, rfl⟩)
        go_ret
        exact ⟨by first | rfl | (rw [hx]; rfl), Below.refl _ _⟩
    · have hx : ls.all rightB = true := by rw [List.take_of_length_le (by omega)] at hall; exact hall
      go_wp2
      go_ret
      exact ⟨by first | rfl | (rw [hx]; rfl), Below.refl _ _⟩
/-- The reference's CheckLights. -/
theorem checkR_any {a : Option Addr} {len : Nat} (cap : Nat) {ls : List Lt} {w : World} (h : Lights w a len ls) : Calls Tryz.prog 133 #[.slice a len cap] w fun e w' => e = .returned (.int .i64 (lightsErr ls)) ∧ Below w.heap.size w w' := by
  have hl := h.leng
  by_cases h8 : ls.length ≤ 8
  · have e : lightsErr ls = okIf (ls.all rightB) 3 := by simp [lightsErr, h8]
    rw [e]
    rcases h.cells with e | ⟨b, off, rfl, hb, hc⟩
    · subst e
      have : len = 0 := by simpa using hl.symm
      subst this
      exact checkR_nil a cap w
    · exact checkR_row b off len cap ls w hl (by omega) hc
  · have e : lightsErr ls = 2 := by simp [lightsErr, h8]
    rw [e]
    exact checkR_many a len cap w (by omega) h.big

theorem abs_any (n m : Int) (w : World) (hn : -100 ≤ n ∧ n ≤ 100) (hm : max n (-n) = m) : Calls Tryz.prog 184 #[.int .i64 n] w fun e w' => e = .returned (.int .i64 m) ∧ w' = w := by
  have h : (if n < -n then -n else n) = m := by rw [← hm]; split <;> omega
  clear hm
  go_enter Tryz.func184, Tryz.ntmps184
  go_wp2
  go_ret
  exact ⟨rfl, rfl⟩
/-- The reference's far: the distance. -/
theorem far_any (l : Lt) (x y : Int) (w : World) (hl : rightB l = true) (hx : 0 ≤ x ∧ x < 16) (hy : 0 ≤ y ∧ y < 16) :
    Calls Tryz.prog 182 #[.agg #[.int .i64 l.X, .int .i64 l.Y, .int .i64 l.R, .int .i64 l.P], .int .i64 x, .int .i64 y] w fun e w' => e = .returned (.int .i64 (awayP l.X x 1 + awayP l.Y y 1)) ∧ Below w.heap.size w w' := by
  obtain ⟨hX, hY, hR, hP⟩ := (right_iff l).1 hl
  have c1 := fun wx => abs_any (l.X - x) (awayP l.X x 1) wx (by omega) (by unfold awayP; omega)
  have c2 := fun wx => abs_any (l.Y - y) (awayP l.Y y 1) wx (by omega) (by unfold awayP; omega)
  have a1 := away_bd l.X x 1 hX hx (by omega)
  have a2 := away_bd l.Y y 1 hY hy (by omega)
  generalize awayP l.X x 1 = d1 at *
  generalize awayP l.Y y 1 = d2 at *
  obtain ⟨X, Y, R, P⟩ := l
  dsimp only at *
  clear hl
  go_enter Tryz.func182, Tryz.ntmps182
  go_wp2
  go_quiet ((first | (go_at_call 184; with_reducible exact Calls.quiet_of_same (c1 _)) | (go_at_call 184; with_reducible exact Calls.quiet_of_same (c2 _))))
  clear c1 c2
  go_wp2
  go_ret
  exact ⟨rfl, below_drewN ((Below.refl _ _).alloc (Nat.le_refl _) _) _⟩
set_option maxHeartbeats 1000000 in
/-- The reference's LightAt, of right lights and a place. -/
theorem lightAt_any {a : Option Addr} {len : Nat} (cap : Nat) {ls : List Lt} (x y : Int) {w : World} (h : Lights w a len ls) (h8 : ls.length ≤ 8) (hr : ls.all rightB = true) (hx : 0 ≤ x ∧ x < 16) (hy : 0 ≤ y ∧ y < 16) :
    Calls Tryz.prog 172 #[.slice a len cap, .int .i64 x, .int .i64 y] w fun e w' => e = .returned (.int .i64 (sumG x y ls)) ∧ Below w.heap.size w w' := by
  have hl := h.leng
  rcases h.cells with e | ⟨b, off, rfl, hb, hcl⟩
  · subst e
    have : len = 0 := by simpa using hl.symm
    subst this
    go_enter Tryz.func172, Tryz.ntmps172
    go_wp2
    go_loop [7, 8] (fun s i => s = .int .i64 0 ∧ i = .int .i64 0) (fun _ _ => 0)
    case atStart => exact ⟨rfl, rfl⟩
    case round =>
      obtain ⟨rfl, rfl⟩ := hrel
      go_wp2
      go_ret
      exact ⟨rfl, Below.refl _ _⟩
  · go_enter Tryz.func172, Tryz.ntmps172
    go_wp2
    go_loopw [7, 8] (fun s i wr => ∃ k : Nat, k ≤ len ∧ i = .int .i64 k ∧ s = .int .i64 (sumG x y (ls.take k)) ∧ Below w.heap.size w wr) (fun _ i _ => len - (intOf i).toNat)
    case atStart => exact ⟨0, Nat.zero_le _, rfl, rfl, Below.refl _ _⟩
    case round =>
      obtain ⟨k, hk, rfl, rfl, hbr⟩ := hrel
      have sb := sumG_bd x y hx hy (ls.take k) (all_take ls k hr)
      have sl : (ls.take k).length ≤ 8 := by rw [List.length_take]; omega
      have sb2 : sumG x y (ls.take k) ≤ 65535 * 8 := by omega
      obtain ⟨sb1, _⟩ := sb
      by_cases hlt : k < len
      · have hcw := fun (w2 : World) (hb2 : Below w.heap.size w w2) => (show w2.cell? ⟨b, off + k * 4, none⟩ = some (.int .i64 (ls.getD k Lt.zero).X) ∧ w2.cell? ⟨b, off + k * 4 + 1, none⟩ = some (.int .i64 (ls.getD k Lt.zero).Y) ∧ w2.cell? ⟨b, off + k * 4 + 2, none⟩ = some (.int .i64 (ls.getD k Lt.zero).R) ∧ w2.cell? ⟨b, off + k * 4 + 3, none⟩ = some (.int .i64 (ls.getD k Lt.zero).P) from ⟨(hb2.cell (p := ⟨b, off + k * 4, none⟩) hb).trans (hcl k hlt).1, (hb2.cell (p := ⟨b, off + k * 4 + 1, none⟩) hb).trans (hcl k hlt).2.1, (hb2.cell (p := ⟨b, off + k * 4 + 2, none⟩) hb).trans (hcl k hlt).2.2.1, (hb2.cell (p := ⟨b, off + k * 4 + 3, none⟩) hb).trans (hcl k hlt).2.2.2⟩)
        have hrk := all_getD ls k (by omega) hr
        have hgv := fun wx => far_any (ls.getD k Lt.zero) x y wx hrk hx hy
        have hgb := given_bd hrk x y hx hy
        have g1 := given_pos (l := ls.getD k Lt.zero) (x := x) (y := y) rfl
        have g2 := given_zero (l := ls.getD k Lt.zero) (x := x) (y := y) rfl
        have hsn : Hid (sumG x y (ls.take (k + 1)) = sumG x y (ls.take k) + givenP (ls.getD k Lt.zero) x y) := by show _ = _; rw [take_snocL ls k (by omega), sumG_snoc]
        obtain ⟨hX, hY, hR, hP⟩ := (right_iff _).1 hrk
        have a1 := away_bd (ls.getD k Lt.zero).X x 1 hX hx (by omega)
        have a2 := away_bd (ls.getD k Lt.zero).Y y 1 hY hy (by omega)
        have ad : 0 ≤ awayP (ls.getD k Lt.zero).X x 1 + awayP (ls.getD k Lt.zero).Y y 1 ∧ awayP (ls.getD k Lt.zero).X x 1 + awayP (ls.getD k Lt.zero).Y y 1 ≤ 30 := by omega
        clear hrk a1 a2
        generalize awayP (ls.getD k Lt.zero).X x 1 + awayP (ls.getD k Lt.zero).Y y 1 = d at hgv g1 g2 ad
        generalize givenP (ls.getD k Lt.zero) x y = gv at hgb hsn g1 g2
        generalize ls.getD k Lt.zero = l at hcw hgv g1 g2 hX hY hR hP
        obtain ⟨X, Y, R, P⟩ := l
        dsimp only at hcw hgv g1 g2 hX hY hR hP
        obtain ⟨c0, c1, c2, c3⟩ := hcw wr hbr
        clear hcl
        by_cases hd : d < R
        · have hg := g1 hd
          have m1 : 0 ≤ P * (R - d) := Int.mul_nonneg hP.1 (by omega)
          have m2 : P * (R - d) ≤ 65535 * 32 := Int.mul_le_mul hP.2 (by omega) (by omega) (by omega)
          have hg' : P * (R - d) / R = gv := hg.symm
          clear g1 g2 hg
          go_wp2_with (go_at_call 182; refine (hgv _).mono ?_; rintro e w2 ⟨rfl, hb2⟩; have hbn := below_stepL hbr hb2; obtain ⟨z0, z1, z2, z3⟩ := hcw w2 hbn)
          go_quiet (fail)
          go_wp2
          go_roundw
          case rel => exact ⟨k + 1, by omega, by go_num, by rw [hsn.out], below_drewN hbn _⟩
          case measure => simp [intOf]; omega
        · have hg := g2 hd
          subst hg
          clear g1 g2
          go_wp2_with (go_at_call 182; refine (hgv _).mono ?_; rintro e w2 ⟨rfl, hb2⟩; have hbn := below_stepL hbr hb2; obtain ⟨z0, z1, z2, z3⟩ := hcw w2 hbn)
          go_roundw
          case rel => exact ⟨k + 1, by omega, by go_num, by rw [hsn.out, Int.add_zero], hbn⟩
          case measure => simp [intOf]; omega
      · have e : ls.take k = ls := List.take_of_length_le (by omega)
        go_wp2
        go_ret
        exact ⟨by first | rfl | (rw [e]; rfl), hbr⟩
end Go.Proofs.YtaenpgdmiaekcaaGreatDoor
/-
  NEARREF: the reference's NearOf.
-/
namespace Go.Proofs.YtaenpgdmiaekcaaGreatDoor
set_option maxRecDepth 100000
open Go.RowKit Im

end Go.Proofs.YtaenpgdmiaekcaaGreatDoor
/-
  LITREF: the reference's LitOf.
-/
namespace Go.Proofs.YtaenpgdmiaekcaaGreatDoor
set_option maxRecDepth 100000
open Go.RowKit Im

/-- An append to a row of the call's own, as one step of a region that draws. -/
theorem step_append_mine {P : Program} {ops : Array Oper} {o : Oper} {a : Act} {w : World} {K : Act → World → Prop} {Q : Exit → Act → World → Prop} {E : Prop}
    (hg : o.guard = none) (s x : Operand) (t : TypeId) (ho : o.op = .call { callee := .builtin .append, args := #[s, x], argTypes := #[t, t] })
    (base : Nat) (e : TypeId) (i : TypeInfo) (z : Value) (size bytes : Nat) (ht : P.underlying t = some (.slice e)) (hi : P.info? e = some i) (hz : i.zero = some z)
    (hsize : i.size = size) (hby : i.bytes = bytes) (hzs : z.cells.size = size) (hsz : 0 < size)
    (v : Value) (n : Nat) (xs : List Value) (hs : a.eval s = v) (hown : w.ownsRow base e size v n xs)
    (ad : Addr) (m c : Nat) (news : List Value) (hx : a.eval x = .slice (some ad) m c) (hl : news.length = m * size) (hnews : ∀ j u, news[j]? = some u → w.cell? (ad.add j) = some u) (h1 : ∀ u ∈ news, u.oneCell' = true)
    (h63 : n + m ≤ maxLen) (hbytes : (n + m) * bytes ≤ 140737488355328) (hbase : base ≤ w.heap.size)
    (hK : ∀ v' w', w'.ownsRow base e size v' (n + m) (xs ++ news) → w.grownBy w' v.ownBlock → K (a.put o.dst v') w') :
    if Region.wanted o (yielded ops a.tmps) = true then Oper.wp P o a w K Q else E := by
  have hw : Region.wanted o (yielded ops a.tmps) = true := by simp [Region.wanted, hg]
  rw [if_pos hw]
  exact wp_append_own w s x t ho base e i z size bytes ht hi hz hsize hby hzs hsz v n xs hs hown ad m c news hx hl hnews h1 h63 hbytes hbase fun v' w' h2 h3 _ => hK v' w' h2 h3

/-- Behind a call from the round on. -/
theorem Acc.call {c : Nat} {w0 wr w1 w2 : World} {W H : Int} {v : Value} {qs : List Int} (h : Acc c w0 wr W H v qs) (h1 : Below wr.heap.size wr w1) (h2 : Below w1.heap.size w1 w2) : Below wr.heap.size wr w2 ∧ w2.cell? ⟨c, 2, none⟩ = some v ∧ c < w2.heap.size := by
  have hb := below_stepL h1 h2
  have ha := h.below hb
  exact ⟨hb, ha.cells.2.2.1, ha.siz⟩

set_option maxRecDepth 100000 in
set_option maxHeartbeats 2000000 in
theorem litOf_any {w : World} {b off cap W H : Nat} {ps : List Int} {la : Option Addr} {llen : Nat} (lcap : Nat) {ls : List Lt} (hF : Fine w b off W H ps) (hl : Lights w la llen ls) (h8 : ls.length ≤ 8) (hr : ls.all rightB = true) :
    Calls Tryz.prog 138 #[.agg #[.int .i64 W, .int .i64 H, .slice (some ⟨b, off, none⟩) (W * H) cap], .slice la llen lcap] w fun e w' =>
      ∃ a cap', e = .returned (.agg #[.int .i64 W, .int .i64 H, .slice a (W * H) cap']) ∧ Ints w.heap.size w' a (W * H) (pix W (litG W ps ls) (W * H)) ∧ Below w.heap.size w w' := by
  obtain ⟨i0, hi, hz0, hz1, hz2⟩ := info_parts Tryz.info3
  obtain ⟨hw1, hw2⟩ := hF.hW
  obtain ⟨hh1, hh2⟩ := hF.hH
  have hWH : W * H ≤ 256 := Nat.mul_le_mul hw2 hh2
  have hB0 : Below w.heap.size w (((w.alloc (.cells #[.int .i64 W, .int .i64 H, .slice (some ⟨b, off, none⟩) (W * H) cap] 24)).alloc (.cells #[.int .i64 0, .int .i64 0, .slice none 0 0] 24)).alloc (.cells #[.int .i64 W, .int .i64 H, .slice none 0 0] 24)) := lit_B w _ _ _
  have hBx : Boxed (((w.alloc (.cells #[.int .i64 W, .int .i64 H, .slice (some ⟨b, off, none⟩) (W * H) cap] 24)).alloc (.cells #[.int .i64 0, .int .i64 0, .slice none 0 0] 24)).alloc (.cells #[.int .i64 W, .int .i64 H, .slice none 0 0] 24)) w.heap.size b off cap W H := ⟨by simp; omega, by simp [go_sem], by simp [go_sem], by simp [go_sem]⟩
  have hst := Acc.start ((w.alloc (.cells #[.int .i64 W, .int .i64 H, .slice (some ⟨b, off, none⟩) (W * H) cap] 24)).alloc (.cells #[.int .i64 0, .int .i64 0, .slice none 0 0] 24)) (w.heap.size + 1 + 1) W H (by simp)
  have z0 : (((w.alloc (.cells #[.int .i64 W, .int .i64 H, .slice (some ⟨b, off, none⟩) (W * H) cap] 24)).alloc (.cells #[.int .i64 0, .int .i64 0, .slice none 0 0] 24)).alloc (.cells #[.int .i64 W, .int .i64 H, .slice none 0 0] 24)).cell? ⟨w.heap.size + 1, 0, none⟩ = some (.int .i64 0) := by simp [go_sem]
  have z1 : (((w.alloc (.cells #[.int .i64 W, .int .i64 H, .slice (some ⟨b, off, none⟩) (W * H) cap] 24)).alloc (.cells #[.int .i64 0, .int .i64 0, .slice none 0 0] 24)).alloc (.cells #[.int .i64 W, .int .i64 H, .slice none 0 0] 24)).cell? ⟨w.heap.size + 1, 1, none⟩ = some (.int .i64 0) := by simp [go_sem]
  have z2 : (((w.alloc (.cells #[.int .i64 W, .int .i64 H, .slice (some ⟨b, off, none⟩) (W * H) cap] 24)).alloc (.cells #[.int .i64 0, .int .i64 0, .slice none 0 0] 24)).alloc (.cells #[.int .i64 W, .int .i64 H, .slice none 0 0] 24)).cell? ⟨w.heap.size + 1, 2, none⟩ = some (.slice none 0 0) := by simp [go_sem]
  have y0 : ∀ o, (((w.alloc (.cells #[.int .i64 W, .int .i64 H, .slice (some ⟨b, off, none⟩) (W * H) cap] 24)).alloc (.cells #[.int .i64 0, .int .i64 0, .slice none 0 0] 24)).alloc (.cells #[.int .i64 W, .int .i64 H, .slice none 0 0] 24)).frozen? ⟨w.heap.size + 1, o, none⟩ = false := fun o => by simp [go_sem]
  go_enter Tryz.func138, Tryz.ntmps138
  go_wp2
  generalize hw0 : (((w.alloc (.cells #[.int .i64 W, .int .i64 H, .slice (some ⟨b, off, none⟩) (W * H) cap] 24)).alloc (.cells #[.int .i64 0, .int .i64 0, .slice none 0 0] 24)).alloc (.cells #[.int .i64 W, .int .i64 H, .slice none 0 0] 24)) = w0 at hB0 hBx hst z0 z1 z2 y0 ⊢
  clear hw0
  go_loopw [6] (fun i wr => ∃ (y : Nat) (v : Value), y ≤ H ∧ i = .int .i64 y ∧ Acc (w.heap.size + 1 + 1) w0 wr W H v (pix W (litG W ps ls) (y * W))) (fun i _ => H - (intOf i).toNat)
  case atStart => exact ⟨0, .slice none 0 0, Nat.zero_le _, rfl, by rw [Nat.zero_mul]; exact hst⟩
  case round =>
    obtain ⟨y, v, hy, rfl, hacc⟩ := hrel
    obtain ⟨q0, q1, q2, qf⟩ := hacc.cells
    obtain ⟨_, k0, k1, k2⟩ := hBx.belowN hacc.bel (by omega)
    by_cases hlt : y < H
    · go_wp2
      go_loopw [7] (fun i ws => ∃ (x : Nat) (v : Value), x ≤ W ∧ i = .int .i64 x ∧ Acc (w.heap.size + 1 + 1) w0 ws W H v (pix W (litG W ps ls) (y * W + x))) (fun i _ => W - (intOf i).toNat)
      case atStart => exact ⟨0, v, Nat.zero_le _, rfl, hacc⟩
      case round =>
        obtain ⟨x, v2, hx, rfl, hacs⟩ := hrel
        obtain ⟨w1, e1⟩ : ∃ z, z = wr := ⟨_, rfl⟩
        subst e1
        clear k0 k1 k2 q0 q1 q2 qf
        obtain ⟨c0, c1, c2, cf⟩ := hacs.cells
        have hBr := hBx.belowN hacs.bel (by omega)
        by_cases hlx : x < W
        · have hsz := hacs.siz
          have hbW : Below w.heap.size w w1 := hB0.trans (hacs.bel.mono (by omega))
          have hFr := hF.below hbW
          have hLr := hl.below hbW
          obtain ⟨_, k0, k1, k2⟩ := id hBr
          have hpl : y * W + x < W * H := place_lt hlx hlt
          have hlen : (pix W (litG W ps ls) (y * W + x)).length = y * W + x := pix_length _ _ _
          have hpb := hFr.px_bd x y hlx hlt
          have hsb := sumG_bd x y (by omega) (by omega) ls hr
          obtain ⟨pv, hpv⟩ : ∃ pv, pv = px W ps x y := ⟨_, rfl⟩
          obtain ⟨sv, hsv⟩ : ∃ sv, sv = sumG x y ls := ⟨_, rfl⟩
          have hcall1 := fun w' hb' => at_any (cap := cap) (hFr.below (w' := w') hb') x y x y rfl rfl hlx hlt
          have hcall2 := fun w' hb' => lightAt_any lcap x y (hLr.below (w' := w') hb') h8 hr (by omega) (by omega)
          obtain ⟨gx, hgx⟩ : ∃ gx, (if pv + sv < 65535 then pv + sv else 65535) = gx := ⟨_, rfl⟩
          have HG : Hid (gx = litG W ps ls x y) := by show gx = _; rw [← hgx, hpv, hsv]; unfold litG; split <;> omega
          rw [← hpv] at hcall1 hpb
          rw [← hsv] at hcall2 hsb
          clear hpv hsv
          have hwr : IntKind.i64.wrap (pv + sv) = pv + sv := by rw [IntKind.wrap_i64]; omega
          have hb1 : Below w1.heap.size w1 w1.drew := (Below.refl _ _).drew
          go_wp2
          go_region_law (first
              | (go_simp; go_at_call 17; refine (hcall1 _ (by assumption)).mono ?_; rintro e w2 ⟨rfl, hb2⟩; obtain ⟨hbn, hvn, hsn⟩ := hacs.call (by assumption) hb2; go_wp2_with fail)
              | (go_simp; go_at_call 172; refine (hcall2 _ (by assumption)).mono ?_; rintro e w3 ⟨rfl, hb3⟩; obtain ⟨hbm, hvm, hsm⟩ := hacs.call (by assumption) hb3; go_wp2_with fail)
              | (refine step_append_mine rfl _ _ 22 rfl (w.heap.size + 1 + 1 + 1) 3 i0 (.int .i64 0) 1 8 Tryz.underlying22 hi hz0 hz1 hz2 rfl (by decide) v2 _ _ rfl (World.ownsRow.alloc (hacs.below hbm).own _) ⟨w3.heap.size, 0, none⟩ 1 1 [.int .i64 gx] rfl rfl (cell_one_new _ _ _) (by intro u hu; simp at hu; subst hu; rfl) (by rw [hlen]; unfold maxLen; omega) (by rw [hlen]; omega) (by simp; omega) ?_; intro v' w9 hown9 hgrow9; obtain ⟨hm, m2, m3⟩ := (hacs.below hbm).mid hgrow9; have R := (hacs.below hbm).push hgrow9 hown9; obtain ⟨a', cap', hv'⟩ := owns_slice hown9; subst hv'))
          all_goals go_wp2
          all_goals rw [hlen] at R
          all_goals refine ⟨⟨x + 1, _, by omega, by go_num, by rw [← Nat.add_assoc, pix_succ W _ x y hlx, ← HG.out]; exact R⟩, by simp [intOf]; omega⟩
        · have hxW : x = W := by omega
          subst hxW
          obtain ⟨_, k0, k1, k2⟩ := hBr
          go_wp2
          go_roundw
          case rel => exact ⟨y + 1, v2, by omega, by go_num, by rw [Nat.add_mul, Nat.one_mul]; exact hacs⟩
          case measure => simp [intOf]; omega
    · have hyH : y = H := by omega
      subst hyH
      have hlen : (pix W (litG W ps ls) (y * W)).length = y * W := pix_length _ _ _
      obtain ⟨a, cap', rfl, hints⟩ := hacc.ints (by rw [hlen, Nat.mul_comm]; omega)
      have hsz := hacc.siz
      have d0 : wr.cell? ⟨w.heap.size + 1, 0, none⟩ = some (.int .i64 0) := (hacc.bel.cell (by simp)).trans z0
      have d1 : wr.cell? ⟨w.heap.size + 1, 1, none⟩ = some (.int .i64 0) := (hacc.bel.cell (by simp)).trans z1
      have d2 : wr.cell? ⟨w.heap.size + 1, 2, none⟩ = some (.slice none 0 0) := (hacc.bel.cell (by simp)).trans z2
      have f0 : wr.frozen? ⟨w.heap.size + 1, 0, none⟩ = false := (hacc.bel.frozen (by simp)).trans (y0 0)
      have f1 : wr.frozen? ⟨w.heap.size + 1, 1, none⟩ = false := (hacc.bel.frozen (by simp)).trans (y0 1)
      have f2 : wr.frozen? ⟨w.heap.size + 1, 2, none⟩ = false := (hacc.bel.frozen (by simp)).trans (y0 2)
      go_wp2
      rw [hlen, Nat.mul_comm] at hints
      refine bodyPost_ret (v := .agg #[.int .i64 W, .int .i64 y, .slice a (W * y) cap']) (by simp [results, Tryz.results138, go_sem, d0, d1, d2]; exact Nat.mul_comm _ _) rfl ⟨a, cap', rfl, ?_, ?_⟩
      · exact (((hints.setCell (by simp) _).setCell (by simp) _).setCell (by simp) _).mono (by omega)
      · exact (((hB0.trans (hacc.bel.mono (by omega))).setCell (by simp) _).setCell (by simp) _).setCell (by simp) _
end Go.Proofs.YtaenpgdmiaekcaaGreatDoor
/-
  FRAMEREF: the reference's small functions of frames.
-/
namespace Go.Proofs.YtaenpgdmiaekcaaGreatDoor
set_option maxRecDepth 100000
open Go.RowKit Im

theorem isTwo_any' (op : Int) (w : World) : Calls Tryz.prog 136 #[.int .i64 op] w fun e w' => e = .returned (.bool (hasB op)) ∧ w = w' := by
  go_enter Tryz.func136, Tryz.ntmps136
  go_wp2_with (go_at_call 15; refine (within_any _ _ _ _).mono ?_; rintro e w' ⟨rfl, rfl⟩)
  go_ret
  exact ⟨rfl, rfl⟩
theorem kFine_any (Op To A B K : Int) (la : Option Addr) (ll lc : Nat) (w : World) : Calls Tryz.prog 132 #[.agg #[.int .i64 Op, .int .i64 To, .int .i64 A, .int .i64 B, .int .i64 K, .slice la ll lc]] w fun e w' => e = .returned (.bool (if hasK Op = true then kB Op K else true)) ∧ Below w.heap.size w w' := by
  have hb0 := below_box (Below.refl w.heap.size w) (.cells #[.int .i64 Op, .int .i64 To, .int .i64 A, .int .i64 B, .int .i64 K, .slice la ll lc] 72)
  by_cases h1 : Op = 1 ∨ Op = 2 ∨ Op = 8
  · have e1 : hasK Op = true := by rcases h1 with rfl | rfl | rfl <;> rfl
    have e2 : kB Op K = withinB K 0 65535 := by unfold kB; rw [if_neg (by omega), if_neg (by omega)]
    rw [if_pos e1, e2]
    clear e1 e2
    rcases h1 with rfl | rfl | rfl
    all_goals
      go_enter Tryz.func132, Tryz.ntmps132
      go_wp2_with (go_at_call 15; refine (within_any _ _ _ _).mono ?_; rintro e w' ⟨rfl, rfl⟩)
      go_ret
      exact ⟨rfl, hb0⟩
  · by_cases h2 : Op = 9 ∨ Op = 13
    · rcases h2 with rfl | rfl
      all_goals
        rw [if_pos (by decide)]
        unfold kB
        go_enter Tryz.func132, Tryz.ntmps132
        go_wp2_with (go_at_call 15; refine (within_any _ _ _ _).mono ?_; rintro e w' ⟨rfl, rfl⟩)
        go_ret
        exact ⟨rfl, hb0⟩
    · have e1 : ¬ hasK Op = true := by simp [hasK]; omega
      rw [if_neg e1]
      have n1 : ¬ Op = 1 := by omega
      have n2 : ¬ Op = 2 := by omega
      have n8 : ¬ Op = 8 := by omega
      have n9 : ¬ Op = 9 := by omega
      have n13 : ¬ Op = 13 := by omega
      clear h1 h2 e1
      go_enter Tryz.func132, Tryz.ntmps132
      go_wp2
      go_ret
      exact ⟨rfl, hb0⟩
/-- The reference's writer: the last pass ahead of n that made what lies in a slot. -/
theorem writer_any (W H S O : Int) (a : Option Addr) (len cap : Nat) (ps : List Ps) (n : Nat) (s : Int) (w : World) (hp : Passes w a len ps) (hn : n ≤ len) :
    Calls Tryz.prog 93 #[.agg #[.int .i64 W, .int .i64 H, .int .i64 S, .int .i64 O, .slice a len cap], .int .i64 n, .int .i64 s] w fun e w' => e = .returned (.int .i64 (wrt ps n s)) ∧ Below w.heap.size w w' := by
  have hbig := hp.big
  have hB := FBox.new w W H S O a len cap
  have hb0 := below_box (Below.refl w.heap.size w) (.cells #[.int .i64 W, .int .i64 H, .int .i64 S, .int .i64 O, .slice a len cap] 35)
  have hp1 := hp.below hb0
  have hw0 : IntKind.i64.wrap ((n : Int) - 1) = (n : Int) - 1 := by rw [IntKind.wrap_i64]; omega
  obtain ⟨_, g0, g1, g2, g3, g4⟩ := hB
  go_enter Tryz.func93, Tryz.ntmps93
  go_wp2
  go_loop [7] (fun i => ∃ k : Nat, k ≤ n ∧ i = .int .i64 ((k : Int) - 1) ∧ wrt ps n s = wrt ps k s) (fun i => (intOf i + 1).toNat)
  case atStart => exact ⟨n, Nat.le_refl _, rfl, rfl⟩
  case round =>
    obtain ⟨k, hk, rfl, hall⟩ := hrel
    cases k with
    | zero =>
      have HA : Hid (wrt ps n s = -1) := hall
      clear hall
      go_wp2
      go_ret
      exact ⟨by rw [HA.out]; rfl, hb0⟩
    | succ k =>
      have HA : Hid (wrt ps n s = if (ps.getD k Ps.zero).To = s then (k : Int) else wrt ps k s) := hall
      clear hall
      obtain ⟨b, off, la, ll, lc, rfl, p0, p1, p2, p3, p4, p5, _⟩ := hp1.nth (k := k) (by omega)
      generalize (ps.getD k Ps.zero).To = t at p1 HA
      rw [show ((k + 1 : Nat) : Int) - 1 = (k : Int) by omega]
      have hwk : IntKind.i64.wrap ((k : Int) - 1) = (k : Int) - 1 := by rw [IntKind.wrap_i64]; omega
      have hk0 : (0 : Int) ≤ (k : Int) := by omega
      by_cases ht : t = s
      · have HB : Hid (wrt ps n s = k) := by show _ = _; rw [HA.out, if_pos ht]
        subst ht
        go_wp2
        go_ret
        exact ⟨by rw [HB.out]; rfl, hb0⟩
      · have HB : Hid (wrt ps n s = wrt ps k s) := by show _ = _; rw [HA.out, if_neg ht]
        go_wp2
        go_round
        case rel => exact ⟨k, by omega, rfl, HB.out⟩
        case measure => simp [intOf]
end Go.Proofs.YtaenpgdmiaekcaaGreatDoor
/-
  MADEREF: the reference's Made.
-/
namespace Go.Proofs.YtaenpgdmiaekcaaGreatDoor
set_option maxRecDepth 100000
open Go.RowKit Im

/-- The call's end tells the image r. -/
def ToldM (w : World) (r : Res) (e : Ending) (w' : World) : Prop :=
  ∃ a cap, e = .returned (.agg #[.int .i64 r.W, .int .i64 r.H, .slice a r.ps.length cap]) ∧ Ints w.heap.size w' a r.ps.length r.ps ∧ Below w.heap.size w w'
theorem makeOf_told {op W H k : Int} (w : World) (h : (makeRes op W H k).E = 0) : Calls Tryz.prog 135 #[.int .i64 op, .int .i64 W, .int .i64 H, .int .i64 k] w (ToldM w (makeRes op W H k)) := by
  unfold makeRes at h ⊢
  by_cases hE : makeErr op W H k = 0
  · rw [if_pos hE] at h ⊢
    obtain ⟨W1, H1, rfl, rfl, hop, h1, h2, h3⟩ := makeErr_zero hE
    simp only [Int.toNat_natCast]
    have b1 := (side_iff _).1 h1
    have b2 := (side_iff _).1 h2
    have b3 := (num_iff _).1 h3
    refine (makeOf_any op W1 H1 k w hop (by omega) (by omega) b3).mono fun e w' ⟨a, cap', he, hi, hb⟩ => ⟨a, cap', ?_, ?_, hb⟩
    · simp only [pix_length]; exact he
    · simp only [pix_length]; exact hi
  · rw [if_neg hE] at h; exact absurd h hE
theorem oneOf_told {op W H : Int} {a : Option Addr} {len : Nat} (cap : Nat) {k : Int} {ps : List Int} {w : World} (h : Ints 0 w a len ps) (hr : (oneRes op W H ps k).E = 0) :
    Calls Tryz.prog 139 #[.int .i64 op, .agg #[.int .i64 W, .int .i64 H, .slice a len cap], .int .i64 k] w (ToldM w (oneRes op W H ps k)) := by
  unfold oneRes at hr ⊢
  by_cases hf : fineB W H ps = true
  · rw [if_pos hf] at hr ⊢
    obtain ⟨W', H', b, off, rfl, rfl, rfl, rfl, hF⟩ := fine_of h hf
    simp only [Int.toNat_natCast] at hr ⊢
    by_cases hE : oneErr op W' H' k = 0
    · rw [if_pos hE]
      refine (oneOf_any op cap k hF hE).mono fun e w' ⟨a, cap', he, hi, hb⟩ => ⟨a, cap', ?_, ?_, hb⟩
      · simp only [pix_length]; exact he
      · simp only [pix_length]; exact hi
    · rw [if_neg hE] at hr; exact absurd hr hE
  · rw [if_neg hf] at hr; cases hr
theorem twoOf_told {op W H W' H' : Int} {a a' : Option Addr} {len len' : Nat} (cap cap' : Nat) {ps qs : List Int} {w : World} (h : Ints 0 w a len ps) (h' : Ints 0 w a' len' qs) (hr : (twoRes op W H ps W' H' qs).E = 0) :
    Calls Tryz.prog 137 #[.int .i64 op, .agg #[.int .i64 W, .int .i64 H, .slice a len cap], .agg #[.int .i64 W', .int .i64 H', .slice a' len' cap']] w (ToldM w (twoRes op W H ps W' H' qs)) := by
  unfold twoRes at hr ⊢
  by_cases hf : (fineB W H ps && fineB W' H' qs) = true
  · rw [if_pos hf] at hr ⊢
    rw [Bool.and_eq_true] at hf
    by_cases hw : withinB op 4 7 = true
    · rw [if_pos hw] at hr ⊢
      have hop : op = 4 ∨ op = 5 ∨ op = 6 ∨ op = 7 := by simp [withinB] at hw; omega
      by_cases hs : W = W' ∧ H = H'
      · rw [if_pos hs]
        obtain ⟨rfl, rfl⟩ := hs
        obtain ⟨W1, H1, b, off, rfl, rfl, rfl, rfl, hF⟩ := fine_of h hf.1
        obtain ⟨W2, H2, b', off', e1, e2, rfl, rfl, hG⟩ := fine_of h' hf.2
        obtain rfl : W1 = W2 := by omega
        obtain rfl : H1 = H2 := by omega
        simp only [Int.toNat_natCast]
        refine (twoOf_any op cap cap' hF hG hop).mono fun e w' ⟨a, cap', he, hi, hb⟩ => ⟨a, cap', ?_, ?_, hb⟩
        · simp only [pix_length]; exact he
        · simp only [pix_length]; exact hi
      · rw [if_neg hs] at hr; cases hr
    · rw [if_neg hw] at hr; cases hr
  · rw [if_neg hf] at hr; cases hr
theorem litOf_told {W H : Int} {a : Option Addr} {len : Nat} (cap : Nat) {ps : List Int} {la : Option Addr} {llen : Nat} (lcap : Nat) {ls : List Lt} {tile : Int} {w : World} (h : Ints 0 w a len ps) (hl : Lights w la llen ls) (hr : (litRes W H ps ls tile).E = 0) :
    Calls Tryz.prog 138 #[.agg #[.int .i64 W, .int .i64 H, .slice a len cap], .slice la llen lcap] w (ToldM w (litRes W H ps ls tile)) := by
  unfold litRes at hr ⊢
  by_cases hf : fineB W H ps = true
  · rw [if_pos hf] at hr ⊢
    obtain ⟨W', H', b, off, rfl, rfl, rfl, rfl, hF⟩ := fine_of h hf
    simp only [Int.toNat_natCast] at hr ⊢
    by_cases hE : lightsErr ls = 0
    · rw [if_pos hE] at hr ⊢
      have h8 := lightsErr_zero hE
      by_cases ht : 1 ≤ tile ∧ tile ≤ 16
      · rw [if_pos ht]
        refine (litOf_any lcap hF hl h8.1 h8.2).mono fun e w' ⟨a, cap', he, hi, hb⟩ => ⟨a, cap', ?_, ?_, hb⟩
        · simp only [pix_length]; exact he
        · simp only [pix_length]; exact hi
      · rw [if_neg ht] at hr; cases hr
    · rw [if_neg hE] at hr; exact absurd hr hE
  · rw [if_neg hf] at hr; cases hr
/-- The world behind Made's boxes. -/
abbrev mw (w : World) (W H S O : Int) (a : Option Addr) (len cap : Nat) (Op To A B K : Int) (la : Option Addr) (ll lc : Nat) : World :=
  ((w.alloc (.cells #[.int .i64 W, .int .i64 H, .int .i64 S, .int .i64 O, .slice a len cap] 35)).alloc (.cells #[.int .i64 Op, .int .i64 To, .int .i64 A, .int .i64 B, .int .i64 K, .slice la ll lc] 72)).alloc (.cells #[.int .i64 0, .int .i64 0, .slice none 0 0] 24)
theorem mw_below (w : World) (W H S O : Int) (a : Option Addr) (len cap : Nat) (Op To A B K : Int) (la : Option Addr) (ll lc : Nat) : Below w.heap.size w (mw w W H S O a len cap Op To A B K la ll lc) := below_box (below_box (below_box (Below.refl _ _) _) _) _
theorem mw_size (w : World) (W H S O : Int) (a : Option Addr) (len cap : Nat) (Op To A B K : Int) (la : Option Addr) (ll lc : Nat) : (mw w W H S O a len cap Op To A B K la ll lc).heap.size = w.heap.size + 3 := by simp [mw]
theorem mw_box (w : World) (W H S O : Int) (a : Option Addr) (len cap : Nat) (Op To A B K : Int) (la : Option Addr) (ll lc : Nat) : IBox (mw w W H S O a len cap Op To A B K la ll lc) (w.heap.size + 2) := by
  have := IBox.new ((w.alloc (.cells #[.int .i64 W, .int .i64 H, .int .i64 S, .int .i64 O, .slice a len cap] 35)).alloc (.cells #[.int .i64 Op, .int .i64 To, .int .i64 A, .int .i64 B, .int .i64 K, .slice la ll lc] 72))
  simpa using this
theorem mw_pass (w : World) (W H S O : Int) (a : Option Addr) (len cap : Nat) (Op To A B K : Int) (la : Option Addr) (ll lc : Nat) : PBox (mw w W H S O a len cap Op To A B K la ll lc) (w.heap.size + 1) Op To A B K la ll lc := by
  have := (PBox.new (w.alloc (.cells #[.int .i64 W, .int .i64 H, .int .i64 S, .int .i64 O, .slice a len cap] 35)) Op To A B K la ll lc).alloc (.cells #[.int .i64 0, .int .i64 0, .slice none 0 0] 24)
  simpa using this
theorem made_told {w wx w' : World} {b : Nat} {r : Res} {ra : Option Addr} {rc : Nat} (hx : Below w.heap.size w wx) (hlt : b < wx.heap.size) (hb0 : w.heap.size ≤ b) (hi : Ints wx.heap.size w' ra r.ps.length r.ps) (hb : Below wx.heap.size wx w') :
    ToldM w r (.returned (.agg #[.int .i64 r.W, .int .i64 r.H, .slice ra r.ps.length rc])) (((w'.setCell ⟨b, 0, none⟩ (.int .i64 r.W)).setCell ⟨b, 1, none⟩ (.int .i64 r.H)).setCell ⟨b, 2, none⟩ (.slice ra r.ps.length rc)) :=
  ⟨ra, rc, rfl, (((hi.setCell (p := ⟨b, 0, none⟩) hlt _).setCell (p := ⟨b, 1, none⟩) hlt _).setCell (p := ⟨b, 2, none⟩) hlt _).mono hx.size, (((below_step hx hb).setCell (p := ⟨b, 0, none⟩) hb0 _).setCell (p := ⟨b, 1, none⟩) hb0 _).setCell (p := ⟨b, 2, none⟩) hb0 _⟩
set_option maxHeartbeats 1000000 in
theorem made_make (W H S O : Int) (a : Option Addr) (len cap : Nat) (Op To A B K : Int) (la : Option Addr) (ll lc : Nat) (fa : Option Addr) (flen fcap : Nat) (w : World) (h12 : Op = 1 ∨ Op = 2) (hr : (makeRes Op W H K).E = 0) :
    Calls Tryz.prog 92 #[.agg #[.int .i64 W, .int .i64 H, .int .i64 S, .int .i64 O, .slice a len cap], .agg #[.int .i64 Op, .int .i64 To, .int .i64 A, .int .i64 B, .int .i64 K, .slice la ll lc], .slice fa flen fcap] w (ToldM w (makeRes Op W H K)) := by
  have hm := fun wx => makeOf_told wx hr
  have hbx := mw_below w W H S O a len cap Op To A B K la ll lc
  have hbox := mw_box w W H S O a len cap Op To A B K la ll lc
  have hsz := mw_size w W H S O a len cap Op To A B K la ll lc
  clear hr
  generalize hrr : makeRes Op W H K = r at *
  clear hrr
  rcases h12 with rfl | rfl
  all_goals
    go_enter Tryz.func92, Tryz.ntmps92
    go_wp2_with fail
    refine (hm _).mono ?_
    rintro e w' ⟨ra, rc, rfl, hri, hb⟩
    obtain ⟨_, c0, c1, c2, f0, f1, f2⟩ := hbox.below hb hbox.lt hb.size
    clear hm
    have HT : Hid (_) := made_told (rc := rc) hbx hbox.lt (by omega) hri hb
    clear hri hb hbx hbox
    go_wp2
    refine bodyPost_ret (v := .agg #[.int .i64 r.W, .int .i64 r.H, .slice ra r.ps.length rc]) (by simp [results, Tryz.results92, go_sem, c0, c1, c2]) rfl HT.out
end Go.Proofs.YtaenpgdmiaekcaaGreatDoor
