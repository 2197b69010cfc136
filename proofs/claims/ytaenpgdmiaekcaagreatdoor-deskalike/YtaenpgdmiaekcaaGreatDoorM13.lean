/- ImgRow, RenderA, LightRef, NearRef, LitRef, FrameRef, MadeRef: joined, in this order. -/
import Derived.Test.YtaenpgdmiaekcaaGreatDoorM12
import Derived.Test.YtaenpgdmiaekcaaGreatDoorM05
import Derived.Test.YtaenpgdmiaekcaaGreatDoorM07
import Derived.Test.YtaenpgdmiaekcaaGreatDoorM08
import Derived.Deep.RegionHeld3
import Derived.Test.YtaenpgdmiaekcaaGreatDoorM09
import Derived.Deep.RegionLaw
import Derived.Test.YtaenpgdmiaekcaaGreatDoorM06
/-
  IMGROW: a growing row of images; frame.picked, of images.
-/
namespace Go.Proofs.YtaenpgdmiaekcaaGreatDoor
set_option maxRecDepth 100000
open Go.RowKit Im

/-- An image, and where its numbers lie. -/
abbrev Lr := List (Res × Option Addr × Nat)
def rcells (L : Lr) : List Value := L.flatMap fun x => [.int .i64 x.1.W, .int .i64 x.1.H, .slice x.2.1 x.1.ps.length x.2.2]
abbrev lr0 : Res × Option Addr × Nat := (noRes 0, none, 0)
theorem rcells_len (L : Lr) : (rcells L).length = L.length * 3 := by
  induction L with
  | nil => rfl
  | cons x L ih => simp only [rcells, List.flatMap_cons, List.length_append, List.length_cons, List.length_nil] at ih ⊢; rw [ih]; omega
theorem rcells_snoc (L : Lr) (x : Res × Option Addr × Nat) : rcells (L ++ [x]) = rcells L ++ [.int .i64 x.1.W, .int .i64 x.1.H, .slice x.2.1 x.1.ps.length x.2.2] := by simp [rcells]
theorem rcells_get (L : Lr) (j : Nat) (h : j < L.length) : (rcells L)[j * 3]? = some (.int .i64 (L.getD j lr0).1.W) ∧ (rcells L)[j * 3 + 1]? = some (.int .i64 (L.getD j lr0).1.H) ∧ (rcells L)[j * 3 + 2]? = some (.slice (L.getD j lr0).2.1 (L.getD j lr0).1.ps.length (L.getD j lr0).2.2) := by
  induction L generalizing j with
  | nil => simp at h
  | cons x L ih =>
    have e : rcells (x :: L) = .int .i64 x.1.W :: .int .i64 x.1.H :: .slice x.2.1 x.1.ps.length x.2.2 :: rcells L := rfl
    cases j with
    | zero => rw [e]; exact ⟨rfl, rfl, rfl⟩
    | succ j =>
      have := ih j (by simpa using h)
      rw [e, show (j + 1) * 3 = j * 3 + 1 + 1 + 1 by omega]
      simpa using this
def OwnsR (base : Nat) (w : World) (v : Value) (L : Lr) : Prop := w.ownsRow base 24 3 v L.length (rcells L)
theorem map_getD {L : Lr} {rs : List Res} (h : L.map Prod.fst = rs) (j : Nat) : rs.getD j (noRes 0) = (L.getD j lr0).1 := by
  subst h
  simp only [List.getD_eq_getElem?_getD, List.getElem?_map]
  cases L[j]? <;> rfl
theorem OwnsR.imgs {base bi : Nat} {w : World} {v : Value} {L : Lr} {rs : List Res} (h : OwnsR base w v L) (he : L.map Prod.fst = rs) (hi : ∀ x ∈ L, Ints bi w x.2.1 x.1.ps.length x.1.ps) (hb : L.length ≤ 12) : ∃ a cap, v = .slice a rs.length cap ∧ Imgs bi w a rs.length rs := by
  have hrl : rs.length = L.length := by rw [← he]; simp
  obtain ⟨h1, h2⟩ := h
  rcases h2 with ⟨rfl, h0⟩ | ⟨g, cap, cur, rfl, hg, hh, hc, hm, hs, ht⟩
  · have : L = [] := by simpa using h0
    subst this
    subst he
    exact ⟨none, 0, rfl, rfl, by simp, .inl rfl⟩
  · rw [← hrl]
    refine ⟨_, cap, rfl, rfl, by omega, .inr ⟨g, 0, rfl, ?_, fun j hj => ?_⟩⟩
    · rcases Nat.lt_or_ge g w.heap.size with h | h
      · exact h
      · rw [Array.getElem?_eq_none h] at hh; cases hh
    · have hl := rcells_len L
      rw [hrl] at hj
      have hg2 := rcells_get L j hj
      have this := fun i hi => World.ownsRow.cellAt (base := base) (e := 24) (size := 3) ⟨h1, .inr ⟨g, cap, cur, rfl, hg, hh, hc, hm, hs, ht⟩⟩ i hi
      rw [map_getD he j]
      refine ⟨(L.getD j lr0).2.1, (L.getD j lr0).2.2, ?_, ?_, ?_, hi _ (getD_mem hj _)⟩
      all_goals rw [Nat.zero_add, this _ (by omega)]
      · exact hg2.1
      · exact hg2.2.1
      · exact hg2.2.2
theorem Tryz.infoImage : (Tryz.prog.info? 24).map (fun i => (i.zero, i.size, i.bytes)) = some (some (.agg #[.int .i64 0, .int .i64 0, .slice none 0 0]), 3, 40) := by kernel_rfl
theorem cell_three_new (w : World) (v0 v1 v2 : Value) (t : TypeId) : ∀ (j : Nat) (u : Value), [v0, v1, v2][j]? = some u → (w.alloc (.cells #[v0, v1, v2] t)).cell? ((⟨w.heap.size, 0, none⟩ : Addr).add j) = some u := by
  intro j u h
  match j, h with
  | 0, h => simp at h; subst h; simp [go_sem, Addr.add]
  | 1, h => simp at h; subst h; simp [go_sem, Addr.add]
  | 2, h => simp at h; subst h; simp [go_sem, Addr.add]
theorem OwnsR.push {base : Nat} {w wx w1 : World} {v v' : Value} {L : Lr} {x : Res × Option Addr × Nat} {B0 : World} {o : Obj} (h : OwnsR base w v L) (hb : Below base B0 w) (hB : base ≤ w.heap.size)
    (h' : w1.ownsRow base 24 3 v' (L.length + 1) (rcells L ++ [.int .i64 x.1.W, .int .i64 x.1.H, .slice x.2.1 x.1.ps.length x.2.2])) (hx : wx = w.alloc o) (hg : wx.grownBy w1 v.ownBlock) : OwnsR base w1 v' (L ++ [x]) ∧ Below base B0 w1 := by
  subst hx
  refine ⟨by unfold OwnsR; rw [rcells_snoc]; simpa using h', ?_⟩
  exact (hb.alloc hB o).grown hg (by simp; omega) (fun j hj => (World.ownsRow.lt (w := w) h j hj).1)
/-- The call's end tells the images rs. -/
def ToldR (w : World) (rs : List Res) (e : Ending) (w' : World) : Prop :=
  ∃ a cap, e = .returned (.slice a rs.length cap) ∧ Imgs 0 w' a rs.length rs ∧ Below w.heap.size w w'
theorem pickR_succ (rs : List Res) (is : List Int) (k : Nat) (hk : k < is.length) : pickR rs (is.take (k + 1)) = pickR rs (is.take k) ++ [rs.getD (is.getD k 0).toNat (noRes 0)] := by
  unfold pickR
  rw [List.take_succ_eq_append_getElem hk, List.map_append, List.getD_eq_getElem?_getD (l := is), List.getElem?_eq_getElem hk]
  rfl
set_option maxHeartbeats 1000000 in
/-- frame.picked, of images. -/
theorem pickedR_any {a a' : Option Addr} {len len' : Nat} (cap cap' : Nat) {rs : List Res} {is : List Int} {base bi : Nat} {w : World} (hz : Imgs bi w a len rs) (hI : Ints base w a' len' is) (hin : ∀ i ∈ is, 0 ≤ i ∧ i < len) (hl : is.length ≤ 2) :
    Calls Tryz.prog 32 #[.slice a len cap, .slice a' len' cap'] w (ToldR w (pickR rs is)) := by
  obtain ⟨i0, hi, hz0, hz1, hz2⟩ := info_parts Tryz.infoImage
  have hlen := hI.leng
  subst hlen
  go_enter Tryz.func32, Tryz.ntmps32
  go_wp2
  go_loopw [5, 10] (fun v i wr => ∃ (k : Nat) (L : Lr), k ≤ is.length ∧ i = .int .i64 k ∧ OwnsR w.heap.size wr v L ∧ L.map Prod.fst = pickR rs (is.take k) ∧ (∀ x ∈ L, Ints 0 w x.2.1 x.1.ps.length x.1.ps) ∧ Below w.heap.size w wr) (fun _ i _ => is.length - (intOf i).toNat)
  case atStart => exact ⟨0, [], Nat.zero_le _, rfl, World.ownsRow_nil _ _ _ _, rfl, (fun x hx => by cases hx), Below.refl _ _⟩
  case round =>
    obtain ⟨k, L, hk, rfl, hown, hmap, hints, hb⟩ := hrel
    have hLl : L.length = k := by
      have := congrArg List.length hmap
      simp [pickR] at this
      omega
    by_cases hlt : k < is.length
    · obtain ⟨b, off, rfl, hcx⟩ := (hI.below (Nat.le_refl _) hb).nth hlt
      have hr := hin _ (getD_mem hlt 0)
      have HS := pickR_succ rs is k hlt
      generalize is.getD k 0 = n at hcx hr HS
      obtain ⟨m, rfl⟩ := Int.eq_ofNat_of_zero_le hr.1
      obtain ⟨b', off', pa, pcap, rfl, hb', d0, d1, d2, hpi⟩ := hz.nth (k := m) (by omega)
      replace d0 := (hb.cell (p := ⟨b', off' + m * 3, none⟩) hb').trans d0
      replace d1 := (hb.cell (p := ⟨b', off' + m * 3 + 1, none⟩) hb').trans d1
      replace d2 := (hb.cell (p := ⟨b', off' + m * 3 + 2, none⟩) hb').trans d2
      rw [Int.toNat_natCast] at HS
      have HS' : Hid (pickR rs (is.take (k + 1)) = pickR rs (is.take k) ++ [rs.getD m (noRes 0)]) := HS
      have hsz := hb.size
      have HM : Hid (_) := hmap
      have HL : Hid (_) := hLl
      have HI : Hid (_) := hints
      have HP : Hid (_) := hpi.mono (Nat.zero_le _)
      clear HS hin hmap hLl hints hpi
      generalize rs.getD m (noRes 0) = r at d0 d1 d2 HS' HP
      go_wp2_with (at_builtin; refine wpList_append_own _ rfl _ _ 69 rfl w.heap.size 24 i0 _ 3 40 Tryz.underlying69 hi hz0 hz1 hz2 rfl (by decide) _ _ _ rfl (World.ownsRow.alloc hown _) ⟨wr.heap.size, 0, none⟩ 1 1 [.int .i64 r.W, .int .i64 r.H, .slice pa r.ps.length pcap] rfl rfl (cell_three_new _ _ _ _ _) (by intro u hu; simp at hu; rcases hu with rfl | rfl | rfl <;> rfl) (by rw [HL.out]; unfold maxLen; omega) (by rw [HL.out]; omega) (by simp; omega) ?_; intro v' w9 hown9 hgrow9 _)
      have RR := OwnsR.push (x := (r, pa, pcap)) hown hb hsz hown9 rfl hgrow9
      go_roundw
      case rel => exact ⟨k + 1, L ++ [(r, pa, pcap)], by omega, by go_num, RR.1, by rw [HS'.out, List.map_append, HM.out]; rfl, (fun x hx => by rcases List.mem_append.1 hx with h | h; exact HI.out x h; rw [List.mem_singleton] at h; subst h; exact HP.out), RR.2⟩
      case measure => simp [intOf]; omega
    · have hke : k = is.length := by omega
      subst hke
      rw [List.take_length] at hmap
      obtain ⟨sa, scap, rfl, hZ⟩ := hown.imgs hmap (fun x hx => (hints x hx).below (Nat.le_refl _) hb) (by omega)
      have HZ : Hid (_) := hZ
      clear hZ hmap hints hLl hown
      go_wp2
      go_ret
      exact ⟨sa, scap, rfl, HZ.out, hb⟩
end Go.Proofs.YtaenpgdmiaekcaaGreatDoor
/-
  RENDERA: paint.Pass in one; lists of lists of numbers in memory; the images of frame.Render, by number.
-/
namespace Go.Proofs.YtaenpgdmiaekcaaGreatDoor
set_option maxRecDepth 100000
open Go.RowKit Im

/-- paint.Pass. -/
theorem paint_any {Op : Int} (To A B : Int) {K : Int} {la : Option Addr} {ll : Nat} (lc : Nat) {ls : List Lt} (zw zh : Int) {fa : Option Addr} {flen : Nat} (fcap : Nat) {fr : List Res} {bi : Nat} {w : World} (hk : knownB Op = true) (hL : Lights w la ll ls) (hI : Imgs bi w fa flen fr) (hA : hasA Op = true → 1 ≤ flen) (hB : hasB Op = true → 2 ≤ flen) :
    Calls Tryz.prog 31 #[.agg #[.int .i64 Op, .int .i64 To, .int .i64 A, .int .i64 B, .int .i64 K, .slice la ll lc], .agg #[.int .i64 zw, .int .i64 zh], .slice fa flen fcap] w (Told w (paintRes ⟨Op, To, A, B, K, ls⟩ (zw, zh) fr)) := by
  by_cases h12 : Op = 1 ∨ Op = 2
  · refine paint_make Op To A B K la ll lc zw zh fa flen fcap w h12 ?_
    unfold paintRes
    rw [if_pos h12]
  · have hA1 : hasA Op = true := by simp [knownB, withinB] at hk; simp [hasA, withinB]; omega
    have hfl := hA hA1
    obtain ⟨b, off, pa, pc, rfl, hb, d0, d1, d2, hi⟩ := hI.nth (k := 0) (by omega)
    rw [Nat.zero_mul, Nat.add_zero] at d0 d1 d2
    by_cases hB1 : hasB Op = true
    · have hf2 := hB hB1
      obtain ⟨b', off', qa, qc, e, _, g0, g1, g2, hj⟩ := hI.nth (k := 1) (by omega)
      injection e with e
      injection e with e1 e2
      subst e1 e2
      rw [Nat.one_mul] at g0 g1 g2
      have hop : Op = 4 ∨ Op = 5 ∨ Op = 6 ∨ Op = 7 := by simp [hasB, withinB] at hB1; omega
      refine paint_two Op To A B K la ll lc zw zh flen fcap w hop b off hb (by omega) (by omega) _ _ pa pc _ d0 d1 d2 (hi.mono (Nat.zero_le _)) _ _ qa qc _ g0 g1 g2 (hj.mono (Nat.zero_le _)) ?_
      unfold paintRes
      rw [if_neg h12, if_pos hB1]
    · by_cases h13 : Op = 13
      · subst h13
        refine paint_lit To A B K la ll lc ls zw zh flen fcap w hL b off hb (by omega) _ _ pa pc _ d0 d1 d2 (hi.mono (Nat.zero_le _)) ?_
        unfold paintRes
        rw [if_neg h12, if_neg hB1, if_pos rfl]
      · have hop : Op = 3 ∨ Op = 8 ∨ Op = 9 ∨ Op = 10 ∨ Op = 11 ∨ Op = 12 := by simp [hasA, withinB] at hA1; simp [hasB, withinB] at hB1; omega
        refine paint_one Op To A B K la ll lc zw zh flen fcap w hop b off hb (by omega) _ _ pa pc _ d0 d1 d2 (hi.mono (Nat.zero_le _)) ?_
        unfold paintRes
        rw [if_neg h12, if_neg hB1, if_neg h13]
/-- A slice's elements are the lists of numbers ss. -/
structure LLs (w : World) (a : Option Addr) (len : Nat) (ss : List (List Int)) : Prop where
  leng : ss.length = len
  cells : ss = [] ∨ ∃ b off, a = some ⟨b, off, none⟩ ∧ b < w.heap.size ∧ ∀ j, j < len → ∃ ua uc, w.cell? ⟨b, off + j, none⟩ = some (.slice ua (ss.getD j []).length uc) ∧ Ints 0 w ua (ss.getD j []).length (ss.getD j [])
theorem LLs.below {w w' : World} {a : Option Addr} {len : Nat} {ss : List (List Int)} (h : LLs w a len ss) (hb : Below w.heap.size w w') : LLs w' a len ss := by
  refine ⟨h.leng, ?_⟩
  rcases h.cells with e | ⟨b, off, ha, hl, hc⟩
  · exact .inl e
  · refine .inr ⟨b, off, ha, Nat.lt_of_lt_of_le hl hb.size, fun j hj => ?_⟩
    obtain ⟨ua, uc, c0, hi⟩ := hc j hj
    exact ⟨ua, uc, (hb.cell (p := ⟨b, off + j, none⟩) hl).trans c0, hi.below (Nat.le_refl _) hb⟩
theorem LLs.nth {w : World} {a : Option Addr} {len : Nat} {ss : List (List Int)} (h : LLs w a len ss) {k : Nat} (hk : k < len) : ∃ b off ua uc, a = some ⟨b, off, none⟩ ∧ b < w.heap.size ∧ w.cell? ⟨b, off + k, none⟩ = some (.slice ua (ss.getD k []).length uc) ∧ Ints 0 w ua (ss.getD k []).length (ss.getD k []) := by
  rcases h.cells with e | ⟨b, off, ha, hl, hc⟩
  · have := h.leng; subst e; simp at this; omega
  · obtain ⟨ua, uc, r⟩ := hc k hk
    exact ⟨b, off, ua, uc, ha, hl, r⟩
theorem OwnsLL.lls {base : Nat} {w : World} {v : Value} {ss : List (List Int)} (h : OwnsLL base w v ss) (hs : ∀ x ∈ ss, x.length ≤ 2) : ∃ a cap, v = .slice a ss.length cap ∧ LLs w a ss.length ss := by
  obtain ⟨us, h1, h2, h3⟩ := h
  obtain ⟨g1, g2⟩ := id h1
  rcases g2 with ⟨rfl, h0⟩ | ⟨g, cap, cur, rfl, hg, hh, hc, hm, hs', ht⟩
  · have : ss = [] := by simpa using h0
    subst this
    exact ⟨none, 0, rfl, rfl, .inl rfl⟩
  · refine ⟨_, cap, rfl, rfl, .inr ⟨g, 0, rfl, ?_, fun j hj => ?_⟩⟩
    · rcases Nat.lt_or_ge g w.heap.size with h | h
      · exact h
      · rw [Array.getElem?_eq_none h] at hh; cases hh
    · obtain ⟨u, hu, ho⟩ := h3 j (ss.getD j []) (by rw [List.getD_eq_getElem?_getD, List.getElem?_eq_getElem hj]; rfl)
      have hl := hs _ (getD_mem hj [])
      obtain ⟨ua, uc, rfl, hi⟩ := ho.ints (by omega)
      refine ⟨ua, uc, ?_, hi.mono (Nat.zero_le _)⟩
      rw [Nat.zero_add, World.ownsRow.cellAt h1 j (by omega)]
      exact hu
/-- The images by number, in the block bI; their numbers lie behind it. -/
structure ImB (w : World) (bI n : Nat) (g : Nat → Res) : Prop where
  lt : bI < w.heap.size
  cells : ∀ j, j < n → ∃ pa cap, w.cell? ⟨bI, 0 + j * 3, none⟩ = some (.int .i64 (g j).W) ∧ w.cell? ⟨bI, 0 + j * 3 + 1, none⟩ = some (.int .i64 (g j).H) ∧ w.cell? ⟨bI, 0 + j * 3 + 2, none⟩ = some (.slice pa (g j).ps.length cap) ∧ Ints (bI + 1) w pa (g j).ps.length (g j).ps
  froz : ∀ o, w.frozen? ⟨bI, o, none⟩ = false
theorem ImB.below {w w' : World} {bI n : Nat} {g : Nat → Res} (h : ImB w bI n g) (hb : Below w.heap.size w w') : ImB w' bI n g := by
  refine ⟨Nat.lt_of_lt_of_le h.lt hb.size, fun j hj => ?_, fun o => (hb.frozen (p := ⟨bI, o, none⟩) h.lt).trans (h.froz o)⟩
  obtain ⟨pa, cap, c0, c1, c2, hi⟩ := h.cells j hj
  exact ⟨pa, cap, (hb.cell (p := ⟨bI, 0 + j * 3, none⟩) h.lt).trans c0, (hb.cell (p := ⟨bI, 0 + j * 3 + 1, none⟩) h.lt).trans c1, (hb.cell (p := ⟨bI, 0 + j * 3 + 2, none⟩) h.lt).trans c2, hi.below (Nat.le_refl _) hb⟩
theorem ImB.imgs {w : World} {bI n : Nat} {g : Nat → Res} (h : ImB w bI n g) (hn : n ≤ 12) : Imgs (bI + 1) w (some ⟨bI, 0, none⟩) n ((List.range n).map g) := by
  refine ⟨by simp, by omega, .inr ⟨bI, 0, rfl, h.lt, fun j hj => ?_⟩⟩
  have e : ((List.range n).map g).getD j (noRes 0) = g j := by simp [List.getD_eq_getElem?_getD, hj]
  rw [e]
  exact h.cells j hj
theorem ImB.put {w : World} {bI n : Nat} {g g' : Nat → Res} (h : ImB w bI n g) (m : Nat) (r : Res) (ra : Option Addr) (rc : Nat) (hm : m < n) (hi : Ints (bI + 1) w ra r.ps.length r.ps) (hg : ∀ j, j < n → g' j = if m = j then r else g j) :
    ImB (((w.setCell ⟨bI, 0 + m * 3, none⟩ (.int .i64 r.W)).setCell ⟨bI, 0 + m * 3 + 1, none⟩ (.int .i64 r.H)).setCell ⟨bI, 0 + m * 3 + 2, none⟩ (.slice ra r.ps.length rc)) bI n g' := by
  refine ⟨by simpa using h.lt, fun j hj => ?_, fun o => by simpa using h.froz o⟩
  rw [hg j hj]
  by_cases e : m = j
  · subst e
    rw [if_pos rfl]
    obtain ⟨pa, cap, c0, c1, c2, _⟩ := h.cells m hm
    refine ⟨ra, rc, ?_, ?_, ?_, ((hi.setCell (by simp) _).setCell (by simp) _).setCell (by simp) _⟩
    · rw [set_other _ (fun e => by injection e with e1 e2; omega), set_other _ (fun e => by injection e with e1 e2; omega)]; exact set_same c0
    · rw [set_other _ (fun e => by injection e with e1 e2; omega)]; exact set_same ((set_other _ (fun e => by injection e with e1 e2; omega)).trans c1)
    · exact set_same ((set_other _ (fun e => by injection e with e1 e2; omega)).trans ((set_other _ (fun e => by injection e with e1 e2; omega)).trans c2))
  · rw [if_neg e]
    obtain ⟨pa, cap, c0, c1, c2, hi'⟩ := h.cells j hj
    refine ⟨pa, cap, ?_, ?_, ?_, ((hi'.setCell (by simp) _).setCell (by simp) _).setCell (by simp) _⟩
    all_goals rw [set_other _ (fun e => by injection e with e1 e2; omega), set_other _ (fun e => by injection e with e1 e2; omega), set_other _ (fun e => by injection e with e1 e2; omega)]
    · exact c0
    · exact c1
    · exact c2
theorem ImB.made {w : World} {base b N cap : Nat} (h : w.ownsRow base 24 3 (.slice (some ⟨b, 0, none⟩) N cap) N (madeCells (Value.agg #[.int .i64 0, .int .i64 0, .slice none 0 0]).cells (N * 3)).toList) (hb : b < w.heap.size) : ImB w b N (fun _ => noRes 0) := by
  have hc : ∀ j, j < N * 3 → w.cell? ⟨b, j, none⟩ = some ((#[Value.int .i64 0, Value.int .i64 0, Value.slice none 0 0] : Array Value)[j % 3]!) := by
    intro j hj
    rw [World.ownsRow.cellAt h j hj]
    have e : (Value.agg #[.int .i64 0, .int .i64 0, .slice none 0 0]).cells = #[.int .i64 0, .int .i64 0, .slice none 0 0] := rfl
    rw [e]
    simp only [madeCells, Array.toList_map, Array.toList_range, List.getElem?_map, List.getElem?_range hj, Option.map_some]
    rfl
  refine ⟨hb, fun m hm => ⟨none, 0, ?_, ?_, ?_, Ints.nil _ _⟩, fun o => World.ownsRow.frozenAt h o⟩
  · rw [hc _ (by omega), show (0 + m * 3) % 3 = 0 by omega]; rfl
  · rw [hc _ (by omega), show (0 + m * 3 + 1) % 3 = 1 by omega]; rfl
  · rw [hc _ (by omega), show (0 + m * 3 + 2) % 3 = 2 by omega]; rfl
theorem pick_range {rs : List Res} {n : Nat} {is : List Int} (hi : ∀ i ∈ is, 0 ≤ i ∧ i < n) : pickR ((List.range n).map fun j => rs.getD j (noRes 0)) is = pickR rs is := by
  unfold pickR
  refine List.map_congr_left fun i h => ?_
  have := hi i h
  have hlt : i.toNat < n := by omega
  simp [List.getD_eq_getElem?_getD, hlt]
end Go.Proofs.YtaenpgdmiaekcaaGreatDoor
/-
  LIGHTREF: the reference's CheckLights, far and LightAt.
-/
namespace Go.Proofs.YtaenpgdmiaekcaaGreatDoor
set_option maxRecDepth 100000
open Go.RowKit Im

end Go.Proofs.YtaenpgdmiaekcaaGreatDoor
/-
  NEARREF: the reference's NearOf.
-/
namespace Go.Proofs.YtaenpgdmiaekcaaGreatDoor
set_option maxRecDepth 100000
open Go.RowKit Im

end Go.Proofs.YtaenpgdmiaekcaaGreatDoor
/-
  LITREF: the reference's LitOf.
-/
namespace Go.Proofs.YtaenpgdmiaekcaaGreatDoor
set_option maxRecDepth 100000
open Go.RowKit Im

/-- Behind a call from the round on. -/
theorem Acc.call {c : Nat} {w0 wr w1 w2 : World} {W H : Int} {v : Value} {qs : List Int} (h : Acc c w0 wr W H v qs) (h1 : Below wr.heap.size wr w1) (h2 : Below w1.heap.size w1 w2) : Below wr.heap.size wr w2 ∧ w2.cell? ⟨c, 2, none⟩ = some v ∧ c < w2.heap.size := by
  have hb := below_stepL h1 h2
  have ha := h.below hb
  exact ⟨hb, ha.cells.2.2.1, ha.siz⟩

end Go.Proofs.YtaenpgdmiaekcaaGreatDoor
/-
  FRAMEREF: the reference's small functions of frames.
-/
namespace Go.Proofs.YtaenpgdmiaekcaaGreatDoor
set_option maxRecDepth 100000
open Go.RowKit Im

end Go.Proofs.YtaenpgdmiaekcaaGreatDoor
/-
  MADEREF: the reference's Made.
-/
namespace Go.Proofs.YtaenpgdmiaekcaaGreatDoor
set_option maxRecDepth 100000
open Go.RowKit Im

/-- The call's end tells the image r. -/
def ToldM (w : World) (r : Res) (e : Ending) (w' : World) : Prop :=
  ∃ a cap, e = .returned (.agg #[.int .i64 r.W, .int .i64 r.H, .slice a r.ps.length cap]) ∧ Ints w.heap.size w' a r.ps.length r.ps ∧ Below w.heap.size w w'
end Go.Proofs.YtaenpgdmiaekcaaGreatDoor
