/- DeskShow, DeskRef, DeskText, DeskTab: joined, in this order. -/
import Derived.Test.YtaenpgdmiaekcaaGreatDoorS23
import Derived.Test.YtaenpgdmiaekcaaGreatDoorS26
import Derived.Test.YtaenpgdmiaekcaaGreatDoorS01
import Derived.Shelf.Strconv.AppendIntPublic10
import Derived.Shelf.Lay
import Derived.Ground.NamesProg
import Derived.Lib.AppendIntMem
import Derived.Lib.ItoaLen
import Derived.Lib.Slices
import Derived.Laws.IdiomStrings
import Derived.Test.YtaenpgdmiaekcaaGreatDoorS06
import Derived.Laws.Concat
import Derived.Deep.Cut
/-
  DESKSHOW: desk.Show.
-/
namespace Go.Proofs.YtaenpgdmiaekcaaGreatDoor
set_option maxRecDepth 100000
open Go.Shelf Go.RowKit Im

shelf_lay LaysM.n176 Nm 176 at Tryz as Tryz.laysAI
/-- The table of the powers of ten. -/
def Pow (w : World) : Prop := Lib.TabIs Tryz.prog w "internal/strconv.uint64pow10" .u64 Lib.pow10Tab
theorem Pow.below {w w' : World} (h : Pow w) (hb : Below w.heap.size w w') : Pow w' := Lib.tabBelow_of_tabIs h w' hb
theorem appendInt_any (B n : Nat) (i : Int) (h0 : -9223372036854775808 ≤ i) (h1 : i ≤ 9223372036854775807) (sv : Value) (xs : List Value) (w : World) (hown : w.ownsRow B 5 1 sv n xs) (hBw : B ≤ w.heap.size) (hlim : n + 21 ≤ 140737488355328)
    (htab : Lib.TabBelow Tryz.prog B w "internal/strconv.uint64pow10" .u64 Lib.pow10Tab) :
    Calls Tryz.prog 14 #[sv, .int .i64 i, .int .i64 10] w fun e w' => ∃ v', e = .returned v' ∧ w'.ownsRow B 5 1 v' (n + (Lib.itoa i).length) (xs ++ Lib.byteCells (Lib.itoa i)) ∧ Below B w w' := (Any.strconv_AppendInt_10 Tryz.laysAI B n i h0 h1 sv xs w hown hBw hlim htab).mono fun _ _ ⟨v', h1, h2, h3, _⟩ => ⟨v', h1, h2, h3⟩
/-- What Show says. -/
def textS (W H : Int) (ps : List Int) : ByteArray := if fineB W H ps = true then ⟨(showN W.toNat ps ps.length).toArray⟩ else ByteArray.empty
theorem show_next (W : Nat) (ps : List Int) (k : Nat) {c : UInt8} (hc : c = if (k + 1) % W = 0 then 10 else 32) : Lib.byteCells (showN W ps k) ++ Lib.byteCells (Lib.itoa (ps.getD k 0)) ++ [Value.int .u8 (c.toNat : Int)] = Lib.byteCells (showN W ps (k + 1)) ∧ (showN W ps k).length + (Lib.itoa (ps.getD k 0)).length + 1 = (showN W ps (k + 1)).length := by
  subst hc
  have e : showN W ps (k + 1) = showN W ps k ++ (Lib.itoa (ps.getD k 0) ++ [if (k + 1) % W = 0 then 10 else 32]) := rfl
  rw [e]
  constructor
  · simp [Lib.byteCells]
  · simp [Nat.add_assoc]
theorem show_pos (W : Nat) (ps : List Int) (k : Nat) : 0 < (showN W ps (k + 1)).length := by
  have e : showN W ps (k + 1) = showN W ps k ++ (Lib.itoa (ps.getD k 0) ++ [if (k + 1) % W = 0 then 10 else 32]) := rfl
  rw [e, List.length_append, List.length_append, List.length_cons]
  omega
theorem num_bd {ps : List Int} (hn : ∀ n ∈ ps, 0 ≤ n ∧ n ≤ 65535) (k : Nat) : 0 ≤ ps.getD k 0 ∧ ps.getD k 0 ≤ 65535 := by
  rw [List.getD_eq_getElem?_getD]
  by_cases hk : k < ps.length
  · rw [List.getElem?_eq_getElem hk]
    exact hn _ (List.getElem_mem hk)
  · rw [List.getElem?_eq_none (by omega)]
    decide
set_option maxHeartbeats 8000000 in
theorem show_fine (W : Nat) (H : Int) (b off len cap : Nat) (ps : List Int) (w : World) (h : Ints 0 w (some ⟨b, off, none⟩) len ps) (hf : fineB W H ps = true) (hp : Pow w) :
    Calls Tryz.prog 5 #[.agg #[.int .i64 W, .int .i64 H, .slice (some ⟨b, off, none⟩) len cap]] w fun e w' => e = .returned (.tuple #[.string ⟨(showN W ps ps.length).toArray⟩, .int .i64 0]) ∧ Below w.heap.size w w' := by
  obtain ⟨i0, hi, hz0, hz1, hz2⟩ := info_parts Tryz.infoByte
  obtain ⟨hW, hH, hl, hn⟩ := (fine_iff _ _ _).1 hf
  have hm := side_mul ((side_iff _).2 hW) ((side_iff _).2 hH)
  have hlen := h.leng
  subst hlen
  have hlim : ps.length ≤ 256 := by omega
  have hpos : 0 < ps.length := by omega
  clear hl hm
  have hb0 := (Below.refl w.heap.size w).alloc (Nat.le_refl _) (.cells #[.int .i64 W, .int .i64 H, .slice (some ⟨b, off, none⟩) ps.length cap] 24)
  have c0 : (w.alloc (.cells #[.int .i64 W, .int .i64 H, .slice (some ⟨b, off, none⟩) ps.length cap] 24)).cell? ⟨w.heap.size, 0, none⟩ = some (.int .i64 W) := by simp [go_sem]
  have c2 : (w.alloc (.cells #[.int .i64 W, .int .i64 H, .slice (some ⟨b, off, none⟩) ps.length cap] 24)).cell? ⟨w.heap.size, 2, none⟩ = some (.slice (some ⟨b, off, none⟩) ps.length cap) := by simp [go_sem]
  have hck := check_fine cap (h.below (Nat.le_refl _) hb0) hf
  have hlt : w.heap.size < (w.alloc (.cells #[.int .i64 W, .int .i64 H, .slice (some ⟨b, off, none⟩) ps.length cap] 24)).heap.size := by simp
  have hlenN : ∀ k, (showN W ps k).length ≤ 22 * k := show_len W ps fun j => by
    have := num_bd hn j
    exact Lib.itoa_length_le _ (by omega) (by omega)
  go_enter Tryz.func5, Tryz.ntmps5
  go_wp2_with fail
  refine hck.mono ?_
  clear hck
  rintro e w1 ⟨rfl, b1⟩
  have hb1 := below_stepL hb0 b1
  have d0 := (b1.cell (p := ⟨w.heap.size, 0, none⟩) hlt).trans c0
  have d2 := (b1.cell (p := ⟨w.heap.size, 2, none⟩) hlt).trans c2
  have hl1 : w.heap.size < w1.heap.size := Nat.lt_of_lt_of_le hlt b1.size
  have hP1 := h.below (Nat.le_refl _) hb1
  have hT := Lib.tabBelow_of_tabIs (hp.below hb1)
  clear c0 c2 hlt hb0 h
  go_wp2_with fail
  go_loopw [5, 16] (fun u i wr => ∃ k : Nat, k ≤ ps.length ∧ i = .int .i64 k ∧ wr.ownsRow w1.heap.size 5 1 u (showN W ps k).length (Lib.byteCells (showN W ps k)) ∧ Below w1.heap.size w1 wr) (fun _ i _ => ps.length - (intOf i).toNat)
  case atStart => exact ⟨0, Nat.zero_le _, rfl, World.ownsRow_nil _ _ _ _, Below.refl _ _⟩
  case round =>
    obtain ⟨k, hk, rfl, hown, hbr⟩ := hrel
    obtain ⟨ua, uc, rfl⟩ := owns_slice hown
    have hln := hlenN k
    have hsz := hbr.size
    have e0 := (hbr.cell (p := ⟨w.heap.size, 0, none⟩) hl1).trans d0
    by_cases hlt : k < ps.length
    · have hkI : (k : Int) < (ps.length : Int) := by omega
      have hk0 : (0 : Int) ≤ (k : Int) := by omega
      have hbk : b < w1.heap.size ∧ w1.cell? ⟨b, off + k, none⟩ = some (.int .i64 (ps.getD k 0)) := by
        rcases hP1.cells with e | ⟨b', off', e, _, h2, h3⟩
        · subst e; simp at hpos
        · injection e with e; injection e with e1 e2; subst e1; subst e2
          exact ⟨h2, h3 k hlt⟩
      have ek := (hbr.cell (p := ⟨b, off + k, none⟩) hbk.1).trans hbk.2
      have hq := num_bd hn k
      have hql := Lib.itoa_length_le (ps.getD k 0) (by omega) (by omega)
      have HS1 : Hid (∀ c : UInt8, (c = if (k + 1) % W = 0 then 10 else 32) → _) := fun c => show_next W ps k (c := c)
      have hmod : ((k : Int) + 1).tmod (W : Int) = (((k + 1) % W : Nat) : Int) := by
        rw [Int.tmod_eq_emod_of_nonneg (by omega), Int.natCast_emod]; rfl
      have hW0 : ¬ (W : Int) = 0 := by omega
      generalize ps.getD k 0 = q at *
      have hai := appendInt_any w1.heap.size (showN W ps k).length q (by omega) (by omega) (.slice ua (showN W ps k).length uc) _ wr hown hsz (by omega) (hT.on hbr)
      generalize showN W ps k = M at *
      clear hlenN hbk d0 d2 hP1 hf hn
      go_wp2_with fail
      refine hai.mono ?_
      rintro e w2 ⟨v2, rfl, hown2, b2⟩
      obtain ⟨va, vc, rfl⟩ := owns_slice hown2
      have hsz2 := b2.size
      have f0 := (b2.cell (p := ⟨w.heap.size, 0, none⟩) hl1).trans e0
      clear e0 ek hai hown
      by_cases hnl : (k + 1) % W = 0
      · rw [hnl] at hmod
        have HC : Hid (_) := HS1.out 10 (by rw [if_pos hnl])
        go_wp2_with (at_builtin; refine wpList_append_own_at _ rfl _ _ 42 rfl w1.heap.size 5 i0 (.int .u8 0) 1 1 Tryz.underlying42 hi hz0 hz1 hz2 rfl (by decide) _ _ _ rfl (World.ownsRow.alloc hown2 _) ⟨w2.heap.size, 0, none⟩ 1 1 [.int .u8 10] rfl rfl (cell_one_new _ _ _) (by intro u hu; simp at hu; subst hu; rfl) (by unfold maxLen; omega) (by omega) (by simp; omega) ?_; intro v' w9 hown9 hgrow9 _ hat9; obtain ⟨a9, c9, hv9⟩ := owns_slice hown9; subst hv9)
        have b9 : Below w1.heap.size w1 w9 := ((hbr.trans b2).alloc (by omega) _).grown hgrow9 (by simp; omega) (fun j hj => (World.ownsRow.lt hown2 j hj).1)
        go_roundw
        case rel => exact ⟨k + 1, by omega, by go_num, by rw [← HC.out.1, ← HC.out.2]; exact hown9, b9⟩
        case measure => simp [intOf]; omega
      · have hmn : ¬ (((k + 1) % W : Nat) : Int) = 0 := by omega
        have HNL : Hid (_) := hnl
        clear hnl
        generalize (((k + 1) % W : Nat) : Int) = m at *
        have HC : Hid (_) := HS1.out 32 (by rw [if_neg HNL.out])
        go_wp2_with (at_builtin; refine wpList_append_own_at _ rfl _ _ 42 rfl w1.heap.size 5 i0 (.int .u8 0) 1 1 Tryz.underlying42 hi hz0 hz1 hz2 rfl (by decide) _ _ _ rfl (World.ownsRow.alloc hown2 _) ⟨w2.heap.size, 0, none⟩ 1 1 [.int .u8 32] rfl rfl (cell_one_new _ _ _) (by intro u hu; simp at hu; subst hu; rfl) (by unfold maxLen; omega) (by omega) (by simp; omega) ?_; intro v' w9 hown9 hgrow9 _ hat9; obtain ⟨a9, c9, hv9⟩ := owns_slice hown9; subst hv9)
        have b9 : Below w1.heap.size w1 w9 := ((hbr.trans b2).alloc (by omega) _).grown hgrow9 (by simp; omega) (fun j hj => (World.ownsRow.lt hown2 j hj).1)
        go_roundw
        case rel => exact ⟨k + 1, by omega, by go_num, by rw [← HC.out.1, ← HC.out.2]; exact hown9, b9⟩
        case measure => simp [intOf]; omega
    · have hke : k = ps.length := by omega
      subst hke
      obtain ⟨m, hm⟩ : ∃ m, ps.length = m + 1 := ⟨ps.length - 1, by omega⟩
      have hps : 0 < (showN W ps ps.length).length := by rw [hm]; exact show_pos W ps m
      have HB : Hid (_) := below_stepL hb1 hbr
      clear hm d0 d2 e0 hP1
      generalize hM : showN W ps ps.length = M at *
      have HM : Hid (_) := hM
      clear hM
      rcases hown.2 with ⟨-, h0⟩ | ⟨g, gcap, cur, e, -, -, -, -, -, -⟩
      · omega
      · injection e with e1 e2 e3
        subst e1; subst e3
        have hcv := run_convert_bytes_back (P := Tryz.prog) wr 42 9 5 ⟨g, 0, none⟩ uc M Tryz.underlying42 Tryz.underlying5 Tryz.underlying9 (fun j hj => hown.cells (g := g) rfl j _ (by simp [Lib.byteCells, hj]))
        clear hown
        go_wp2
        go_ret2
        exact ⟨by rw [HM.out]; rfl, HB.out⟩
theorem show_any (W H : Int) (a : Option Addr) (len cap : Nat) (ps : List Int) (w : World) (h : Ints 0 w a len ps) (hp : Pow w) :
    Calls Tryz.prog 5 #[.agg #[.int .i64 W, .int .i64 H, .slice a len cap]] w fun e w' => e = .returned (.tuple #[.string (textS W H ps), .int .i64 (if fineB W H ps = true then 0 else 1)]) ∧ Below w.heap.size w w' := by
  by_cases hf : fineB W H ps = true
  · obtain ⟨hW, hH, hl, _⟩ := (fine_iff _ _ _).1 hf
    have hm := side_mul ((side_iff _).2 hW) ((side_iff _).2 hH)
    obtain ⟨n, rfl⟩ : ∃ n : Nat, W = n := ⟨W.toNat, by omega⟩
    unfold textS
    rw [if_pos hf, if_pos hf]
    rcases h.cells with e | ⟨b, off, rfl, _, _, _⟩
    · subst e; simp at hl; omega
    · exact show_fine n H b off len cap ps w h hf hp
  · have hf' : fineB W H ps = false := by simpa using hf
    have hb0 := (Below.refl w.heap.size w).alloc (Nat.le_refl _) (.cells #[.int .i64 W, .int .i64 H, .slice a len cap] 24)
    have hck := check_not cap (h.below (Nat.le_refl _) hb0) hf'
    unfold textS
    rw [if_neg hf, if_neg hf]
    clear hf hf'
    go_enter Tryz.func5, Tryz.ntmps5
    go_wp2_with fail
    refine hck.mono ?_
    rintro e w1 ⟨rfl, b1⟩
    go_wp2
    go_ret2
    exact ⟨rfl, below_stepL hb0 b1⟩
end Go.Proofs.YtaenpgdmiaekcaaGreatDoor
/-
  DESKREF: the reference's Digits.
-/
namespace Go.Proofs.YtaenpgdmiaekcaaGreatDoor
set_option maxRecDepth 100000
open Go.RowKit Im

theorem digits_next (n : Nat) (h : ¬ n < 10) : Lib.decDigits n = Lib.decDigits (n / 10) ++ [UInt8.ofNat (48 + n % 10)] := by
  conv => lhs; rw [Lib.decDigits, dif_neg h]
theorem digits_few : ∀ (k n : Nat), n < 10 ^ k → 0 < k → (Lib.decDigits n).length ≤ k
  | 0, n, _, h => by omega
  | k + 1, n, hn, _ => by
    by_cases h : n < 10
    · rw [Lib.decDigits_one h]; simp
    · rw [digits_next n h, List.length_append]
      by_cases hk : k = 0
      · subst hk; simp at hn; omega
      · have := digits_few k (n / 10) (by rw [Nat.pow_succ] at hn; omega) (by omega)
        simp; omega
set_option maxHeartbeats 4000000 in
theorem digits_any : ∀ (n : Nat) (_hn : n ≤ 65535) (w : World), Calls Tryz.prog 16 #[.int .i64 n] w fun e w' => e = .returned (.string ⟨(Lib.decDigits n).toArray⟩) ∧ Below w.heap.size w w' := by
  intro n
  induction n using Nat.strongRecOn with
  | _ n ih =>
    intro hn w
    have HDV : Hid ((n : Int) / 10 = ((n / 10 : Nat) : Int)) := by show _ = _; omega
    have hcv : (convert 42 9 (.slice (some ⟨w.heap.size, 0, none⟩) 1 1)).run Tryz.prog (w.alloc (.cells #[.int .u8 (48 + (n : Int) % 10)] 5)) = .ok (.string ⟨[UInt8.ofNat (48 + n % 10)].toArray⟩) (w.alloc (.cells #[.int .u8 (48 + (n : Int) % 10)] 5)) :=
      run_convert_bytes_back (P := Tryz.prog) (w.alloc (.cells #[.int .u8 (48 + (n : Int) % 10)] 5)) 42 9 5 ⟨w.heap.size, 0, none⟩ 1 [UInt8.ofNat (48 + n % 10)] Tryz.underlying42 Tryz.underlying5 Tryz.underlying9 (fun j hj => by
        obtain rfl : j = 0 := by simpa using hj
        have : (48 + (n : Int) % 10) % 256 = 48 + (n : Int) % 10 := by omega
        simp [go_sem, Addr.add, this])
    have hb0 := (Below.refl w.heap.size w).alloc (Nat.le_refl _) (.cells #[.int .u8 (48 + (n : Int) % 10)] 5)
    by_cases h10 : n < 10
    · have HD : Hid (Lib.decDigits n = [UInt8.ofNat (48 + n % 10)]) := by
        show _ = _
        rw [Lib.decDigits_one h10, Nat.mod_eq_of_lt h10]
      generalize [UInt8.ofNat (48 + n % 10)] = dl at *
      have hlt : (n : Int) < 10 := by omega
      clear ih
      go_enter Tryz.func16, Tryz.ntmps16
      go_wp2
      go_ret
      exact ⟨by rw [HD.out]; rfl, hb0⟩
    · have HD : Hid (Lib.decDigits n = _) := digits_next n h10
      have hdl : [UInt8.ofNat (48 + n % 10)].length = 1 := rfl
      generalize [UInt8.ofNat (48 + n % 10)] = dl at *
      have hf1 := digits_few 5 (n / 10) (by omega) (by omega)
      have hlt : ¬ (n : Int) < 10 := by omega
      have hr := ih (n / 10) (by omega) (by omega) (w.alloc (.cells #[.int .u8 (48 + (n : Int) % 10)] 5))
      have had := fun wx => run_string_add_lists (P := Tryz.prog) wx (Lib.decDigits (n / 10)) dl (by omega) (by omega)
      clear ih h10
      go_enter Tryz.func16, Tryz.ntmps16
      go_wp2_with fail
      rw [HDV.out]
      refine hr.mono ?_
      rintro e w1 ⟨rfl, b1⟩
      go_wp2
      go_ret
      exact ⟨by rw [HD.out]; rfl, below_stepL hb0 b1⟩
end Go.Proofs.YtaenpgdmiaekcaaGreatDoor
/-
  DESKTEXT: the reference's ImageText.
-/
namespace Go.Proofs.YtaenpgdmiaekcaaGreatDoor
set_option maxRecDepth 100000
open Go.RowKit Im

theorem line_len {W : Nat} {ps : List Int} (h : ∀ k, (showN W ps k).length ≤ 22 * k) (hd : ∀ k, (Lib.itoa (ps.getD k 0)).length ≤ 21) (y x : Nat) : (lineN W ps y x).length ≤ 22 * (y * W + x) := by
  unfold lineN
  by_cases hx : x = 0
  · rw [if_pos hx, hx]; exact h _
  · rw [if_neg hx, List.length_append]
    have h1 := h (y * W + (x - 1))
    have h2 := hd (y * W + (x - 1))
    omega
set_option maxHeartbeats 8000000 in
theorem imageText_fine (W H b off cap : Nat) (ps : List Int) (w : World) (hF : Fine w b off W H ps) :
    Calls Tryz.prog 7 #[.agg #[.int .i64 W, .int .i64 H, .slice (some ⟨b, off, none⟩) (W * H) cap]] w fun e w' => e = .returned (.string ⟨(showN W ps ps.length).toArray⟩) ∧ Below w.heap.size w w' := by
  have hn := hF.num
  have hW := hF.hW
  have hH := hF.hH
  have hd : ∀ k, (Lib.itoa (ps.getD k 0)).length ≤ 21 := fun k => by
    have := num_bd hn k
    exact Lib.itoa_length_le _ (by omega) (by omega)
  have hLL := line_len (show_len W ps hd) hd
  have HR : Hid (lineN W ps H 0 = showN W ps ps.length) := by show _ = _; rw [line_all, hF.len]
  have hb0 := (Below.refl w.heap.size w).alloc (Nat.le_refl _) (.cells #[.int .i64 W, .int .i64 H, .slice (some ⟨b, off, none⟩) (W * H) cap] 24)
  have c0 : (w.alloc (.cells #[.int .i64 W, .int .i64 H, .slice (some ⟨b, off, none⟩) (W * H) cap] 24)).cell? ⟨w.heap.size, 0, none⟩ = some (.int .i64 W) := by simp [go_sem]
  have c1 : (w.alloc (.cells #[.int .i64 W, .int .i64 H, .slice (some ⟨b, off, none⟩) (W * H) cap] 24)).cell? ⟨w.heap.size, 1, none⟩ = some (.int .i64 H) := by simp [go_sem]
  have c2 : (w.alloc (.cells #[.int .i64 W, .int .i64 H, .slice (some ⟨b, off, none⟩) (W * H) cap] 24)).cell? ⟨w.heap.size, 2, none⟩ = some (.slice (some ⟨b, off, none⟩) (W * H) cap) := by simp [go_sem]
  have hlt : w.heap.size < (w.alloc (.cells #[.int .i64 W, .int .i64 H, .slice (some ⟨b, off, none⟩) (W * H) cap] 24)).heap.size := by simp
  have hF1 := hF.below hb0
  clear hd hF
  go_enter Tryz.func7, Tryz.ntmps7
  go_upto_region 1 with fail
  generalize w.alloc (.cells #[.int .i64 W, .int .i64 H, .slice (some ⟨b, off, none⟩) (W * H) cap] 24) = w1 at *
  go_wp2_with fail
  go_loopw [3, 4] (fun u i wr => ∃ y : Nat, y ≤ H ∧ i = .int .i64 y ∧ u = .string ⟨(lineN W ps y 0).toArray⟩ ∧ Below w1.heap.size w1 wr) (fun _ i _ => H - (intOf i).toNat)
  case atStart => exact ⟨0, Nat.zero_le _, rfl, by unfold lineN; simp [showN], Below.refl _ _⟩
  case round =>
    obtain ⟨y, hy, rfl, rfl, hbr⟩ := hrel
    have d0 := (hbr.cell (p := ⟨w.heap.size, 0, none⟩) hlt).trans c0
    have d1 := (hbr.cell (p := ⟨w.heap.size, 1, none⟩) hlt).trans c1
    obtain ⟨wO, e0⟩ : ∃ z, z = wr := ⟨_, rfl⟩
    subst e0
    by_cases hyl : y < H
    · have hyI : (y : Int) < (H : Int) := by omega
      go_wp2_with fail
      go_loopw [3, 5] (fun u i ws => ∃ x : Nat, x ≤ W ∧ i = .int .i64 x ∧ u = .string ⟨(lineN W ps y x).toArray⟩ ∧ Below w1.heap.size w1 ws) (fun _ i _ => W - (intOf i).toNat)
      case atStart => exact ⟨0, Nat.zero_le _, rfl, rfl, hbr⟩
      case round =>
        obtain ⟨x, hx, rfl, rfl, hbs⟩ := hrel
        have e0 := (hbs.cell (p := ⟨w.heap.size, 0, none⟩) hlt).trans c0
        have e1 := (hbs.cell (p := ⟨w.heap.size, 1, none⟩) hlt).trans c1
        have e2 := (hbs.cell (p := ⟨w.heap.size, 2, none⟩) hlt).trans c2
        have hyW : y * W + x ≤ 256 := by
          have : y * W ≤ 15 * 16 := Nat.mul_le_mul (by omega) (by omega)
          omega
        have hLx := hLL y x
        by_cases hxl : x < W
        · have hxI : (x : Int) < (W : Int) := by omega
          have hat := at_any (cap := cap) (hF1.below hbs) (x : Int) (y : Int) x y rfl rfl hxl hyl
          have hq := num_bd hn (y * W + x)
          have HP : Hid (px W ps x y = ps.getD (y * W + x) 0) := rfl
          obtain ⟨q, hq'⟩ : ∃ q : Nat, ps.getD (y * W + x) 0 = q := ⟨(ps.getD (y * W + x) 0).toNat, by omega⟩
          have hpx : px W ps x y = (q : Int) := hq'
          have hit : Lib.itoa (ps.getD (y * W + x) 0) = Lib.decDigits q := by rw [hq']; exact Lib.itoa_nonneg q
          have hq5 : q ≤ 65535 := by omega
          have hdl := digits_few 5 q (by omega) (by omega)
          rw [hpx] at hat
          have hdg := digits_any q hq5
          by_cases hx0 : x = 0
          · subst hx0
            have HL : Hid (lineN W ps y (0 + 1) = lineN W ps y 0 ++ Lib.decDigits q) := by
              show _ = _
              rw [← hit]
              exact line_first W ps y
            have had := fun wx => run_string_add_lists (P := Tryz.prog) wx (lineN W ps y 0) (Lib.decDigits q) (by omega) (by omega)
            clear hit hpx hq' HP hq hLL hLx
            generalize lineN W ps y 0 ++ Lib.decDigits q = M2 at *
            generalize lineN W ps y 0 = M at *
            generalize Lib.decDigits q = D at *
            go_wp2_with fail
            refine hat.mono ?_
            rintro e w2 ⟨rfl, b2⟩
            go_wp2_with fail
            refine (hdg w2).mono ?_
            rintro e w3 ⟨rfl, b3⟩
            have hb3 := below_stepL (below_stepL hbs b2) b3
            go_wp2
            go_roundw
            case rel => exact ⟨0 + 1, by omega, by go_num, by rw [HL.out], hb3⟩
            case measure => simp [intOf]; omega
          · have HL : Hid (lineN W ps y (x + 1) = (lineN W ps y x ++ [32]) ++ Lib.decDigits q) := by
              show _ = _
              rw [← hit, line_next W ps y x (by omega) hxl]
              simp
            have hx0I : (0 : Int) < (x : Int) := by omega
            have hsp : ∀ wx, (Op.stringOp .add ⟨(lineN W ps y x).toArray⟩ ⟨#[32]⟩).run Tryz.prog wx = .ok (.string ⟨(lineN W ps y x ++ [32]).toArray⟩) wx := fun wx => run_string_add_lists (P := Tryz.prog) wx (lineN W ps y x) [32] (by omega) (by simp)
            have had := fun wx => run_string_add_lists (P := Tryz.prog) wx (lineN W ps y x ++ [32]) (Lib.decDigits q) (by rw [List.length_append]; simp; omega) (by omega)
            clear hit hpx hq' HP hq hLL hLx
            generalize (lineN W ps y x ++ [32]) ++ Lib.decDigits q = M2 at *
            generalize lineN W ps y x ++ [32] = M1 at *
            generalize lineN W ps y x = M at *
            generalize Lib.decDigits q = D at *
            go_wp2_with fail
            refine hat.mono ?_
            rintro e w2 ⟨rfl, b2⟩
            go_wp2_with fail
            refine (hdg w2).mono ?_
            rintro e w3 ⟨rfl, b3⟩
            have hb3 := below_stepL (below_stepL hbs b2) b3
            go_wp2
            go_roundw
            case rel => exact ⟨x + 1, by omega, by go_num, by rw [HL.out], hb3⟩
            case measure => simp [intOf]; omega
        · have hxe : x = W := by omega
          subst hxe
          have HL : Hid (lineN x ps y x ++ [10] = lineN x ps (y + 1) 0) := line_end x ps y (by omega)
          have hsp : ∀ wx, (Op.stringOp .add ⟨(lineN x ps y x).toArray⟩ ⟨#[10]⟩).run Tryz.prog wx = .ok (.string ⟨(lineN x ps y x ++ [10]).toArray⟩) wx := fun wx => run_string_add_lists (P := Tryz.prog) wx (lineN x ps y x) [10] (by omega) (by simp)
          clear hLL hLx
          generalize lineN x ps y x ++ [10] = M1 at *
          generalize lineN x ps y x = M at *
          go_wp2
          go_roundw
          case rel => exact ⟨y + 1, by omega, by go_num, by rw [HL.out], hbs⟩
          case measure => simp [intOf]; omega
    · have hye : y = H := by omega
      subst hye
      have HB : Hid (_) := below_stepL hb0 hbr
      clear hLL
      generalize lineN W ps y 0 = M at *
      go_wp2
      go_ret
      exact ⟨by rw [← HR.out]; rfl, HB.out⟩
theorem imageText_any (W H : Int) (a : Option Addr) (len cap : Nat) (ps : List Int) (w : World) (h : Ints 0 w a len ps) (hf : fineB W H ps = true) :
    Calls Tryz.prog 7 #[.agg #[.int .i64 W, .int .i64 H, .slice a len cap]] w fun e w' => e = .returned (.string (textS W H ps)) ∧ Below w.heap.size w w' := by
  obtain ⟨W', H', b, off, rfl, rfl, rfl, rfl, hF⟩ := fine_of h hf
  unfold textS
  rw [if_pos hf]
  exact imageText_fine W' H' b off cap ps w hF
end Go.Proofs.YtaenpgdmiaekcaaGreatDoor
/-
  DESKTAB: where the table of the powers of ten lies.
-/
namespace Go.Proofs.YtaenpgdmiaekcaaGreatDoor
set_option maxRecDepth 100000
open Go.RowKit Im

theorem gPow : Tryz.prog.globalNamed "internal/strconv.uint64pow10" = some 0 := by kernel_rfl
theorem gPowType : (Tryz.prog.globals[0]?).map (·.type) = some 215 := by kernel_rfl
theorem cellsPowE : Tryz.prog.cellsOf 135 = 1 := by kernel_rfl
theorem cellsPowT : Tryz.prog.cellsOf 215 = 20 := by kernel_rfl
end Go.Proofs.YtaenpgdmiaekcaaGreatDoor
