/-
  NEARREF: the reference's NearOf.
-/
import Derived.Test.YtfpkiimlaepnhaaLightRef
import Derived.Deep.RegionHeld3
namespace Go.Proofs.Ytfpkiimlaepnhaa
set_option maxRecDepth 100000
open Go.RowKit Im

/-- Does the light reach the place? -/
def hitB (l : Lt) (u v : Int) : Bool := decide (awayP l.X u 1 + awayP l.Y v 1 < l.R)
/-- One of the first n places of a row; of the first m rows. -/
def rowAny (l : Lt) (x v : Int) : Nat → Bool
  | 0 => false
  | n + 1 => rowAny l x v n || hitB l (x + n) v
def boxAny (l : Lt) (x y : Int) (n : Nat) : Nat → Bool
  | 0 => false
  | m + 1 => boxAny l x y n m || rowAny l x (y + m) n
theorem rowAny_iff (l : Lt) (x v : Int) : ∀ n, rowAny l x v n = true ↔ ∃ i : Nat, i < n ∧ hitB l (x + i) v = true
  | 0 => by simp [rowAny]
  | n + 1 => by
    rw [rowAny, Bool.or_eq_true, rowAny_iff l x v n]
    constructor
    · rintro (⟨i, hi, h⟩ | h)
      · exact ⟨i, by omega, h⟩
      · exact ⟨n, by omega, h⟩
    · rintro ⟨i, hi, h⟩
      rcases Nat.lt_or_ge i n with h' | h'
      · exact .inl ⟨i, h', h⟩
      · have : i = n := by omega
        subst this; exact .inr h
theorem boxAny_iff (l : Lt) (x y : Int) (n : Nat) : ∀ m, boxAny l x y n m = true ↔ ∃ i j : Nat, i < n ∧ j < m ∧ hitB l (x + i) (y + j) = true
  | 0 => by simp [boxAny]
  | m + 1 => by
    rw [boxAny, Bool.or_eq_true, boxAny_iff l x y n m, rowAny_iff]
    constructor
    · rintro (⟨i, j, hi, hj, h⟩ | ⟨i, hi, h⟩)
      · exact ⟨i, j, hi, by omega, h⟩
      · exact ⟨i, m, hi, by omega, h⟩
    · rintro ⟨i, j, hi, hj, h⟩
      rcases Nat.lt_or_ge j m with h' | h'
      · exact .inl ⟨i, j, hi, h', h⟩
      · have : j = m := by omega
        subst this; exact .inr ⟨i, hi, h⟩
/-- The nearest of n columns is one of them. -/
theorem away_near (c f : Int) (n : Nat) (hn : 1 ≤ n) : ∃ i : Nat, i < n ∧ awayP c (f + i) 1 = awayP c f n := by
  by_cases h1 : c < f
  · exact ⟨0, by omega, by unfold awayP; omega⟩
  · by_cases h2 : c - f < n
    · exact ⟨(c - f).toNat, by omega, by unfold awayP; omega⟩
    · exact ⟨n - 1, by omega, by unfold awayP; omega⟩
theorem away_least (c f : Int) (n i : Nat) (hi : i < n) : awayP c f n ≤ awayP c (f + i) 1 := by unfold awayP; omega
theorem box_near (l : Lt) (x y : Int) (n m : Nat) (hn : 1 ≤ n) (hm : 1 ≤ m) : boxAny l x y n m = nearB x y n m l := by
  rw [Bool.eq_iff_iff, boxAny_iff]
  unfold hitB nearB
  simp only [decide_eq_true_eq]
  constructor
  · rintro ⟨i, j, hi, hj, h⟩
    have h1 := away_least l.X x n i hi
    have h2 := away_least l.Y y m j hj
    omega
  · intro h
    obtain ⟨i, hi, e1⟩ := away_near l.X x n hn
    obtain ⟨j, hj, e2⟩ := away_near l.Y y m hm
    exact ⟨i, j, hi, hj, by rw [e1, e2]; exact h⟩

/-- A light's four cells, and all that was there. -/
def LtAt (w0 w' : World) (b o : Nat) (X Y R P : Int) : Prop := Below w0.heap.size w0 w' ∧ w'.cell? ⟨b, o, none⟩ = some (.int .i64 X) ∧ w'.cell? ⟨b, o + 1, none⟩ = some (.int .i64 Y) ∧ w'.cell? ⟨b, o + 2, none⟩ = some (.int .i64 R) ∧ w'.cell? ⟨b, o + 3, none⟩ = some (.int .i64 P)
theorem ltAt {w0 w1 w' : World} {b o : Nat} {X Y R P : Int} (h : LtAt w0 w1 b o X Y R P) (hb : b < w1.heap.size) (hbel : Below w1.heap.size w1 w') :
    Below w1.heap.size w1 w' ∧ w'.cell? ⟨b, o, none⟩ = some (.int .i64 X) ∧ w'.cell? ⟨b, o + 1, none⟩ = some (.int .i64 Y) ∧ w'.cell? ⟨b, o + 2, none⟩ = some (.int .i64 R) ∧ w'.cell? ⟨b, o + 3, none⟩ = some (.int .i64 P) :=
  ⟨hbel, (hbel.cell (p := ⟨b, o, none⟩) hb).trans h.2.1, (hbel.cell (p := ⟨b, o + 1, none⟩) hb).trans h.2.2.1, (hbel.cell (p := ⟨b, o + 2, none⟩) hb).trans h.2.2.2.1, (hbel.cell (p := ⟨b, o + 3, none⟩) hb).trans h.2.2.2.2⟩
theorem viaL {P : Program} {f : FuncId} {args : Array Value} {wX w' : World} {r : Ending} (hb : Below wX.heap.size wX w') (hc : Calls P f args w' fun e w2 => e = r ∧ Below w'.heap.size w' w2) :
    Calls P f args w' fun e w2 => e = r ∧ Below wX.heap.size wX w2 := hc.mono fun _ _ ⟨he, hb2⟩ => ⟨he, below_stepL hb hb2⟩

set_option maxHeartbeats 2000000 in
theorem nearOf_any {a : Option Addr} {len : Nat} (cap : Nat) {ls : List Lt} (x y : Int) (pw ph : Nat) {w : World} (h : Lights w a len ls) (h8 : ls.length ≤ 8) (hr : ls.all rightB = true) (hx : stretchB x pw = true) (hy : stretchB y ph = true) :
    Calls Try.prog 33 #[.slice a len cap, .int .i64 x, .int .i64 y, .int .i64 pw, .int .i64 ph] w fun e w' =>
      ∃ a' cap', e = .returned (.slice a' (pickL (nearB x y pw ph) ls len).length cap') ∧ Ints w.heap.size w' a' (pickL (nearB x y pw ph) ls len).length (pickL (nearB x y pw ph) ls len) ∧ Below w.heap.size w w' := by
  obtain ⟨i0, hi, hz0, hz1, hz2⟩ := info_parts Try.info3
  have bx := (stretch_iff x pw).1 hx
  have by' := (stretch_iff y ph).1 hy
  have hl := h.leng
  rcases h.cells with e | ⟨b, off, rfl, hb, hcl⟩
  · subst e
    have : len = 0 := by simpa using hl.symm
    subst this
    suffices hs : Calls Try.prog 33 #[.slice a 0 cap, .int .i64 x, .int .i64 y, .int .i64 pw, .int .i64 ph] w fun e w' => e = .returned (.slice none 0 0) ∧ Below w.heap.size w w' from
      hs.mono fun e w' ⟨he, hb⟩ => ⟨none, 0, he, Ints.nil _ _, hb⟩
    go_enter Try.func33, Try.ntmps33
    go_wp2
    go_loop [11, 12] (fun s i => s = .slice none 0 0 ∧ i = .int .i64 0) (fun _ _ => 0)
    case atStart => exact ⟨rfl, rfl⟩
    case round =>
      obtain ⟨rfl, rfl⟩ := hrel
      go_wp2
      go_ret
      exact ⟨rfl, Below.refl _ _⟩
  · go_enter Try.func33, Try.ntmps33
    go_wp2
    go_loopw [11, 12] (fun s i wr => ∃ k : Nat, k ≤ len ∧ i = .int .i64 k ∧ Owns w.heap.size wr s (pickL (nearB x y pw ph) ls k) ∧ Below w.heap.size w wr) (fun _ i _ => len - (intOf i).toNat)
    case atStart => exact ⟨0, Nat.zero_le _, rfl, World.ownsRow_nil _ _ _ _, Below.refl _ _⟩
    case round =>
      obtain ⟨k, hk, rfl, hown, hbr⟩ := hrel
      obtain ⟨w1, e1⟩ : ∃ z, z = wr := ⟨_, rfl⟩
      subst e1
      have hlen := pickL_len (nearB x y pw ph) ls k
      by_cases hlt : k < len
      · have hat : LtAt w w1 b (off + k * 4) (ls.getD k Lt.zero).X (ls.getD k Lt.zero).Y (ls.getD k Lt.zero).R (ls.getD k Lt.zero).P := ⟨hbr, (hbr.cell (p := ⟨b, off + k * 4, none⟩) hb).trans (hcl k hlt).1, (hbr.cell (p := ⟨b, off + k * 4 + 1, none⟩) hb).trans (hcl k hlt).2.1, (hbr.cell (p := ⟨b, off + k * 4 + 2, none⟩) hb).trans (hcl k hlt).2.2.1, (hbr.cell (p := ⟨b, off + k * 4 + 3, none⟩) hb).trans (hcl k hlt).2.2.2⟩
        have hbw : b < w1.heap.size := Nat.lt_of_lt_of_le hb hbr.size
        have y1 := pickL_yes (nearB x y pw ph) ls k
        have y2 := pickL_no (nearB x y pw ph) ls k
        rw [← box_near _ x y pw ph (by omega) (by omega)] at y1 y2
        have hrk := all_getD ls k (by omega) hr
        have hfar := fun wx u v (hu : 0 ≤ u ∧ u < 16) (hv : 0 ≤ v ∧ v < 16) => far_any (ls.getD k Lt.zero) u v wx hrk hu hv
        obtain ⟨hX, hY, hR, hP⟩ := (right_iff _).1 hrk
        clear hcl hrk
        have hhit : ∀ u v, hitB (ls.getD k Lt.zero) u v = decide (awayP (ls.getD k Lt.zero).X u 1 + awayP (ls.getD k Lt.zero).Y v 1 < (ls.getD k Lt.zero).R) := fun u v => rfl
        generalize ls.getD k Lt.zero = l at hat y1 y2 hfar hX hY hR hhit
        have hxa : (x : Int) + pw ≤ 16 := by omega
        have hya : (y : Int) + ph ≤ 16 := by omega
        go_wp2
        go_loopw [13, 14] (fun s v ws => ∃ j : Nat, j ≤ ph ∧ v = .int .i64 (y + (j : Int)) ∧ s = .bool (boxAny l x y pw j) ∧ Below w1.heap.size w1 ws) (fun _ v _ => ph - (intOf v - y).toNat)
        case atStart => exact ⟨0, Nat.zero_le _, by simp, rfl, Below.refl _ _⟩
        case round =>
          obtain ⟨j, hj, rfl, rfl, hbs⟩ := hrel
          by_cases hlj : j < ph
          · have hle : y + (j : Int) < y + (ph : Int) := by omega
            go_wp2
            go_loopw [13, 15] (fun s u ws => ∃ i : Nat, i ≤ pw ∧ u = .int .i64 (x + (i : Int)) ∧ s = .bool (boxAny l x y pw j || rowAny l x (y + j) i) ∧ Below w1.heap.size w1 ws) (fun _ u _ => pw - (intOf u - x).toNat)
            case atStart => exact ⟨0, Nat.zero_le _, by simp, by simp [rowAny], hbs⟩
            case round =>
              obtain ⟨i, hii, rfl, rfl, hbt⟩ := hrel
              by_cases hli : i < pw
              · have hlu : x + (i : Int) < x + (pw : Int) := by omega
                obtain ⟨fl, hfl⟩ : ∃ fl, fl = (boxAny l x y pw j || rowAny l x (y + j) i) := ⟨_, rfl⟩
                rw [← hfl]
                have HR : Hid ((boxAny l x y pw j || rowAny l x (y + j) (i + 1)) = (fl || hitB l (x + i) (y + j))) := by show _ = _; rw [hfl, rowAny, Bool.or_assoc]
                clear hfl
                have hft := ltAt hat hbw hbt
                cases fl with
                | true =>
                  rw [Bool.true_or] at HR
                  obtain ⟨_, z0, z1, z2, z3⟩ := hft
                  go_wp2
                  go_quiet (fail)
                  go_wp2
                  go_roundw
                  case rel => exact ⟨i + 1, by omega, by go_num, by rw [HR.out], below_drewN hbt _⟩
                  case measure => simp [intOf]; omega
                | false =>
                  rw [Bool.false_or] at HR
                  have hfc := fun wx => hfar wx (x + i) (y + j) (by omega) (by omega)
                  have hh := hhit (x + i) (y + j)
                  obtain ⟨X, Y, R, P⟩ := l
                  dsimp only at hfc hh hft hX hY hR
                  rw [hh] at HR
                  generalize awayP X (x + i) 1 + awayP Y (y + j) 1 = d at hfc HR
                  clear hh hft
                  by_cases hd : d < R
                  · rw [decide_eq_true hd] at HR
                    go_wp2
                    go_region_held3 (fun w' => Below w1.heap.size w1 w' ∧ w'.cell? ⟨b, off + k * 4, none⟩ = some (.int .i64 X) ∧ w'.cell? ⟨b, off + k * 4 + 1, none⟩ = some (.int .i64 Y) ∧ w'.cell? ⟨b, off + k * 4 + 2, none⟩ = some (.int .i64 R) ∧ w'.cell? ⟨b, off + k * 4 + 3, none⟩ = some (.int .i64 P))
                      (first | exact ltAt hat hbw (hbt.drew) | exact ltAt hat hbw (by assumption))
                      (first | (go_at_call 76; refine (viaL (And.left (b := _) (by assumption)) (hfc _)).mono ?_; rintro e w2 ⟨rfl, hb2⟩))
                    go_wp2
                    go_roundw
                    case rel => exact ⟨i + 1, by omega, by go_num, by rw [HR.out], by assumption⟩
                    case measure => simp [intOf]; omega
                  · rw [decide_eq_false hd] at HR
                    have hd' : decide (d < R) = false := decide_eq_false hd
                    go_wp2
                    go_region_held3 (fun w' => Below w1.heap.size w1 w' ∧ w'.cell? ⟨b, off + k * 4, none⟩ = some (.int .i64 X) ∧ w'.cell? ⟨b, off + k * 4 + 1, none⟩ = some (.int .i64 Y) ∧ w'.cell? ⟨b, off + k * 4 + 2, none⟩ = some (.int .i64 R) ∧ w'.cell? ⟨b, off + k * 4 + 3, none⟩ = some (.int .i64 P))
                      (first | exact ltAt hat hbw (hbt.drew) | exact ltAt hat hbw (by assumption))
                      (first | (go_at_call 76; refine (viaL (And.left (b := _) (by assumption)) (hfc _)).mono ?_; rintro e w2 ⟨rfl, hb2⟩))
                    go_wp2
                    go_roundw
                    case rel => exact ⟨i + 1, by omega, by go_num, by rw [HR.out], by assumption⟩
                    case measure => simp [intOf]; omega
              · have hie : i = pw := by omega
                subst hie
                go_wp2
                go_roundw
                case rel => exact ⟨j + 1, by omega, by go_num, rfl, hbt⟩
                case measure => simp [intOf]; omega
          · have hje : j = ph := by omega
            subst hje
            have hbw2 := below_stepL hbr hbs
            have hown2 := hown.below hbs (Nat.le_refl _)
            have hs2 := hbw2.size
            clear hat hfar hhit
            cases hbx : boxAny l x y pw j with
            | true =>
              have HS : Hid (pickL (nearB x y pw j) ls (k + 1) = pickL (nearB x y pw j) ls k ++ [(k : Int)]) := y1 hbx
              clear y1 y2 hbx
              go_wp2_with (at_builtin; refine wpList_append_own _ rfl _ _ 22 rfl w.heap.size 3 i0 (.int .i64 0) 1 8 Try.underlying22 hi hz0 hz1 hz2 rfl (by decide) _ _ _ rfl (World.ownsRow.alloc hown2 _) ⟨wr.heap.size, 0, none⟩ 1 1 [.int .i64 k] rfl rfl (cell_one_new _ _ _) (by intro u hu; simp at hu; subst hu; rfl) (by unfold maxLen; omega) (by omega) (by simp; omega) ?_; intro v' w9 hown9 hgrow9 _)
              have R := Owns.push hown2 hbw2 hs2 hown9 rfl hgrow9
              go_roundw
              case rel => exact ⟨k + 1, by omega, by go_num, by rw [HS.out]; exact R.1, R.2⟩
              case measure => simp [intOf]; omega
            | false =>
              have HS : Hid (pickL (nearB x y pw j) ls (k + 1) = pickL (nearB x y pw j) ls k) := y2 hbx
              clear y1 y2 hbx
              go_wp2
              go_roundw
              case rel => exact ⟨k + 1, by omega, by go_num, by rw [HS.out]; exact hown2, hbw2⟩
              case measure => simp [intOf]; omega
      · have e : k = len := by omega
        subst e
        obtain ⟨a', cap', rfl, hints⟩ := hown.ints (by omega)
        go_wp2
        go_ret
        exact ⟨a', cap', rfl, hints, hbr⟩
end Go.Proofs.Ytfpkiimlaepnhaa
