/- Glow, FrameBegun, FrameRef, HasRef: joined, in this order. -/
import Derived.Test.YtfpkiimlaepnhaaM30
import Derived.Test.YtfpkiimlaepnhaaM11
import Derived.Test.YtfpkiimlaepnhaaM02
import Derived.Test.YtfpkiimlaepnhaaM27
/-
  GLOW: the frame of five passes that the laws begin with.
-/
namespace Go.Proofs.Ytfpkiimlaepnhaa
set_option maxRecDepth 100000
open Go.RowKit Im

def glowP : List Ps := [⟨2, 0, 0, 0, 100, []⟩, ⟨1, 2, 0, 0, 7, []⟩, ⟨10, 1, 0, 0, 0, []⟩, ⟨1, 2, 0, 0, 9, []⟩, ⟨4, 1, 0, 2, 0, []⟩]
def glowF : Fr := ⟨4, 2, 3, 1, glowP⟩
theorem glow_ok : frameE glowF = 0 := by decide
theorem glow_szs : szs glowF 5 = [(4, 2), (4, 2), (4, 2), (4, 2), (4, 2)] := by decide
theorem glow_srcs : srcs glowP 5 = [[], [], [0], [], [0, 3]] := by decide
theorem glow_shown : shownP glowF = 4 := by decide
theorem glow_pic : (pics glowF 5).getD 4 (noRes 0) = ⟨0, 4, 2, [9, 109, 209, 309, 10, 110, 210, 310]⟩ := by rfl
def glowC : Array Value := #[.int .i64 2, .int .i64 0, .int .i64 0, .int .i64 0, .int .i64 100, .slice none 0 0, .int .i64 1, .int .i64 2, .int .i64 0, .int .i64 0, .int .i64 7, .slice none 0 0, .int .i64 10, .int .i64 1, .int .i64 0, .int .i64 0, .int .i64 0, .slice none 0 0, .int .i64 1, .int .i64 2, .int .i64 0, .int .i64 0, .int .i64 9, .slice none 0 0, .int .i64 4, .int .i64 1, .int .i64 0, .int .i64 2, .int .i64 0, .slice none 0 0]
/-- The call's end tells the frame of five passes. -/
def ToldG (w : World) (e : Ending) (w' : World) : Prop :=
  ∃ b, e = .returned (.agg #[.int .i64 4, .int .i64 2, .int .i64 3, .int .i64 1, .slice (some ⟨b, 0, none⟩) 5 5]) ∧ Passes w' (some ⟨b, 0, none⟩) 5 glowP ∧ Below w.heap.size w w'
theorem Lights.nil (w : World) : Lights w none 0 [] := ⟨rfl, by omega, .inl rfl⟩
theorem glow_passes (w : World) : Passes (w.alloc (.cells glowC 88)) (some ⟨w.heap.size, 0, none⟩) 5 glowP := by
  have hc : ∀ o, (w.alloc (.cells glowC 88)).cell? ⟨w.heap.size, o, none⟩ = glowC[o]? := fun o => World.cell?_alloc_new w glowC 88 o
  refine ⟨rfl, by decide, .inr ⟨w.heap.size, 0, rfl, by simp, fun j hj => ⟨none, 0, 0, ?_⟩⟩⟩
  simp only [hc]
  match j, hj with
  | 0, _ => exact ⟨rfl, rfl, rfl, rfl, rfl, rfl, Lights.nil _⟩
  | 1, _ => exact ⟨rfl, rfl, rfl, rfl, rfl, rfl, Lights.nil _⟩
  | 2, _ => exact ⟨rfl, rfl, rfl, rfl, rfl, rfl, Lights.nil _⟩
  | 3, _ => exact ⟨rfl, rfl, rfl, rfl, rfl, rfl, Lights.nil _⟩
  | 4, _ => exact ⟨rfl, rfl, rfl, rfl, rfl, rfl, Lights.nil _⟩
theorem glow_any (w : World) : Calls Try.prog 88 #[] w (ToldG w) := by
  go_enter Try.func88, Try.ntmps88
  go_wp2
  refine bodyPost_ret (v := .agg #[.int .i64 4, .int .i64 2, .int .i64 3, .int .i64 1, .slice (some ⟨w.heap.size + 1, 0, none⟩) 5 5]) (by simp [results, Try.results88, go_sem]) rfl ?_
  have hg := glow_passes (w.alloc (.cells #[.int .i64 4, .int .i64 2, .int .i64 3, .int .i64 1, .slice (some ⟨w.heap.size + 1, 0, none⟩) 5 5] 63))
  rw [World.size_alloc] at hg
  exact ⟨_, rfl, hg, below_box (below_box (Below.refl _ _) _) _⟩
end Go.Proofs.Ytfpkiimlaepnhaa
/-
  FRAMEBEGUN: what the laws of frames begin with comes out true.
-/
namespace Go.Proofs.Ytfpkiimlaepnhaa
set_option maxRecDepth 100000
open Go.RowKit Im

theorem Passes.nil (w : World) : Passes w none 0 [] := ⟨rfl, by omega, .inl rfl⟩
theorem zero_frame : frameE ⟨0, 0, 0, 0, []⟩ = 3 := by decide
theorem glow_render : renderP glowF = ⟨0, 4, 2, [9, 109, 209, 309, 10, 110, 210, 310]⟩ := by
  unfold renderP
  rw [if_pos glow_ok, glow_shown]
  exact glow_pic
set_option maxHeartbeats 4000000 in
theorem frameBegun_any (w : World) : Calls Try.prog 43 #[] w fun e w' => e = .returned (.bool true) ∧ Below w.heap.size w w' := by
  have hzs := fun a cap wx hp => sizes_any 4 2 3 1 a 5 cap glowP wx hp
  have hso := fun a cap wx hp => sources_any 4 2 3 1 a 5 cap glowP wx hp
  have hre := fun a cap wx hp => render_any 4 2 3 1 a 5 cap glowP wx hp
  have hch := fun a cap wx hp => frameCheck_any 4 2 3 1 a 5 cap glowP wx hp
  have hc0 := fun wx => frameCheck_any 0 0 0 0 none 0 0 [] wx (Passes.nil wx)
  have hok : frameE ⟨4, 2, 3, 1, glowP⟩ = 0 := glow_ok
  have hlen : glowP.length = 5 := rfl
  rw [hok] at hch
  rw [zero_frame] at hc0
  have hrr : renderP ⟨4, 2, 3, 1, glowP⟩ = _ := glow_render
  rw [hrr] at hre
  go_enter Try.func43, Try.ntmps43
  go_wp2_with fail
  refine (glow_any _).mono ?_
  rintro e w1 ⟨b1, rfl, hp1, bel1⟩
  go_wp2_with fail
  refine (hzs _ _ _ hp1).mono ?_
  rintro e w2 ⟨⟨v2, rfl, hZ⟩, bel2⟩
  rw [hok, if_pos rfl] at hZ
  rw [hok]
  have hZ' : OwnsZ w1.heap.size w2 v2 [(4, 2), (4, 2), (4, 2), (4, 2), (4, 2)] := by
    have e : szs ⟨4, 2, 3, 1, glowP⟩ glowP.length = _ := glow_szs
    rw [← e]; exact hZ
  obtain ⟨za, zc, rfl, hZs⟩ := hZ'.zs (by decide)
  have hb2 := below_step bel1 bel2
  clear hZ hZ' hp1 bel1 bel2 hzs
  go_wp2_with fail
  refine (glow_any _).mono ?_
  rintro e w3 ⟨b3, rfl, hp3, bel3⟩
  replace hZs := hZs.below bel3
  replace hb2 := below_step hb2 bel3
  go_wp2_with fail
  refine (hso _ _ _ hp3).mono ?_
  rintro e w4 ⟨⟨v4, rfl, hS⟩, bel4⟩
  rw [hok, if_pos rfl] at hS
  rw [hok]
  have hS' : OwnsLL w3.heap.size w4 v4 [[], [], [0], [], [0, 3]] := by
    have e : srcs glowP glowP.length = _ := glow_srcs
    rw [← e]; exact hS
  obtain ⟨sa, sc, rfl, hSs⟩ := hS'.lls (by decide)
  replace hZs := hZs.below bel4
  replace hb2 := below_step hb2 bel4
  clear hS hS' hp3 bel3 bel4 hso
  go_wp2_with fail
  refine (glow_any _).mono ?_
  rintro e w5 ⟨b5, rfl, hp5, bel5⟩
  replace hZs := hZs.below bel5
  replace hSs := hSs.below bel5
  replace hb2 := below_step hb2 bel5
  go_wp2_with fail
  refine (hre _ _ _ hp5).mono ?_
  rintro e w6 ⟨ra, rc, rfl, hri, bel6⟩
  replace hZs := hZs.below bel6
  replace hSs := hSs.below bel6
  replace hb2 := below_step hb2 bel6
  clear hp5 bel5 bel6 hre hrr
  dsimp only at hri ⊢
  have bB := (Below.refl w6.heap.size w6).alloc (Nat.le_refl _) (.cells #[.int .i64 4, .int .i64 2, .slice ra 8 rc] 24)
  have c2 : (w6.alloc (.cells #[.int .i64 4, .int .i64 2, .slice ra 8 rc] 24)).cell? ⟨w6.heap.size, 2, none⟩ = some (.slice ra 8 rc) := by simp [go_sem]
  have hl : w6.heap.size < (w6.alloc (.cells #[.int .i64 4, .int .i64 2, .slice ra 8 rc] 24)).heap.size := by simp
  replace hZs := hZs.below bB
  replace hSs := hSs.below bB
  replace hb2 := below_step hb2 bB
  replace hri : Ints 0 _ ra 8 [9, 109, 209, 309, 10, 110, 210, 310] := (hri.below (Nat.le_refl _) bB).mono (Nat.zero_le _)
  clear bB
  go_wp2_with fail
  generalize w6.alloc (.cells #[.int .i64 4, .int .i64 2, .slice ra 8 rc] 24) = w7 at *
  refine (glow_any _).mono ?_
  rintro e w8 ⟨b8, rfl, hp8, bel8⟩
  replace hZs := hZs.below bel8
  replace hSs := hSs.below bel8
  replace hb2 := below_step hb2 bel8
  replace hri := hri.below (Nat.le_refl _) bel8
  replace c2 := (bel8.cell (p := ⟨w6.heap.size, 2, none⟩) hl).trans c2
  replace hl := Nat.lt_of_lt_of_le hl bel8.size
  go_wp2_with fail
  refine (hch _ _ _ hp8).mono ?_
  rintro e w9 ⟨rfl, bel9⟩
  replace hZs := hZs.below bel9
  replace hSs := hSs.below bel9
  replace hb2 := below_step hb2 bel9
  replace hri := hri.below (Nat.le_refl _) bel9
  replace c2 := (bel9.cell (p := ⟨w6.heap.size, 2, none⟩) hl).trans c2
  replace hl := Nat.lt_of_lt_of_le hl bel9.size
  clear hp8 bel8 bel9 hch
  go_wp2_with fail
  refine (hc0 _).mono ?_
  rintro e w10 ⟨rfl, bel10⟩
  replace hZs := hZs.below bel10
  replace hSs := hSs.below bel10
  replace hb2 := below_step hb2 bel10
  replace hri := hri.below (Nat.le_refl _) bel10
  replace c2 := (bel10.cell (p := ⟨w6.heap.size, 2, none⟩) hl).trans c2
  replace hl := Nat.lt_of_lt_of_le hl bel10.size
  clear bel10 hc0
  obtain ⟨zb, zo, rfl, _, d0, d1⟩ := hZs.nth (k := 4) (by decide)
  obtain ⟨sb, so, ua, uc, rfl, _, q0, hUI⟩ := hSs.nth (k := 4) (by decide)
  have d0' : w10.cell? ⟨zb, zo + 8, none⟩ = some (.int .i64 4) := d0
  have d1' : w10.cell? ⟨zb, zo + 8 + 1, none⟩ = some (.int .i64 2) := d1
  have q0' : w10.cell? ⟨sb, so + 4, none⟩ = some (.slice ua 2 uc) := q0
  have hUI' : Ints 0 w10 ua 2 [0, 3] := hUI
  clear d0 d1 q0 hUI hSs hZs
  go_wp2_with fail
  have bC := (Below.refl w10.heap.size w10).alloc (Nat.le_refl _) (.cells #[.int .i64 0, .int .i64 3] 3)
  have L1 := ints_lit w10 [0, 3] (by simp)
  refine (sameInts_any _ _ (hUI'.below (Nat.le_refl _) bC) L1).mono ?_
  rintro e w11 ⟨rfl, bel11⟩
  replace bC := below_step bC bel11
  replace hb2 := below_step hb2 bC
  replace hri := hri.below (Nat.le_refl _) bC
  replace c2 := (bC.cell (p := ⟨w6.heap.size, 2, none⟩) hl).trans c2
  replace hl := Nat.lt_of_lt_of_le hl bC.size
  clear L1 bel11 bC hUI' d0' d1' q0'
  go_wp2_with fail
  have bD := (Below.refl w11.heap.size w11).alloc (Nat.le_refl _) (.cells #[.int .i64 9, .int .i64 109, .int .i64 209, .int .i64 309, .int .i64 10, .int .i64 110, .int .i64 210, .int .i64 310] 3)
  have L2 := ints_lit w11 [9, 109, 209, 309, 10, 110, 210, 310] (by simp)
  refine (sameInts_any _ _ (hri.below (Nat.le_refl _) bD) L2).mono ?_
  rintro e w12 ⟨rfl, bel12⟩
  replace bD := below_step bD bel12
  replace hb2 := below_step hb2 bD
  clear L2 bel12 bD
  go_wp2
  go_ret
  exact ⟨rfl, hb2⟩
end Go.Proofs.Ytfpkiimlaepnhaa
/-
  FRAMEREF: the reference's small functions of frames.
-/
namespace Go.Proofs.Ytfpkiimlaepnhaa
set_option maxRecDepth 100000
open Go.RowKit Im

theorem isTwo_any' (op : Int) (w : World) : Calls Try.prog 26 #[.int .i64 op] w fun e w' => e = .returned (.bool (hasB op)) ∧ w = w' := by
  go_enter Try.func26, Try.ntmps26
  go_wp2_with (go_at_call 61; refine (within_any _ _ _ _).mono ?_; rintro e w' ⟨rfl, rfl⟩)
  go_ret
  exact ⟨rfl, rfl⟩
theorem kFine_any (Op To A B K : Int) (la : Option Addr) (ll lc : Nat) (w : World) : Calls Try.prog 114 #[.agg #[.int .i64 Op, .int .i64 To, .int .i64 A, .int .i64 B, .int .i64 K, .slice la ll lc]] w fun e w' => e = .returned (.bool (if hasK Op = true then kB Op K else true)) ∧ Below w.heap.size w w' := by
  have hb0 := below_box (Below.refl w.heap.size w) (.cells #[.int .i64 Op, .int .i64 To, .int .i64 A, .int .i64 B, .int .i64 K, .slice la ll lc] 88)
  by_cases h1 : Op = 1 ∨ Op = 2 ∨ Op = 8
  · have e1 : hasK Op = true := by rcases h1 with rfl | rfl | rfl <;> rfl
    have e2 : kB Op K = withinB K 0 65535 := by unfold kB; rw [if_neg (by omega), if_neg (by omega)]
    rw [if_pos e1, e2]
    clear e1 e2
    rcases h1 with rfl | rfl | rfl
    all_goals
      go_enter Try.func114, Try.ntmps114
      go_wp2_with (go_at_call 61; refine (within_any _ _ _ _).mono ?_; rintro e w' ⟨rfl, rfl⟩)
      go_ret
      exact ⟨rfl, hb0⟩
  · by_cases h2 : Op = 9 ∨ Op = 13
    · rcases h2 with rfl | rfl
      all_goals
        rw [if_pos (by decide)]
        unfold kB
        go_enter Try.func114, Try.ntmps114
        go_wp2_with (go_at_call 61; refine (within_any _ _ _ _).mono ?_; rintro e w' ⟨rfl, rfl⟩)
        go_ret
        exact ⟨rfl, hb0⟩
    · have e1 : ¬ hasK Op = true := by simp [hasK]; omega
      rw [if_neg e1]
      have n1 : ¬ Op = 1 := by omega
      have n2 : ¬ Op = 2 := by omega
      have n8 : ¬ Op = 8 := by omega
      have n9 : ¬ Op = 9 := by omega
      have n13 : ¬ Op = 13 := by omega
      clear h1 h2 e1
      go_enter Try.func114, Try.ntmps114
      go_wp2
      go_ret
      exact ⟨rfl, hb0⟩
/-- The reference's writer: the last pass ahead of n that made what lies in a slot. -/
theorem writer_any (W H S O : Int) (a : Option Addr) (len cap : Nat) (ps : List Ps) (n : Nat) (s : Int) (w : World) (hp : Passes w a len ps) (hn : n ≤ len) :
    Calls Try.prog 87 #[.agg #[.int .i64 W, .int .i64 H, .int .i64 S, .int .i64 O, .slice a len cap], .int .i64 n, .int .i64 s] w fun e w' => e = .returned (.int .i64 (wrt ps n s)) ∧ Below w.heap.size w w' := by
  have hbig := hp.big
  have hB := FBox.new w W H S O a len cap
  have hb0 := below_box (Below.refl w.heap.size w) (.cells #[.int .i64 W, .int .i64 H, .int .i64 S, .int .i64 O, .slice a len cap] 63)
  have hp1 := hp.below hb0
  have hw0 : IntKind.i64.wrap ((n : Int) - 1) = (n : Int) - 1 := by rw [IntKind.wrap_i64]; omega
  obtain ⟨_, g0, g1, g2, g3, g4⟩ := hB
  go_enter Try.func87, Try.ntmps87
  go_wp2
  go_loop [7] (fun i => ∃ k : Nat, k ≤ n ∧ i = .int .i64 ((k : Int) - 1) ∧ wrt ps n s = wrt ps k s) (fun i => (intOf i + 1).toNat)
  case atStart => exact ⟨n, Nat.le_refl _, rfl, rfl⟩
  case round =>
    obtain ⟨k, hk, rfl, hall⟩ := hrel
    cases k with
    | zero =>
      have HA : Hid (wrt ps n s = -1) := hall
      clear hall
      go_wp2
      go_ret
      exact ⟨by rw [HA.out]; rfl, hb0⟩
    | succ k =>
      have HA : Hid (wrt ps n s = if (ps.getD k Ps.zero).To = s then (k : Int) else wrt ps k s) := hall
      clear hall
      obtain ⟨b, off, la, ll, lc, rfl, p0, p1, p2, p3, p4, p5, _⟩ := hp1.nth (k := k) (by omega)
      generalize (ps.getD k Ps.zero).To = t at p1 HA
      rw [show ((k + 1 : Nat) : Int) - 1 = (k : Int) by omega]
      have hwk : IntKind.i64.wrap ((k : Int) - 1) = (k : Int) - 1 := by rw [IntKind.wrap_i64]; omega
      have hk0 : (0 : Int) ≤ (k : Int) := by omega
      by_cases ht : t = s
      · have HB : Hid (wrt ps n s = k) := by show _ = _; rw [HA.out, if_pos ht]
        subst ht
        go_wp2
        go_ret
        exact ⟨by rw [HB.out]; rfl, hb0⟩
      · have HB : Hid (wrt ps n s = wrt ps k s) := by show _ = _; rw [HA.out, if_neg ht]
        go_wp2
        go_round
        case rel => exact ⟨k, by omega, rfl, HB.out⟩
        case measure => simp [intOf]
end Go.Proofs.Ytfpkiimlaepnhaa
/-
  HASREF: the reference's has, and the slots of a pass.
-/
namespace Go.Proofs.Ytfpkiimlaepnhaa
set_option maxRecDepth 100000
open Go.RowKit Im

theorem has_any (op : Int) (w : World) : Calls Try.prog 86 #[.int .i64 op] w fun e w' => e = .returned (.tuple #[.bool (hasA op), .bool (hasB op), .bool (hasK op), .bool (hasL op)]) ∧ w = w' := by
  have hA : withinB op 3 13 = hasA op := rfl
  have hw := fun wx => within_any op 3 13 wx
  have ht := fun wx => isTwo_any' op wx
  rw [hA] at hw
  by_cases hk : knownB op = true
  · rcases op_cases hk with rfl | rfl | rfl | rfl | rfl | rfl | rfl | rfl | rfl | rfl | rfl | rfl | rfl
    all_goals
      clear hk hA
      go_enter Try.func86, Try.ntmps86
      go_wp2_with (first
        | (go_at_call 61; refine (hw _).mono ?_; rintro e w' ⟨rfl, rfl⟩)
        | (go_at_call 26; refine (ht _).mono ?_; rintro e w' ⟨rfl, rfl⟩))
      exact bodyPost_ret (by simp [results, Try.results86, go_sem]; decide) rfl ⟨rfl, rfl⟩
  · have hn : op < 1 ∨ 13 < op := by simp [knownB, withinB] at hk; omega
    have e3 : hasK op = false := by simp [hasK]; omega
    have e4 : hasL op = false := by simp [hasL]; omega
    have n1 : ¬ op = 1 := by omega
    have n2 : ¬ op = 2 := by omega
    have n8 : ¬ op = 8 := by omega
    have n9 : ¬ op = 9 := by omega
    have n13 : ¬ op = 13 := by omega
    have m13 : (op == 13) = false := by simpa using n13
    rw [e3, e4]
    clear hn e3 e4 hk hA
    go_enter Try.func86, Try.ntmps86
    go_wp2_with (first
      | (go_at_call 61; refine (hw _).mono ?_; rintro e w' ⟨rfl, rfl⟩)
      | (go_at_call 26; refine (ht _).mono ?_; rintro e w' ⟨rfl, rfl⟩))
    exact bodyPost_ret (by simp [results, Try.results86, go_sem]; exact ⟨⟨⟨n1, n2⟩, n8⟩, n9⟩) rfl ⟨rfl, rfl⟩
theorem slot_any (W H S O : Int) (a : Option Addr) (len cap : Nat) (w : World) (b : Nat) (n : Int) (hB : FBox w b W H S O a len cap) (hS : 1 ≤ S ∧ S ≤ 8) : Calls Try.prog 113 #[.int .i64 n, .pointer (some ⟨b, 0, none⟩)] w fun e w' => e = .returned (.bool (slotB n S)) ∧ w = w' := by
  obtain ⟨_, g0, g1, g2, g3, g4⟩ := hB
  have hw : IntKind.i64.wrap (S - 1) = S - 1 := by rw [IntKind.wrap_i64]; omega
  go_enter Try.func113, Try.ntmps113
  go_wp2_with (go_at_call 61; refine (within_any _ _ _ _).mono ?_; rintro e w' ⟨rfl, rfl⟩)
  go_ret
  exact ⟨rfl, rfl⟩
end Go.Proofs.Ytfpkiimlaepnhaa
