/- Steps2, Spans, Lies, Peak: joined, in this order. -/
import Derived.Test.YtihliofhhjjeaaaGreatM06
import Derived.Test.YtihliofhhjjeaaaGreatM13
import Derived.Deep.RegionHeld3
import Derived.BigQuiet
set_option maxRecDepth 100000
namespace Go.Proofs.YtihliofhhjjeaaaGreat
open Go.RowKit Im Go.Maps
theorem Bl.at {w : World} {b n : Nat} {g : Nat → Bool} (h : Bl w b n g) {k : Nat} (hk : k < n) : w.cell? ⟨b, k, none⟩ = some (.bool (g k)) := h.cells k hk
set_option maxHeartbeats 1000000 in
theorem hasAll_any {B b n cap : Nat} {os : List Int} {g : Nat → Bool} {w : World} (hs : Steps w B os) (hK : Bl w b n g) (hn : n ≤ 12) :
    Calls Tryz.prog 92 #[.map (some B), .slice (some ⟨b, 0, none⟩) n cap] w fun e w' => e = .returned (.bool (hasAllB g os n)) ∧ w = w' := by
  go_enter Tryz.func92, Tryz.ntmps92
  go_wp2
  go_loop [11] (fun i => ∃ k : Nat, k ≤ n ∧ i = .int .i64 k ∧ allTo (hasP g os) k = true) (fun i => n - (intOf i).toNat)
  case atStart => exact ⟨0, Nat.zero_le _, rfl, rfl⟩
  case round =>
    obtain ⟨k, hk, rfl, hall⟩ := hrel
    by_cases hlt : k < n
    · have hcx := hK.cells k hlt
      have HA : Hid (hasP g os k = true → allTo (hasP g os) (k + 1) = true) := fun h => allTo_succ hall h
      have HF : Hid (hasP g os k = false → hasAllB g os n = false) := fun h => allTo_not hlt h
      have HP : Hid (hasP g os k = (!g k || stepB os k)) := rfl
      generalize g k = x at hcx HP
      generalize hy : stepB os k = y at HP
      clear hall
      cases x <;> cases y
      all_goals
        go_wp2_with (at_lookup; refine wpList_lookup_steps rfl _ rfl _ _ rfl hs rfl rfl (by omega) ?_)
        first
        | (go_round
           case rel => exact ⟨k + 1, by omega, by go_num, HA.out (by rw [HP.out]; rfl)⟩
           case measure => simp [intOf]; omega)
        | (go_ret
           exact ⟨by rw [HF.out (by rw [HP.out]; rfl)]; rfl, rfl⟩)
    · have hke : k = n := by omega
      subst hke
      go_wp2
      go_ret
      exact ⟨by unfold hasAllB; rw [hall]; rfl, rfl⟩
set_option maxHeartbeats 1000000 in
theorem isPlaced_any {B : Nat} {os pl : List Int} {a : Option Addr} {len cap N base : Nat} {w : World} (hs : Steps w B os) (hI : Ints base w a len pl) (hN : N ≤ 12) :
    Calls Tryz.prog 94 #[.map (some B), .slice a len cap, .int .i64 N] w fun e w' => e = .returned (.bool (plcB os pl N)) ∧ w = w' := by
  obtain rfl := hI.leng
  have hbig := hI.big
  by_cases hlN : pl.length = N
  · subst hlN
    go_enter Tryz.func94, Tryz.ntmps94
    go_wp2
    go_loop [17] (fun i => ∃ k : Nat, k ≤ pl.length ∧ i = .int .i64 k ∧ allTo (plcP os pl) k = true) (fun i => pl.length - (intOf i).toNat)
    case atStart => exact ⟨0, Nat.zero_le _, rfl, rfl⟩
    case round =>
      obtain ⟨k, hk, rfl, hall⟩ := hrel
      by_cases hlt : k < pl.length
      · obtain ⟨b, off, rfl, hcx⟩ := hI.nth hlt
        have HA : Hid (plcP os pl k = true → allTo (plcP os pl) (k + 1) = true) := fun h => allTo_succ hall h
        have HF : Hid (plcP os pl k = false → plcB os pl pl.length = false) := fun h => by unfold plcB; rw [allTo_not hlt h]; simp
        have HP : Hid (plcP os pl k = bif stepB os k then decide (0 ≤ pl.getD k 0) && decide (pl.getD k 0 ≤ 4096) else decide (pl.getD k 0 = -1)) := by show _ = _; unfold plcP stepB; by_cases h : 0 ≤ stepAt os k <;> simp [h]
        generalize pl.getD k 0 = n at hcx HP
        generalize hy : stepB os k = y at HP
        clear hall
        cases y with
        | true =>
          by_cases h1 : n < 0
          · go_wp2_with (at_lookup; refine wpList_lookup_steps rfl _ rfl _ _ rfl hs rfl rfl (by omega) ?_)
            go_ret
            exact ⟨by rw [HF.out (by rw [HP.out, decide_eq_false (show ¬ 0 ≤ n by omega)]; rfl)]; rfl, rfl⟩
          · by_cases h2 : 4096 < n
            · go_wp2_with (at_lookup; refine wpList_lookup_steps rfl _ rfl _ _ rfl hs rfl rfl (by omega) ?_)
              go_ret
              exact ⟨by rw [HF.out (by rw [HP.out, decide_eq_false (show ¬ n ≤ 4096 by omega)]; simp)]; rfl, rfl⟩
            · go_wp2_with (at_lookup; refine wpList_lookup_steps rfl _ rfl _ _ rfl hs rfl rfl (by omega) ?_)
              go_round
              case rel => exact ⟨k + 1, by omega, by go_num, HA.out (by rw [HP.out, decide_eq_true (show 0 ≤ n by omega), decide_eq_true (show n ≤ 4096 by omega)]; rfl)⟩
              case measure => simp [intOf]; omega
        | false =>
          by_cases h1 : n = -1
          · subst h1
            go_wp2_with (at_lookup; refine wpList_lookup_steps rfl _ rfl _ _ rfl hs rfl rfl (by omega) ?_)
            go_round
            case rel => exact ⟨k + 1, by omega, by go_num, HA.out (by rw [HP.out]; rfl)⟩
            case measure => simp [intOf]; omega
          · go_wp2_with (at_lookup; refine wpList_lookup_steps rfl _ rfl _ _ rfl hs rfl rfl (by omega) ?_)
            go_ret
            exact ⟨by rw [HF.out (by rw [HP.out, decide_eq_false h1]; rfl)]; rfl, rfl⟩
      · have hke : k = pl.length := by omega
        subst hke
        go_wp2
        go_ret
        exact ⟨by unfold plcB; rw [hall, decide_eq_true rfl]; rfl, rfl⟩
  · have hne : ¬ (pl.length : Int) = (N : Int) := by omega
    go_enter Tryz.func94, Tryz.ntmps94
    go_wp2
    go_ret
    exact ⟨by unfold plcB; rw [decide_eq_false hlN]; rfl, rfl⟩
set_option maxHeartbeats 1000000 in
theorem isBehind_any {B : Nat} {os : List Int} {ss : List (List Int)} {src : Nat → List Int} {a : Option Addr} {len cap : Nat} {w : World} (hs : Steps w B os) (hL : LLs w a len ss) (hn : len ≤ 12) (hsrc : ∀ k, k < len → ss.getD k [] = src k) (hs2 : ∀ k, k < len → (src k).length ≤ 2 ∧ ∀ s ∈ src k, 0 ≤ s ∧ s < len) :
    Calls Tryz.prog 93 #[.map (some B), .slice a len cap] w fun e w' => e = .returned (.bool (behB src os len)) ∧ w = w' := by
  have HS2 : Hid (_) := hs2
  have HSR : Hid (_) := hsrc
  clear hs2 hsrc
  go_enter Tryz.func93, Tryz.ntmps93
  go_wp2
  go_loop [15] (fun i => ∃ k : Nat, k ≤ len ∧ i = .int .i64 k ∧ allTo (behP src os) k = true) (fun i => len - (intOf i).toNat)
  case atStart => exact ⟨0, Nat.zero_le _, rfl, rfl⟩
  case round =>
    obtain ⟨k, hk, rfl, hall⟩ := hrel
    by_cases hlt : k < len
    · obtain ⟨sb, so, ua, uc, rfl, hsb, qq, hUI⟩ := hL.nth hlt
      rw [HSR.out k hlt] at qq hUI
      obtain ⟨hl2, hin⟩ := HS2.out k hlt
      have HA : Hid (behP src os k = true → allTo (behP src os) (k + 1) = true) := fun h => allTo_succ hall h
      have HF : Hid (behP src os k = false → behB src os len = false) := fun h => allTo_not hlt h
      have HP : Hid (behP src os k = (!stepB os k || allTo (behS os (stepAt os k) (src k)) (src k).length)) := by
        show _ = _
        unfold behP stepB
        congr 1
        by_cases h : 0 ≤ stepAt os k
        · rw [decide_eq_true h, decide_eq_false (by omega)]; rfl
        · rw [decide_eq_false h, decide_eq_true (by omega)]; rfl
      have HV : Hid (stepB os k = true → stepV os k = stepAt os k) := fun h => by unfold stepV; rw [if_pos (of_decide_eq_true h)]
      generalize src k = sr at qq hUI hl2 hin HP
      generalize hy : stepB os k = y at HP HV
      clear hall
      cases y with
      | false =>
        go_wp2_with (at_lookup; refine wpList_lookup_steps rfl _ rfl _ _ rfl hs rfl rfl (by omega) ?_)
        go_round
        case rel => exact ⟨k + 1, by omega, by go_num, HA.out (by rw [HP.out]; rfl)⟩
        case measure => simp [intOf]; omega
      | true =>
        have hv := HV.out rfl
        generalize stepAt os k = st at hv HP
        go_wp2_with (at_lookup; refine wpList_lookup_steps rfl _ rfl _ _ rfl hs rfl rfl (by omega) ?_)
        go_loop [30] (fun i => ∃ t : Nat, t ≤ sr.length ∧ i = .int .i64 t ∧ allTo (behS os st sr) t = true) (fun i => sr.length - (intOf i).toNat)
        case atStart => exact ⟨0, Nat.zero_le _, rfl, rfl⟩
        case round =>
          obtain ⟨t, ht, rfl, hallt⟩ := hrel
          by_cases htl : t < sr.length
          · obtain ⟨bu, ou, rfl, hcx⟩ := hUI.nth htl
            have hr := hin _ (getD_mem htl 0)
            have HA2 : Hid (behS os st sr t = true → allTo (behS os st sr) (t + 1) = true) := fun h => allTo_succ hallt h
            have HF2 : Hid (behS os st sr t = false → allTo (behS os st sr) sr.length = false) := fun h => allTo_not htl h
            have HP2 : Hid (behS os st sr t = (stepB os (sr.getD t 0) && decide (stepAt os (sr.getD t 0) ≤ st))) := rfl
            have HV2 : Hid (stepB os (sr.getD t 0) = true → stepV os (sr.getD t 0) = stepAt os (sr.getD t 0)) := fun h => by unfold stepV; rw [if_pos (of_decide_eq_true h)]
            generalize sr.getD t 0 = n at hcx hr HP2 HV2
            generalize hy2 : stepB os n = y2 at HP2 HV2
            clear hallt
            cases y2 with
            | false =>
              go_wp2_with (at_lookup; refine wpList_lookup_steps rfl _ rfl _ _ rfl hs rfl rfl (by omega) ?_)
              go_ret
              exact ⟨by rw [HF.out (by rw [HP.out, HF2.out (by rw [HP2.out]; rfl)]; rfl)]; rfl, rfl⟩
            | true =>
              have hv2 := HV2.out rfl
              generalize stepAt os n = st2 at hv2 HP2
              by_cases hc : st < st2
              · go_wp2_with (at_lookup; refine wpList_lookup_steps rfl _ rfl _ _ rfl hs rfl rfl (by omega) ?_)
                go_ret
                exact ⟨by rw [HF.out (by rw [HP.out, HF2.out (by rw [HP2.out, decide_eq_false (show ¬ st2 ≤ st by omega)]; rfl)]; rfl)]; rfl, rfl⟩
              · go_wp2_with (at_lookup; refine wpList_lookup_steps rfl _ rfl _ _ rfl hs rfl rfl (by omega) ?_)
                go_round
                case rel => exact ⟨t + 1, by omega, by go_num, HA2.out (by rw [HP2.out, decide_eq_true (show st2 ≤ st by omega)]; rfl)⟩
                case measure => simp [intOf]; omega
          · have hte : t = sr.length := by omega
            subst hte
            go_wp2
            go_round
            case rel => exact ⟨k + 1, by omega, by go_num, HA.out (by rw [HP.out, hallt]; rfl)⟩
            case measure => simp [intOf]; omega
    · have hke : k = len := by omega
      subst hke
      go_wp2
      go_ret
      exact ⟨by unfold behB; rw [hall]; rfl, rfl⟩
end Go.Proofs.YtihliofhhjjeaaaGreat
namespace Go.Proofs.YtihliofhhjjeaaaGreat
open Go.RowKit Im Go.Maps
structure Sp (w : World) (b n : Nat) (g : Nat → Int × Int) : Prop where
  lt : b < w.heap.size
  c0 : ∀ j, j < n → w.cell? ⟨b, j * 2, none⟩ = some (.int .i64 (g j).1)
  c1 : ∀ j, j < n → w.cell? ⟨b, j * 2 + 1, none⟩ = some (.int .i64 (g j).2)
  froz : ∀ o, w.frozen? ⟨b, o, none⟩ = false
theorem Sp.below {w w' : World} {b n B : Nat} {g : Nat → Int × Int} (h : Sp w b n g) (hb : Below B w w') (hB : b < B) (hs : w.heap.size ≤ w'.heap.size) : Sp w' b n g :=
  ⟨Nat.lt_of_lt_of_le h.lt hs, fun j hj => (hb.cell (p := ⟨b, j * 2, none⟩) hB).trans (h.c0 j hj), fun j hj => (hb.cell (p := ⟨b, j * 2 + 1, none⟩) hB).trans (h.c1 j hj), fun o => (hb.frozen (p := ⟨b, o, none⟩) hB).trans (h.froz o)⟩
theorem Sp.congr {w : World} {b n : Nat} {g g' : Nat → Int × Int} (h : Sp w b n g) (hg : ∀ j, j < n → g' j = g j) : Sp w b n g' :=
  ⟨h.lt, fun j hj => by rw [hg j hj]; exact h.c0 j hj, fun j hj => by rw [hg j hj]; exact h.c1 j hj, h.froz⟩
theorem Sp.putLast {w : World} {b n : Nat} {g g' : Nat → Int × Int} (h : Sp w b n g) (m : Nat) (x : Int) (hm : m < n) (hg : ∀ j, j < n → g' j = if m = j then ((g j).1, x) else g j) : Sp (w.setCell ⟨b, m * 2 + 1, none⟩ (.int .i64 x)) b n g' := by
  refine ⟨by simpa using h.lt, fun j hj => ?_, fun j hj => ?_, fun o => by simpa using h.froz o⟩
  · rw [hg j hj, set_other _ (fun e => by injection e with e1 e2; omega), h.c0 j hj]
    split <;> rfl
  · rw [hg j hj]
    by_cases e : m = j
    · subst e
      rw [if_pos rfl]
      exact set_same (h.c1 m hm)
    · rw [if_neg e, set_other _ (fun e => by injection e with e1 e2; omega)]
      exact h.c1 j hj
theorem Sp.put {w : World} {b n : Nat} {g g' : Nat → Int × Int} (h : Sp w b n g) (m : Nat) (x y : Int) (hm : m < n) (hg : ∀ j, j < n → g' j = if m = j then (x, y) else g j) : Sp ((w.setCell ⟨b, m * 2, none⟩ (.int .i64 x)).setCell ⟨b, m * 2 + 1, none⟩ (.int .i64 y)) b n g' := by
  refine ⟨by simpa using h.lt, fun j hj => ?_, fun j hj => ?_, fun o => by simpa using h.froz o⟩
  · rw [hg j hj, set_other _ (fun e => by injection e with e1 e2; omega)]
    by_cases e : m = j
    · subst e
      rw [if_pos rfl]
      exact set_same (h.c0 m hm)
    · rw [if_neg e, set_other _ (fun e => by injection e with e1 e2; omega)]
      exact h.c0 j hj
  · rw [hg j hj]
    by_cases e : m = j
    · subst e
      rw [if_pos rfl]
      exact set_same ((set_other _ (fun e => by injection e with e1 e2; omega)).trans (h.c1 m hm))
    · rw [if_neg e, set_other _ (fun e => by injection e with e1 e2; omega), set_other _ (fun e => by injection e with e1 e2; omega)]
      exact h.c1 j hj
theorem Sp.made {w : World} {base b N cap : Nat} (h : w.ownsRow base 58 2 (.slice (some ⟨b, 0, none⟩) N cap) N (madeCells (Value.agg #[.int .i64 0, .int .i64 0]).cells (N * 2)).toList) (hb : b < w.heap.size) : Sp w b N (fun _ => (0, 0)) := by
  have hc : ∀ j, j < N * 2 → w.cell? ⟨b, j, none⟩ = some ((#[Value.int .i64 0, Value.int .i64 0] : Array Value)[j % 2]!) := by
    intro j hj
    rw [World.ownsRow.cellAt h j hj]
    have e : (Value.agg #[.int .i64 0, .int .i64 0]).cells = #[.int .i64 0, .int .i64 0] := rfl
    rw [e]
    simp only [madeCells, Array.toList_map, Array.toList_range, List.getElem?_map, List.getElem?_range hj, Option.map_some]
    rfl
  refine ⟨hb, fun m hm => ?_, fun m hm => ?_, fun o => World.ownsRow.frozenAt h o⟩
  · rw [hc _ (by omega), show (m * 2) % 2 = 0 by omega]; rfl
  · rw [hc _ (by omega), show (m * 2 + 1) % 2 = 1 by omega]; rfl
theorem Tryz.infoSpan : (Tryz.prog.info? 58).map (fun i => (i.zero, i.size, i.bytes)) = some (some (.agg #[.int .i64 0, .int .i64 0]), 2, 16) := by kernel_rfl
def ToldSp (w : World) (n : Nat) (g : Nat → Int × Int) (e : Ending) (w' : World) : Prop :=
  (∃ b, e = .returned (.slice (some ⟨b, 0, none⟩) n n) ∧ w.heap.size ≤ b ∧ Sp w' b n g) ∧ Below w.heap.size w w'
def spanQ (src : Nat → List Int) (os : List Int) (la : Int) (k : Nat) : Int × Int := (stepAt os k, if (k : Int) = la then (os.length : Int) - 1 else ltk src os k (stepAt os k) os.length)
theorem mem_take_succ {l : List Int} {t : Nat} (h : t < l.length) (x : Int) : x ∈ l.take (t + 1) ↔ x ∈ l.take t ∨ l.getD t 0 = x := by
  rw [List.take_succ_eq_append_getElem h, List.mem_append, List.mem_singleton, List.getD_eq_getElem?_getD, List.getElem?_eq_getElem h]
  exact or_congr_right ⟨fun e => e.symm, fun e => e.symm⟩
set_option maxHeartbeats 4000000 in
theorem spansOf_any {N la : Nat} {src : Nat → List Int} (hN : N ≤ 12) (hla : la < N) (hs2 : ∀ k, k < N → (src k).length ≤ 2 ∧ ∀ s ∈ src k, 0 ≤ s ∧ s < N) {os : List Int} (hos : ∀ o ∈ os, 0 ≤ o ∧ o < N) (hol : os.length ≤ 12)
    {a : Option Addr} {len : Nat} (cap : Nat) {base : Nat} {B : Nat} {ss : List (List Int)} {sa : Option Addr} (scap : Nat) {w : World} (hI : Ints base w a len os) (hS : Steps w B os) (hL : LLs w sa N ss) (hsrc : ∀ k, k < N → ss.getD k [] = src k) :
    Calls Tryz.prog 95 #[.slice a len cap, .map (some B), .slice sa N scap, .int .i64 la] w (ToldSp w N (spanQ src os la)) := by
  obtain rfl := hI.leng
  obtain ⟨i0, hi, hz0, hz1, hz2⟩ := info_parts Tryz.infoSpan
  have HS2 : Hid (_) := hs2
  have HSR : Hid (_) := hsrc
  have HOS : Hid (_) := hos
  have HLT : Hid (∀ k d n, ltk src os k d (n + 1) = if k ∈ src (os.getD n 0).toNat then (n : Int) else ltk src os k d n) := fun _ _ _ => rfl
  have hlaI : (la : Int) < (N : Int) := by omega
  have hwl : IntKind.i64.wrap ((os.length : Int) - 1) = (os.length : Int) - 1 := by rw [IntKind.wrap_i64]; omega
  clear hs2 hsrc hos
  go_enter Tryz.func95, Tryz.ntmps95
  go_upto_region 2 with (at_make; refine wpList_make_full _ rfl _ _ 59 rfl w.heap.size 58 i0 (.agg #[.int .i64 0, .int .i64 0]) 2 Tryz.underlying59 hi hz0 hz1 .i64 .i64 _ _ N rfl rfl (by simp) (by simp) (by rw [hz2]; omega) (by unfold maxLen; omega) (Nat.le_refl _) ?_; intro wM hown hgrow)
  have hbM : Below w.heap.size w wM := (Below.refl _ _).grown hgrow (Nat.le_refl _) (fun k hk => by cases hk)
  have hlM := (World.ownsRow.lt (w := wM) hown w.heap.size rfl).2
  have hKM := Sp.made hown hlM
  clear hown hgrow
  go_wp2
  go_loopw [22] (fun i wr => ∃ k : Nat, k ≤ N ∧ i = .int .i64 k ∧ Sp wr w.heap.size N (fun j => if j < k then (stepAt os j, stepAt os j) else (0, 0)) ∧ Below w.heap.size w wr) (fun i _ => N - (intOf i).toNat)
  case atStart => exact ⟨0, Nat.zero_le _, rfl, hKM.congr (fun j _ => by simp), hbM⟩
  case round =>
    obtain ⟨k, hk, rfl, hSp, hb⟩ := hrel
    clear hKM hbM hlM
    by_cases hlt : k < N
    · have hSr := hS.below hb
      have d0 := hSp.c0 k hlt
      have d1 := hSp.c1 k hlt
      have f0 := hSp.froz (k * 2)
      have f1 := hSp.froz (k * 2 + 1)
      have hkI : (k : Int) < (N : Int) := by omega
      have hk0 : (0 : Int) ≤ (k : Int) := by omega
      obtain ⟨st, hst⟩ : ∃ st, st = stepAt os k := ⟨_, rfl⟩
      have HV : Hid (stepB os k = true → stepV os k = st) := fun h => by unfold stepV; rw [if_pos (of_decide_eq_true h), hst]
      have HW : Hid (stepB os k = false → st = -1) := fun h => by have h1 := of_decide_eq_false h; have := stepAt_bd os k; omega
      have HSp : Hid (Sp ((wr.setCell ⟨w.heap.size, k * 2, none⟩ (.int .i64 st)).setCell ⟨w.heap.size, k * 2 + 1, none⟩ (.int .i64 st)) w.heap.size N (fun j => if j < k + 1 then (stepAt os j, stepAt os j) else (0, 0))) := hSp.put k st st hlt (fun j hj => by
        by_cases e : k = j
        · subst e; rw [if_pos (by omega), if_pos rfl, hst]
        · rw [if_neg e]
          by_cases h : j < k
          · rw [if_pos h, if_pos (by omega)]
          · rw [if_neg h, if_neg (by omega)])
      have hb9 := (hb.setCell (p := ⟨w.heap.size, k * 2, none⟩) (Nat.le_refl _) (.int .i64 st)).setCell (p := ⟨w.heap.size, k * 2 + 1, none⟩) (Nat.le_refl _) (.int .i64 st)
      generalize hy : stepB os k = y at HV HW
      clear hst hSp
      cases y with
      | true =>
        have hv := HV.out rfl
        go_wp2_with (at_lookup; refine wpList_lookup_steps rfl _ rfl _ _ rfl hSr rfl rfl (by omega) ?_)
        go_roundw
        case rel => exact ⟨k + 1, by omega, by go_num, HSp.out, hb9⟩
        case measure => simp [intOf]; omega
      | false =>
        obtain rfl := HW.out rfl
        go_wp2_with (at_lookup; refine wpList_lookup_steps rfl _ rfl _ _ rfl hSr rfl rfl (by omega) ?_)
        go_roundw
        case rel => exact ⟨k + 1, by omega, by go_num, HSp.out, hb9⟩
        case measure => simp [intOf]; omega
    · have hke : k = N := by omega
      subst hke
      replace hSp : Sp wr w.heap.size k (fun j => (stepAt os j, ltk src os j (stepAt os j) 0)) := hSp.congr (fun j hj => by rw [if_pos hj]; rfl)
      go_wp2
      go_loopw [42] (fun i ws => ∃ n : Nat, n ≤ os.length ∧ i = .int .i64 n ∧ Sp ws w.heap.size k (fun j => (stepAt os j, ltk src os j (stepAt os j) n)) ∧ Below w.heap.size w ws) (fun i _ => os.length - (intOf i).toNat)
      case atStart => exact ⟨0, Nat.zero_le _, rfl, hSp, hb⟩
      case round =>
        obtain ⟨n, hn, rfl, hSn, hbn⟩ := hrel
        clear hSp hb
        by_cases hnl : n < os.length
        · obtain ⟨ob, oo, rfl, hox⟩ := (hI.below (Nat.le_refl _) hbn).nth hnl
          have hor := HOS.out _ (getD_mem hnl 0)
          have HL1 : Hid (∀ k d, ltk src os k d (n + 1) = if k ∈ src (os.getD n 0).toNat then (n : Int) else ltk src os k d n) := fun k d => HLT.out k d n
          generalize os.getD n 0 = p at hox hor HL1
          obtain ⟨q, rfl⟩ := Int.eq_ofNat_of_zero_le hor.1
          have hql : q < k := by omega
          have hqI : (q : Int) < (k : Int) := by omega
          rw [Int.toNat_natCast] at HL1
          obtain ⟨sb, so, ua, uc, rfl, hsb, qq, hUI⟩ := hL.nth hql
          rw [HSR.out q hql] at qq hUI
          obtain ⟨hl2, hin⟩ := HS2.out q hql
          generalize src q = sr at qq hUI hl2 hin HL1
          have q0 := (hbn.cell (p := ⟨sb, so + q, none⟩) hsb).trans qq
          have HIN : Hid (_) := hin
          clear hin
          go_wp2
          go_loopw [52] (fun i wt => ∃ t : Nat, t ≤ sr.length ∧ i = .int .i64 t ∧ Sp wt w.heap.size k (fun j => (stepAt os j, if (j : Int) ∈ sr.take t then (n : Int) else ltk src os j (stepAt os j) n)) ∧ Below w.heap.size w wt) (fun i _ => sr.length - (intOf i).toNat)
          case atStart => exact ⟨0, Nat.zero_le _, rfl, hSn.congr (fun j _ => by simp), hbn⟩
          case round =>
            obtain ⟨t, ht, rfl, hSt, hbt⟩ := hrel
            clear hSn q0
            by_cases htl : t < sr.length
            · obtain ⟨bu, ou, rfl, hcx⟩ := (hUI.below (Nat.le_refl _) hbt).nth htl
              have hr := HIN.out _ (getD_mem htl 0)
              have HM : Hid (∀ x, x ∈ sr.take (t + 1) ↔ x ∈ sr.take t ∨ sr.getD t 0 = x) := fun x => mem_take_succ htl x
              generalize sr.getD t 0 = m at hcx hr HM
              obtain ⟨z, rfl⟩ := Int.eq_ofNat_of_zero_le hr.1
              have hzl : z < k := by omega
              have hzI : (z : Int) < (k : Int) := by omega
              have d1 := hSt.c1 z hzl
              have f1 := hSt.froz (z * 2 + 1)
              have HS9 : Hid (Sp (wr.setCell ⟨w.heap.size, z * 2 + 1, none⟩ (.int .i64 n)) w.heap.size k (fun j => (stepAt os j, if (j : Int) ∈ sr.take (t + 1) then (n : Int) else ltk src os j (stepAt os j) n))) := hSt.putLast z n hzl (fun j hj => by
                by_cases e : z = j
                · subst e; rw [if_pos rfl, if_pos ((HM.out _).2 (.inr rfl))]
                · rw [if_neg e]
                  have hne : ¬ (z : Int) = (j : Int) := by omega
                  by_cases h : (j : Int) ∈ sr.take t
                  · rw [if_pos h, if_pos ((HM.out _).2 (.inl h))]
                  · rw [if_neg h, if_neg (fun h' => ((HM.out _).1 h').elim h hne)])
              have hb9 := hbt.setCell (p := ⟨w.heap.size, z * 2 + 1, none⟩) (Nat.le_refl _) (.int .i64 n)
              clear hSt
              go_wp2
              go_roundw
              case rel => exact ⟨t + 1, by omega, by go_num, HS9.out, hb9⟩
              case measure => simp [intOf]; omega
            · have hte : t = sr.length := by omega
              subst hte
              rw [List.take_length] at hSt
              go_wp2
              go_roundw
              case rel => exact ⟨n + 1, by omega, by go_num, hSt.congr (fun j _ => by rw [HL1.out]), hbt⟩
              case measure => simp [intOf]; omega
        · have hne : n = os.length := by omega
          subst hne
          have d1 := hSn.c1 la hla
          have f1 := hSn.froz (la * 2 + 1)
          have HS9 : Hid (Sp (wr.setCell ⟨w.heap.size, la * 2 + 1, none⟩ (.int .i64 ((os.length : Int) - 1))) w.heap.size k (spanQ src os la)) := hSn.putLast la _ hla (fun j hj => by
            unfold spanQ
            by_cases e : la = j
            · subst e; rw [if_pos rfl, if_pos rfl]
            · have hne : ¬ (j : Int) = (la : Int) := by omega
              rw [if_neg e, if_neg hne])
          have hb9 := hbn.setCell (p := ⟨w.heap.size, la * 2 + 1, none⟩) (Nat.le_refl _) (.int .i64 ((os.length : Int) - 1))
          clear hSn
          go_wp2
          go_ret
          exact ⟨⟨_, rfl, Nat.le_refl _, HS9.out⟩, hb9⟩
end Go.Proofs.YtihliofhhjjeaaaGreat
namespace Go.Proofs.YtihliofhhjjeaaaGreat
open Go.RowKit Im Go.Maps
def areaZ (z : Sz) : Int := z.1 * z.2
def lieQ (os pl : List Int) (zs : List Sz) (k : Nat) : Int × Int := if 0 ≤ stepAt os k then (pl.getD k 0, pl.getD k 0 + areaZ (zs.getD k Sz.zero) - 1) else (0, 0)
theorem stepAt_take {os : List Int} {n : Nat} (h : n < os.length) (k : Int) : 0 ≤ stepAt (os.take (n + 1)) k ↔ 0 ≤ stepAt (os.take n) k ∨ os.getD n 0 = k := by
  rw [stepAt_mem, stepAt_mem]; exact mem_take_succ h k
theorem Sp.drew {w : World} {b n : Nat} {g : Nat → Int × Int} (h : Sp w b n g) : Sp w.drew b n g := h.below (Below.refl w.heap.size w).drew h.lt (Nat.le_refl _)
theorem Sp.alloc {w : World} {b n : Nat} {g : Nat → Int × Int} (h : Sp w b n g) (o : Obj) : Sp (w.alloc o) b n g := h.below ((Below.refl w.heap.size w).alloc (Nat.le_refl _) o) h.lt (by simp)
theorem keepZ {w : World} {b off pb i : Nat} {x0 x1 y0 : Value} (hb : b < w.heap.size) (hp : pb < w.heap.size) (e0 : w.cell? ⟨b, off, none⟩ = some x0) (e1 : w.cell? ⟨b, off + 1, none⟩ = some x1) (p0 : w.cell? ⟨pb, i, none⟩ = some y0) (o : Obj) : (w.alloc o).cell? ⟨pb, i, none⟩ = some y0 ∧ (w.alloc o).cell? ⟨b, off, none⟩ = some x0 ∧ (w.alloc o).cell? ⟨b, off + 1, none⟩ = some x1 := by
  have h := (Below.refl w.heap.size w).alloc (Nat.le_refl _) o
  exact ⟨(h.cell (p := ⟨pb, i, none⟩) hp).trans p0, (h.cell (p := ⟨b, off, none⟩) hb).trans e0, (h.cell (p := ⟨b, off + 1, none⟩) hb).trans e1⟩
theorem Ints.nth' {base : Nat} {w : World} {a : Option Addr} {len : Nat} {ps : List Int} (h : Ints base w a len ps) {k : Nat} (hk : k < len) : ∃ b off, a = some ⟨b, off, none⟩ ∧ b < w.heap.size ∧ w.cell? ⟨b, off + k, none⟩ = some (.int .i64 (ps.getD k 0)) := by
  rcases h.cells with e | ⟨b, off, ha, _, hl, hc⟩
  · have := h.leng; subst e; simp at this; omega
  · exact ⟨b, off, ha, hl, hc k hk⟩
theorem area_bd {z : Sz} (h : ZB z) : 1 ≤ areaZ z ∧ areaZ z ≤ 256 := side_mul ((side_iff _).2 h.1) ((side_iff _).2 h.2)
set_option maxHeartbeats 4000000 in
theorem liesOf_any {N : Nat} (hN : N ≤ 12) {os pl : List Int} {zs : List Sz} (hos : ∀ o ∈ os, 0 ≤ o ∧ o < N) (hol : os.length ≤ 12) (hpl : ∀ k : Nat, (k : Int) ∈ os → 0 ≤ pl.getD k 0 ∧ pl.getD k 0 ≤ 4096) (hz : ∀ z ∈ zs, ZB z)
    {a : Option Addr} {len : Nat} (cap : Nat) {base : Nat} {pa : Option Addr} (pcap : Nat) {base' : Nat} {za : Option Addr} (zcap : Nat) {w : World} (hI : Ints base w a len os) (hP : Ints base' w pa N pl) (hZ : Zs w za N zs) :
    Calls Tryz.prog 96 #[.slice a len cap, .slice pa N pcap, .slice za N zcap] w (ToldSp w N (lieQ os pl zs)) := by
  obtain rfl := hI.leng
  obtain ⟨i0, hi, hz0, hz1, hz2⟩ := info_parts Tryz.infoSpan
  have HOS : Hid (_) := hos
  have HPL : Hid (_) := hpl
  have HZB : Hid (_) := hz
  clear hos hpl hz
  go_enter Tryz.func96, Tryz.ntmps96
  go_upto_region 2 with (at_make; refine wpList_make_full _ rfl _ _ 59 rfl w.heap.size 58 i0 (.agg #[.int .i64 0, .int .i64 0]) 2 Tryz.underlying59 hi hz0 hz1 .i64 .i64 _ _ N rfl rfl (by simp) (by simp) (by rw [hz2]; omega) (by unfold maxLen; omega) (Nat.le_refl _) ?_; intro wM hown hgrow)
  have hbM : Below w.heap.size w wM := (Below.refl _ _).grown hgrow (Nat.le_refl _) (fun k hk => by cases hk)
  have hlM := (World.ownsRow.lt (w := wM) hown w.heap.size rfl).2
  have hKM := Sp.made hown hlM
  clear hown hgrow
  go_wp2
  go_loopw [17] (fun i wr => ∃ n : Nat, n ≤ os.length ∧ i = .int .i64 n ∧ Sp wr w.heap.size N (fun j => if 0 ≤ stepAt (os.take n) j then (pl.getD j 0, pl.getD j 0 + areaZ (zs.getD j Sz.zero) - 1) else (0, 0)) ∧ Below w.heap.size w wr) (fun i _ => os.length - (intOf i).toNat)
  case atStart => exact ⟨0, Nat.zero_le _, rfl, hKM.congr (fun j _ => by simp [stepAt]), hbM⟩
  case round =>
    obtain ⟨n, hn, rfl, hSp, hb⟩ := hrel
    clear hKM hbM hlM
    by_cases hlt : n < os.length
    · obtain ⟨ob, oo, rfl, hox⟩ := (hI.below (Nat.le_refl _) hb).nth hlt
      have hor := HOS.out _ (getD_mem hlt 0)
      have hom := getD_mem (l := os) hlt 0
      have HST : Hid (∀ k, 0 ≤ stepAt (os.take (n + 1)) k ↔ 0 ≤ stepAt (os.take n) k ∨ os.getD n 0 = k) := fun k => stepAt_take hlt k
      generalize os.getD n 0 = p at hox hor hom HST
      obtain ⟨q, rfl⟩ := Int.eq_ofNat_of_zero_le hor.1
      have hql : q < N := by omega
      have hqI : (q : Int) < (N : Int) := by omega
      have hpb := HPL.out q hom
      obtain ⟨pb, po, rfl, hpl, hpx⟩ := (hP.below (Nat.le_refl _) hb).nth' hql
      obtain ⟨zb, zo, rfl, hzl, z0, z1⟩ := (hZ.below hb).nth hql
      have hzb := HZB.out _ (getD_mem (l := zs) (k := q) (by rw [hZ.leng]; exact hql) Sz.zero)
      have hab := area_bd hzb
      obtain ⟨x0, d0⟩ : ∃ v, wr.cell? ⟨w.heap.size, q * 2, none⟩ = some v := ⟨_, hSp.c0 q hql⟩
      obtain ⟨x1, d1⟩ : ∃ v, wr.cell? ⟨w.heap.size, q * 2 + 1, none⟩ = some v := ⟨_, hSp.c1 q hql⟩
      have f0 := hSp.froz (q * 2)
      have f1 := hSp.froz (q * 2 + 1)
      have HS9 : Hid (Sp ((wr.setCell ⟨w.heap.size, q * 2, none⟩ (.int .i64 (pl.getD q 0))).setCell ⟨w.heap.size, q * 2 + 1, none⟩ (.int .i64 (pl.getD q 0 + areaZ (zs.getD q Sz.zero) - 1))) w.heap.size N (fun j => if 0 ≤ stepAt (os.take (n + 1)) j then (pl.getD j 0, pl.getD j 0 + areaZ (zs.getD j Sz.zero) - 1) else (0, 0))) := hSp.put q _ _ hql (fun j hj => by
        by_cases e : q = j
        · subst e; rw [if_pos rfl, if_pos ((HST.out _).2 (.inr rfl))]
        · rw [if_neg e]
          have hne : ¬ (q : Int) = (j : Int) := by omega
          by_cases h : 0 ≤ stepAt (os.take n) j
          · rw [if_pos h, if_pos ((HST.out _).2 (.inl h))]
          · rw [if_neg h, if_neg (fun h' => ((HST.out _).1 h').elim h hne)])
      have hb9 := (hb.setCell (p := ⟨w.heap.size, q * 2, none⟩) (Nat.le_refl _) (.int .i64 (pl.getD q 0))).setCell (p := ⟨w.heap.size, q * 2 + 1, none⟩) (Nat.le_refl _) (.int .i64 (pl.getD q 0 + areaZ (zs.getD q Sz.zero) - 1))
      have hsl := hSp.lt
      clear hSp
      generalize pl.getD q 0 = P at hpx hpb HS9 hb9
      unfold areaZ at hab HS9 hb9
      generalize zs.getD q Sz.zero = z at z0 z1 hzb hab HS9 hb9
      obtain ⟨zw, zh⟩ := z
      obtain ⟨⟨hw1, hw2⟩, hh1, hh2⟩ := hzb
      dsimp only at z0 z1 hab HS9 hb9 hw1 hw2 hh1 hh2
      have hk9 := keepZ hzl hpl z0 z1 hpx
      have hw1 : IntKind.i64.wrap (zw * zh) = zw * zh := by rw [IntKind.wrap_i64]; omega
      have hw2 : IntKind.i64.wrap (P + zw * zh) = P + zw * zh := by rw [IntKind.wrap_i64]; omega
      have hw3 : IntKind.i64.wrap (P + zw * zh - 1) = P + zw * zh - 1 := by rw [IntKind.wrap_i64]; omega
      go_wp2
      go_region_held3 (fun w' => w'.cell? ⟨pb, po + q, none⟩ = some (.int .i64 P) ∧ w'.cell? ⟨zb, zo + q * 2, none⟩ = some (.int .i64 zw) ∧ w'.cell? ⟨zb, zo + q * 2 + 1, none⟩ = some (.int .i64 zh))
        (first | exact ⟨hpx, z0, z1⟩ | exact hk9 _)
        (fail)
      go_wp2
      go_roundw
      case rel => exact ⟨n + 1, by omega, by go_num, (HS9.out.alloc _).drew, (below_box hb9 _).drew⟩
      case measure => simp [intOf]; omega
    · have hne : n = os.length := by omega
      subst hne
      rw [List.take_length] at hSp
      go_wp2
      go_ret
      exact ⟨⟨_, rfl, Nat.le_refl _, hSp⟩, hb⟩
end Go.Proofs.YtihliofhhjjeaaaGreat
namespace Go.Proofs.YtihliofhhjjeaaaGreat
open Go.RowKit Im Go.Maps
structure Box3 (w : World) (b : Nat) (v0 v1 v2 : Value) : Prop where
  lt : b < w.heap.size
  c0 : w.cell? ⟨b, 0, none⟩ = some v0
  c1 : w.cell? ⟨b, 1, none⟩ = some v1
  c2 : w.cell? ⟨b, 2, none⟩ = some v2
theorem Box3.below {w w' : World} {b : Nat} {v0 v1 v2 : Value} (h : Box3 w b v0 v1 v2) (hb : Below w.heap.size w w') : Box3 w' b v0 v1 v2 :=
  ⟨Nat.lt_of_lt_of_le h.lt hb.size, (hb.cell (p := ⟨b, 0, none⟩) h.lt).trans h.c0, (hb.cell (p := ⟨b, 1, none⟩) h.lt).trans h.c1, (hb.cell (p := ⟨b, 2, none⟩) h.lt).trans h.c2⟩
theorem Box3.new (w : World) (v0 v1 v2 : Value) (t : TypeId) : Box3 (w.alloc (.cells #[v0, v1, v2] t)) w.heap.size v0 v1 v2 :=
  ⟨by simp, by simp [go_sem], by simp [go_sem], by simp [go_sem]⟩
theorem peakT_bd {os : List Int} {lie : Nat → Int × Int} {N : Nat} (hos : ∀ o ∈ os, 0 ≤ o ∧ o < N) (hl : ∀ k, k < N → (lie k).2 ≤ 4352) : ∀ {n : Nat}, n ≤ os.length → 0 ≤ peakT os lie n ∧ peakT os lie n ≤ 4353
  | 0, _ => by simp [peakT]
  | n + 1, hn => by
    have ih := peakT_bd hos hl (n := n) (by omega)
    have ho := hos _ (getD_in (show n < os.length by omega))
    have := hl (os.getD n 0).toNat (by omega)
    unfold peakT
    omega
theorem max_if (a b : Int) : max a b = if a < b then b else a := by split <;> omega
set_option maxHeartbeats 1000000 in
theorem peak_any {N : Nat} {os : List Int} {lie : Nat → Int × Int} (hos : ∀ o ∈ os, 0 ≤ o ∧ o < N) (hol : os.length ≤ 12) (hlie : ∀ k, k < N → 0 ≤ (lie k).2 ∧ (lie k).2 ≤ 4352) {a : Option Addr} {len : Nat} (cap : Nat) {base : Nat} (v1 : Value) {lb : Nat} {w : World} (hI : Ints base w a len os) (hS : Sp w lb N lie) :
    Calls Tryz.prog 88 #[.agg #[.slice a len cap, v1, .slice (some ⟨lb, 0, none⟩) N N]] w fun e w' => e = .returned (.int .i64 (peakT os lie os.length)) ∧ Below w.heap.size w w' := by
  obtain rfl := hI.leng
  have hB := Box3.new w (.slice a os.length cap) v1 (.slice (some ⟨lb, 0, none⟩) N N) 115
  have hb0 := below_box (Below.refl w.heap.size w) (.cells #[.slice a os.length cap, v1, .slice (some ⟨lb, 0, none⟩) N N] 115)
  have hI0 := hI.below (Nat.le_refl _) hb0
  have hS0 := hS.below hb0 hS.lt hb0.size
  have HPB : Hid (∀ n, n ≤ os.length → 0 ≤ peakT os lie n ∧ peakT os lie n ≤ 4353) := fun n hn => peakT_bd hos (fun k hk => (hlie k hk).2) hn
  have HOS : Hid (_) := hos
  have HLI : Hid (_) := hlie
  have HPS : Hid (∀ n, peakT os lie (n + 1) = if peakT os lie n < (lie (os.getD n 0).toNat).2 + 1 then (lie (os.getD n 0).toNat).2 + 1 else peakT os lie n) := fun n => max_if _ _
  clear hos hlie hS hI
  go_enter Tryz.func88, Tryz.ntmps88
  go_wp2
  generalize w.alloc (.cells #[.slice a os.length cap, v1, .slice (some ⟨lb, 0, none⟩) N N] 115) = W0 at *
  obtain ⟨_, g0, g1, g2⟩ := id hB
  go_loop [3, 9] (fun m i => ∃ n : Nat, n ≤ os.length ∧ i = .int .i64 n ∧ m = .int .i64 (peakT os lie n)) (fun _ i => os.length - (intOf i).toNat)
  case atStart => exact ⟨0, Nat.zero_le _, rfl, rfl⟩
  case round =>
    obtain ⟨n, hn, rfl, rfl⟩ := hrel
    by_cases hlt : n < os.length
    · obtain ⟨ob, oo, rfl, hox⟩ := hI0.nth hlt
      have hor := HOS.out _ (getD_mem hlt 0)
      have hpb := HPB.out n hn
      have HP1 := HPS.out n
      generalize os.getD n 0 = p at hox hor HP1
      obtain ⟨q, rfl⟩ := Int.eq_ofNat_of_zero_le hor.1
      rw [Int.toNat_natCast] at HP1
      have hql : q < N := by omega
      have hqI : (q : Int) < (N : Int) := by omega
      have hq0 : (0 : Int) ≤ (q : Int) := by omega
      have d1 := hS0.c1 q hql
      have hlb := HLI.out q hql
      generalize (lie q).2 = x at d1 hlb HP1
      generalize peakT os lie n = y at hpb HP1
      have HP2 : Hid (_) := HP1
      clear HP1
      by_cases hc : y < x + 1
      · go_wp2
        go_round
        case rel => exact ⟨n + 1, by omega, by go_num, by rw [HP2.out, if_pos hc]⟩
        case measure => simp [intOf]; omega
      · go_wp2
        go_round
        case rel => exact ⟨n + 1, by omega, by go_num, by rw [HP2.out, if_neg hc]⟩
        case measure => simp [intOf]; omega
    · have hne : n = os.length := by omega
      subst hne
      go_wp2
      go_ret
      exact ⟨rfl, hb0⟩
theorem meet_any (a b c d : Int) (w : World) : Calls Tryz.prog 136 #[.agg #[.int .i64 a, .int .i64 b], .agg #[.int .i64 c, .int .i64 d]] w fun e w' => e = .returned (.bool (meetB (a, b) (c, d))) ∧ Below w.heap.size w w' := by
  by_cases h1 : a ≤ d
  · by_cases h2 : c ≤ b
    · go_enter Tryz.func136, Tryz.ntmps136
      go_wp2
      go_ret
      exact ⟨by simp [meetB, h1, h2], below_box (below_box (Below.refl _ _) _) _⟩
    · go_enter Tryz.func136, Tryz.ntmps136
      go_wp2
      go_ret
      exact ⟨by simp [meetB, h1, h2], below_box (below_box (Below.refl _ _) _) _⟩
  · go_enter Tryz.func136, Tryz.ntmps136
    go_wp2
    go_ret
    exact ⟨by simp [meetB]; omega, below_box (below_box (Below.refl _ _) _) _⟩
end Go.Proofs.YtihliofhhjjeaaaGreat
