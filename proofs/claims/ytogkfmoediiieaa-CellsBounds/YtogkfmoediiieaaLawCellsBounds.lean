/-
  The law CellsBounds: it returns true for any number and either flag, in whatever memory.
-/
import Derived.Test.YtogkfmoediiieaaUAwake
import Derived.Laws.BitsAllLaws
import Derived.Handy
import Derived.Deep.QuietTactic
import Derived.Test.YtogkfmoediiieaaProg
import Derived.WalkSpells
import Derived.WalkLawsBesides
import Derived.BigQuiet
import Derived.PlainAid
import Derived.Deep.RegionWith
import Derived.Deep.RegionHeld3
import Derived.WalkSmall
import Derived.Deep.CutRange
import Derived.BigRegion
import Derived.OwnWalk
import Derived.Laws.OwnMore
import Derived.OneCell
import Derived.Laws.CopyOwn
import Derived.Sort.Row
import Derived.Deep.Cut
import Derived.Sort.LotD3
import Derived.Deep.LoopGhost
import Derived.Sort.WalkA6
import Derived.Sort.Walk13a
import Derived.Sort.LotA
import Derived.Sort.LotB
import Derived.Sort.LotD1
import Derived.Deep.Draws
import Derived.WalkKit
import Derived.BigGuard
import Derived.BigCall
import Derived.CellFam
import Derived.Sort.WalkB3
import Derived.Sort.WalkB12
import Derived.RangeFuncFrom
import Derived.RangeFuncCalls
import Derived.RangeFuncLeaves
import Derived.OwnWalkIn
import Derived.TacticsInMore
import Derived.LoopNIn
import Derived.LoopIn
import Derived.RegionIn
import Derived.Stop.RegionWithIn
import Derived.Deep.OwnRows
import Derived.Deep.RegionLaw
namespace Go.Proofs.Ytogkfmoediiieaa
open Go.RowKit

theorem mask15 (a : Int) : bits .and .i64 a 15 = a % 16 := by
  have := i64_mask a 4 (by omega)
  simpa using this

/-- The even numbers of a row of n, as far as the first i are laid. -/
def evens (n i : Nat) : List Int := (List.range n).map fun j => if j < i then 2 * (j : Int) else 0

theorem evens_len (n i : Nat) : (evens n i).length = n := by simp [evens]

theorem evens_set (n i : Nat) : (vals (evens n i)).set i (.int .u64 (2 * (i : Int))) = vals (evens n (i + 1)) := by
  refine List.ext_getElem? fun j => ?_
  rw [List.getElem?_set]
  unfold vals evens
  simp only [List.map_map, List.length_map, List.length_range, List.getElem?_map]
  by_cases h : i = j
  · subst h
    by_cases hj : i < n
    · simp [hj]
    · simp [hj]
  · rw [if_neg h]
    by_cases hj : j < n
    · simp only [List.getElem?_range hj, Option.map_some, Function.comp]
      have e : (j < i) ↔ (j < i + 1) := by omega
      simp only [e]
    · simp [hj]

def evenA (n : Nat) : List Int := (List.range n).map fun (j : Nat) => 2 * (j : Int)

theorem evens_all (n : Nat) : evens n n = evenA n := by
  unfold evens evenA
  exact List.map_congr_left fun j hj => if_pos (List.mem_range.1 hj)

theorem evenA_len (n : Nat) : (evenA n).length = n := by simp [evenA]

theorem evenA_mem (n : Nat) (x : Int) : x ∈ evenA n ↔ ∃ j : Nat, j < n ∧ x = 2 * (j : Int) := by
  unfold evenA
  rw [List.mem_map]
  constructor
  · rintro ⟨j, hj, rfl⟩; exact ⟨j, List.mem_range.1 hj, rfl⟩
  · rintro ⟨j, hj, rfl⟩; exact ⟨j, List.mem_range.2 hj, rfl⟩

theorem evenA_rising (n : Nat) : Rising (evenA n) := by
  unfold evenA Rising
  rw [List.pairwise_map]
  exact List.pairwise_lt_range.imp fun {a b} h => by omega

/-- A rising list that has the words of two lists that share none is as long as both. -/
theorem both_len {A B K : List Int} (hA : Rising A) (hB : Rising B) (hd : ∀ x ∈ A, ¬ x ∈ B) (hK : Rising K) (hm : ∀ x, x ∈ K ↔ x ∈ A ∨ x ∈ B) : K.length = A.length + B.length := by
  have nd : (A ++ B).Nodup := List.nodup_append.2 ⟨rising_nodup hA, rising_nodup hB, fun a ha b hb e => hd a ha (e ▸ hb)⟩
  have p : K.Perm (A ++ B) := (List.perm_ext_iff_of_nodup (rising_nodup hK) nd).2 fun x => by rw [hm x, List.mem_append]
  rw [p.length_eq, List.length_append]

theorem own_made (w : World) (n : Nat) (hn : n ≤ 100000) : (w.alloc (.cells (madeCells #[.int .u64 0] n) 24)).ownsRow w.heap.size 24 1 (.slice (some ⟨w.heap.size, 0, none⟩) n n) n (vals (evens n 0)) := by
  refine ⟨by rw [vals_len, evens_len]; omega, .inr ⟨w.heap.size, n, madeCells #[.int .u64 0] n, rfl, Nat.le_refl _, by show (w.heap.push _)[w.heap.size]? = _; simp, Nat.le_refl _, by unfold maxLen; omega, by rw [size_madeCells]; omega, ?_⟩⟩
  refine List.ext_getElem? fun j => ?_
  unfold vals evens
  by_cases hj : j < n
  · simp [madeCells, hj, Nat.mod_one]
  · simp [madeCells, hj]

/-- What the three calls tell of the even numbers and a few odd ones. -/
theorem bounds_calls (n : Nat) (hn : n ≤ 20005) (s t : Value) (B : List Int) (hB3 : B.length ≤ 3) (hB : Rising B) (uB : ∀ x ∈ B, U64 x) (hd : ∀ x ∈ evenA n, ¬ x ∈ B) :
    ∃ tu tm tk : Int, (tu = if 20000 < n + B.length then 7 else 0) ∧ (tm = if 20000 < n then 7 else 0) ∧ tk = tm ∧ ∀ w, Lst w s (evenA n) → Lst w t B →
      (Calls Try.prog 18 #[s, t] w fun e w' => (∃ p c m, e = .returned (.tuple #[.slice p m c, .int .i64 tu]) ∧ (tu = 0 → m = n + B.length)) ∧ Below w.heap.size w w') ∧
      (Calls Try.prog 19 #[s, t] w fun e w' => (∃ p c, e = .returned (.tuple #[.slice p 0 c, .int .i64 tm])) ∧ Below w.heap.size w w') ∧
      (Calls Try.prog 20 #[t, s] w fun e w' => (∃ p c m, e = .returned (.tuple #[.slice p m c, .int .i64 tm]) ∧ (tm = 0 → m = B.length)) ∧ Below w.heap.size w w') := by
  refine ⟨_, _, _, rfl, rfl, rfl, fun w hA hBl => ?_⟩
  have lA := evenA_len n
  have uA : ∀ x ∈ evenA n, U64 x := fun x hx => by obtain ⟨j, hj, rfl⟩ := (evenA_mem n x).1 hx; constructor <;> omega
  by_cases h1 : 20000 < n
  · rw [if_pos h1, if_pos (by omega)]
    refine ⟨?_, ?_, ?_⟩
    · refine (cunion_many s t (evenA n) B (.inl (by omega)) w hA hBl).mono ?_
      rintro e w' ⟨rfl, hb⟩
      exact ⟨⟨none, 0, 0, rfl, fun h => by omega⟩, hb⟩
    · refine (cmeet_many s t (evenA n) B (.inl (by omega)) w hA hBl).mono ?_
      rintro e w' ⟨rfl, hb⟩
      exact ⟨⟨none, 0, rfl⟩, hb⟩
    · refine (cminus_many t s B (evenA n) (.inr (by omega)) w hBl hA).mono ?_
      rintro e w' ⟨rfl, hb⟩
      exact ⟨⟨none, 0, 0, rfl, fun h => by omega⟩, hb⟩
  · rw [if_neg h1]
    refine ⟨?_, ?_, ?_⟩
    · refine (cunion s t (evenA n) B (by omega) (by omega) uA uB w hA hBl).mono ?_
      rintro e w' ⟨⟨K, hC, hT⟩, hb⟩
      have hl : K.length = n + B.length := by
        rw [both_len (evenA_rising n) hB hd hC.1 (fun x => by rw [hC.2 x]; simp), lA]
      rcases hT with ⟨h2, v, rfl, hL⟩ | ⟨h2, rfl⟩
      · rw [if_neg (by omega)]
        obtain ⟨p, c, rfl⟩ := hL.len
        exact ⟨⟨p, c, _, rfl, fun _ => hl⟩, hb⟩
      · rw [if_pos (by omega)]
        exact ⟨⟨none, 0, 0, rfl, fun h => by omega⟩, hb⟩
    · refine (cmeet s t (evenA n) B (by omega) (by omega) uA uB w hA hBl).mono ?_
      rintro e w' ⟨⟨K, hC, hT⟩, hb⟩
      have hl : K = [] := List.eq_nil_iff_forall_not_mem.2 fun x hx => by
        have := ((hC.2 x).1 hx).1
        simp only [Bool.and_eq_true, decide_eq_true_eq] at this
        exact hd x this.1 this.2
      subst hl
      rcases hT with ⟨h2, v, rfl, hL⟩ | ⟨h2, rfl⟩
      · obtain ⟨p, c, rfl⟩ := hL.len
        exact ⟨⟨p, c, rfl⟩, hb⟩
      · simp at h2
    · refine (cminus t s B (evenA n) (by omega) (by omega) uB uA w hBl hA).mono ?_
      rintro e w' ⟨⟨K, hC, hT⟩, hb⟩
      have hl : K = B := rising_ext hC.1 hB fun x => by
        rw [hC.2 x]
        simp only [Bool.and_eq_true, decide_eq_true_eq, Bool.not_eq_true', decide_eq_false_iff_not]
        constructor
        · rintro ⟨⟨h3, -⟩, -⟩; exact h3
        · intro h3; exact ⟨⟨h3, fun h4 => hd x h4 h3⟩, .inl h3⟩
      subst hl
      rcases hT with ⟨h2, v, rfl, hL⟩ | ⟨h2, rfl⟩
      · obtain ⟨p, c, rfl⟩ := hL.len
        exact ⟨⟨p, c, _, rfl, fun _ => rfl⟩, hb⟩
      · omega

set_option maxHeartbeats 8000000 in
set_option maxRecDepth 20000 in
theorem cellsBounds_false (n0 : Int) (w : World) :
    Calls Try.prog 8 #[.int .i64 n0, .bool false] w fun e w' => e = .returned (.bool true) ∧ Below w.heap.size w w' := by
  have AW := hidd fun w2 => cawake w2
  obtain ⟨n, en⟩ : ∃ n : Nat, n0 % 16 + 19990 = (n : Int) := Int.eq_ofNat_of_zero_le (by omega)
  have hn1 : 19990 ≤ n := by omega
  have hn2 : n ≤ 20005 := by omega
  have em : bits .and .i64 n0 15 + 19990 = (n : Int) := by rw [mask15]; exact en
  have ew : IntKind.i64.wrap (bits .and .i64 n0 15 + 19990) = (n : Int) := by rw [em, IntKind.wrap_i64]; omega
  clear en
  have hmk := fun w => run_make_row' (P := Try.prog) 23 24 (.int .u64 0) 8 Try.underlying23 infoU64 rfl .i64 .i64 n (by omega) (by omega) w
  go_enter Try.func8, Try.ntmps8
  go_wp2_with fail
  go_loopw [23] (fun v23 wr => ∃ i : Nat, i ≤ n ∧ v23 = .int .i64 (i : Int) ∧ Hid (wr.ownsRow w.heap.size 24 1 (.slice (some ⟨w.heap.size, 0, none⟩) n n) n (vals (evens n i))) ∧ Below w.heap.size w wr) (fun v23 _ => n - (intOf v23).toNat)
  case atStart => exact ⟨0, by omega, rfl, own_made w n (by omega), allocB w _⟩
  case round =>
    obtain ⟨i, hi, rfl, hO, hB⟩ := hrel
    by_cases hlt : i < n
    · obtain ⟨z, hz⟩ : ∃ z, wr.cell? ⟨w.heap.size, i, none⟩ = some z := by
        rw [hO.out.cellAt i (by omega), List.getElem?_eq_getElem (by rw [vals_len, evens_len]; exact hlt)]
        exact ⟨_, rfl⟩
      have hfz := hO.out.frozenAt i
      have ecv : IntKind.u64.wrap (2 * (i : Int)) = 2 * (i : Int) := u64_wrap ⟨by omega, by omega⟩
      have st := (hO.out.stored i (.int .u64 (2 * (i : Int)))).1
      rw [evens_set] at st
      have ST := hidd st
      have hB2 := hB.setCell (p := ⟨w.heap.size, i, none⟩) (Nat.le_refl _) (.int .u64 (2 * (i : Int)))
      clear st hO hmk
      go_wp2_with fail
      go_roundw
      case rel => exact ⟨i + 1, by omega, by go_num, ST, hB2⟩
      case measure => simp [intOf]; omega
    · obtain rfl : i = n := by omega
      rw [evens_all] at hO
      have LA := hidd (Lst.own hO.out)
      obtain ⟨tu, tm, tk, etu, etm, rfl, CS⟩ := bounds_calls i hn2 (.slice (some ⟨w.heap.size, 0, none⟩) i i) (.slice none 0 0) [] (by simp) List.Pairwise.nil (fun x hx => by simp at hx) (fun x _ => by simp)
      have CW := hidd (fun w2 (hb : Below wr.heap.size wr w2) => CS w2 (LA.out.keep hb) (Lst.none' w2 none 0))
      have hB0 := hidd hB
      have s0 : Below wr.heap.size wr wr := Below.refl _ _
      simp only [List.length_nil, Nat.add_zero] at etu CW
      clear CS LA
      clear hO hB hmk
      rcases (show (20000 < i) ∨ (i ≤ 20000 ∧ 20000 < i + 0) ∨ (i + 0 ≤ 20000) by omega) with hc | ⟨hc, hc2⟩ | hc
      · have t1 : decide (20000 < i) = true := decide_eq_true hc
        have t2 : decide (20000 < i + 0) = true := decide_eq_true (by omega)
        rw [if_pos (by omega)] at etu
        rw [if_pos hc] at etm
        subst etu etm
        go_wp2_with fail
        refine (CW.out _ (Below.refl _ _)).1.mono ?_
        rintro e w1 ⟨⟨p1, c1, m1, rfl, e1⟩, b1⟩
        go_wp2_with fail
        refine (CW.out _ b1).2.1.mono ?_
        rintro e w2 ⟨⟨p2, c2, rfl⟩, b2⟩
        have d2 := belowT b1 b2
        go_wp2_with fail
        refine (CW.out _ d2).2.2.mono ?_
        rintro e w3 ⟨⟨p3, c3, m3, rfl, e3⟩, b3⟩
        have d3 := hidd (belowT hB0.out (belowT d2 b3))
        clear CW b1 b2 b3 d2 hB0 s0
        clear e1 e3
        go_wp2_with fail
        refine (AW.out _).mono ?_
        rintro e wz ⟨rfl, bz⟩
        go_wp2
        go_ret
        exact ⟨by first | rfl | simp, belowT d3.out bz⟩
      · omega
      · have t1 : decide (20000 < i) = false := decide_eq_false (by omega)
        have t2 : decide (20000 < i + 0) = false := decide_eq_false (by omega)
        rw [if_neg (by omega)] at etu
        rw [if_neg (by omega)] at etm
        subst etu etm
        go_wp2_with fail
        refine (CW.out _ (Below.refl _ _)).1.mono ?_
        rintro e w1 ⟨⟨p1, c1, m1, rfl, e1⟩, b1⟩
        go_wp2_with fail
        refine (CW.out _ b1).2.1.mono ?_
        rintro e w2 ⟨⟨p2, c2, rfl⟩, b2⟩
        have d2 := belowT b1 b2
        go_wp2_with fail
        refine (CW.out _ d2).2.2.mono ?_
        rintro e w3 ⟨⟨p3, c3, m3, rfl, e3⟩, b3⟩
        have d3 := hidd (belowT hB0.out (belowT d2 b3))
        clear CW b1 b2 b3 d2 hB0 s0
        obtain rfl := e1 (by trivial)
        obtain rfl := e3 (by trivial)
        go_wp2_with fail
        refine (AW.out _).mono ?_
        rintro e wz ⟨rfl, bz⟩
        go_wp2
        go_ret
        exact ⟨by first | rfl | simp, belowT d3.out bz⟩

set_option maxHeartbeats 8000000 in
set_option maxRecDepth 20000 in
theorem cellsBounds_true (n0 : Int) (w : World) :
    Calls Try.prog 8 #[.int .i64 n0, .bool true] w fun e w' => e = .returned (.bool true) ∧ Below w.heap.size w w' := by
  have AW := hidd fun w2 => cawake w2
  obtain ⟨n, en⟩ : ∃ n : Nat, n0 % 16 + 19990 = (n : Int) := Int.eq_ofNat_of_zero_le (by omega)
  have hn1 : 19990 ≤ n := by omega
  have hn2 : n ≤ 20005 := by omega
  have em : bits .and .i64 n0 15 + 19990 = (n : Int) := by rw [mask15]; exact en
  have ew : IntKind.i64.wrap (bits .and .i64 n0 15 + 19990) = (n : Int) := by rw [em, IntKind.wrap_i64]; omega
  clear en
  have hmk := fun w => run_make_row' (P := Try.prog) 23 24 (.int .u64 0) 8 Try.underlying23 infoU64 rfl .i64 .i64 n (by omega) (by omega) w
  go_enter Try.func8, Try.ntmps8
  go_wp2_with fail
  go_loopw [23] (fun v23 wr => ∃ i : Nat, i ≤ n ∧ v23 = .int .i64 (i : Int) ∧ Hid (wr.ownsRow w.heap.size 24 1 (.slice (some ⟨w.heap.size, 0, none⟩) n n) n (vals (evens n i))) ∧ Below w.heap.size w wr) (fun v23 _ => n - (intOf v23).toNat)
  case atStart => exact ⟨0, by omega, rfl, own_made w n (by omega), allocB w _⟩
  case round =>
    obtain ⟨i, hi, rfl, hO, hB⟩ := hrel
    by_cases hlt : i < n
    · obtain ⟨z, hz⟩ : ∃ z, wr.cell? ⟨w.heap.size, i, none⟩ = some z := by
        rw [hO.out.cellAt i (by omega), List.getElem?_eq_getElem (by rw [vals_len, evens_len]; exact hlt)]
        exact ⟨_, rfl⟩
      have hfz := hO.out.frozenAt i
      have ecv : IntKind.u64.wrap (2 * (i : Int)) = 2 * (i : Int) := u64_wrap ⟨by omega, by omega⟩
      have st := (hO.out.stored i (.int .u64 (2 * (i : Int)))).1
      rw [evens_set] at st
      have ST := hidd st
      have hB2 := hB.setCell (p := ⟨w.heap.size, i, none⟩) (Nat.le_refl _) (.int .u64 (2 * (i : Int)))
      clear st hO hmk
      go_wp2_with fail
      go_roundw
      case rel => exact ⟨i + 1, by omega, by go_num, ST, hB2⟩
      case measure => simp [intOf]; omega
    · obtain rfl : i = n := by omega
      rw [evens_all] at hO
      have LA := hidd (Lst.own hO.out)
      obtain ⟨tu, tm, tk, etu, etm, rfl, CS⟩ := bounds_calls i hn2 (.slice (some ⟨w.heap.size, 0, none⟩) i i) (.slice (some ⟨wr.heap.size, 0, none⟩) 3 3) [1, 3, 5] (by simp) (by simp [Rising]) (fun x hx => by simp at hx; constructor <;> omega) (fun x hx => by obtain ⟨j, hj, rfl⟩ := (evenA_mem i x).1 hx; simp; omega)
      have s0 : Below wr.heap.size wr (wr.alloc (.cells #[.int .u64 1, .int .u64 3, .int .u64 5] 24)) := allocB wr _
      have lb : Lst (wr.alloc (.cells #[.int .u64 1, .int .u64 3, .int .u64 5] 24)) (.slice (some ⟨wr.heap.size, 0, none⟩) 3 3) [1, 3, 5] := lst_lit wr [1, 3, 5] 24
      have CW := hidd (fun w2 (hb : Below (wr.alloc (.cells #[.int .u64 1, .int .u64 3, .int .u64 5] 24)).heap.size (wr.alloc (.cells #[.int .u64 1, .int .u64 3, .int .u64 5] 24)) w2) => CS w2 ((LA.out.keep s0).keep hb) (lb.keep hb))
      have hB0 := hidd (belowT hB s0)
      simp only [List.length_cons, List.length_nil, Nat.zero_add, Nat.reduceAdd] at etu CW
      clear CS LA lb
      clear hO hB hmk
      rcases (show (20000 < i) ∨ (i ≤ 20000 ∧ 20000 < i + 3) ∨ (i + 3 ≤ 20000) by omega) with hc | ⟨hc, hc2⟩ | hc
      · have t1 : decide (20000 < i) = true := decide_eq_true hc
        have t2 : decide (20000 < i + 3) = true := decide_eq_true (by omega)
        rw [if_pos (by omega)] at etu
        rw [if_pos hc] at etm
        subst etu etm
        have t3 : decide (20000 < (i : Int) + 3) = true := by first | exact decide_eq_true (by omega) | exact decide_eq_false (by omega)
        have t4 : IntKind.i64.wrap ((i : Int) + 3) = (i : Int) + 3 := by rw [IntKind.wrap_i64]; omega
        go_wp2_with fail
        refine (CW.out _ (Below.refl _ _)).1.mono ?_
        rintro e w1 ⟨⟨p1, c1, m1, rfl, e1⟩, b1⟩
        go_wp2_with fail
        refine (CW.out _ b1).2.1.mono ?_
        rintro e w2 ⟨⟨p2, c2, rfl⟩, b2⟩
        have d2 := belowT b1 b2
        go_wp2_with fail
        refine (CW.out _ d2).2.2.mono ?_
        rintro e w3 ⟨⟨p3, c3, m3, rfl, e3⟩, b3⟩
        have d3 := hidd (belowT hB0.out (belowT d2 b3))
        clear CW b1 b2 b3 d2 hB0 s0
        clear e1 e3
        go_wp2_with fail
        refine (AW.out _).mono ?_
        rintro e wz ⟨rfl, bz⟩
        go_wp2
        go_ret
        exact ⟨by first | rfl | simp, belowT d3.out bz⟩
      · have t1 : decide (20000 < i) = false := decide_eq_false (by omega)
        have t2 : decide (20000 < i + 3) = true := decide_eq_true (by omega)
        rw [if_pos (by omega)] at etu
        rw [if_neg (by omega)] at etm
        subst etu etm
        have t3 : decide (20000 < (i : Int) + 3) = true := by first | exact decide_eq_true (by omega) | exact decide_eq_false (by omega)
        have t4 : IntKind.i64.wrap ((i : Int) + 3) = (i : Int) + 3 := by rw [IntKind.wrap_i64]; omega
        go_wp2_with fail
        refine (CW.out _ (Below.refl _ _)).1.mono ?_
        rintro e w1 ⟨⟨p1, c1, m1, rfl, e1⟩, b1⟩
        go_wp2_with fail
        refine (CW.out _ b1).2.1.mono ?_
        rintro e w2 ⟨⟨p2, c2, rfl⟩, b2⟩
        have d2 := belowT b1 b2
        go_wp2_with fail
        refine (CW.out _ d2).2.2.mono ?_
        rintro e w3 ⟨⟨p3, c3, m3, rfl, e3⟩, b3⟩
        have d3 := hidd (belowT hB0.out (belowT d2 b3))
        clear CW b1 b2 b3 d2 hB0 s0
        obtain rfl := e3 (by trivial)
        clear e1
        go_wp2_with fail
        refine (AW.out _).mono ?_
        rintro e wz ⟨rfl, bz⟩
        go_wp2
        go_ret
        exact ⟨by first | rfl | simp, belowT d3.out bz⟩
      · have t1 : decide (20000 < i) = false := decide_eq_false (by omega)
        have t2 : decide (20000 < i + 3) = false := decide_eq_false (by omega)
        rw [if_neg (by omega)] at etu
        rw [if_neg (by omega)] at etm
        subst etu etm
        have t3 : decide (20000 < (i : Int) + 3) = false := by first | exact decide_eq_true (by omega) | exact decide_eq_false (by omega)
        have t4 : IntKind.i64.wrap ((i : Int) + 3) = (i : Int) + 3 := by rw [IntKind.wrap_i64]; omega
        go_wp2_with fail
        refine (CW.out _ (Below.refl _ _)).1.mono ?_
        rintro e w1 ⟨⟨p1, c1, m1, rfl, e1⟩, b1⟩
        go_wp2_with fail
        refine (CW.out _ b1).2.1.mono ?_
        rintro e w2 ⟨⟨p2, c2, rfl⟩, b2⟩
        have d2 := belowT b1 b2
        go_wp2_with fail
        refine (CW.out _ d2).2.2.mono ?_
        rintro e w3 ⟨⟨p3, c3, m3, rfl, e3⟩, b3⟩
        have d3 := hidd (belowT hB0.out (belowT d2 b3))
        clear CW b1 b2 b3 d2 hB0 s0
        obtain rfl := e1 (by trivial)
        obtain rfl := e3 (by trivial)
        go_wp2_with fail
        refine (AW.out _).mono ?_
        rintro e wz ⟨rfl, bz⟩
        go_wp2
        go_ret
        exact ⟨by first | rfl | simp, belowT d3.out bz⟩

theorem cellsBounds_walk (n0 : Int) (more : Bool) (w : World) (_ : -9223372036854775808 ≤ n0) (_ : n0 ≤ 9223372036854775807) :
    Calls Try.prog 8 #[.int .i64 n0, .bool more] w fun e w' => e = .returned (.bool true) ∧ Below w.heap.size w w' := by
  cases more
  · exact cellsBounds_false n0 w
  · exact cellsBounds_true n0 w

end Go.Proofs.Ytogkfmoediiieaa
