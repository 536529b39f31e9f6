/-
  The law IdentSizes answers true for every three numbers, in whatever memory where the tables hold what their texts lay: a word says its size, its parent's one less; sevens behind its digits say where it ends.
-/
import Derived.Test.YtlipbdiijjfheaaGreatDoorRWord
import Derived.Test.YtlipbdiijjfheaaGreatDoorIAwake
namespace Go.Proofs.YtlipbdiijjfheaaGreatDoor
open Go.RowKit

/-- Of a cell's word: the parent's, its size, and the seven behind its digits. -/
theorem word_up {j : Nat} {P Q : Int} (h : Ok4 (j : Int) P Q) (hj : 0 < j) :
    Ok4 ((j - 1 : Nat) : Int) (parA P Q) (parB P Q) ∧ upW (wordOf j P Q) = wordOf (j - 1) (parA P Q) (parB P Q) := by
  have hp := ok4_parent h (by omega)
  rw [show (j : Int) - 1 = ((j - 1 : Nat) : Int) by omega] at hp
  exact ⟨hp, raised_word h hj⟩
theorem or_seven {j : Nat} {P Q s : Int} (h : Ok4 ((j - 1 : Nat) : Int) P Q) (j1 : 1 ≤ j) (j2 : j ≤ 12) (hs : IntKind.u64.wrap (7 * 8 ^ (12 - j)) = s) : bits .or .u64 (wordOf (j - 1) P Q) s = wordOf (j - 1) P Q := by
  have hp := word_parts h
  have hw := whole_box hp.1
  have hb := pow8_box j1 j2
  rw [u64_wrap ⟨by omega, by omega⟩] at hs
  refine u64_or7 (k := 3 * (12 - j)) ⟨by omega, by omega⟩ (by omega) (by rw [Int.pow_mul]; rfl) hs ?_
  have := hp.2.2.2.2.1 j j1 j2
  rw [(dgs_seven _ _ _ _).2 (by omega)] at this
  exact this

set_option maxHeartbeats 8000000 in
set_option maxRecDepth 20000 in
theorem identSizes_walk (x y r : Int) (w : World) (hT : Five w) :
    Calls Tryz.prog 3 #[.int .i64 x, .int .i64 y, .int .i64 r] w fun e w' => e = .returned (.bool true) ∧ Below w.heap.size w w' := by
  obtain ⟨s, s12, SO⟩ := aword_any x y r
  replace SO : Hid _ := SO
  have hT0 : Hid (Five w) := hT
  clear hT
  go_enter Tryz.func3, Tryz.ntmps3
  go_wp2_with fail
  refine (SO.out _).mono ?_
  rintro e w1 ⟨⟨P0, Q0, rfl, hO0⟩, d1⟩
  have c1 : Below w.heap.size w w1 := Below.trans (by go_grown) (d1.mono (by simp; try omega))
  have hB := c1
  clear c1 d1
  have hp0 := word_parts hO0
  have RE : Hid (∀ w, Calls Tryz.prog 10 #[.int .u64 (wordOf s P0 Q0)] w fun e w' => e = .returned (.int .i64 (s : Int)) ∧ Below w.heap.size w w') := fun w => by
    have := ires_yes _ hp0.1 w
    rwa [hp0.2.1] at this
  go_wp2_with fail
  refine (RE.out _).mono ?_
  rintro e w2 ⟨rfl, d2⟩
  have c2 : Below w1.heap.size w1 w2 := Below.trans (by go_grown) (d2.mono (by simp; try omega))
  replace hB := belowT hB c2
  clear c2 d2
  go_wp2_with fail
  go_loopw [7, 8] (fun v7 v8 wr => ∃ (j : Nat) (P Q : Int), j ≤ 12 ∧ Hid (Ok4 (j : Int) P Q) ∧ v7 = .int .u64 (wordOf j P Q) ∧ v8 = .int .i64 (j : Int) ∧ Below w.heap.size w wr) (fun _ v8 _ => (intOf v8).toNat)
  case atStart => exact ⟨s, P0, Q0, s12, hO0, rfl, rfl, hB⟩
  case round =>
    clear hB hp0 hO0 RE
    obtain ⟨j, P, Q, hj, hO, rfl, rfl, hB⟩ := hrel
    have hp := word_parts hO.out
    by_cases hlt : 0 < j
    · obtain ⟨hU, eU⟩ := word_up hO.out hlt
      have hpU := word_parts hU
      have hwU := whole_box hpU.1
      have PA : Hid (∀ w, Calls Tryz.prog 11 #[.int .u64 (wordOf j P Q)] w fun e w' => e = .returned (.tuple #[.int .u64 (wordOf (j - 1) (parA P Q) (parB P Q)), .int .i64 0]) ∧ Below w.heap.size w w') := fun w => by
        have := iparent_yes _ hp.1 (by rw [hp.2.1]; omega) w
        rwa [eU] at this
      have RU : Hid (∀ w, Calls Tryz.prog 10 #[.int .u64 (wordOf (j - 1) (parA P Q) (parB P Q))] w fun e w' => e = .returned (.int .i64 ((j : Int) - 1)) ∧ Below w.heap.size w w') := fun w => by
        have := ires_yes _ hpU.1 w
        rwa [hpU.2.1, show ((j - 1 : Nat) : Int) = (j : Int) - 1 by omega] at this
      have OU : Hid (∀ w, Calls Tryz.prog 12 #[.int .u64 (wordOf (j - 1) (parA P Q) (parB P Q))] w fun e w' => e = .returned (.bool true) ∧ Below w.heap.size w w') := iok _ ⟨by omega, by omega⟩ true (by simp [hpU.1])
      obtain ⟨D, eD⟩ : ∃ D, 36 - 3 * (j : Int) = D := ⟨_, rfl⟩
      have D0 : ¬ D < 0 := by omega
      have eDn : D.toNat = 3 * (12 - j) := by omega
      obtain ⟨p, hpp⟩ : ∃ p : Int, 8 ^ (12 - j) = p := ⟨_, rfl⟩
      have ep : (2 : Int) ^ D.toNat = p := by rw [eDn, Int.pow_mul]; exact hpp
      have ep' : (2 : Int) ^ min D.toNat 64 = p := by rw [show min D.toNat 64 = D.toNat by omega]; exact ep
      obtain ⟨t, ht⟩ : ∃ t, IntKind.u64.wrap (7 * p) = t := ⟨_, rfl⟩
      have hor := or_seven (s := t) hU (show 1 ≤ j by omega) hj (by rw [hpp]; exact ht)
      have jb : (1 : Int) ≤ (j : Int) ∧ (j : Int) ≤ 12 := by omega
      obtain ⟨U, hUU⟩ : ∃ U, wordOf (j - 1) (parA P Q) (parB P Q) = U := ⟨_, rfl⟩
      rw [hUU] at PA RU OU hor
      replace hUU : Hid _ := hUU
      replace hU : Hid _ := hU
      clear hp hpU hwU eU eDn hpp hO
      generalize wordOf j P Q = V at *
      go_wp2_with fail
      refine (PA.out _).mono ?_
      rintro e v1 ⟨rfl, d1⟩
      have c1 : Below wr.heap.size wr v1 := Below.trans (by go_grown) (d1.mono (by simp; try omega))
      replace hB := belowT hB c1
      clear c1 d1
      go_wp2_with fail
      refine (RU.out _).mono ?_
      rintro e v2 ⟨rfl, d2⟩
      have c2 : Below v1.heap.size v1 v2 := Below.trans (by go_grown) (d2.mono (by simp; try omega))
      replace hB := belowT hB c2
      clear c2 d2
      go_wp2_with fail
      refine (OU.out _).mono ?_
      rintro e v3 ⟨rfl, d3⟩
      have c3 : Below v2.heap.size v2 v3 := Below.trans (by go_grown) (d3.mono (by simp; try omega))
      replace hB := belowT hB c3
      clear c3 d3
      go_wp2
      go_roundw
      case rel => exact ⟨j - 1, parA P Q, parB P Q, by omega, hU, by rw [hUU.out], by go_num, hB⟩
      case measure => simp [intOf]; omega
    · obtain rfl : j = 0 := by omega
      have PT : Hid (∀ w, Calls Tryz.prog 11 #[.int .u64 (wordOf 0 P Q)] w fun e w' => e = .returned (.tuple #[.int .u64 0, .int .i64 3]) ∧ Below w.heap.size w w') := fun w => iparent_top _ hp.1 hp.2.1 w
      clear hp hO
      generalize wordOf 0 P Q = V at *
      go_wp2_with fail
      refine (PT.out _).mono ?_
      rintro e v1 ⟨rfl, d1⟩
      have c1 : Below wr.heap.size wr v1 := Below.trans (by go_grown) (d1.mono (by simp; try omega))
      replace hB := belowT hB c1
      clear c1 d1
      go_wp2_with fail
      refine (iawake _ ?_).mono ?_
      · exact hT0.out.below (belowT hB (by go_grown))
      rintro e v2 ⟨rfl, d2⟩
      have c2 : Below v1.heap.size v1 v2 := Below.trans (by go_grown) (d2.mono (by simp; try omega))
      replace hB := belowT hB c2
      clear c2 d2
      go_wp2
      go_ret
      exact ⟨rfl, hB⟩
end Go.Proofs.YtlipbdiijjfheaaGreatDoor
