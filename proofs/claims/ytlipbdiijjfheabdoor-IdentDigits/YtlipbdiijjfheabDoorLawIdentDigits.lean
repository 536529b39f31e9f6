/-
  The law IdentDigits answers true for every three numbers, in whatever memory where the tables hold what their texts lay: a word's digits are its cell's and its parents', from the coarsest on; behind them stand sevens.
-/
import Derived.Test.YtlipbdiijjfheabDoorCSome
import Derived.Test.YtlipbdiijjfheabDoorIAwake
namespace Go.Proofs.YtlipbdiijjfheabDoor
open Go.RowKit

set_option maxHeartbeats 8000000 in
set_option maxRecDepth 20000 in
theorem identDigits_walk (x y r : Int) (w : World) (hT : Five w) :
    Calls Tryd.prog 3 #[.int .i64 x, .int .i64 y, .int .i64 r] w fun e w' => e = .returned (.bool true) ∧ Below w.heap.size w w' := by
  obtain ⟨s, s0, s12, SO⟩ := csome_any x y r
  obtain ⟨n, rfl⟩ := Int.eq_ofNat_of_zero_le s0
  replace SO : Hid _ := SO
  have hT0 : Hid (Five w) := hT
  clear hT
  go_enter Tryd.func3, Tryd.ntmps3
  go_wp2_with fail
  refine (SO.out _).mono ?_
  rintro e w1 ⟨⟨P, Q, rfl, hO⟩, d1⟩
  have c1 : Below w.heap.size w w1 := Below.trans (by go_grown) (d1.mono (by simp; try omega))
  have hB := c1
  clear c1 d1
  have OF : Hid _ := iof_yes n P Q hO
  go_wp2_with fail
  refine (OF.out _ ?_).mono ?_
  · exact hT0.out.1.below (belowT hB (by go_grown))
  rintro e w2 ⟨rfl, d2⟩
  have c2 : Below w1.heap.size w1 w2 := Below.trans (by go_grown) (d2.mono (by simp; try omega))
  have k0 : w2.cell? ⟨w1.heap.size, 0, none⟩ = some (.int .i64 (n : Int)) := keepCell d2 (by go_simp)
  have qk0 := World.block_lt_of_cell? _ _ k0
  have k1 : w2.cell? ⟨w1.heap.size, 1, none⟩ = some (.int .i64 P) := keepCell d2 (by go_simp)
  have k2 : w2.cell? ⟨w1.heap.size, 2, none⟩ = some (.int .i64 Q) := keepCell d2 (by go_simp)
  replace hB := belowT hB c2
  clear c2 d2
  have hp := word_parts hO
  have hw := whole_box hp.1
  have hu : U64 (wordOf n P Q) := ⟨by omega, by omega⟩
  have e60 : wordOf n P Q / 1152921504606846976 = 1 := hp.1.1
  have e56 : bits .and .u64 (wordOf n P Q / 72057594037927936) 15 = (n : Int) := by rw [umask4 _ (u64_div hu (by omega))]; exact hp.2.1
  obtain ⟨A, hA⟩ : ∃ A, (ups n P Q).1 = A := ⟨_, rfl⟩
  obtain ⟨B, hBB⟩ : ∃ B, (ups n P Q).2 = B := ⟨_, rfl⟩
  have bAB := wAB_box (wordOf n P Q)
  rw [hp.2.2.1, hp.2.2.2.1, hA, hBB] at bAB
  have e46 : bits .and .u64 (wordOf n P Q / 70368744177664) 1023 = A + 512 := by
    rw [umask10 _ (u64_div hu (by omega))]
    have := hp.2.2.1
    rw [hA] at this
    unfold wA at this
    omega
  have e36 : bits .and .u64 (wordOf n P Q / 68719476736) 1023 = B + 512 := by
    rw [umask10 _ (u64_div hu (by omega))]
    have := hp.2.2.2.1
    rw [hBB] at this
    unfold wB at this
    omega
  have DG : Hid (∀ k : Nat, 1 ≤ k → k ≤ 12 → ∃ D p x : Int, 36 - 3 * (k : Int) = D ∧ 0 ≤ D ∧ D ≤ 36 ∧ (2 : Int) ^ D.toNat = p ∧ wordOf n P Q / p = x ∧ bits .and .u64 x 7 = dgs n P Q k) := by
    intro k k1 k2
    have hpp := pow8_box k1 k2
    refine ⟨36 - 3 * (k : Int), 8 ^ (12 - k), _, rfl, by omega, by omega, ?_, rfl, ?_⟩
    · rw [show (36 - 3 * (k : Int)).toNat = 3 * (12 - k) by omega, Int.pow_mul]; rfl
    · rw [umask3 _ (u64_div hu (by omega)), ← hp.2.2.2.2.1 k k1 k2]; rfl
  have hdb : Hid (∀ k, 0 ≤ dgs n P Q k ∧ dgs n P Q k ≤ 7) := dgs_box n P Q
  have hds : Hid (∀ k, n < k → dgs n P Q k = 7) := fun k hk => (dgs_seven n P Q k).2 hk
  have UP : Hid (∀ k : Nat, k ≤ n → ∃ C D, Ok4 (k : Int) C D ∧ dgs n P Q k = dig C D ∧ ∀ w, Tabs w → Calls Tryd.prog 6 #[.agg #[.int .i64 (n : Int), .int .i64 P, .int .i64 Q], .int .i64 (k : Int)] w fun e w' => e = .returned (.tuple #[.agg #[.int .i64 (k : Int), .int .i64 C, .int .i64 D], .int .i64 0]) ∧ Below w.heap.size w w') := by
    intro k hk
    have ho := ok4_ups hO (n - k) (by omega)
    rw [show (n : Int) - ((n - k : Nat) : Int) = k by omega] at ho
    exact ⟨_, _, ho, by unfold dgs; rw [if_pos hk], fun w hT => cupto_yes n P Q k (n - k) (by omega) hO (by omega) w hT⟩
  have BA : Hid (∀ w, Tabs w → Calls Tryd.prog 8 #[.agg #[.int .i64 (n : Int), .int .i64 P, .int .i64 Q]] w fun e w' => e = .returned (.tuple #[.agg #[.int .i64 0, .int .i64 A, .int .i64 B], .int .i64 0]) ∧ Below w.heap.size w w') := fun w hT => by
    have := cbase_yes (n : Int) P Q hO w hT
    rw [show ((n : Int)).toNat = n by omega] at this
    rwa [hA, hBB] at this
  clear hp hw hu hA hBB
  generalize wordOf n P Q = V at *
  generalize dgs n P Q = d at *
  go_wp2_with fail
  go_loopw [10] (fun v10 wr => ∃ k : Nat, 1 ≤ k ∧ k ≤ 13 ∧ v10 = .int .i64 (k : Int) ∧ wr.cell? ⟨w1.heap.size, 0, none⟩ = some (.int .i64 (n : Int)) ∧ wr.cell? ⟨w1.heap.size, 1, none⟩ = some (.int .i64 P) ∧ wr.cell? ⟨w1.heap.size, 2, none⟩ = some (.int .i64 Q) ∧ Below w.heap.size w wr) (fun v10 _ => 13 - (intOf v10).toNat)
  case atStart => exact ⟨1, by omega, by omega, rfl, k0, k1, k2, hB⟩
  case round =>
    clear hB k0 k1 k2
    obtain ⟨k, hk1, hk2, rfl, k0, k1, k2, hB⟩ := hrel
    by_cases hlt : k ≤ 12
    · obtain ⟨D, p, X, eD, D0, D36, ep, ex, ed⟩ := DG.out k hk1 hlt
      have hdk := hdb.out k
      have D0' : ¬ D < 0 := by omega
      have ep' : (2 : Int) ^ min D.toNat 64 = p := by rw [show min D.toNat 64 = D.toNat by omega]; exact ep
      have hk12 : (k : Int) ≤ 12 := by omega
      replace eD : 36 - 3 * (k : Int) = D := eD
      by_cases hkn : k ≤ n
      · obtain ⟨C, E, hoC, hdC, UK⟩ := UP.out k hkn
        have DI : Hid (∀ w, Tabs w → Calls Tryd.prog 7 #[.agg #[.int .i64 (k : Int), .int .i64 C, .int .i64 E]] w fun e w' => e = .returned (.int .i64 (d k)) ∧ Below w.heap.size w w') := fun w hT => by rw [hdC]; exact cdigit_yes _ _ _ hoC (by omega) w hT
        replace UK : Hid _ := UK
        have hkn' : (k : Int) ≤ (n : Int) := by omega
        clear hdC hoC DG UP
        generalize d k = dk at *
        have qk0 := World.block_lt_of_cell? _ _ k0
        go_wp2_with fail
        refine (UK.out _ ?_).mono ?_
        · exact hT0.out.1.below (belowT hB (by go_grown))
        rintro e v1 ⟨rfl, d1⟩
        have c1 : Below wr.heap.size wr v1 := Below.trans (by go_grown) (d1.mono (by simp; try omega))
        replace k0 := keepCell c1 k0
        replace qk0 := World.block_lt_of_cell? _ _ k0
        replace k1 := keepCell c1 k1
        replace k2 := keepCell c1 k2
        replace hB := belowT hB c1
        clear c1 d1
        go_wp2_with fail
        refine (DI.out _ ?_).mono ?_
        · exact hT0.out.1.below (belowT hB (by go_grown))
        rintro e v2 ⟨rfl, d2⟩
        have c2 : Below v1.heap.size v1 v2 := Below.trans (by go_grown) (d2.mono (by simp; try omega))
        replace k0 := keepCell c2 k0
        replace qk0 := World.block_lt_of_cell? _ _ k0
        replace k1 := keepCell c2 k1
        replace k2 := keepCell c2 k2
        replace hB := belowT hB c2
        clear c2 d2
        go_wp2
        go_roundw
        case rel => exact ⟨k + 1, by omega, by omega, by go_num, k0, k1, k2, hB⟩
        case measure => simp [intOf]; omega
      · have hd7 := hds.out k (by omega)
        have hkn' : decide ((k : Int) ≤ (n : Int)) = false := df (by omega)
        rw [hd7] at ed hdk
        clear DG UP hd7
        have lz := World.block_lt_of_cell? _ _ k0
        go_wp2
        go_roundw
        case rel => exact ⟨k + 1, by omega, by omega, by go_num, k0, k1, k2, hB⟩
        case measure => simp [intOf]; omega
    · obtain rfl : k = 13 := by omega
      obtain ⟨⟨a1, a2⟩, b1, b2⟩ := bAB
      have eA : A + 512 - 512 = A := by omega
      have eB : B + 512 - 512 = B := by omega
      clear DG UP hdb hds
      have qk0 := World.block_lt_of_cell? _ _ k0
      go_wp2_with fail
      refine (BA.out _ ?_).mono ?_
      · exact hT0.out.1.below (belowT hB (by go_grown))
      rintro e v1 ⟨rfl, d1⟩
      have c1 : Below wr.heap.size wr v1 := Below.trans (by go_grown) (d1.mono (by simp; try omega))
      replace k0 := keepCell c1 k0
      replace qk0 := World.block_lt_of_cell? _ _ k0
      replace k1 := keepCell c1 k1
      replace k2 := keepCell c1 k2
      replace hB := belowT hB c1
      clear c1 d1
      go_wp2_with fail
      refine (iawake _ ?_).mono ?_
      · exact hT0.out.below (belowT hB (by go_grown))
      rintro e v2 ⟨rfl, d2⟩
      have c2 : Below v1.heap.size v1 v2 := Below.trans (by go_grown) (d2.mono (by simp; try omega))
      replace k0 := keepCell c2 k0
      replace qk0 := World.block_lt_of_cell? _ _ k0
      replace k1 := keepCell c2 k1
      replace k2 := keepCell c2 k2
      replace hB := belowT hB c2
      clear c2 d2
      go_wp2
      go_ret
      exact ⟨rfl, hB⟩
end Go.Proofs.YtlipbdiijjfheabDoor
