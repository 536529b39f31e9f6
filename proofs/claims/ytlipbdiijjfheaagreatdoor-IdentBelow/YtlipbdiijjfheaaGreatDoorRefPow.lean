/-
  What the document's own Pow tells, for any number and any exponent of 64 bits, in whatever memory.
-/
import Derived.Test.YtlipbdiijjfheaaGreatDoorTimes
import Derived.Test.YtlipbdiijjfheaaGreatDoorPowNum
import Derived.Deep.LoopGhost
namespace Go.Proofs.YtlipbdiijjfheaaGreatDoor
open Go.RowKit

set_option maxHeartbeats 400000 in
theorem refpow_below (a k : Int) (hk : k < 0) (w : World) :
    Calls Tryz.prog 95 #[.int .i64 a, .int .i64 k] w fun e w' => e = .returned (.tuple #[.int .i64 0, .bool false]) ∧ Below w.heap.size w w' := by
  go_enter Tryz.func95, Tryz.ntmps95
  go_wp2
  go_ret2
  exact ⟨rfl, Below.refl _ _⟩

theorem pow_nil {a : Int} {q K : Nat} (hq : q ≤ K) (h : a ^ q = 0) : a ^ K = 0 := by
  rw [show K = q + (K - q) by omega, Int.pow_add, h, Int.zero_mul]
theorem minus_even (I : Nat) : (-1 : Int) ^ (2 * I) = 1 := by
  induction I with
  | zero => rfl
  | succ I ih => rw [show 2 * (I + 1) = 2 * I + 1 + 1 by omega, Int.pow_succ, Int.pow_succ, ih]; decide
theorem minus_pow (K : Nat) : (K % 2 = 1 → (-1 : Int) ^ K = -1) ∧ (K % 2 = 0 → (-1 : Int) ^ K = 1) := by
  constructor
  · intro h
    have e : K = 2 * (K / 2) + 1 := by omega
    rw [e, Int.pow_succ, minus_even]; decide
  · intro h
    have e : K = 2 * (K / 2) := by omega
    rw [e, minus_even]

set_option maxHeartbeats 1000000 in
theorem refpow_rest (a : Int) (K : Nat) (a1 : -9223372036854775808 ≤ a) (a2 : a ≤ 9223372036854775807) (hK : K ≤ 9223372036854775807) (n1 : (a == 1) = false) (n2 : (a == -1) = false) (w : World) :
    Calls Tryz.prog 95 #[.int .i64 a, .int .i64 (K : Int)] w fun e w' => e = .returned (.tuple #[.int .i64 (kept (a ^ K)), .bool (fits (a ^ K))]) ∧ Below w.heap.size w w' := by
  go_enter Tryz.func95, Tryz.ntmps95
  go_wp2
  go_loopw [6, 7] (fun v i wr => ∃ (q : Nat) (m : Int), q ≤ K ∧ i = .int .i64 (q : Int) ∧ v = .int .i64 m ∧ -9223372036854775808 ≤ m ∧ m ≤ 9223372036854775807 ∧ Hid (m = a ^ q) ∧ Below w.heap.size w wr) (fun _ i _ => K - (intOf i).toNat)
  case atStart => exact ⟨0, 1, Nat.zero_le _, rfl, rfl, by omega, by omega, (by show (1 : Int) = a ^ 0; simp), Below.refl _ _⟩
  case round =>
    obtain ⟨q, m, hq, rfl, rfl, m1, m2, HM, hb⟩ := hrel
    by_cases hlt : q < K
    · by_cases hm : m = 0
      · have HA : Hid (kept (a ^ K) = 0 ∧ fits (a ^ K) = true) := by
          have e := HM.out
          rw [hm] at e
          rw [pow_nil (q := q) (K := K) hq e.symm]
          exact ⟨kept_mk (fits_mk ⟨by omega, by omega⟩), fits_mk ⟨by omega, by omega⟩⟩
        clear HM
        subst hm
        go_wp2
        go_ret2
        exact ⟨by rw [HA.out.1, HA.out.2]; rfl, hb⟩
      · have hm0 : (m == 0) = false := by simpa using hm
        have PB : Hid (-170141183460469231731687303715884105728 ≤ m * a ∧ m * a < 170141183460469231731687303715884105728) := prod_bd m a m1 m2 a1 a2
        by_cases hd : In64 (m * a)
        · have E2 : Hid (kept (m * a) = m * a) := kept_mk (fits_mk hd)
          have E3 : Hid (fits (m * a) = true) := fits_mk hd
          by_cases ho : m = 1
          · clear E2 E3 hd PB hm hm0
            subst ho
            have E2 : Hid (kept a = a) := kept_mk (fits_mk ⟨a1, a2⟩)
            have E3 : Hid (fits a = true) := fits_mk ⟨a1, a2⟩
            go_wp2_with fail
            refine (times_any 1 a m1 m2 a1 a2 _).mono ?_
            rw [Int.one_mul]
            rintro e w1 ⟨rfl, c1⟩
            go_wp2_with fail
            refine (small_any a (by omega) (by omega) _).mono ?_
            rw [E2.out, E3.out]
            rintro e w2 ⟨rfl, c2⟩
            replace c2 := belowT c1 c2
            clear c1
            have hb' := belowT hb c2
            clear hb c2
            go_wp2
            go_roundw
            case rel =>
              exact ⟨q + 1, a, by omega, by go_num, rfl, a1, a2, (by show a = a ^ (q + 1); rw [Int.pow_succ, ← HM.out, Int.one_mul]), hb'⟩
            case measure => simp [intOf]; omega
          · have ho' : (m == 1) = false := by simpa using ho
            clear ho
            go_wp2_with fail
            refine (times_any m a m1 m2 a1 a2 _).mono ?_
            rintro e w1 ⟨rfl, c1⟩
            go_wp2_with fail
            refine (small_any (m * a) (by have h0 := PB.out; omega) (by have h0 := PB.out; omega) _).mono ?_
            rw [E2.out, E3.out]
            rintro e w2 ⟨rfl, c2⟩
            replace c2 := belowT c1 c2
            clear c1
            have hb' := belowT hb c2
            clear hb c2
            go_wp2
            go_roundw
            case rel =>
              exact ⟨q + 1, m * a, by omega, by go_num, rfl, hd.1, hd.2, (by show m * a = a ^ (q + 1); rw [Int.pow_succ, ← HM.out]), hb'⟩
            case measure => simp [intOf]; omega
        · have HA : Hid (kept (a ^ K) = 0 ∧ fits (a ^ K) = false) := by
            have hn : ¬ In64 (a ^ K) := over_mono (e := q + 1) (by omega) (by rw [Int.pow_succ, ← HM.out]; exact hd)
            exact ⟨kept_no (fits_no hn), fits_no hn⟩
          have E2 : Hid (kept (m * a) = 0) := kept_no (fits_no hd)
          have E3 : Hid (fits (m * a) = false) := fits_no hd
          have ho : (m == 1) = false := by
            have : m ≠ 1 := by
              intro e
              apply hd
              rw [e, Int.one_mul]
              exact ⟨a1, a2⟩
            simpa using this
          clear HM
          go_wp2_with fail
          refine (times_any m a m1 m2 a1 a2 _).mono ?_
          rintro e w1 ⟨rfl, c1⟩
          go_wp2_with fail
          refine (small_any (m * a) (by have h0 := PB.out; omega) (by have h0 := PB.out; omega) _).mono ?_
          rw [E2.out, E3.out]
          rintro e w2 ⟨rfl, c2⟩
          replace c2 := belowT c1 c2
          clear c1
          have hb' := belowT hb c2
          clear hb c2
          go_wp2
          go_ret2
          exact ⟨by rw [HA.out.1, HA.out.2]; rfl, hb'⟩
    · obtain rfl : q = K := by omega
      have HA : Hid (kept (a ^ q) = m ∧ fits (a ^ q) = true) := by
        have e := HM.out
        rw [← e]
        exact ⟨kept_mk (fits_mk ⟨m1, m2⟩), fits_mk ⟨m1, m2⟩⟩
      clear HM
      go_wp2
      go_ret2
      exact ⟨by rw [HA.out.1, HA.out.2]; rfl, hb⟩

set_option maxHeartbeats 1000000 in
theorem refpow_one (K : Nat) (_hK : K ≤ 9223372036854775807) (w : World) :
    Calls Tryz.prog 95 #[.int .i64 1, .int .i64 (K : Int)] w fun e w' => e = .returned (.tuple #[.int .i64 1, .bool true]) ∧ Below w.heap.size w w' := by
  by_cases hlt : 0 < K
  all_goals
    go_enter Tryz.func95, Tryz.ntmps95
    go_wp2
    refine wp_loop_rounds 1 ?_
    rw [rounds_succ]
    go_wp2
    go_ret2
    exact ⟨rfl, Below.refl _ _⟩

set_option maxHeartbeats 1000000 in
theorem refpow_odd (K : Nat) (_hK : K ≤ 9223372036854775807) (h0 : 0 < K) (h2 : ((K : Int) % 2 == 1) = true) (w : World) :
    Calls Tryz.prog 95 #[.int .i64 (-1), .int .i64 (K : Int)] w fun e w' => e = .returned (.tuple #[.int .i64 (-1), .bool true]) ∧ Below w.heap.size w w' := by
  go_enter Tryz.func95, Tryz.ntmps95
  go_wp2
  refine wp_loop_rounds 1 ?_
  rw [rounds_succ]
  go_wp2
  go_ret2
  exact ⟨rfl, Below.refl _ _⟩

set_option maxHeartbeats 1000000 in
theorem refpow_even (K : Nat) (_hK : K ≤ 9223372036854775807) (h0 : 0 < K) (h2 : ((K : Int) % 2 == 1) = false) (w : World) :
    Calls Tryz.prog 95 #[.int .i64 (-1), .int .i64 (K : Int)] w fun e w' => e = .returned (.tuple #[.int .i64 (1), .bool true]) ∧ Below w.heap.size w w' := by
  go_enter Tryz.func95, Tryz.ntmps95
  go_wp2
  refine wp_loop_rounds 1 ?_
  rw [rounds_succ]
  go_wp2
  go_ret2
  exact ⟨rfl, Below.refl _ _⟩

set_option maxHeartbeats 1000000 in
theorem refpow_first (a : Int) (w : World) :
    Calls Tryz.prog 95 #[.int .i64 a, .int .i64 0] w fun e w' => e = .returned (.tuple #[.int .i64 1, .bool true]) ∧ Below w.heap.size w w' := by
  go_enter Tryz.func95, Tryz.ntmps95
  go_wp2
  refine wp_loop_rounds 1 ?_
  rw [rounds_succ]
  go_wp2
  go_ret2
  exact ⟨rfl, Below.refl _ _⟩

theorem refpow_any (a : Int) (K : Nat) (a1 : -9223372036854775808 ≤ a) (a2 : a ≤ 9223372036854775807) (hK : K ≤ 9223372036854775807) (w : World) :
    Calls Tryz.prog 95 #[.int .i64 a, .int .i64 (K : Int)] w fun e w' => e = .returned (.tuple #[.int .i64 (kept (a ^ K)), .bool (fits (a ^ K))]) ∧ Below w.heap.size w w' := by
  by_cases h0 : K = 0
  · subst h0
    have e : kept (a ^ 0) = 1 ∧ fits (a ^ 0) = true := by rw [Int.pow_zero]; exact ⟨kept_mk (fits_mk ⟨by omega, by omega⟩), fits_mk ⟨by omega, by omega⟩⟩
    rw [e.1, e.2]
    exact refpow_first a w
  · by_cases h1 : a = 1
    · subst h1
      have e : kept ((1 : Int) ^ K) = 1 ∧ fits ((1 : Int) ^ K) = true := by rw [Int.one_pow]; exact ⟨kept_mk (fits_mk ⟨by omega, by omega⟩), fits_mk ⟨by omega, by omega⟩⟩
      rw [e.1, e.2]
      exact refpow_one K hK w
    · by_cases h2 : a = -1
      · subst h2
        have hm := minus_pow K
        by_cases hp : (K : Int) % 2 = 1
        · have e : kept ((-1 : Int) ^ K) = -1 ∧ fits ((-1 : Int) ^ K) = true := by rw [hm.1 (by omega)]; exact ⟨kept_mk (fits_mk ⟨by omega, by omega⟩), fits_mk ⟨by omega, by omega⟩⟩
          rw [e.1, e.2]
          exact refpow_odd K hK (by omega) (by simpa using hp) w
        · have e : kept ((-1 : Int) ^ K) = 1 ∧ fits ((-1 : Int) ^ K) = true := by rw [hm.2 (by omega)]; exact ⟨kept_mk (fits_mk ⟨by omega, by omega⟩), fits_mk ⟨by omega, by omega⟩⟩
          rw [e.1, e.2]
          exact refpow_even K hK (by omega) (by simpa using hp) w
      · exact refpow_rest a K a1 a2 hK (by simpa using h1) (by simpa using h2) w
end Go.Proofs.YtlipbdiijjfheaaGreatDoor
