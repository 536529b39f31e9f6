/-
  The law NumBack answers true for any two numbers and any shift of 64 bits, in whatever memory where the library's table of powers of ten holds what its initialiser lays: the walk.
-/
import Derived.Test.YtghhgihfgoenjaaDoorAwake
import Derived.Test.YtghhgihfgoenjaaDoorNumPow
namespace Go.Proofs.YtghhgihfgoenjaaDoor
open Go.RowKit Go.Shelf

theorem two_le (K : Nat) (h : K ≤ 31) : 0 < (2 : Int) ^ K ∧ (2 : Int) ^ K ≤ 2147483648 := by
  have h1 : (2 : Nat) ^ K ≤ 2 ^ 31 := Nat.pow_le_pow_right (by omega) h
  have h2 : 0 < (2 : Nat) ^ K := Nat.pow_pos (by omega)
  have h3 : ((2 ^ K : Nat) : Int) = (2 : Int) ^ K := by simp
  omega

theorem pow_two (K : Nat) (h : K ≤ 31) (w : World) :
    Calls Tryd.prog 14 #[.int .i64 2, .int .i64 (K : Int)] w fun e w' => e = .returned (.tuple #[.int .i64 (2 ^ K), .bool true]) ∧ Below w.heap.size w w' := by
  have hb := two_le K h
  have hf := fits_mk (n := (2 : Int) ^ K) ⟨by omega, by omega⟩
  have := pow_any 2 K (by omega) (by omega) (by omega) w
  rw [kept_mk hf, hf] at this
  exact this

theorem sub_back (a b : Int) (a1 : -9223372036854775808 ≤ a) (a2 : a ≤ 9223372036854775807) (h : In64 (a + b)) (w : World) :
    Calls Tryd.prog 12 #[.int .i64 (a + b), .int .i64 b] w fun e w' => e = .returned (.tuple #[.int .i64 a, .bool true]) ∧ Below w.heap.size w w' := by
  have := sub_fits (a + b) b h.1 h.2 (by omega) (by omega) w
  rw [show a + b - b = a by omega] at this
  exact this

theorem add_back (a q b r : Int) (a1 : -9223372036854775808 ≤ a) (a2 : a ≤ 9223372036854775807) (h : In64 (q * b)) (hr : q * b + r = a) (w : World) :
    Calls Tryd.prog 9 #[.int .i64 (q * b), .int .i64 r] w fun e w' => e = .returned (.tuple #[.int .i64 a, .bool true]) ∧ Below w.heap.size w w' := by
  have := add_fits (q * b) r h.1 h.2 (by omega) (by omega) w
  rw [hr] at this
  exact this

set_option maxRecDepth 100000 in
set_option maxHeartbeats 1000000 in
theorem back_yes_below (a b k : Int) (K : Nat) (hm : bits .and .i64 k 31 = (K : Int)) (hK : K ≤ 31) (P : Int) (hP : 2 ^ K = P) (P1 : 0 < P) (P2 : P ≤ 2147483648) (a1 : -9223372036854775808 ≤ a) (a2 : a ≤ 9223372036854775807) (b1 : -9223372036854775808 ≤ b) (b2 : b ≤ 9223372036854775807)
    (hab : In64 (a + b)) (hb : b ≤ 0) (w : World) (htab : Tab w) :
    Calls Tryd.prog 8 #[.int .i64 a, .int .i64 b, .int .i64 k] w fun e w' => e = .returned (.bool true) ∧ Below w.heap.size w w' := by
  have PT : ∀ w, Calls Tryd.prog 14 #[.int .i64 2, .int .i64 (K : Int)] w fun e w' => e = .returned (.tuple #[.int .i64 P, .bool true]) ∧ Below w.heap.size w w' := by
    rw [← hP]; exact pow_two K hK
  have ST : ∀ w, Calls Tryd.prog 22 #[.int .i64 a, .int .i64 (K : Int)] w fun e w' => e = .returned (.tuple #[.int .i64 (kept (a * P)), .bool (fits (a * P))]) ∧ Below w.heap.size w w' := by
    rw [← hP]; exact shl_any a K
  replace PT : Hid _ := PT
  replace ST : Hid _ := ST
  clear hP
  go_enter Tryd.func8, Tryd.ntmps8
  go_wp2_with fail
  refine (add_fits a b a1 a2 hab.1 hab.2 _).mono ?_
  rintro e w1 ⟨rfl, c1⟩
  go_wp2_with fail
  refine (sub_back a b a1 a2 hab _).mono ?_
  rintro e w2 ⟨rfl, c2⟩
  replace c2 := belowT c1 c2
  clear c1
  go_wp2_with fail
  refine (floor_no a b hb _).mono ?_
  rintro e w3 ⟨rfl, c3⟩
  replace c3 := belowT c2 c3
  clear c2
  go_wp2_with fail
  refine (PT.out _).mono ?_
  rintro e w4 ⟨rfl, c4⟩
  replace c4 := belowT c3 c4
  clear c3
  go_wp2_with fail
  refine (ST.out _).mono ?_
  rintro e w5 ⟨rfl, c5⟩
  replace c5 := belowT c4 c5
  clear c4
  go_wp2_with fail
  refine (mul_any a P a1 a2 (by omega) (by omega) _).mono ?_
  rintro e w6 ⟨rfl, c6⟩
  replace c6 := belowT c5 c6
  clear c5
  go_wp2_with fail
  refine (awake _ (htab.below c6)).mono ?_
  rintro e w7 ⟨rfl, c7⟩
  replace c7 := belowT c6 c7
  clear c6
  go_wp2
  go_ret
  exact ⟨rfl, c7⟩

set_option maxRecDepth 100000 in
set_option maxHeartbeats 1000000 in
theorem back_yes_fits (a b k : Int) (K : Nat) (hm : bits .and .i64 k 31 = (K : Int)) (hK : K ≤ 31) (P : Int) (hP : 2 ^ K = P) (P1 : 0 < P) (P2 : P ≤ 2147483648) (a1 : -9223372036854775808 ≤ a) (a2 : a ≤ 9223372036854775807) (b1 : -9223372036854775808 ≤ b) (b2 : b ≤ 9223372036854775807)
    (hab : In64 (a + b)) (hb : 0 < b) (q r : Int) (hq : a / b = q) (hr : a % b = r) (r1 : 0 ≤ r) (r2 : r < b) (q1 : -9223372036854775808 ≤ q) (q2 : q ≤ 9223372036854775807) (hqb : In64 (q * b)) (hqr : q * b + r = a) (w : World) (htab : Tab w) :
    Calls Tryd.prog 8 #[.int .i64 a, .int .i64 b, .int .i64 k] w fun e w' => e = .returned (.bool true) ∧ Below w.heap.size w w' := by
  have PT : ∀ w, Calls Tryd.prog 14 #[.int .i64 2, .int .i64 (K : Int)] w fun e w' => e = .returned (.tuple #[.int .i64 P, .bool true]) ∧ Below w.heap.size w w' := by
    rw [← hP]; exact pow_two K hK
  have ST : ∀ w, Calls Tryd.prog 22 #[.int .i64 a, .int .i64 (K : Int)] w fun e w' => e = .returned (.tuple #[.int .i64 (kept (a * P)), .bool (fits (a * P))]) ∧ Below w.heap.size w w' := by
    rw [← hP]; exact shl_any a K
  replace PT : Hid _ := PT
  replace ST : Hid _ := ST
  clear hP
  have FT : ∀ w, Calls Tryd.prog 20 #[.int .i64 a, .int .i64 b] w fun e w' => e = .returned (.tuple #[.int .i64 q, .int .i64 r, .bool true]) ∧ Below w.heap.size w w' := by
    rw [← hq, ← hr]; exact floor_any a b a1 a2 hb b2
  replace FT : Hid _ := FT
  clear hq hr
  have AT : ∀ w, Calls Tryd.prog 9 #[.int .i64 (q * b), .int .i64 r] w fun e w' => e = .returned (.tuple #[.int .i64 a, .bool true]) ∧ Below w.heap.size w w' := add_back a q b r a1 a2 hqb hqr
  replace AT : Hid _ := AT
  clear hqr
  go_enter Tryd.func8, Tryd.ntmps8
  go_wp2_with fail
  refine (add_fits a b a1 a2 hab.1 hab.2 _).mono ?_
  rintro e w1 ⟨rfl, c1⟩
  go_wp2_with fail
  refine (sub_back a b a1 a2 hab _).mono ?_
  rintro e w2 ⟨rfl, c2⟩
  replace c2 := belowT c1 c2
  clear c1
  go_wp2_with fail
  refine (FT.out _).mono ?_
  rintro e w3 ⟨rfl, c3⟩
  replace c3 := belowT c2 c3
  clear c2
  go_wp2_with fail
  refine (mul_fits q b q1 q2 b1 b2 hqb _).mono ?_
  rintro e w4 ⟨rfl, c4⟩
  replace c4 := belowT c3 c4
  clear c3
  go_wp2_with fail
  refine (AT.out _).mono ?_
  rintro e w5 ⟨rfl, c5⟩
  replace c5 := belowT c4 c5
  clear c4
  go_wp2_with fail
  refine (PT.out _).mono ?_
  rintro e w6 ⟨rfl, c6⟩
  replace c6 := belowT c5 c6
  clear c5
  go_wp2_with fail
  refine (ST.out _).mono ?_
  rintro e w7 ⟨rfl, c7⟩
  replace c7 := belowT c6 c7
  clear c6
  go_wp2_with fail
  refine (mul_any a P a1 a2 (by omega) (by omega) _).mono ?_
  rintro e w8 ⟨rfl, c8⟩
  replace c8 := belowT c7 c8
  clear c7
  go_wp2_with fail
  refine (awake _ (htab.below c8)).mono ?_
  rintro e w9 ⟨rfl, c9⟩
  replace c9 := belowT c8 c9
  clear c8
  go_wp2
  go_ret
  exact ⟨rfl, c9⟩

set_option maxRecDepth 100000 in
set_option maxHeartbeats 1000000 in
theorem back_yes_over (a b k : Int) (K : Nat) (hm : bits .and .i64 k 31 = (K : Int)) (hK : K ≤ 31) (P : Int) (hP : 2 ^ K = P) (P1 : 0 < P) (P2 : P ≤ 2147483648) (a1 : -9223372036854775808 ≤ a) (a2 : a ≤ 9223372036854775807) (b1 : -9223372036854775808 ≤ b) (b2 : b ≤ 9223372036854775807)
    (hab : In64 (a + b)) (hb : 0 < b) (q r : Int) (hq : a / b = q) (hr : a % b = r) (r1 : 0 ≤ r) (r2 : r < b) (q1 : -9223372036854775808 ≤ q) (q2 : q ≤ 9223372036854775807) (hqb : ¬ In64 (q * b)) (w : World) (htab : Tab w) :
    Calls Tryd.prog 8 #[.int .i64 a, .int .i64 b, .int .i64 k] w fun e w' => e = .returned (.bool true) ∧ Below w.heap.size w w' := by
  have PT : ∀ w, Calls Tryd.prog 14 #[.int .i64 2, .int .i64 (K : Int)] w fun e w' => e = .returned (.tuple #[.int .i64 P, .bool true]) ∧ Below w.heap.size w w' := by
    rw [← hP]; exact pow_two K hK
  have ST : ∀ w, Calls Tryd.prog 22 #[.int .i64 a, .int .i64 (K : Int)] w fun e w' => e = .returned (.tuple #[.int .i64 (kept (a * P)), .bool (fits (a * P))]) ∧ Below w.heap.size w w' := by
    rw [← hP]; exact shl_any a K
  replace PT : Hid _ := PT
  replace ST : Hid _ := ST
  clear hP
  have FT : ∀ w, Calls Tryd.prog 20 #[.int .i64 a, .int .i64 b] w fun e w' => e = .returned (.tuple #[.int .i64 q, .int .i64 r, .bool true]) ∧ Below w.heap.size w w' := by
    rw [← hq, ← hr]; exact floor_any a b a1 a2 hb b2
  replace FT : Hid _ := FT
  clear hq hr
  go_enter Tryd.func8, Tryd.ntmps8
  go_wp2_with fail
  refine (add_fits a b a1 a2 hab.1 hab.2 _).mono ?_
  rintro e w1 ⟨rfl, c1⟩
  go_wp2_with fail
  refine (sub_back a b a1 a2 hab _).mono ?_
  rintro e w2 ⟨rfl, c2⟩
  replace c2 := belowT c1 c2
  clear c1
  go_wp2_with fail
  refine (FT.out _).mono ?_
  rintro e w3 ⟨rfl, c3⟩
  replace c3 := belowT c2 c3
  clear c2
  go_wp2_with fail
  refine (mul_over q b q1 q2 b1 b2 hqb _).mono ?_
  rintro e w4 ⟨rfl, c4⟩
  replace c4 := belowT c3 c4
  clear c3
  go_wp2_with fail
  refine (PT.out _).mono ?_
  rintro e w5 ⟨rfl, c5⟩
  replace c5 := belowT c4 c5
  clear c4
  go_wp2_with fail
  refine (ST.out _).mono ?_
  rintro e w6 ⟨rfl, c6⟩
  replace c6 := belowT c5 c6
  clear c5
  go_wp2_with fail
  refine (mul_any a P a1 a2 (by omega) (by omega) _).mono ?_
  rintro e w7 ⟨rfl, c7⟩
  replace c7 := belowT c6 c7
  clear c6
  go_wp2_with fail
  refine (awake _ (htab.below c7)).mono ?_
  rintro e w8 ⟨rfl, c8⟩
  replace c8 := belowT c7 c8
  clear c7
  go_wp2
  go_ret
  exact ⟨rfl, c8⟩

set_option maxRecDepth 100000 in
set_option maxHeartbeats 1000000 in
theorem back_no_below (a b k : Int) (K : Nat) (hm : bits .and .i64 k 31 = (K : Int)) (hK : K ≤ 31) (P : Int) (hP : 2 ^ K = P) (P1 : 0 < P) (P2 : P ≤ 2147483648) (a1 : -9223372036854775808 ≤ a) (a2 : a ≤ 9223372036854775807) (b1 : -9223372036854775808 ≤ b) (b2 : b ≤ 9223372036854775807)
    (hab : ¬ In64 (a + b)) (hb : b ≤ 0) (w : World) (htab : Tab w) :
    Calls Tryd.prog 8 #[.int .i64 a, .int .i64 b, .int .i64 k] w fun e w' => e = .returned (.bool true) ∧ Below w.heap.size w w' := by
  have PT : ∀ w, Calls Tryd.prog 14 #[.int .i64 2, .int .i64 (K : Int)] w fun e w' => e = .returned (.tuple #[.int .i64 P, .bool true]) ∧ Below w.heap.size w w' := by
    rw [← hP]; exact pow_two K hK
  have ST : ∀ w, Calls Tryd.prog 22 #[.int .i64 a, .int .i64 (K : Int)] w fun e w' => e = .returned (.tuple #[.int .i64 (kept (a * P)), .bool (fits (a * P))]) ∧ Below w.heap.size w w' := by
    rw [← hP]; exact shl_any a K
  replace PT : Hid _ := PT
  replace ST : Hid _ := ST
  clear hP
  go_enter Tryd.func8, Tryd.ntmps8
  go_wp2_with fail
  refine (add_over a b a1 a2 b1 b2 (by unfold In64 at hab; omega) _).mono ?_
  rintro e w1 ⟨rfl, c1⟩
  go_wp2_with fail
  refine (floor_no a b hb _).mono ?_
  rintro e w2 ⟨rfl, c2⟩
  replace c2 := belowT c1 c2
  clear c1
  go_wp2_with fail
  refine (PT.out _).mono ?_
  rintro e w3 ⟨rfl, c3⟩
  replace c3 := belowT c2 c3
  clear c2
  go_wp2_with fail
  refine (ST.out _).mono ?_
  rintro e w4 ⟨rfl, c4⟩
  replace c4 := belowT c3 c4
  clear c3
  go_wp2_with fail
  refine (mul_any a P a1 a2 (by omega) (by omega) _).mono ?_
  rintro e w5 ⟨rfl, c5⟩
  replace c5 := belowT c4 c5
  clear c4
  go_wp2_with fail
  refine (awake _ (htab.below c5)).mono ?_
  rintro e w6 ⟨rfl, c6⟩
  replace c6 := belowT c5 c6
  clear c5
  go_wp2
  go_ret
  exact ⟨rfl, c6⟩

set_option maxRecDepth 100000 in
set_option maxHeartbeats 1000000 in
theorem back_no_fits (a b k : Int) (K : Nat) (hm : bits .and .i64 k 31 = (K : Int)) (hK : K ≤ 31) (P : Int) (hP : 2 ^ K = P) (P1 : 0 < P) (P2 : P ≤ 2147483648) (a1 : -9223372036854775808 ≤ a) (a2 : a ≤ 9223372036854775807) (b1 : -9223372036854775808 ≤ b) (b2 : b ≤ 9223372036854775807)
    (hab : ¬ In64 (a + b)) (hb : 0 < b) (q r : Int) (hq : a / b = q) (hr : a % b = r) (r1 : 0 ≤ r) (r2 : r < b) (q1 : -9223372036854775808 ≤ q) (q2 : q ≤ 9223372036854775807) (hqb : In64 (q * b)) (hqr : q * b + r = a) (w : World) (htab : Tab w) :
    Calls Tryd.prog 8 #[.int .i64 a, .int .i64 b, .int .i64 k] w fun e w' => e = .returned (.bool true) ∧ Below w.heap.size w w' := by
  have PT : ∀ w, Calls Tryd.prog 14 #[.int .i64 2, .int .i64 (K : Int)] w fun e w' => e = .returned (.tuple #[.int .i64 P, .bool true]) ∧ Below w.heap.size w w' := by
    rw [← hP]; exact pow_two K hK
  have ST : ∀ w, Calls Tryd.prog 22 #[.int .i64 a, .int .i64 (K : Int)] w fun e w' => e = .returned (.tuple #[.int .i64 (kept (a * P)), .bool (fits (a * P))]) ∧ Below w.heap.size w w' := by
    rw [← hP]; exact shl_any a K
  replace PT : Hid _ := PT
  replace ST : Hid _ := ST
  clear hP
  have FT : ∀ w, Calls Tryd.prog 20 #[.int .i64 a, .int .i64 b] w fun e w' => e = .returned (.tuple #[.int .i64 q, .int .i64 r, .bool true]) ∧ Below w.heap.size w w' := by
    rw [← hq, ← hr]; exact floor_any a b a1 a2 hb b2
  replace FT : Hid _ := FT
  clear hq hr
  have AT : ∀ w, Calls Tryd.prog 9 #[.int .i64 (q * b), .int .i64 r] w fun e w' => e = .returned (.tuple #[.int .i64 a, .bool true]) ∧ Below w.heap.size w w' := add_back a q b r a1 a2 hqb hqr
  replace AT : Hid _ := AT
  clear hqr
  go_enter Tryd.func8, Tryd.ntmps8
  go_wp2_with fail
  refine (add_over a b a1 a2 b1 b2 (by unfold In64 at hab; omega) _).mono ?_
  rintro e w1 ⟨rfl, c1⟩
  go_wp2_with fail
  refine (FT.out _).mono ?_
  rintro e w2 ⟨rfl, c2⟩
  replace c2 := belowT c1 c2
  clear c1
  go_wp2_with fail
  refine (mul_fits q b q1 q2 b1 b2 hqb _).mono ?_
  rintro e w3 ⟨rfl, c3⟩
  replace c3 := belowT c2 c3
  clear c2
  go_wp2_with fail
  refine (AT.out _).mono ?_
  rintro e w4 ⟨rfl, c4⟩
  replace c4 := belowT c3 c4
  clear c3
  go_wp2_with fail
  refine (PT.out _).mono ?_
  rintro e w5 ⟨rfl, c5⟩
  replace c5 := belowT c4 c5
  clear c4
  go_wp2_with fail
  refine (ST.out _).mono ?_
  rintro e w6 ⟨rfl, c6⟩
  replace c6 := belowT c5 c6
  clear c5
  go_wp2_with fail
  refine (mul_any a P a1 a2 (by omega) (by omega) _).mono ?_
  rintro e w7 ⟨rfl, c7⟩
  replace c7 := belowT c6 c7
  clear c6
  go_wp2_with fail
  refine (awake _ (htab.below c7)).mono ?_
  rintro e w8 ⟨rfl, c8⟩
  replace c8 := belowT c7 c8
  clear c7
  go_wp2
  go_ret
  exact ⟨rfl, c8⟩

set_option maxRecDepth 100000 in
set_option maxHeartbeats 1000000 in
theorem back_no_over (a b k : Int) (K : Nat) (hm : bits .and .i64 k 31 = (K : Int)) (hK : K ≤ 31) (P : Int) (hP : 2 ^ K = P) (P1 : 0 < P) (P2 : P ≤ 2147483648) (a1 : -9223372036854775808 ≤ a) (a2 : a ≤ 9223372036854775807) (b1 : -9223372036854775808 ≤ b) (b2 : b ≤ 9223372036854775807)
    (hab : ¬ In64 (a + b)) (hb : 0 < b) (q r : Int) (hq : a / b = q) (hr : a % b = r) (r1 : 0 ≤ r) (r2 : r < b) (q1 : -9223372036854775808 ≤ q) (q2 : q ≤ 9223372036854775807) (hqb : ¬ In64 (q * b)) (w : World) (htab : Tab w) :
    Calls Tryd.prog 8 #[.int .i64 a, .int .i64 b, .int .i64 k] w fun e w' => e = .returned (.bool true) ∧ Below w.heap.size w w' := by
  have PT : ∀ w, Calls Tryd.prog 14 #[.int .i64 2, .int .i64 (K : Int)] w fun e w' => e = .returned (.tuple #[.int .i64 P, .bool true]) ∧ Below w.heap.size w w' := by
    rw [← hP]; exact pow_two K hK
  have ST : ∀ w, Calls Tryd.prog 22 #[.int .i64 a, .int .i64 (K : Int)] w fun e w' => e = .returned (.tuple #[.int .i64 (kept (a * P)), .bool (fits (a * P))]) ∧ Below w.heap.size w w' := by
    rw [← hP]; exact shl_any a K
  replace PT : Hid _ := PT
  replace ST : Hid _ := ST
  clear hP
  have FT : ∀ w, Calls Tryd.prog 20 #[.int .i64 a, .int .i64 b] w fun e w' => e = .returned (.tuple #[.int .i64 q, .int .i64 r, .bool true]) ∧ Below w.heap.size w w' := by
    rw [← hq, ← hr]; exact floor_any a b a1 a2 hb b2
  replace FT : Hid _ := FT
  clear hq hr
  go_enter Tryd.func8, Tryd.ntmps8
  go_wp2_with fail
  refine (add_over a b a1 a2 b1 b2 (by unfold In64 at hab; omega) _).mono ?_
  rintro e w1 ⟨rfl, c1⟩
  go_wp2_with fail
  refine (FT.out _).mono ?_
  rintro e w2 ⟨rfl, c2⟩
  replace c2 := belowT c1 c2
  clear c1
  go_wp2_with fail
  refine (mul_over q b q1 q2 b1 b2 hqb _).mono ?_
  rintro e w3 ⟨rfl, c3⟩
  replace c3 := belowT c2 c3
  clear c2
  go_wp2_with fail
  refine (PT.out _).mono ?_
  rintro e w4 ⟨rfl, c4⟩
  replace c4 := belowT c3 c4
  clear c3
  go_wp2_with fail
  refine (ST.out _).mono ?_
  rintro e w5 ⟨rfl, c5⟩
  replace c5 := belowT c4 c5
  clear c4
  go_wp2_with fail
  refine (mul_any a P a1 a2 (by omega) (by omega) _).mono ?_
  rintro e w6 ⟨rfl, c6⟩
  replace c6 := belowT c5 c6
  clear c5
  go_wp2_with fail
  refine (awake _ (htab.below c6)).mono ?_
  rintro e w7 ⟨rfl, c7⟩
  replace c7 := belowT c6 c7
  clear c6
  go_wp2
  go_ret
  exact ⟨rfl, c7⟩

theorem back_law (a : Int) (a1 : -9223372036854775808 ≤ a) (a2 : a ≤ 9223372036854775807) (b : Int) (b1 : -9223372036854775808 ≤ b) (b2 : b ≤ 9223372036854775807) (k : Int) (_k1 : -9223372036854775808 ≤ k) (_k2 : k ≤ 9223372036854775807) (w : World) (htab : Tab w) :
    Calls Tryd.prog 8 #[.int .i64 a, .int .i64 b, .int .i64 k] w fun e w' => e = .returned (.bool true) ∧ Below w.heap.size w w' := by
  have hm : bits .and .i64 k 31 = ((k % 32).toNat : Int) := by rw [mask5]; omega
  have hK : (k % 32).toNat ≤ 31 := by omega
  have hP := two_le _ hK
  generalize (k % 32).toNat = K at hm hK hP
  by_cases hb : b ≤ 0
  · by_cases hab : In64 (a + b)
    · exact back_yes_below a b k K hm hK _ rfl hP.1 hP.2 a1 a2 b1 b2 hab hb w htab
    · exact back_no_below a b k K hm hK _ rfl hP.1 hP.2 a1 a2 b1 b2 hab hb w htab
  · have hb' : 0 < b := by omega
    have r1 := Int.emod_nonneg a (b := b) (by omega)
    have r2 := Int.emod_lt_of_pos a hb'
    have e := Int.mul_ediv_add_emod a b
    rw [Int.mul_comm] at e
    have q12 : -9223372036854775808 ≤ a / b ∧ a / b ≤ 9223372036854775807 := by
      have h1 : a / b ≤ a.natAbs := by have := Int.natAbs_ediv_le_natAbs a b; omega
      have h2 : -(a.natAbs : Int) ≤ a / b := by have := Int.natAbs_ediv_le_natAbs a b; omega
      by_cases ha : a = -9223372036854775808
      · subst ha
        constructor
        · omega
        · have : (-9223372036854775808 : Int) / b ≤ 0 := Int.ediv_nonpos_of_nonpos_of_neg (by omega) (by omega)
          omega
      · omega
    by_cases hab : In64 (a + b)
    · by_cases hq : In64 (a / b * b)
      · exact back_yes_fits a b k K hm hK _ rfl hP.1 hP.2 a1 a2 b1 b2 hab hb' _ _ rfl rfl r1 r2 q12.1 q12.2 hq e w htab
      · exact back_yes_over a b k K hm hK _ rfl hP.1 hP.2 a1 a2 b1 b2 hab hb' _ _ rfl rfl r1 r2 q12.1 q12.2 hq w htab
    · by_cases hq : In64 (a / b * b)
      · exact back_no_fits a b k K hm hK _ rfl hP.1 hP.2 a1 a2 b1 b2 hab hb' _ _ rfl rfl r1 r2 q12.1 q12.2 hq e w htab
      · exact back_no_over a b k K hm hK _ rfl hP.1 hP.2 a1 a2 b1 b2 hab hb' _ _ rfl rfl r1 r2 q12.1 q12.2 hq w htab
end Go.Proofs.YtghhgihfgoenjaaDoor
