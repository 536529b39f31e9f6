/-
  The law PlaneBounds answers true for every two numbers, in whatever memory where the package's table of ways holds what its text lays: numbers of the lattice, points and sizes are taken up to their bounds and no further.
-/
import Derived.Test.YtchcidhcefblpaaDoorPWidth
import Derived.Test.YtchcidhcefblpaaDoorPHex
import Derived.Test.YtchcidhcefblpaaDoorPPoint
namespace Go.Proofs.YtchcidhcefblpaaDoor
open Go.RowKit

theorem pcentre_bool (a b r : Int) (K : Nat) (hK : K ≤ 12) (hr : 12 - r = (K : Int)) (v : Bool) (hv : decide ((-1073741824 ≤ a ∧ a ≤ 1073741824) ∧ (-1073741824 ≤ b ∧ b ≤ 1073741824)) = v) (w : World) :
    Calls Tryd.prog 5 #[.agg #[.int .i64 a, .int .i64 b], .int .i64 r] w fun e w' => (∃ p q : Int, e = .returned (.tuple #[.int .i64 p, .int .i64 q, .bool v])) ∧ Below w.heap.size w w' := by
  by_cases h : (-1073741824 ≤ a ∧ a ≤ 1073741824) ∧ (-1073741824 ≤ b ∧ b ≤ 1073741824)
  · obtain rfl : v = true := hv.symm.trans (decide_eq_true h)
    exact (pcentre_yes a b r K hK hr h.1 h.2 w).mono fun e w' ⟨he, hb⟩ => ⟨⟨_, _, he⟩, hb⟩
  · obtain rfl : v = false := hv.symm.trans (decide_eq_false h)
    exact (pcentre_no a b r (fun k => h k.2) w).mono fun e w' ⟨he, hb⟩ => ⟨⟨_, _, he⟩, hb⟩
theorem phex_bool (a b r : Int) (K : Nat) (hK : K ≤ 12) (hr : 12 - r = (K : Int)) (v : Bool) (hv : decide ((-1073741824 ≤ a ∧ a ≤ 1073741824) ∧ (-1073741824 ≤ b ∧ b ≤ 1073741824)) = v) (w : World) (hW : Ways w) :
    Calls Tryd.prog 6 #[.agg #[.int .i64 a, .int .i64 b], .int .i64 r] w fun e w' => (∃ s : Value, e = .returned (.tuple #[s, .bool v])) ∧ Below w.heap.size w w' := by
  by_cases h : (-1073741824 ≤ a ∧ a ≤ 1073741824) ∧ (-1073741824 ≤ b ∧ b ≤ 1073741824)
  · obtain rfl : v = true := hv.symm.trans (decide_eq_true h)
    exact (phex_yes a b r K hK hr h.1 h.2 w hW).mono fun e w' ⟨⟨Bk, _, he, _⟩, hb⟩ => ⟨⟨_, he⟩, hb⟩
  · obtain rfl : v = false := hv.symm.trans (decide_eq_false h)
    exact (phex_no a b r (fun k => h k.2) w).mono fun e w' ⟨he, hb⟩ => ⟨⟨_, he⟩, hb⟩
theorem pnear_bool (x y r : Int) (K : Nat) (hK : K ≤ 12) (hr : 12 - r = (K : Int)) (v : Bool) (hv : inWB x y = v) (w : World) :
    Calls Tryd.prog 7 #[.int .i64 x, .int .i64 y, .int .i64 r] w fun e w' => (∃ a b : Int, e = .returned (.tuple #[.agg #[.int .i64 a, .int .i64 b], .bool v])) ∧ Below w.heap.size w w' := by
  cases v with
  | true => exact (pnear_see x y r K hK hr (inWB_yes hv) w).mono fun e w' ⟨⟨a, b, he, _⟩, hb⟩ => ⟨⟨_, _, he⟩, hb⟩
  | false => exact (pnear_no x y r (fun k => inWB_no hv k.1) w).mono fun e w' ⟨he, hb⟩ => ⟨⟨_, _, he⟩, hb⟩
theorem bok1 (w : World) : Calls Tryd.prog 8 #[.int .i64 0, .int .i64 0] w fun e w' => e = .returned (.bool true) ∧ w' = w := pok_any _ _ w
theorem bok2 (w : World) : Calls Tryd.prog 8 #[.int .i64 (-1), .int .i64 0] w fun e w' => e = .returned (.bool false) ∧ w' = w := pok_any _ _ w

set_option maxHeartbeats 2000000 in
set_option maxRecDepth 20000 in
theorem bounds_core (k0 r0 m k t r : Int) (s : Bool) (hm : bits .and .i64 k0 7 = m) (hk : m - 3 = k) (m1 : 0 ≤ m) (m2 : m ≤ 7) (ht : r0.tmod 13 = t) (hr : (t + 13).tmod 13 = r) (t1 : -13 < t) (t2 : t < 13) (r1 : 0 ≤ r) (r2 : r ≤ 12)
    (hs : decide (k ≤ 0) = s)
    (C1 : ∀ w, Calls Tryd.prog 5 #[.agg #[.int .i64 (1073741824 + k), .int .i64 0], .int .i64 r] w fun e w' => (∃ p q : Int, e = .returned (.tuple #[.int .i64 p, .int .i64 q, .bool s])) ∧ Below w.heap.size w w')
    (H1 : ∀ w, Ways w → Calls Tryd.prog 6 #[.agg #[.int .i64 0, .int .i64 (-1073741824 - k)], .int .i64 r] w fun e w' => (∃ v : Value, e = .returned (.tuple #[v, .bool s])) ∧ Below w.heap.size w w')
    (N1 : ∀ w, Calls Tryd.prog 7 #[.int .i64 (1073741823 + k), .int .i64 5, .int .i64 r] w fun e w' => (∃ a b : Int, e = .returned (.tuple #[.agg #[.int .i64 a, .int .i64 b], .bool s])) ∧ Below w.heap.size w w')
    (N2 : ∀ w, Calls Tryd.prog 7 #[.int .i64 5, .int .i64 (-k), .int .i64 r] w fun e w' => (∃ a b : Int, e = .returned (.tuple #[.agg #[.int .i64 a, .int .i64 b], .bool s])) ∧ Below w.heap.size w w')
    (N3 : ∀ w, Calls Tryd.prog 7 #[.int .i64 5, .int .i64 5, .int .i64 (r + 13)] w fun e w' => e = .returned (.tuple #[.agg #[.int .i64 0, .int .i64 0], .bool false]) ∧ Below w.heap.size w w')
    (w : World) (hW : Ways w) :
    Calls Tryd.prog 3 #[.int .i64 k0, .int .i64 r0] w fun e w' => e = .returned (.bool true) ∧ Below w.heap.size w w' := by
  have k1 : -3 ≤ k := by omega
  have k2 : k ≤ 4 := by omega
  replace C1 : Hid _ := C1
  replace H1 : Hid _ := H1
  replace N1 : Hid _ := N1
  replace N2 : Hid _ := N2
  replace N3 : Hid _ := N3
  have hW0 : Hid (Ways w) := hW
  clear hW
  go_enter Tryd.func3, Tryd.ntmps3
  go_wp2_with fail
  refine (C1.out _).mono ?_
  rintro e w1 ⟨⟨xa, ya, rfl⟩, d1⟩
  have c1 : Below w.heap.size w w1 := Below.trans (by go_grown) (d1.mono (by simp; try omega))
  have hB := c1
  clear c1 d1
  go_wp2_with fail
  refine (H1.out _ ?_).mono ?_
  · exact hW0.out.below (belowT hB (by go_grown))
  rintro e w2 ⟨⟨sv, rfl⟩, d2⟩
  have c2 : Below w1.heap.size w1 w2 := Below.trans (by go_grown) (d2.mono (by simp; try omega))
  replace hB := belowT hB c2
  clear c2 d2
  go_wp2_with fail
  refine (N1.out _).mono ?_
  rintro e w3 ⟨⟨xc, yc, rfl⟩, d3⟩
  have c3 : Below w2.heap.size w2 w3 := Below.trans (by go_grown) (d3.mono (by simp; try omega))
  replace hB := belowT hB c3
  clear c3 d3
  go_wp2_with fail
  refine (N2.out _).mono ?_
  rintro e w4 ⟨⟨xd, yd, rfl⟩, d4⟩
  have c4 : Below w3.heap.size w3 w4 := Below.trans (by go_grown) (d4.mono (by simp; try omega))
  replace hB := belowT hB c4
  clear c4 d4
  go_wp2_with fail
  refine (N3.out _).mono ?_
  rintro e w5 ⟨rfl, d5⟩
  have c5 : Below w4.heap.size w4 w5 := Below.trans (by go_grown) (d5.mono (by simp; try omega))
  replace hB := belowT hB c5
  clear c5 d5
  go_wp2_with fail
  refine (bok1 _).mono ?_
  rintro e w9 ⟨rfl, rfl⟩
  go_wp2_with fail
  refine (bok2 _).mono ?_
  rintro e w9 ⟨rfl, rfl⟩
  go_wp2_with fail
  refine (awake3 _).mono ?_
  rintro e w6 ⟨rfl, d6⟩
  have c6 : Below w5.heap.size w5 w6 := Below.trans (by go_grown) (d6.mono (by simp; try omega))
  replace hB := belowT hB c6
  clear c6 d6
  go_wp2
  go_ret
  exact ⟨rfl, hB⟩

theorem planeBounds_walk (k0 r0 : Int) (w : World) (hW : Ways w) :
    Calls Tryd.prog 3 #[.int .i64 k0, .int .i64 r0] w fun e w' => e = .returned (.bool true) ∧ Below w.heap.size w w' := by
  have bm : 0 ≤ bits .and .i64 k0 7 ∧ bits .and .i64 k0 7 ≤ 7 := by rw [mask3]; omega
  obtain ⟨t, r, K, ht, hr, t1, t2, hK, hs⟩ := size13 r0
  refine bounds_core k0 r0 _ _ t r _ rfl rfl bm.1 bm.2 ht hr t1 t2 (by omega) (by omega) rfl (pcentre_bool _ _ r K hK hs _ ?_) (phex_bool _ _ r K hK hs _ ?_) (pnear_bool _ _ r K hK hs _ ?_) (pnear_bool _ _ r K hK hs _ ?_) (pnear_no _ _ _ (by omega)) w hW
  all_goals
    try unfold inWB
    congr 1
    apply propext
    omega

end Go.Proofs.YtchcidhcefblpaaDoor
