/-
  What package poly tells of one corner, one edge, and of rings that are asked whether they may be; in whatever memory.
-/
import Derived.Test.YtmfpkphhjfgjbabE1D
import Derived.Test.YtmfpkphhjfgjbabUD
import Derived.Test.YtmfpkphhjfgjbabPRings
import Derived.Laws.BitsAllLaws
import Derived.Handy
import Derived.Deep.QuietTactic
import Derived.Test.YtmfpkphhjfgjbabProg
import Derived.WalkSpells
import Derived.WalkLawsBesides
import Derived.BigQuiet
import Derived.PlainAid
import Derived.Deep.RegionWith
import Derived.Deep.RegionHeld3
import Derived.WalkSmall
import Derived.Deep.CutRange
import Derived.BigRegion
import Derived.OwnWalk
import Derived.Laws.OwnMore
import Derived.OneCell
import Derived.Laws.CopyOwn
import Derived.Sort.Row
import Derived.Lib.MinMax
namespace Go.Proofs.Ytmfpkphhjfgjbab
open Go.RowKit

set_option maxHeartbeats 2000000 in
theorem within_core (a b lo hi : Int) (t : Bool) (h : (decide (lo ≤ a) = false ∧ t = false) ∨ (lo ≤ a ∧ decide (a ≤ hi) = false ∧ t = false) ∨ (lo ≤ a ∧ a ≤ hi ∧ decide (lo ≤ b) = false ∧ t = false) ∨ (lo ≤ a ∧ a ≤ hi ∧ lo ≤ b ∧ decide (b ≤ hi) = false ∧ t = false) ∨ (lo ≤ a ∧ a ≤ hi ∧ lo ≤ b ∧ b ≤ hi ∧ t = true)) (w : World) :
    Calls Try.prog 18 #[.agg #[.int .i64 a, .int .i64 b], .int .i64 lo, .int .i64 hi] w fun e w' => e = .returned (.bool t) ∧ Below w.heap.size w w' := by
  rcases h with ⟨h1, rfl⟩ | ⟨h1, h2, rfl⟩ | ⟨h1, h2, h3, rfl⟩ | ⟨h1, h2, h3, h4, rfl⟩ | ⟨h1, h2, h3, h4, rfl⟩
  all_goals
    go_enter Try.func18, Try.ntmps18
    go_wp2
    go_ret
    exact ⟨rfl, by go_grown⟩

/-- WITHIN. -/
theorem p_within (a b lo hi : Int) (t : Bool) (ht : t = true ↔ lo ≤ a ∧ a ≤ hi ∧ lo ≤ b ∧ b ≤ hi) (w : World) :
    Calls Try.prog 18 #[.agg #[.int .i64 a, .int .i64 b], .int .i64 lo, .int .i64 hi] w fun e w' => e = .returned (.bool t) ∧ Below w.heap.size w w' := by
  refine within_core a b lo hi t ?_ w
  cases t
  · simp only [decide_eq_false_iff_not, and_true, and_false, or_false, Bool.false_eq_true, false_iff] at ht ⊢
    omega
  · simp only [decide_eq_false_iff_not, and_true, and_false, false_or, Bool.true_eq_false, true_iff] at ht ⊢
    omega

set_option maxHeartbeats 4000000 in
theorem turn_core (p0 p1 q0 q1 x y A B : Int) (eA : (q0 - p0) * (y - p1) = A) (eB : (q1 - p1) * (x - p0) = B) (p01 : 0 ≤ p0) (p02 : p0 < 1073741824) (p11 : 0 ≤ p1) (p12 : p1 < 1073741824) (q01 : 0 ≤ q0) (q02 : q0 < 1073741824) (q11 : 0 ≤ q1) (q12 : q1 < 1073741824) (x1 : -2147483648 ≤ x) (x2 : x ≤ 2147483648) (y1 : -2147483648 ≤ y) (y2 : y ≤ 2147483648)
    (A1 : -3458764513820540928 ≤ A) (A2 : A ≤ 3458764513820540928) (B1 : -3458764513820540928 ≤ B) (B2 : B ≤ 3458764513820540928) (w : World) :
    Calls Try.prog 10 #[.agg #[.int .i64 p0, .int .i64 p1, .int .i64 q0, .int .i64 q1], .agg #[.int .i64 x, .int .i64 y]] w fun e w' => e = .returned (.int .i64 (A - B)) ∧ Below w.heap.size w w' := by
  go_enter Try.func10, Try.ntmps10
  go_wp2
  go_ret
  exact ⟨rfl, by go_grown⟩

theorem prod_far {a b : Int} (a0 : -1073741824 < a) (a1 : a < 1073741824) (b0 : -3221225472 ≤ b) (b1 : b ≤ 3221225472) : -3458764513820540928 ≤ a * b ∧ a * b ≤ 3458764513820540928 := by
  have h : (a * b).natAbs ≤ 1073741824 * 3221225472 := by
    rw [Int.natAbs_mul]
    exact Nat.mul_le_mul (by omega) (by omega)
  omega

/-- TURN: on which side. -/
theorem p_turn {p q : Int × Int} {x y : Int} (hp : InWo p) (hq : InWo q) (hf : ¬ Far x y) (w : World) :
    Calls Try.prog 10 #[.agg #[.int .i64 p.1, .int .i64 p.2, .int .i64 q.1, .int .i64 q.2], .agg #[.int .i64 x, .int .i64 y]] w fun e w' => e = .returned (.int .i64 (crs p q x y)) ∧ Below w.heap.size w w' := by
  unfold InWo at hp hq
  unfold Far at hf
  have h1 := prod_far (a := q.1 - p.1) (b := y - p.2) (by omega) (by omega) (by omega) (by omega)
  have h2 := prod_far (a := q.2 - p.2) (b := x - p.1) (by omega) (by omega) (by omega) (by omega)
  exact turn_core p.1 p.2 q.1 q.2 x y _ _ rfl rfl (by omega) (by omega) (by omega) (by omega) (by omega) (by omega) (by omega) (by omega) (by omega) (by omega) (by omega) (by omega) h1.1 h1.2 h2.1 h2.2 w

set_option maxHeartbeats 4000000 in
theorem right_core (p0 p1 q0 q1 x y u v : Int) (t : Bool)
    (h : (decide (q1 < p1) = false ∧ ((decide (p1 ≤ y) = false ∧ t = false) ∨ (p1 ≤ y ∧ decide (y < q1) = false ∧ t = false) ∨ (p1 ≤ y ∧ y < q1 ∧ decide (0 < u) = t))) ∨
      (q1 < p1 ∧ ((decide (q1 ≤ y) = false ∧ t = false) ∨ (q1 ≤ y ∧ decide (y < p1) = false ∧ t = false) ∨ (q1 ≤ y ∧ y < p1 ∧ decide (0 < v) = t))))
    (T1 : ∀ w, Calls Try.prog 10 #[.agg #[.int .i64 p0, .int .i64 p1, .int .i64 q0, .int .i64 q1], .agg #[.int .i64 x, .int .i64 y]] w fun e w' => e = .returned (.int .i64 u) ∧ Below w.heap.size w w')
    (T2 : ∀ w, Calls Try.prog 10 #[.agg #[.int .i64 q0, .int .i64 q1, .int .i64 p0, .int .i64 p1], .agg #[.int .i64 x, .int .i64 y]] w fun e w' => e = .returned (.int .i64 v) ∧ Below w.heap.size w w') (w : World) :
    Calls Try.prog 14 #[.agg #[.int .i64 p0, .int .i64 p1, .int .i64 q0, .int .i64 q1], .agg #[.int .i64 x, .int .i64 y]] w fun e w' => e = .returned (.bool t) ∧ Below w.heap.size w w' := by
  replace T1 : Hid _ := T1
  replace T2 : Hid _ := T2
  rcases h with ⟨h1, (⟨h2, rfl⟩ | ⟨h2, h3, rfl⟩ | ⟨h2, h3, rfl⟩)⟩ | ⟨h1, (⟨h2, rfl⟩ | ⟨h2, h3, rfl⟩ | ⟨h2, h3, rfl⟩)⟩
  all_goals
    go_enter Try.func14, Try.ntmps14
    go_wp2_with fail
  · go_ret
    exact ⟨rfl, by go_grown⟩
  · go_ret
    exact ⟨rfl, by go_grown⟩
  · refine (T1.out _).mono ?_
    rintro e w1 ⟨rfl, b1⟩
    go_wp2_with fail
    go_ret
    exact ⟨rfl, Below.trans (by go_grown) (b1.mono (by simp; omega))⟩
  · go_ret
    exact ⟨rfl, by go_grown⟩
  · go_ret
    exact ⟨rfl, by go_grown⟩
  · refine (T2.out _).mono ?_
    rintro e w1 ⟨rfl, b1⟩
    go_wp2_with fail
    go_ret
    exact ⟨rfl, Below.trans (by go_grown) (b1.mono (by simp; omega))⟩

/-- ISRIGHTOF: whether the edge crosses the point's row right of it. -/
theorem p_right {p q : Int × Int} {x y : Int} (hp : InWo p) (hq : InWo q) (hf : ¬ Far x y) (w : World) :
    Calls Try.prog 14 #[.agg #[.int .i64 p.1, .int .i64 p.2, .int .i64 q.1, .int .i64 q.2], .agg #[.int .i64 x, .int .i64 y]] w fun e w' => e = .returned (.bool (crB p q x y)) ∧ Below w.heap.size w w' := by
  refine right_core p.1 p.2 q.1 q.2 x y (crs p q x y) (crs q p x y) (crB p q x y) ?_ (fun w => p_turn hp hq hf w) (fun w => p_turn hq hp hf w) w
  have e1 : crB p q x y = decide ((p.2 ≤ y ∧ y < q.2 ∧ 0 < crs p q x y) ∨ (y < p.2 ∧ q.2 ≤ y ∧ crs p q x y < 0)) := bool_iff (by rw [crB_iff, decide_eq_true_eq])
  have e2 := crs_swap p q x y
  rw [e1, e2]
  generalize crs p q x y = c
  simp only [decide_eq_false_iff_not, decide_eq_decide]
  omega

theorem pair_ix0 (a b : Value) (w : World) : (Instr.index 22 (.agg #[a, b]) (.int .i64 0)).run Try.prog w = .ok a w := by kernel_rfl

theorem pair_ix1 (a b : Value) (w : World) : (Instr.index 22 (.agg #[a, b]) (.int .i64 1)).run Try.prog w = .ok b w := by kernel_rfl

set_option maxHeartbeats 8000000 in
theorem holds_core (p0 p1 q0 q1 x y u : Int) (t : Bool) (ht : t = true ↔ min p0 q0 ≤ x ∧ x ≤ max p0 q0 ∧ min p1 q1 ≤ y ∧ y ≤ max p1 q1 ∧ u = 0)
    (T1 : ∀ w, Calls Try.prog 10 #[.agg #[.int .i64 p0, .int .i64 p1, .int .i64 q0, .int .i64 q1], .agg #[.int .i64 x, .int .i64 y]] w fun e w' => e = .returned (.int .i64 u) ∧ Below w.heap.size w w') (w : World) :
    Calls Try.prog 13 #[.agg #[.int .i64 p0, .int .i64 p1, .int .i64 q0, .int .i64 q1], .agg #[.int .i64 x, .int .i64 y]] w fun e w' => e = .returned (.bool t) ∧ Below w.heap.size w w' := by
  replace T1 : Hid _ := T1
  have ix0 := pair_ix0 (.int .i64 x) (.int .i64 y)
  have ix1 := pair_ix1 (.int .i64 x) (.int .i64 y)
  have HT : Hid (t = true ↔ min p0 q0 ≤ x ∧ x ≤ max p0 q0 ∧ min p1 q1 ≤ y ∧ y ≤ max p1 q1 ∧ u = 0) := hidd ht
  clear ht
  have B2 := hidd (belowT (allocB w (.cells #[.int .i64 p0, .int .i64 p1, .int .i64 q0, .int .i64 q1] 34)) (allocB _ (.cells #[.int .i64 x, .int .i64 y] 22)))
  go_enter Try.func13, Try.ntmps13
  go_wp2_with fail
  have rc : ((w.alloc (.cells #[.int .i64 p0, .int .i64 p1, .int .i64 q0, .int .i64 q1] 34)).alloc (.cells #[.int .i64 x, .int .i64 y] 22)).cell? ⟨w.heap.size, 0, none⟩ = some (.int .i64 p0) ∧
      ((w.alloc (.cells #[.int .i64 p0, .int .i64 p1, .int .i64 q0, .int .i64 q1] 34)).alloc (.cells #[.int .i64 x, .int .i64 y] 22)).cell? ⟨w.heap.size, 1, none⟩ = some (.int .i64 p1) ∧
      ((w.alloc (.cells #[.int .i64 p0, .int .i64 p1, .int .i64 q0, .int .i64 q1] 34)).alloc (.cells #[.int .i64 x, .int .i64 y] 22)).cell? ⟨w.heap.size, 2, none⟩ = some (.int .i64 q0) ∧
      ((w.alloc (.cells #[.int .i64 p0, .int .i64 p1, .int .i64 q0, .int .i64 q1] 34)).alloc (.cells #[.int .i64 x, .int .i64 y] 22)).cell? ⟨w.heap.size, 3, none⟩ = some (.int .i64 q1) ∧
      ((w.alloc (.cells #[.int .i64 p0, .int .i64 p1, .int .i64 q0, .int .i64 q1] 34)).alloc (.cells #[.int .i64 x, .int .i64 y] 22)).cell? ⟨w.heap.size + 1, 0, none⟩ = some (.int .i64 x) ∧
      ((w.alloc (.cells #[.int .i64 p0, .int .i64 p1, .int .i64 q0, .int .i64 q1] 34)).alloc (.cells #[.int .i64 x, .int .i64 y] 22)).cell? ⟨w.heap.size + 1, 1, none⟩ = some (.int .i64 y) := ⟨by go_simp, by go_simp, by go_simp, by go_simp, by go_simp, by go_simp⟩
  generalize (w.alloc (.cells #[.int .i64 p0, .int .i64 p1, .int .i64 q0, .int .i64 q1] 34)).alloc (.cells #[.int .i64 x, .int .i64 y] 22) = W at *
  obtain ⟨a0, a1, a2, a3, c0, c1⟩ := rc
  go_loopw [8] (fun v8 wr => ∃ k : Nat, k ≤ 2 ∧ v8 = .int .i64 (k : Int) ∧ Hid (1 ≤ k → min p0 q0 ≤ x ∧ x ≤ max p0 q0) ∧ Hid (2 ≤ k → min p1 q1 ≤ y ∧ y ≤ max p1 q1) ∧ Below W.heap.size W wr) (fun v8 _ => 2 - (intOf v8).toNat)
  case atStart => exact ⟨0, by omega, rfl, hidd (by omega), hidd (by omega), Below.refl _ _⟩
  case round =>
    obtain ⟨k, hk, rfl, HA, HC, hB⟩ := hrel
    replace a0 := keepCell hB a0
    replace a1 := keepCell hB a1
    replace a2 := keepCell hB a2
    replace a3 := keepCell hB a3
    replace c0 := keepCell hB c0
    replace c1 := keepCell hB c1
    obtain rfl | rfl | rfl : k = 0 ∨ k = 1 ∨ k = 2 := by omega
    · have hw : x < min p0 q0 ∨ (decide (x < min p0 q0) = false ∧ max p0 q0 < x) ∨ (decide (x < min p0 q0) = false ∧ decide (max p0 q0 < x) = false) := by
        simp only [decide_eq_false_iff_not]; omega
      rcases hw with h1 | ⟨h1, h2⟩ | ⟨h1, h2⟩
      · have e : t = false := by
          cases ee : t with
          | false => rfl
          | true => have := HT.out.1 ee; omega
        subst e
        clear HT HA HC
        go_wp2_with fail
        go_quiet (fail)
        go_wp2_with fail
        go_ret
        exact ⟨rfl, belowT B2.out (belowN hB _)⟩
      · have e : t = false := by
          cases ee : t with
          | false => rfl
          | true => have := HT.out.1 ee; omega
        subst e
        clear HT HA HC
        go_wp2_with fail
        go_quiet (fail)
        go_wp2_with fail
        go_ret
        exact ⟨rfl, belowT B2.out (belowN hB _)⟩
      · have HA2 : Hid (1 ≤ 0 + 1 → min p0 q0 ≤ x ∧ x ≤ max p0 q0) := hidd (by simp only [decide_eq_false_iff_not] at h1 h2; omega)
        clear HT HA HC
        go_wp2_with fail
        go_quiet (fail)
        go_wp2_with fail
        go_roundw
        case rel => exact ⟨1, by omega, by go_num, HA2, hidd (by omega), belowN hB _⟩
        case measure => simp [intOf]
    · have hw : y < min p1 q1 ∨ (decide (y < min p1 q1) = false ∧ max p1 q1 < y) ∨ (decide (y < min p1 q1) = false ∧ decide (max p1 q1 < y) = false) := by
        simp only [decide_eq_false_iff_not]; omega
      rcases hw with h1 | ⟨h1, h2⟩ | ⟨h1, h2⟩
      · have e : t = false := by
          cases ee : t with
          | false => rfl
          | true => have := HT.out.1 ee; omega
        subst e
        clear HT HA HC
        go_wp2_with fail
        go_quiet (fail)
        go_wp2_with fail
        go_ret
        exact ⟨rfl, belowT B2.out (belowN hB _)⟩
      · have e : t = false := by
          cases ee : t with
          | false => rfl
          | true => have := HT.out.1 ee; omega
        subst e
        clear HT HA HC
        go_wp2_with fail
        go_quiet (fail)
        go_wp2_with fail
        go_ret
        exact ⟨rfl, belowT B2.out (belowN hB _)⟩
      · have HC2 : Hid (2 ≤ 1 + 1 → min p1 q1 ≤ y ∧ y ≤ max p1 q1) := hidd (by simp only [decide_eq_false_iff_not] at h1 h2; omega)
        have HA2 : Hid (1 ≤ 2 → min p0 q0 ≤ x ∧ x ≤ max p0 q0) := hidd fun _ => HA.out (by omega)
        clear HT HA HC
        go_wp2_with fail
        go_quiet (fail)
        go_wp2_with fail
        go_roundw
        case rel => exact ⟨2, by omega, by go_num, HA2, HC2, belowN hB _⟩
        case measure => simp [intOf]
    · have e : (u == 0) = t := by
        have h1 := HA.out (by omega)
        have h2 := HC.out (by omega)
        have h3 := HT.out
        cases t
        · simp only [Bool.false_eq_true, false_iff] at h3
          simp; omega
        · simp only [true_iff] at h3
          simp; omega
      clear HT HA HC
      go_wp2_with fail
      refine (T1.out _).mono ?_
      rintro e w1 ⟨rfl, b1⟩
      go_wp2_with fail
      go_ret
      exact ⟨rfl, belowT B2.out (belowT hB b1)⟩

theorem p_holds {p q : Int × Int} {x y : Int} (hp : InWo p) (hq : InWo q) (hf : ¬ Far x y) (w : World) :
    Calls Try.prog 13 #[.agg #[.int .i64 p.1, .int .i64 p.2, .int .i64 q.1, .int .i64 q.2], .agg #[.int .i64 x, .int .i64 y]] w fun e w' => e = .returned (.bool (onB p q x y)) ∧ Below w.heap.size w w' :=
  holds_core p.1 p.2 q.1 q.2 x y (crs p q x y) (onB p q x y) (by rw [onB_iff]; exact ⟨fun ⟨a, b, c, d, e⟩ => ⟨b, c, d, e, a⟩, fun ⟨b, c, d, e, a⟩ => ⟨a, b, c, d, e⟩⟩) (fun w => p_turn hp hq hf w) w

end Go.Proofs.Ytmfpkphhjfgjbab
