/-
  What the document's own product of two numbers tells (Times), for any two numbers of 64 bits, in whatever memory: the whole product in its halves.
-/
import Derived.Test.YtlipbdiijjfheaaGreatDoorWide
import Derived.Test.YtlipbdiijjfheaaGreatDoorMul64
namespace Go.Proofs.YtlipbdiijjfheaaGreatDoor
open Go.RowKit Go.Shelf

set_option maxHeartbeats 400000 in
theorem times_pp (a b s t : Int) (ha : ¬ a < 0) (hb : ¬ b < 0) (a2 : a ≤ 9223372036854775807) (b2 : b ≤ 9223372036854775807)
    (M : ∀ w, Calls Tryz.prog 88 #[.int .u64 a, .int .u64 b] w fun e w' => e = .returned (.tuple #[.int .u64 s, .int .u64 t]) ∧ w' = w) (w : World) :
    Calls Tryz.prog 62 #[.int .i64 a, .int .i64 b] w fun e w' => e = .returned (.agg #[.int .u64 s, .int .u64 t]) ∧ Below w.heap.size w w' := by
  have ha' := df ha
  have hb' := df hb
  replace M : Hid _ := M
  go_enter Tryz.func62, Tryz.ntmps62
  go_wp2_with fail
  refine (M.out _).mono ?_
  rintro e w1 ⟨rfl, rfl⟩
  go_wp2
  go_returns
  exact ⟨rfl, by go_grown⟩

set_option maxHeartbeats 400000 in
theorem times_nn (a b x y p q s t : Int) (ha : a < 0) (hb : b < 0) (hx : IntKind.u64.wrap a = x) (hy : IntKind.u64.wrap b = y) (hp : IntKind.u64.wrap (-x) = p) (hq : IntKind.u64.wrap (-y) = q)
    (M : ∀ w, Calls Tryz.prog 88 #[.int .u64 p, .int .u64 q] w fun e w' => e = .returned (.tuple #[.int .u64 s, .int .u64 t]) ∧ w' = w) (w : World) :
    Calls Tryz.prog 62 #[.int .i64 a, .int .i64 b] w fun e w' => e = .returned (.agg #[.int .u64 s, .int .u64 t]) ∧ Below w.heap.size w w' := by
  replace M : Hid _ := M
  go_enter Tryz.func62, Tryz.ntmps62
  go_wp2_with fail
  refine (M.out _).mono ?_
  rintro e w1 ⟨rfl, rfl⟩
  go_wp2
  go_returns
  exact ⟨rfl, by go_grown⟩

set_option maxHeartbeats 400000 in
theorem times_pn (a b y q s t u v : Int) (ha : ¬ a < 0) (hb : b < 0) (a2 : a ≤ 9223372036854775807) (hy : IntKind.u64.wrap b = y) (hq : IntKind.u64.wrap (-y) = q)
    (M : ∀ w, Calls Tryz.prog 88 #[.int .u64 a, .int .u64 q] w fun e w' => e = .returned (.tuple #[.int .u64 s, .int .u64 t]) ∧ w' = w)
    (TU : ∀ w, Calls Tryz.prog 65 #[.agg #[.int .u64 s, .int .u64 t]] w fun e w' => e = .returned (.agg #[.int .u64 u, .int .u64 v]) ∧ Below w.heap.size w w') (w : World) :
    Calls Tryz.prog 62 #[.int .i64 a, .int .i64 b] w fun e w' => e = .returned (.agg #[.int .u64 u, .int .u64 v]) ∧ Below w.heap.size w w' := by
  have ha' := df ha
  replace M : Hid _ := M
  replace TU : Hid _ := TU
  go_enter Tryz.func62, Tryz.ntmps62
  go_wp2_with fail
  refine (M.out _).mono ?_
  rintro e w1 ⟨rfl, rfl⟩
  go_wp2_with fail
  refine (TU.out _).mono ?_
  rintro e w2 ⟨rfl, hb2⟩
  have c0 : w2.cell? ⟨w.heap.size, 0, none⟩ = some (.int .u64 0) := by rw [hb2.cell (p := ⟨w.heap.size, 0, none⟩) (by simp)]; go_simp
  have c1 : w2.cell? ⟨w.heap.size, 1, none⟩ = some (.int .u64 0) := by rw [hb2.cell (p := ⟨w.heap.size, 1, none⟩) (by simp)]; go_simp
  have f0 : w2.frozen? ⟨w.heap.size, 0, none⟩ = false := by rw [hb2.frozen (p := ⟨w.heap.size, 0, none⟩) (by simp)]; go_simp
  have f1 : w2.frozen? ⟨w.heap.size, 1, none⟩ = false := by rw [hb2.frozen (p := ⟨w.heap.size, 1, none⟩) (by simp)]; go_simp
  obtain ⟨g0, g1⟩ := two_stores (u := .int .u64 u) (v := .int .u64 v) c0 c1
  go_wp2
  exact bodyPost_ret (v := .agg #[.int .u64 u, .int .u64 v]) (by simp [results, Tryz.results62, go_sem, g0, g1]) rfl
    ⟨rfl, (((((Below.refl _ _).alloc (Nat.le_refl _) _).trans (hb2.mono (by simp))).setCell (by simp) _).setCell (by simp) _)⟩

set_option maxHeartbeats 400000 in
theorem times_np (a b x p s t u v : Int) (ha : a < 0) (hb : ¬ b < 0) (b2 : b ≤ 9223372036854775807) (hx : IntKind.u64.wrap a = x) (hp : IntKind.u64.wrap (-x) = p)
    (M : ∀ w, Calls Tryz.prog 88 #[.int .u64 p, .int .u64 b] w fun e w' => e = .returned (.tuple #[.int .u64 s, .int .u64 t]) ∧ w' = w)
    (TU : ∀ w, Calls Tryz.prog 65 #[.agg #[.int .u64 s, .int .u64 t]] w fun e w' => e = .returned (.agg #[.int .u64 u, .int .u64 v]) ∧ Below w.heap.size w w') (w : World) :
    Calls Tryz.prog 62 #[.int .i64 a, .int .i64 b] w fun e w' => e = .returned (.agg #[.int .u64 u, .int .u64 v]) ∧ Below w.heap.size w w' := by
  have hb' := df hb
  replace M : Hid _ := M
  replace TU : Hid _ := TU
  go_enter Tryz.func62, Tryz.ntmps62
  go_wp2_with fail
  refine (M.out _).mono ?_
  rintro e w1 ⟨rfl, rfl⟩
  go_wp2_with fail
  refine (TU.out _).mono ?_
  rintro e w2 ⟨rfl, hb2⟩
  have c0 : w2.cell? ⟨w.heap.size, 0, none⟩ = some (.int .u64 0) := by rw [hb2.cell (p := ⟨w.heap.size, 0, none⟩) (by simp)]; go_simp
  have c1 : w2.cell? ⟨w.heap.size, 1, none⟩ = some (.int .u64 0) := by rw [hb2.cell (p := ⟨w.heap.size, 1, none⟩) (by simp)]; go_simp
  have f0 : w2.frozen? ⟨w.heap.size, 0, none⟩ = false := by rw [hb2.frozen (p := ⟨w.heap.size, 0, none⟩) (by simp)]; go_simp
  have f1 : w2.frozen? ⟨w.heap.size, 1, none⟩ = false := by rw [hb2.frozen (p := ⟨w.heap.size, 1, none⟩) (by simp)]; go_simp
  obtain ⟨g0, g1⟩ := two_stores (u := .int .u64 u) (v := .int .u64 v) c0 c1
  go_wp2
  exact bodyPost_ret (v := .agg #[.int .u64 u, .int .u64 v]) (by simp [results, Tryz.results62, go_sem, g0, g1]) rfl
    ⟨rfl, (((((Below.refl _ _).alloc (Nat.le_refl _) _).trans (hb2.mono (by simp))).setCell (by simp) _).setCell (by simp) _)⟩

theorem prod_bd (a b : Int) (a1 : -9223372036854775808 ≤ a) (a2 : a ≤ 9223372036854775807) (b1 : -9223372036854775808 ≤ b) (b2 : b ≤ 9223372036854775807) :
    -170141183460469231731687303715884105728 ≤ a * b ∧ a * b < 170141183460469231731687303715884105728 := by
  have h : (a * b).natAbs ≤ 9223372036854775808 * 9223372036854775808 := by
    rw [Int.natAbs_mul]; exact Nat.mul_le_mul (by omega) (by omega)
  omega

theorem u64_of_neg (a : Int) (h : a < 0) (h1 : -9223372036854775808 ≤ a) : IntKind.u64.wrap (-(IntKind.u64.wrap a)) = -a := by
  rw [IntKind.wrap_u64, IntKind.wrap_u64]; omega

/-- TIMES: the product, in its halves. -/
theorem times_any (a b : Int) (a1 : -9223372036854775808 ≤ a) (a2 : a ≤ 9223372036854775807) (b1 : -9223372036854775808 ≤ b) (b2 : b ≤ 9223372036854775807) (w : World) :
    Calls Tryz.prog 62 #[.int .i64 a, .int .i64 b] w fun e w' => e = .returned (.agg #[.int .u64 (high64 (a * b)), .int .u64 (low64 (a * b))]) ∧ Below w.heap.size w w' := by
  by_cases ha : a < 0
  · by_cases hb : b < 0
    · have e : a * b = (-a) * (-b) := by rw [Int.neg_mul_neg]
      rw [e]
      exact times_nn a b _ _ _ _ _ _ ha hb rfl rfl (u64_of_neg a ha a1) (u64_of_neg b hb b1) (mul64_any (-a) (-b) (by omega) (by omega) (by omega) (by omega)) w
    · have e : a * b = -((-a) * b) := by rw [Int.neg_mul, Int.neg_neg]
      rw [e]
      exact times_np a b _ _ _ _ _ _ ha hb b2 rfl (u64_of_neg a ha a1) (mul64_any (-a) b (by omega) (by omega) (by omega) (by omega)) (turned_any _) w
  · by_cases hb : b < 0
    · have e : a * b = -(a * (-b)) := by rw [Int.mul_neg, Int.neg_neg]
      rw [e]
      exact times_pn a b _ _ _ _ _ _ ha hb a2 rfl (u64_of_neg b hb b1) (mul64_any a (-b) (by omega) (by omega) (by omega) (by omega)) (turned_any _) w
    · exact times_pp a b _ _ ha hb a2 b2 (mul64_any a b (by omega) (by omega) (by omega) (by omega)) w
end Go.Proofs.YtlipbdiijjfheaaGreatDoor
