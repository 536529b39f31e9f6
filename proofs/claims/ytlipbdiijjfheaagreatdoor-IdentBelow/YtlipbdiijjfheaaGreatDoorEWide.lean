/-
  What the wide numbers of package eisen tell (product, plus, minus, narrow), for any whole numbers in their halves, in whatever memory.
-/
import Derived.Test.YtlipbdiijjfheaaGreatDoorMul64
namespace Go.Proofs.YtlipbdiijjfheaaGreatDoor
open Go.RowKit Go.Shelf

set_option maxHeartbeats 400000 in
theorem eplus_raw (a b c d s cy t u : Int) (a1 : 0 ≤ a) (b1 : 0 ≤ b) (c1 : 0 ≤ c) (d1 : 0 ≤ d) (hs : (b + d + 0) % 18446744073709551616 = s) (hcy : (b + d + 0) / 18446744073709551616 = cy) (cy0 : 0 ≤ cy) (cy1 : cy ≤ 1)
    (ht : (a + c + cy) % 18446744073709551616 = t) (hu : (a + c + cy) / 18446744073709551616 = u) (w : World) :
    Calls Tryz.prog 110 #[.agg #[.int .u64 a, .int .u64 b], .agg #[.int .u64 c, .int .u64 d]] w fun e w' => e = .returned (.agg #[.int .u64 t, .int .u64 s]) ∧ Below w.heap.size w w' := by
  have f1 := fun w => callAdd b d 0 b1 d1 (by omega) (by omega) w
  rw [hs, hcy] at f1
  have f2 := fun w => callAdd a c cy a1 c1 cy0 cy1 w
  rw [ht, hu] at f2
  clear hs hcy ht hu
  go_enter Tryz.func110, Tryz.ntmps110
  go_wp2
  go_returns
  exact ⟨rfl, by go_grown⟩

theorem eplus_any (x y : Int) (w : World) :
    Calls Tryz.prog 110 #[.agg #[.int .u64 (high64 x), .int .u64 (low64 x)], .agg #[.int .u64 (high64 y), .int .u64 (low64 y)]] w fun e w' => e = .returned (.agg #[.int .u64 (high64 (x + y)), .int .u64 (low64 (x + y))]) ∧ Below w.heap.size w w' := by
  have hx := low64_bd x; have hy := low64_bd y; have kx := high64_bd x; have ky := high64_bd y
  refine eplus_raw (high64 x) (low64 x) (high64 y) (low64 y) (low64 (x + y)) ((low64 x + low64 y + 0) / 18446744073709551616) (high64 (x + y)) _ kx.1 hx.1 ky.1 hy.1 ?_ rfl (by omega) (by omega) ?_ rfl w
  · unfold low64; omega
  · unfold high64 low64; omega

set_option maxHeartbeats 400000 in
theorem eminus_raw (a b c d s cy t u : Int) (a1 : 0 ≤ a) (b1 : 0 ≤ b) (c1 : 0 ≤ c) (c2 : c < 18446744073709551616) (d1 : 0 ≤ d) (d2 : d < 18446744073709551616) (hs : (b - d - 0) % 18446744073709551616 = s) (hcy : (if b < d + 0 then (1 : Int) else 0) = cy) (cy0 : 0 ≤ cy) (cy1 : cy ≤ 1)
    (ht : (a - c - cy) % 18446744073709551616 = t) (hu : (if a < c + cy then (1 : Int) else 0) = u) (w : World) :
    Calls Tryz.prog 108 #[.agg #[.int .u64 a, .int .u64 b], .agg #[.int .u64 c, .int .u64 d]] w fun e w' => e = .returned (.agg #[.int .u64 t, .int .u64 s]) ∧ Below w.heap.size w w' := by
  have f1 := fun w => callSub b d 0 b1 d1 d2 (by omega) (by omega) w
  rw [hs, hcy] at f1
  have f2 := fun w => callSub a c cy a1 c1 c2 cy0 cy1 w
  rw [ht, hu] at f2
  clear hs hcy ht hu
  go_enter Tryz.func108, Tryz.ntmps108
  go_wp2
  go_returns
  exact ⟨rfl, by go_grown⟩

theorem eminus_any (x y : Int) (w : World) :
    Calls Tryz.prog 108 #[.agg #[.int .u64 (high64 x), .int .u64 (low64 x)], .agg #[.int .u64 (high64 y), .int .u64 (low64 y)]] w fun e w' => e = .returned (.agg #[.int .u64 (high64 (x - y)), .int .u64 (low64 (x - y))]) ∧ Below w.heap.size w w' := by
  have hx := low64_bd x; have hy := low64_bd y; have kx := high64_bd x; have ky := high64_bd y
  have hc : ∃ cy : Int, (if low64 x < low64 y + 0 then (1 : Int) else 0) = cy ∧ 0 ≤ cy ∧ cy ≤ 1 ∧ (low64 x < low64 y → cy = 1) ∧ (¬ low64 x < low64 y → cy = 0) := by
    by_cases h : low64 x < low64 y
    · exact ⟨1, if_pos (by omega), by omega, by omega, fun _ => rfl, fun k => absurd h k⟩
    · exact ⟨0, if_neg (by omega), by omega, by omega, fun k => absurd k h, fun _ => rfl⟩
  obtain ⟨cy, h1, h2, h3, h4, h5⟩ := hc
  refine eminus_raw (high64 x) (low64 x) (high64 y) (low64 y) (low64 (x - y)) cy (high64 (x - y)) _ kx.1 hx.1 ky.1 (by omega) hy.1 (by omega) ?_ h1 h2 h3 ?_ rfl w
  · unfold low64; omega
  · clear h1
    by_cases h : low64 x < low64 y
    · rw [h4 h]; clear h4 h5; unfold high64 low64 at *; omega
    · rw [h5 h]; clear h4 h5; unfold high64 low64 at *; omega

set_option maxHeartbeats 400000 in
theorem eprod_pp (a b s t : Int) (ha : ¬ a < 0) (hb : ¬ b < 0) (a2 : a ≤ 9223372036854775807) (b2 : b ≤ 9223372036854775807)
    (M : ∀ w, Calls Tryz.prog 88 #[.int .u64 a, .int .u64 b] w fun e w' => e = .returned (.tuple #[.int .u64 s, .int .u64 t]) ∧ w' = w) (w : World) :
    Calls Tryz.prog 107 #[.int .i64 a, .int .i64 b] w fun e w' => e = .returned (.agg #[.int .u64 s, .int .u64 t]) ∧ Below w.heap.size w w' := by
  have ha' := df ha
  have hb' := df hb
  replace M : Hid _ := M
  go_enter Tryz.func107, Tryz.ntmps107
  go_wp2_with fail
  refine (M.out _).mono ?_
  rintro e w1 ⟨rfl, rfl⟩
  go_wp2
  go_returns
  exact ⟨rfl, by go_grown⟩

set_option maxHeartbeats 400000 in
theorem eprod_nn (a b x y s t r q : Int) (ha : a < 0) (hb : b < 0) (hx : IntKind.u64.wrap a = x) (hy : IntKind.u64.wrap b = y) (hr : IntKind.u64.wrap (s - y) = r) (hq : IntKind.u64.wrap (r - x) = q)
    (M : ∀ w, Calls Tryz.prog 88 #[.int .u64 x, .int .u64 y] w fun e w' => e = .returned (.tuple #[.int .u64 s, .int .u64 t]) ∧ w' = w) (w : World) :
    Calls Tryz.prog 107 #[.int .i64 a, .int .i64 b] w fun e w' => e = .returned (.agg #[.int .u64 q, .int .u64 t]) ∧ Below w.heap.size w w' := by
  replace M : Hid _ := M
  go_enter Tryz.func107, Tryz.ntmps107
  go_wp2_with fail
  refine (M.out _).mono ?_
  rintro e w1 ⟨rfl, rfl⟩
  go_wp2
  go_returns
  exact ⟨rfl, by go_grown⟩

set_option maxHeartbeats 400000 in
theorem eprod_pn (a b y s t q : Int) (ha : ¬ a < 0) (hb : b < 0) (a2 : a ≤ 9223372036854775807) (hy : IntKind.u64.wrap b = y) (hq : IntKind.u64.wrap (s - a) = q)
    (M : ∀ w, Calls Tryz.prog 88 #[.int .u64 a, .int .u64 y] w fun e w' => e = .returned (.tuple #[.int .u64 s, .int .u64 t]) ∧ w' = w) (w : World) :
    Calls Tryz.prog 107 #[.int .i64 a, .int .i64 b] w fun e w' => e = .returned (.agg #[.int .u64 q, .int .u64 t]) ∧ Below w.heap.size w w' := by
  have ha' := df ha
  replace M : Hid _ := M
  go_enter Tryz.func107, Tryz.ntmps107
  go_wp2_with fail
  refine (M.out _).mono ?_
  rintro e w1 ⟨rfl, rfl⟩
  go_wp2
  go_returns
  exact ⟨rfl, by go_grown⟩

set_option maxHeartbeats 400000 in
theorem eprod_np (a b x s t q : Int) (ha : a < 0) (hb : ¬ b < 0) (b2 : b ≤ 9223372036854775807) (hx : IntKind.u64.wrap a = x) (hq : IntKind.u64.wrap (s - b) = q)
    (M : ∀ w, Calls Tryz.prog 88 #[.int .u64 x, .int .u64 b] w fun e w' => e = .returned (.tuple #[.int .u64 s, .int .u64 t]) ∧ w' = w) (w : World) :
    Calls Tryz.prog 107 #[.int .i64 a, .int .i64 b] w fun e w' => e = .returned (.agg #[.int .u64 q, .int .u64 t]) ∧ Below w.heap.size w w' := by
  have hb' := df hb
  replace M : Hid _ := M
  go_enter Tryz.func107, Tryz.ntmps107
  go_wp2_with fail
  refine (M.out _).mono ?_
  rintro e w1 ⟨rfl, rfl⟩
  go_wp2
  go_returns
  exact ⟨rfl, by go_grown⟩

theorem prod_shift (a b : Int) : (a + 18446744073709551616) * b = a * b + 18446744073709551616 * b := by rw [Int.add_mul]
theorem prod_shift2 (a b : Int) : a * (b + 18446744073709551616) = a * b + 18446744073709551616 * a := by rw [Int.mul_add, Int.mul_comm a 18446744073709551616]

/-- PRODUCT: the whole product, in its halves. -/
theorem eproduct_any (a b : Int) (a1 : -9223372036854775808 ≤ a) (a2 : a ≤ 9223372036854775807) (b1 : -9223372036854775808 ≤ b) (b2 : b ≤ 9223372036854775807) (w : World) :
    Calls Tryz.prog 107 #[.int .i64 a, .int .i64 b] w fun e w' => e = .returned (.agg #[.int .u64 (high64 (a * b)), .int .u64 (low64 (a * b))]) ∧ Below w.heap.size w w' := by
  by_cases ha : a < 0
  · have ex : IntKind.u64.wrap a = a + 18446744073709551616 := by rw [IntKind.wrap_u64]; omega
    by_cases hb : b < 0
    · have ey : IntKind.u64.wrap b = b + 18446744073709551616 := by rw [IntKind.wrap_u64]; omega
      have M := mul64_any (a + 18446744073709551616) (b + 18446744073709551616) (by omega) (by omega) (by omega) (by omega)
      have e : (a + 18446744073709551616) * (b + 18446744073709551616) = a * b + 18446744073709551616 * b + 18446744073709551616 * (a + 18446744073709551616) := by rw [prod_shift2, prod_shift]
      have el : low64 (a * b) = low64 ((a + 18446744073709551616) * (b + 18446744073709551616)) := by rw [e]; unfold low64; omega
      rw [el]
      refine eprod_nn a b _ _ _ _ _ _ ha hb ex ey rfl ?_ M w
      rw [IntKind.wrap_u64, IntKind.wrap_u64, e]; unfold high64; omega
    · have M := mul64_any (a + 18446744073709551616) b (by omega) (by omega) (by omega) (by omega)
      have e := prod_shift a b
      have el : low64 (a * b) = low64 ((a + 18446744073709551616) * b) := by rw [e]; unfold low64; omega
      rw [el]
      refine eprod_np a b _ _ _ _ ha hb b2 ex ?_ M w
      rw [IntKind.wrap_u64, e]; unfold high64; omega
  · by_cases hb : b < 0
    · have ey : IntKind.u64.wrap b = b + 18446744073709551616 := by rw [IntKind.wrap_u64]; omega
      have M := mul64_any a (b + 18446744073709551616) (by omega) (by omega) (by omega) (by omega)
      have e := prod_shift2 a b
      have el : low64 (a * b) = low64 (a * (b + 18446744073709551616)) := by rw [e]; unfold low64; omega
      rw [el]
      refine eprod_pn a b _ _ _ _ ha hb a2 ey ?_ M w
      rw [IntKind.wrap_u64, e]; unfold high64; omega
    · exact eprod_pp a b _ _ ha hb a2 b2 (mul64_any a b (by omega) (by omega) (by omega) (by omega)) w

set_option maxHeartbeats 400000 in
theorem enarrow_yes (a b m p : Int) (hm : wrap64 b = m) (m1 : -9223372036854775808 ≤ m) (m2 : m ≤ 9223372036854775807) (hp : IntKind.u64.wrap (m / 9223372036854775808) = p) (h : (a == p) = true) (w : World) :
    Calls Tryz.prog 109 #[.agg #[.int .u64 a, .int .u64 b]] w fun e w' => e = .returned (.tuple #[.int .i64 m, .bool true]) ∧ Below w.heap.size w w' := by
  subst hm
  go_enter Tryz.func109, Tryz.ntmps109
  go_wp2
  go_ret2
  exact ⟨rfl, by go_grown⟩

set_option maxHeartbeats 400000 in
theorem enarrow_no (a b m p : Int) (hm : wrap64 b = m) (hp : IntKind.u64.wrap (m / 9223372036854775808) = p) (h : (a == p) = false) (w : World) :
    Calls Tryz.prog 109 #[.agg #[.int .u64 a, .int .u64 b]] w fun e w' => e = .returned (.tuple #[.int .i64 0, .bool false]) ∧ Below w.heap.size w w' := by
  go_enter Tryz.func109, Tryz.ntmps109
  go_wp2
  go_ret2
  exact ⟨rfl, by go_grown⟩

/-- NARROW: the number, where it fits, of any whole number up to three times 2^126 either way. -/
theorem enarrow_any (z : Int) (z1 : -255211775190703847597530955573826158592 ≤ z) (z2 : z ≤ 255211775190703847597530955573826158592) (w : World) :
    Calls Tryz.prog 109 #[.agg #[.int .u64 (high64 z), .int .u64 (low64 z)]] w fun e w' => e = .returned (.tuple #[.int .i64 (kept z), .bool (fits z)]) ∧ Below w.heap.size w w' := by
  have hw : wrap64 (low64 z) = wrap64 z := by unfold wrap64 low64; omega
  have hb := wrap_bd z
  by_cases h : -9223372036854775808 ≤ z ∧ z ≤ 9223372036854775807
  · rw [kept_mk (fits_mk h), fits_mk h]
    have e := wrap_fits h
    rw [e] at hw hb
    refine enarrow_yes _ _ z _ hw hb.1 hb.2 rfl ?_ w
    rw [IntKind.wrap_u64, beq_iff_eq]; unfold high64; omega
  · rw [kept_no (fits_no h), fits_no h]
    refine enarrow_no _ _ (wrap64 z) _ hw rfl ?_ w
    have : ¬ high64 z = IntKind.u64.wrap (wrap64 z / 9223372036854775808) := by
      rw [IntKind.wrap_u64]; unfold high64 wrap64; omega
    simpa using this
end Go.Proofs.YtlipbdiijjfheaaGreatDoor
