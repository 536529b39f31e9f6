/-
  What the document's own wide numbers tell (W, Plus, Turned, Small, Times), for any whole numbers in their halves, in whatever memory.
-/
import Derived.Test.YtlipbdiijjfheaaGreatDoorHalves
namespace Go.Proofs.YtlipbdiijjfheaaGreatDoor
open Go.RowKit

set_option maxHeartbeats 400000 in
theorem wide_up (n : Int) (w : World) (h : 0 ≤ n) (h1 : n ≤ 9223372036854775807) :
    Calls Tryz.prog 121 #[.int .i64 n] w fun e w' => e = .returned (.agg #[.int .u64 (high64 n), .int .u64 (low64 n)]) ∧ Below w.heap.size w w' := by
  go_enter Tryz.func121, Tryz.ntmps121
  go_wp2
  go_returns
  exact ⟨agg_eq (by unfold high64; omega) (by unfold low64; omega), by go_grown⟩
set_option maxHeartbeats 400000 in
theorem wide_down (n : Int) (w : World) (h : n < 0) (h1 : -9223372036854775808 ≤ n) :
    Calls Tryz.prog 121 #[.int .i64 n] w fun e w' => e = .returned (.agg #[.int .u64 (high64 n), .int .u64 (low64 n)]) ∧ Below w.heap.size w w' := by
  go_enter Tryz.func121, Tryz.ntmps121
  go_wp2
  go_returns
  exact ⟨agg_eq (by rw [IntKind.wrap_u64]; unfold high64; omega) (by rw [IntKind.wrap_u64]; unfold low64; omega), by go_grown⟩
theorem wide_any (n : Int) (h1 : -9223372036854775808 ≤ n) (h2 : n ≤ 9223372036854775807) (w : World) :
    Calls Tryz.prog 121 #[.int .i64 n] w fun e w' => e = .returned (.agg #[.int .u64 (high64 n), .int .u64 (low64 n)]) ∧ Below w.heap.size w w' := by
  by_cases h : 0 ≤ n
  · exact wide_up n w h h2
  · exact wide_down n w (by omega) h1

set_option maxHeartbeats 400000 in
theorem plus_raw (a b c d s cy t u : Int) (a1 : 0 ≤ a) (b1 : 0 ≤ b) (c1 : 0 ≤ c) (d1 : 0 ≤ d) (hs : (b + d + 0) % 18446744073709551616 = s) (hcy : (b + d + 0) / 18446744073709551616 = cy) (cy0 : 0 ≤ cy) (cy1 : cy ≤ 1)
    (ht : (a + c + cy) % 18446744073709551616 = t) (hu : (a + c + cy) / 18446744073709551616 = u) (w : World) :
    Calls Tryz.prog 64 #[.agg #[.int .u64 a, .int .u64 b], .agg #[.int .u64 c, .int .u64 d]] w fun e w' => e = .returned (.agg #[.int .u64 t, .int .u64 s]) ∧ Below w.heap.size w w' := by
  have f1 := fun w => callAdd b d 0 b1 d1 (by omega) (by omega) w
  rw [hs, hcy] at f1
  have f2 := fun w => callAdd a c cy a1 c1 cy0 cy1 w
  rw [ht, hu] at f2
  clear hs hcy ht hu
  go_enter Tryz.func64, Tryz.ntmps64
  go_wp2
  go_returns
  exact ⟨rfl, by go_grown⟩

theorem plus_any (x y : Int) (w : World) :
    Calls Tryz.prog 64 #[.agg #[.int .u64 (high64 x), .int .u64 (low64 x)], .agg #[.int .u64 (high64 y), .int .u64 (low64 y)]] w fun e w' => e = .returned (.agg #[.int .u64 (high64 (x + y)), .int .u64 (low64 (x + y))]) ∧ Below w.heap.size w w' := by
  have hx := low64_bd x; have hy := low64_bd y; have kx := high64_bd x; have ky := high64_bd y
  refine plus_raw (high64 x) (low64 x) (high64 y) (low64 y) (low64 (x + y)) ((low64 x + low64 y + 0) / 18446744073709551616) (high64 (x + y)) _ kx.1 hx.1 ky.1 hy.1 ?_ rfl (by omega) (by omega) ?_ rfl w
  · unfold low64; omega
  · unfold high64 low64; omega

theorem u64_not (a : Int) (a1 : 0 ≤ a) (a2 : a ≤ 18446744073709551615) : bits .xor .u64 IntKind.u64.max a = 18446744073709551615 - a := by
  obtain ⟨A, rfl⟩ := Int.eq_ofNat_of_zero_le a1
  have e : IntKind.u64.max = ((18446744073709551615 : Nat) : Int) := rfl
  have h1 : (BitVec.ofInt 64 (A : Int)).toNat = A := ofInt_u64 A (by omega)
  have h2 : BitVec.ofInt 64 ((18446744073709551615 : Nat) : Int) = BitVec.allOnes 64 := by decide
  show IntKind.u64.wrap ((BitVec.ofInt 64 IntKind.u64.max ^^^ BitVec.ofInt 64 (A : Int)).toNat : Int) = _
  rw [e, h2, BitVec.allOnes_xor, BitVec.toNat_not, h1, IntKind.wrap_u64]
  omega

set_option maxHeartbeats 400000 in
theorem turned_raw (a b m n s t : Int) (a1 : bits .xor .u64 IntKind.u64.max a = m) (b1 : bits .xor .u64 IntKind.u64.max b = n)
    (PL : ∀ w, Calls Tryz.prog 64 #[.agg #[.int .u64 m, .int .u64 n], .agg #[.int .u64 0, .int .u64 1]] w fun e w' => e = .returned (.agg #[.int .u64 s, .int .u64 t]) ∧ Below w.heap.size w w') (w : World) :
    Calls Tryz.prog 65 #[.agg #[.int .u64 a, .int .u64 b]] w fun e w' => e = .returned (.agg #[.int .u64 s, .int .u64 t]) ∧ Below w.heap.size w w' := by
  replace PL : Hid _ := PL
  go_enter Tryz.func65, Tryz.ntmps65
  go_wp2_with fail
  refine (PL.out _).mono ?_
  rintro e w1 ⟨rfl, hb⟩
  have c0 : w1.cell? ⟨w.heap.size + 1, 0, none⟩ = some (.int .u64 0) := by rw [hb.cell (p := ⟨w.heap.size + 1, 0, none⟩) (by simp)]; go_simp
  have c1 : w1.cell? ⟨w.heap.size + 1, 1, none⟩ = some (.int .u64 0) := by rw [hb.cell (p := ⟨w.heap.size + 1, 1, none⟩) (by simp)]; go_simp
  have f0 : w1.frozen? ⟨w.heap.size + 1, 0, none⟩ = false := by rw [hb.frozen (p := ⟨w.heap.size + 1, 0, none⟩) (by simp)]; go_simp
  have f1 : w1.frozen? ⟨w.heap.size + 1, 1, none⟩ = false := by rw [hb.frozen (p := ⟨w.heap.size + 1, 1, none⟩) (by simp)]; go_simp
  obtain ⟨g0, g1⟩ := two_stores (u := .int .u64 s) (v := .int .u64 t) c0 c1
  go_wp2
  exact bodyPost_ret (v := .agg #[.int .u64 s, .int .u64 t]) (by simp [results, Tryz.results65, go_sem, g0, g1]) rfl
    ⟨rfl, ((((((Below.refl _ _).alloc (Nat.le_refl _) _).alloc (by simp) _).trans (hb.mono (by simp; omega))).setCell (by simp) _).setCell (by simp) _)⟩

theorem turned_any (x : Int) (w : World) :
    Calls Tryz.prog 65 #[.agg #[.int .u64 (high64 x), .int .u64 (low64 x)]] w fun e w' => e = .returned (.agg #[.int .u64 (high64 (-x)), .int .u64 (low64 (-x))]) ∧ Below w.heap.size w w' := by
  have hx := low64_bd x; have kx := high64_bd x
  refine turned_raw _ _ (18446744073709551615 - high64 x) (18446744073709551615 - low64 x) _ _ (u64_not _ kx.1 kx.2) (u64_not _ hx.1 hx.2) (fun w => ?_) w
  refine plus_raw _ _ 0 1 (low64 (-x)) ((18446744073709551615 - low64 x + 1 + 0) / 18446744073709551616) (high64 (-x)) _ (by omega) (by omega) (by omega) (by omega) ?_ rfl (by omega) (by omega) ?_ rfl w
  · unfold low64; omega
  · unfold high64 low64; omega

set_option maxHeartbeats 400000 in
theorem small_yes (a b m : Int) (hm : wrap64 b = m) (m1 : -9223372036854775808 ≤ m) (m2 : m ≤ 9223372036854775807) (hp : high64 m = a) (hq : low64 m = b) (w : World) :
    Calls Tryz.prog 92 #[.agg #[.int .u64 a, .int .u64 b]] w fun e w' => e = .returned (.tuple #[.int .i64 m, .bool true]) ∧ Below w.heap.size w w' := by
  have WT : ∀ w, Calls Tryz.prog 121 #[.int .i64 m] w fun e w' => e = .returned (.agg #[.int .u64 a, .int .u64 b]) ∧ Below w.heap.size w w' := by
    rw [← hp, ← hq]; exact wide_any m m1 m2
  replace WT : Hid _ := WT
  clear hp hq
  go_enter Tryz.func92, Tryz.ntmps92
  go_wp2_with fail
  go_region_with (go_at_call 121; refine (WT.out _).mono ?_; rintro e w1 ⟨rfl, hb⟩; have c0 : w1.cell? ⟨w.heap.size, 0, none⟩ = some (.int .u64 a) := (by rw [hb.cell (p := ⟨w.heap.size, 0, none⟩) (by simp)]; go_simp); have c1 : w1.cell? ⟨w.heap.size, 1, none⟩ = some (.int .u64 b) := (by rw [hb.cell (p := ⟨w.heap.size, 1, none⟩) (by simp)]; go_simp))
  all_goals
    go_wp2
    go_ret2
    refine ⟨rfl, ?_⟩
  all_goals
    have hb' : Below w.heap.size w w1 := ((((Below.refl _ _).alloc (Nat.le_refl _) _).drew).trans (hb.mono (by simp)))
    first | exact hb' | exact hb'.drew

set_option maxHeartbeats 400000 in
theorem small_no (a b m p : Int) (hm : wrap64 b = m) (m1 : -9223372036854775808 ≤ m) (m2 : m ≤ 9223372036854775807) (hp : high64 m = p) (hq : low64 m = b) (hpa : ¬ p = a) (w : World) :
    Calls Tryz.prog 92 #[.agg #[.int .u64 a, .int .u64 b]] w fun e w' => e = .returned (.tuple #[.int .i64 0, .bool false]) ∧ Below w.heap.size w w' := by
  have WT : ∀ w, Calls Tryz.prog 121 #[.int .i64 m] w fun e w' => e = .returned (.agg #[.int .u64 p, .int .u64 b]) ∧ Below w.heap.size w w' := by
    rw [← hp, ← hq]; exact wide_any m m1 m2
  replace WT : Hid _ := WT
  clear hp hq
  go_enter Tryz.func92, Tryz.ntmps92
  go_wp2_with fail
  go_region_with (go_at_call 121; refine (WT.out _).mono ?_; rintro e w1 ⟨rfl, hb⟩; have c0 : w1.cell? ⟨w.heap.size, 0, none⟩ = some (.int .u64 a) := (by rw [hb.cell (p := ⟨w.heap.size, 0, none⟩) (by simp)]; go_simp); have c1 : w1.cell? ⟨w.heap.size, 1, none⟩ = some (.int .u64 b) := (by rw [hb.cell (p := ⟨w.heap.size, 1, none⟩) (by simp)]; go_simp))
  all_goals
    go_wp2
    go_ret2
    refine ⟨rfl, ?_⟩
  all_goals
    have hb' : Below w.heap.size w w1 := ((((Below.refl _ _).alloc (Nat.le_refl _) _).drew).trans (hb.mono (by simp)))
    first | exact hb' | exact hb'.drew

/-- SMALL: the number, where it fits, of any whole number up to three times 2^126 either way. -/
theorem small_any (z : Int) (z1 : -255211775190703847597530955573826158592 ≤ z) (z2 : z ≤ 255211775190703847597530955573826158592) (w : World) :
    Calls Tryz.prog 92 #[.agg #[.int .u64 (high64 z), .int .u64 (low64 z)]] w fun e w' => e = .returned (.tuple #[.int .i64 (kept z), .bool (fits z)]) ∧ Below w.heap.size w w' := by
  have hw : wrap64 (low64 z) = wrap64 z := by unfold wrap64 low64; omega
  have hl : low64 (wrap64 z) = low64 z := by unfold wrap64 low64; omega
  have hb := wrap_bd z
  by_cases h : -9223372036854775808 ≤ z ∧ z ≤ 9223372036854775807
  · rw [kept_mk (fits_mk h), fits_mk h]
    have e := wrap_fits h
    rw [e] at hw hl hb
    exact small_yes _ _ z hw hb.1 hb.2 rfl rfl w
  · rw [kept_no (fits_no h), fits_no h]
    refine small_no _ _ (wrap64 z) _ hw hb.1 hb.2 rfl hl ?_ w
    intro e
    unfold high64 wrap64 at e
    omega
end Go.Proofs.YtlipbdiijjfheaaGreatDoor
