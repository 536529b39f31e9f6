/-
  What the texts EUnit, Wide, Times, RefNear say, so far as this seat's proofs need it.
-/
import Derived.Test.YtmfpkphhjfgjbaaPlaneMathD
import Derived.Test.YtmfpkphhjfgjbaaE1D
import Derived.Test.YtmfpkphhjfgjbaaProg
import Derived.Handy
import Derived.Deep.QuietTactic
import Derived.WalkSpells
import Derived.WalkLawsBesides
import Derived.BigQuiet
import Derived.PlainAid
import Derived.Deep.RegionWith
import Derived.Laws.BitsAllLaws
import Derived.Lib.LaidU8
import Derived.WalkSmall
import Derived.Deep.RegionHeld3
import Derived.Deep.LoopGhost
namespace Go.Proofs.Ytmfpkphhjfgjbaa
open Go.RowKit

def unitCells : Array Value := #[.int .i64 1, .int .i64 0, .int .i64 0, .int .i64 1, .int .i64 (-1), .int .i64 1, .int .i64 (-1), .int .i64 0, .int .i64 0, .int .i64 (-1), .int .i64 1, .int .i64 (-1)]

/-- The table of Units holds what its text lays. -/
def Uni (w : World) : Prop := w.var? Try.prog "apiary/eisen.units" = some unitCells

end Go.Proofs.Ytmfpkphhjfgjbaa
namespace Go.Proofs.Ytmfpkphhjfgjbaa
open Go.RowKit

set_option maxHeartbeats 400000 in
theorem plus_raw (a b c d s cy t u : Int) (a1 : 0 ≤ a) (b1 : 0 ≤ b) (c1 : 0 ≤ c) (d1 : 0 ≤ d) (hs : (b + d + 0) % 18446744073709551616 = s) (hcy : (b + d + 0) / 18446744073709551616 = cy) (cy0 : 0 ≤ cy) (cy1 : cy ≤ 1)
    (ht : (a + c + cy) % 18446744073709551616 = t) (hu : (a + c + cy) / 18446744073709551616 = u) (w : World) :
    Calls Try.prog 39 #[.agg #[.int .u64 a, .int .u64 b], .agg #[.int .u64 c, .int .u64 d]] w fun e w' => e = .returned (.agg #[.int .u64 t, .int .u64 s]) ∧ Below w.heap.size w w' := by
  have f1 := fun w => callAdd b d 0 b1 d1 (by omega) (by omega) w
  rw [hs, hcy] at f1
  have f2 := fun w => callAdd a c cy a1 c1 cy0 cy1 w
  rw [ht, hu] at f2
  clear hs hcy ht hu
  go_enter Try.func39, Try.ntmps39
  go_wp2
  go_returns
  exact ⟨rfl, by go_grown⟩

theorem plus_any (x y : Int) (w : World) :
    Calls Try.prog 39 #[.agg #[.int .u64 (high64 x), .int .u64 (low64 x)], .agg #[.int .u64 (high64 y), .int .u64 (low64 y)]] w fun e w' => e = .returned (.agg #[.int .u64 (high64 (x + y)), .int .u64 (low64 (x + y))]) ∧ Below w.heap.size w w' := by
  have hx := low64_bd x; have hy := low64_bd y; have kx := high64_bd x; have ky := high64_bd y
  refine plus_raw (high64 x) (low64 x) (high64 y) (low64 y) (low64 (x + y)) ((low64 x + low64 y + 0) / 18446744073709551616) (high64 (x + y)) _ kx.1 hx.1 ky.1 hy.1 ?_ rfl (by omega) (by omega) ?_ rfl w
  · unfold low64; omega
  · unfold high64 low64; omega

theorem u64_not (a : Int) (a1 : 0 ≤ a) (a2 : a ≤ 18446744073709551615) : bits .xor .u64 IntKind.u64.max a = 18446744073709551615 - a := by
  obtain ⟨A, rfl⟩ := Int.eq_ofNat_of_zero_le a1
  have e : IntKind.u64.max = ((18446744073709551615 : Nat) : Int) := rfl
  have h1 : (BitVec.ofInt 64 (A : Int)).toNat = A := ofInt_u64 A (by omega)
  have h2 : BitVec.ofInt 64 ((18446744073709551615 : Nat) : Int) = BitVec.allOnes 64 := by decide
  show IntKind.u64.wrap ((BitVec.ofInt 64 IntKind.u64.max ^^^ BitVec.ofInt 64 (A : Int)).toNat : Int) = _
  rw [e, h2, BitVec.allOnes_xor, BitVec.toNat_not, h1, IntKind.wrap_u64]
  omega

set_option maxHeartbeats 400000 in
theorem turned_raw (a b m n s t : Int) (a1 : bits .xor .u64 IntKind.u64.max a = m) (b1 : bits .xor .u64 IntKind.u64.max b = n)
    (PL : ∀ w, Calls Try.prog 39 #[.agg #[.int .u64 m, .int .u64 n], .agg #[.int .u64 0, .int .u64 1]] w fun e w' => e = .returned (.agg #[.int .u64 s, .int .u64 t]) ∧ Below w.heap.size w w') (w : World) :
    Calls Try.prog 38 #[.agg #[.int .u64 a, .int .u64 b]] w fun e w' => e = .returned (.agg #[.int .u64 s, .int .u64 t]) ∧ Below w.heap.size w w' := by
  replace PL : Hid _ := PL
  go_enter Try.func38, Try.ntmps38
  go_wp2_with fail
  refine (PL.out _).mono ?_
  rintro e w1 ⟨rfl, hb⟩
  have c0 : w1.cell? ⟨w.heap.size + 1, 0, none⟩ = some (.int .u64 0) := by rw [hb.cell (p := ⟨w.heap.size + 1, 0, none⟩) (by simp)]; go_simp
  have c1 : w1.cell? ⟨w.heap.size + 1, 1, none⟩ = some (.int .u64 0) := by rw [hb.cell (p := ⟨w.heap.size + 1, 1, none⟩) (by simp)]; go_simp
  have f0 : w1.frozen? ⟨w.heap.size + 1, 0, none⟩ = false := by rw [hb.frozen (p := ⟨w.heap.size + 1, 0, none⟩) (by simp)]; go_simp
  have f1 : w1.frozen? ⟨w.heap.size + 1, 1, none⟩ = false := by rw [hb.frozen (p := ⟨w.heap.size + 1, 1, none⟩) (by simp)]; go_simp
  obtain ⟨g0, g1⟩ := two_stores (u := .int .u64 s) (v := .int .u64 t) c0 c1
  go_wp2
  exact bodyPost_ret (v := .agg #[.int .u64 s, .int .u64 t]) (by simp [results, Try.results38, go_sem, g0, g1]) rfl
    ⟨rfl, ((((((Below.refl _ _).alloc (Nat.le_refl _) _).alloc (by simp) _).trans (hb.mono (by simp; omega))).setCell (by simp) _).setCell (by simp) _)⟩

theorem turned_any (x : Int) (w : World) :
    Calls Try.prog 38 #[.agg #[.int .u64 (high64 x), .int .u64 (low64 x)]] w fun e w' => e = .returned (.agg #[.int .u64 (high64 (-x)), .int .u64 (low64 (-x))]) ∧ Below w.heap.size w w' := by
  have hx := low64_bd x; have kx := high64_bd x
  refine turned_raw _ _ (18446744073709551615 - high64 x) (18446744073709551615 - low64 x) _ _ (u64_not _ kx.1 kx.2) (u64_not _ hx.1 hx.2) (fun w => ?_) w
  refine plus_raw _ _ 0 1 (low64 (-x)) ((18446744073709551615 - low64 x + 1 + 0) / 18446744073709551616) (high64 (-x)) _ (by omega) (by omega) (by omega) (by omega) ?_ rfl (by omega) (by omega) ?_ rfl w
  · unfold low64; omega
  · unfold high64 low64; omega

end Go.Proofs.Ytmfpkphhjfgjbaa
namespace Go.Proofs.Ytmfpkphhjfgjbaa
open Go.RowKit Go.Shelf

set_option maxHeartbeats 400000 in
theorem times_pp (a b s t : Int) (ha : ¬ a < 0) (hb : ¬ b < 0) (a2 : a ≤ 9223372036854775807) (b2 : b ≤ 9223372036854775807)
    (M : ∀ w, Calls Try.prog 37 #[.int .u64 a, .int .u64 b] w fun e w' => e = .returned (.tuple #[.int .u64 s, .int .u64 t]) ∧ w' = w) (w : World) :
    Calls Try.prog 35 #[.int .i64 a, .int .i64 b] w fun e w' => e = .returned (.agg #[.int .u64 s, .int .u64 t]) ∧ Below w.heap.size w w' := by
  have ha' := df ha
  have hb' := df hb
  replace M : Hid _ := M
  go_enter Try.func35, Try.ntmps35
  go_wp2_with fail
  refine (M.out _).mono ?_
  rintro e w1 ⟨rfl, rfl⟩
  go_wp2
  go_returns
  exact ⟨rfl, by go_grown⟩

set_option maxHeartbeats 400000 in
theorem times_nn (a b x y p q s t : Int) (ha : a < 0) (hb : b < 0) (hx : IntKind.u64.wrap a = x) (hy : IntKind.u64.wrap b = y) (hp : IntKind.u64.wrap (-x) = p) (hq : IntKind.u64.wrap (-y) = q)
    (M : ∀ w, Calls Try.prog 37 #[.int .u64 p, .int .u64 q] w fun e w' => e = .returned (.tuple #[.int .u64 s, .int .u64 t]) ∧ w' = w) (w : World) :
    Calls Try.prog 35 #[.int .i64 a, .int .i64 b] w fun e w' => e = .returned (.agg #[.int .u64 s, .int .u64 t]) ∧ Below w.heap.size w w' := by
  replace M : Hid _ := M
  go_enter Try.func35, Try.ntmps35
  go_wp2_with fail
  refine (M.out _).mono ?_
  rintro e w1 ⟨rfl, rfl⟩
  go_wp2
  go_returns
  exact ⟨rfl, by go_grown⟩

set_option maxHeartbeats 400000 in
theorem times_pn (a b y q s t u v : Int) (ha : ¬ a < 0) (hb : b < 0) (a2 : a ≤ 9223372036854775807) (hy : IntKind.u64.wrap b = y) (hq : IntKind.u64.wrap (-y) = q)
    (M : ∀ w, Calls Try.prog 37 #[.int .u64 a, .int .u64 q] w fun e w' => e = .returned (.tuple #[.int .u64 s, .int .u64 t]) ∧ w' = w)
    (TU : ∀ w, Calls Try.prog 38 #[.agg #[.int .u64 s, .int .u64 t]] w fun e w' => e = .returned (.agg #[.int .u64 u, .int .u64 v]) ∧ Below w.heap.size w w') (w : World) :
    Calls Try.prog 35 #[.int .i64 a, .int .i64 b] w fun e w' => e = .returned (.agg #[.int .u64 u, .int .u64 v]) ∧ Below w.heap.size w w' := by
  have ha' := df ha
  replace M : Hid _ := M
  replace TU : Hid _ := TU
  go_enter Try.func35, Try.ntmps35
  go_wp2_with fail
  refine (M.out _).mono ?_
  rintro e w1 ⟨rfl, rfl⟩
  go_wp2_with fail
  refine (TU.out _).mono ?_
  rintro e w2 ⟨rfl, hb2⟩
  have c0 : w2.cell? ⟨w.heap.size, 0, none⟩ = some (.int .u64 0) := by rw [hb2.cell (p := ⟨w.heap.size, 0, none⟩) (by simp)]; go_simp
  have c1 : w2.cell? ⟨w.heap.size, 1, none⟩ = some (.int .u64 0) := by rw [hb2.cell (p := ⟨w.heap.size, 1, none⟩) (by simp)]; go_simp
  have f0 : w2.frozen? ⟨w.heap.size, 0, none⟩ = false := by rw [hb2.frozen (p := ⟨w.heap.size, 0, none⟩) (by simp)]; go_simp
  have f1 : w2.frozen? ⟨w.heap.size, 1, none⟩ = false := by rw [hb2.frozen (p := ⟨w.heap.size, 1, none⟩) (by simp)]; go_simp
  obtain ⟨g0, g1⟩ := two_stores (u := .int .u64 u) (v := .int .u64 v) c0 c1
  go_wp2
  exact bodyPost_ret (v := .agg #[.int .u64 u, .int .u64 v]) (by simp [results, Try.results35, go_sem, g0, g1]) rfl
    ⟨rfl, (((((Below.refl _ _).alloc (Nat.le_refl _) _).trans (hb2.mono (by simp))).setCell (by simp) _).setCell (by simp) _)⟩

set_option maxHeartbeats 400000 in
theorem times_np (a b x p s t u v : Int) (ha : a < 0) (hb : ¬ b < 0) (b2 : b ≤ 9223372036854775807) (hx : IntKind.u64.wrap a = x) (hp : IntKind.u64.wrap (-x) = p)
    (M : ∀ w, Calls Try.prog 37 #[.int .u64 p, .int .u64 b] w fun e w' => e = .returned (.tuple #[.int .u64 s, .int .u64 t]) ∧ w' = w)
    (TU : ∀ w, Calls Try.prog 38 #[.agg #[.int .u64 s, .int .u64 t]] w fun e w' => e = .returned (.agg #[.int .u64 u, .int .u64 v]) ∧ Below w.heap.size w w') (w : World) :
    Calls Try.prog 35 #[.int .i64 a, .int .i64 b] w fun e w' => e = .returned (.agg #[.int .u64 u, .int .u64 v]) ∧ Below w.heap.size w w' := by
  have hb' := df hb
  replace M : Hid _ := M
  replace TU : Hid _ := TU
  go_enter Try.func35, Try.ntmps35
  go_wp2_with fail
  refine (M.out _).mono ?_
  rintro e w1 ⟨rfl, rfl⟩
  go_wp2_with fail
  refine (TU.out _).mono ?_
  rintro e w2 ⟨rfl, hb2⟩
  have c0 : w2.cell? ⟨w.heap.size, 0, none⟩ = some (.int .u64 0) := by rw [hb2.cell (p := ⟨w.heap.size, 0, none⟩) (by simp)]; go_simp
  have c1 : w2.cell? ⟨w.heap.size, 1, none⟩ = some (.int .u64 0) := by rw [hb2.cell (p := ⟨w.heap.size, 1, none⟩) (by simp)]; go_simp
  have f0 : w2.frozen? ⟨w.heap.size, 0, none⟩ = false := by rw [hb2.frozen (p := ⟨w.heap.size, 0, none⟩) (by simp)]; go_simp
  have f1 : w2.frozen? ⟨w.heap.size, 1, none⟩ = false := by rw [hb2.frozen (p := ⟨w.heap.size, 1, none⟩) (by simp)]; go_simp
  obtain ⟨g0, g1⟩ := two_stores (u := .int .u64 u) (v := .int .u64 v) c0 c1
  go_wp2
  exact bodyPost_ret (v := .agg #[.int .u64 u, .int .u64 v]) (by simp [results, Try.results35, go_sem, g0, g1]) rfl
    ⟨rfl, (((((Below.refl _ _).alloc (Nat.le_refl _) _).trans (hb2.mono (by simp))).setCell (by simp) _).setCell (by simp) _)⟩

theorem u64_of_neg (a : Int) (h : a < 0) (h1 : -9223372036854775808 ≤ a) : IntKind.u64.wrap (-(IntKind.u64.wrap a)) = -a := by
  rw [IntKind.wrap_u64, IntKind.wrap_u64]; omega

/-- TIMES: the product, in its halves. -/
theorem times_any (a b : Int) (a1 : -9223372036854775808 ≤ a) (a2 : a ≤ 9223372036854775807) (b1 : -9223372036854775808 ≤ b) (b2 : b ≤ 9223372036854775807) (w : World) :
    Calls Try.prog 35 #[.int .i64 a, .int .i64 b] w fun e w' => e = .returned (.agg #[.int .u64 (high64 (a * b)), .int .u64 (low64 (a * b))]) ∧ Below w.heap.size w w' := by
  by_cases ha : a < 0
  · by_cases hb : b < 0
    · have e : a * b = (-a) * (-b) := by rw [Int.neg_mul_neg]
      rw [e]
      exact times_nn a b _ _ _ _ _ _ ha hb rfl rfl (u64_of_neg a ha a1) (u64_of_neg b hb b1) (mul64_any (-a) (-b) (by omega) (by omega) (by omega) (by omega)) w
    · have e : a * b = -((-a) * b) := by rw [Int.neg_mul, Int.neg_neg]
      rw [e]
      exact times_np a b _ _ _ _ _ _ ha hb b2 rfl (u64_of_neg a ha a1) (mul64_any (-a) b (by omega) (by omega) (by omega) (by omega)) (turned_any _) w
  · by_cases hb : b < 0
    · have e : a * b = -(a * (-b)) := by rw [Int.mul_neg, Int.neg_neg]
      rw [e]
      exact times_pn a b _ _ _ _ _ _ ha hb a2 rfl (u64_of_neg b hb b1) (mul64_any a (-b) (by omega) (by omega) (by omega) (by omega)) (turned_any _) w
    · exact times_pp a b _ _ ha hb a2 b2 (mul64_any a b (by omega) (by omega) (by omega) (by omega)) w

end Go.Proofs.Ytmfpkphhjfgjbaa
namespace Go.Proofs.Ytmfpkphhjfgjbaa
open Go.RowKit

set_option maxHeartbeats 400000 in
theorem rworld_yes (x y : Int) (h1 : 0 ≤ x) (h2 : x < 1073741824) (h3 : 0 ≤ y) (h4 : y < 1073741824) (w : World) :
    Calls Try.prog 30 #[.int .i64 x, .int .i64 y] w fun e w' => e = .returned (.bool true) ∧ w' = w := by
  go_enter Try.func30, Try.ntmps30
  go_wp2
  go_ret
  exact ⟨rfl, rfl⟩

set_option maxHeartbeats 400000 in
theorem rworld_no1 (x y : Int) (h1 : decide (0 ≤ x) = false) (w : World) :
    Calls Try.prog 30 #[.int .i64 x, .int .i64 y] w fun e w' => e = .returned (.bool false) ∧ w' = w := by
  go_enter Try.func30, Try.ntmps30
  go_wp2
  go_ret
  exact ⟨rfl, rfl⟩

set_option maxHeartbeats 400000 in
theorem rworld_no2 (x y : Int) (h1 : 0 ≤ x) (h2 : decide (x < 1073741824) = false) (w : World) :
    Calls Try.prog 30 #[.int .i64 x, .int .i64 y] w fun e w' => e = .returned (.bool false) ∧ w' = w := by
  go_enter Try.func30, Try.ntmps30
  go_wp2
  go_ret
  exact ⟨rfl, rfl⟩

set_option maxHeartbeats 400000 in
theorem rworld_no3 (x y : Int) (h1 : 0 ≤ x) (h2 : x < 1073741824) (h3 : decide (0 ≤ y) = false) (w : World) :
    Calls Try.prog 30 #[.int .i64 x, .int .i64 y] w fun e w' => e = .returned (.bool false) ∧ w' = w := by
  go_enter Try.func30, Try.ntmps30
  go_wp2
  go_ret
  exact ⟨rfl, rfl⟩

set_option maxHeartbeats 400000 in
theorem rworld_no4 (x y : Int) (h1 : 0 ≤ x) (h2 : x < 1073741824) (h3 : 0 ≤ y) (h4 : decide (y < 1073741824) = false) (w : World) :
    Calls Try.prog 30 #[.int .i64 x, .int .i64 y] w fun e w' => e = .returned (.bool false) ∧ w' = w := by
  go_enter Try.func30, Try.ntmps30
  go_wp2
  go_ret
  exact ⟨rfl, rfl⟩

theorem rworld_any (x y : Int) (w : World) :
    Calls Try.prog 30 #[.int .i64 x, .int .i64 y] w fun e w' => e = .returned (.bool (inWB x y)) ∧ w' = w := by
  by_cases h1 : 0 ≤ x
  · by_cases h2 : x < 1073741824
    · by_cases h3 : 0 ≤ y
      · by_cases h4 : y < 1073741824
        · rw [inWB_mk ⟨h1, h2, h3, h4⟩]; exact rworld_yes x y h1 h2 h3 h4 w
        · rw [inWB_not fun h => h4 h.2.2.2]; exact rworld_no4 x y h1 h2 h3 (df h4) w
      · rw [inWB_not fun h => h3 h.2.2.1]; exact rworld_no3 x y h1 h2 (df h3) w
    · rw [inWB_not fun h => h2 h.2.1]; exact rworld_no2 x y h1 (df h2) w
  · rw [inWB_not fun h => h1 h.1]; exact rworld_no1 x y (df h1) w

end Go.Proofs.Ytmfpkphhjfgjbaa
