/-
  What the document's own wide numbers tell (W, Plus, Turned, Small, Times), for any whole numbers in their halves, in whatever memory.
-/
import Derived.Test.YtchcidhcefblpabDoorHalves
namespace Go.Proofs.YtchcidhcefblpabDoor
open Go.RowKit

set_option maxHeartbeats 400000 in
theorem plus_raw (a b c d s cy t u : Int) (a1 : 0 ≤ a) (b1 : 0 ≤ b) (c1 : 0 ≤ c) (d1 : 0 ≤ d) (hs : (b + d + 0) % 18446744073709551616 = s) (hcy : (b + d + 0) / 18446744073709551616 = cy) (cy0 : 0 ≤ cy) (cy1 : cy ≤ 1)
    (ht : (a + c + cy) % 18446744073709551616 = t) (hu : (a + c + cy) / 18446744073709551616 = u) (w : World) :
    Calls Tryd.prog 41 #[.agg #[.int .u64 a, .int .u64 b], .agg #[.int .u64 c, .int .u64 d]] w fun e w' => e = .returned (.agg #[.int .u64 t, .int .u64 s]) ∧ Below w.heap.size w w' := by
  have f1 := fun w => callAdd b d 0 b1 d1 (by omega) (by omega) w
  rw [hs, hcy] at f1
  have f2 := fun w => callAdd a c cy a1 c1 cy0 cy1 w
  rw [ht, hu] at f2
  clear hs hcy ht hu
  go_enter Tryd.func41, Tryd.ntmps41
  go_wp2
  go_returns
  exact ⟨rfl, by go_grown⟩

theorem plus_any (x y : Int) (w : World) :
    Calls Tryd.prog 41 #[.agg #[.int .u64 (high64 x), .int .u64 (low64 x)], .agg #[.int .u64 (high64 y), .int .u64 (low64 y)]] w fun e w' => e = .returned (.agg #[.int .u64 (high64 (x + y)), .int .u64 (low64 (x + y))]) ∧ Below w.heap.size w w' := by
  have hx := low64_bd x; have hy := low64_bd y; have kx := high64_bd x; have ky := high64_bd y
  refine plus_raw (high64 x) (low64 x) (high64 y) (low64 y) (low64 (x + y)) ((low64 x + low64 y + 0) / 18446744073709551616) (high64 (x + y)) _ kx.1 hx.1 ky.1 hy.1 ?_ rfl (by omega) (by omega) ?_ rfl w
  · unfold low64; omega
  · unfold high64 low64; omega

theorem u64_not (a : Int) (a1 : 0 ≤ a) (a2 : a ≤ 18446744073709551615) : bits .xor .u64 IntKind.u64.max a = 18446744073709551615 - a := by
  obtain ⟨A, rfl⟩ := Int.eq_ofNat_of_zero_le a1
  have e : IntKind.u64.max = ((18446744073709551615 : Nat) : Int) := rfl
  have h1 : (BitVec.ofInt 64 (A : Int)).toNat = A := ofInt_u64 A (by omega)
  have h2 : BitVec.ofInt 64 ((18446744073709551615 : Nat) : Int) = BitVec.allOnes 64 := by decide
  show IntKind.u64.wrap ((BitVec.ofInt 64 IntKind.u64.max ^^^ BitVec.ofInt 64 (A : Int)).toNat : Int) = _
  rw [e, h2, BitVec.allOnes_xor, BitVec.toNat_not, h1, IntKind.wrap_u64]
  omega

set_option maxHeartbeats 400000 in
theorem turned_raw (a b m n s t : Int) (a1 : bits .xor .u64 IntKind.u64.max a = m) (b1 : bits .xor .u64 IntKind.u64.max b = n)
    (PL : ∀ w, Calls Tryd.prog 41 #[.agg #[.int .u64 m, .int .u64 n], .agg #[.int .u64 0, .int .u64 1]] w fun e w' => e = .returned (.agg #[.int .u64 s, .int .u64 t]) ∧ Below w.heap.size w w') (w : World) :
    Calls Tryd.prog 40 #[.agg #[.int .u64 a, .int .u64 b]] w fun e w' => e = .returned (.agg #[.int .u64 s, .int .u64 t]) ∧ Below w.heap.size w w' := by
  replace PL : Hid _ := PL
  go_enter Tryd.func40, Tryd.ntmps40
  go_wp2_with fail
  refine (PL.out _).mono ?_
  rintro e w1 ⟨rfl, hb⟩
  have c0 : w1.cell? ⟨w.heap.size + 1, 0, none⟩ = some (.int .u64 0) := by rw [hb.cell (p := ⟨w.heap.size + 1, 0, none⟩) (by simp)]; go_simp
  have c1 : w1.cell? ⟨w.heap.size + 1, 1, none⟩ = some (.int .u64 0) := by rw [hb.cell (p := ⟨w.heap.size + 1, 1, none⟩) (by simp)]; go_simp
  have f0 : w1.frozen? ⟨w.heap.size + 1, 0, none⟩ = false := by rw [hb.frozen (p := ⟨w.heap.size + 1, 0, none⟩) (by simp)]; go_simp
  have f1 : w1.frozen? ⟨w.heap.size + 1, 1, none⟩ = false := by rw [hb.frozen (p := ⟨w.heap.size + 1, 1, none⟩) (by simp)]; go_simp
  obtain ⟨g0, g1⟩ := two_stores (u := .int .u64 s) (v := .int .u64 t) c0 c1
  go_wp2
  exact bodyPost_ret (v := .agg #[.int .u64 s, .int .u64 t]) (by simp [results, Tryd.results40, go_sem, g0, g1]) rfl
    ⟨rfl, ((((((Below.refl _ _).alloc (Nat.le_refl _) _).alloc (by simp) _).trans (hb.mono (by simp; omega))).setCell (by simp) _).setCell (by simp) _)⟩

theorem turned_any (x : Int) (w : World) :
    Calls Tryd.prog 40 #[.agg #[.int .u64 (high64 x), .int .u64 (low64 x)]] w fun e w' => e = .returned (.agg #[.int .u64 (high64 (-x)), .int .u64 (low64 (-x))]) ∧ Below w.heap.size w w' := by
  have hx := low64_bd x; have kx := high64_bd x
  refine turned_raw _ _ (18446744073709551615 - high64 x) (18446744073709551615 - low64 x) _ _ (u64_not _ kx.1 kx.2) (u64_not _ hx.1 hx.2) (fun w => ?_) w
  refine plus_raw _ _ 0 1 (low64 (-x)) ((18446744073709551615 - low64 x + 1 + 0) / 18446744073709551616) (high64 (-x)) _ (by omega) (by omega) (by omega) (by omega) ?_ rfl (by omega) (by omega) ?_ rfl w
  · unfold low64; omega
  · unfold high64 low64; omega

end Go.Proofs.YtchcidhcefblpabDoor
