/-
  What package ident's part, digitAt, size, with, raised, blank tell, for any words and parts within the bounds written, in whatever memory.
-/
import Derived.Test.YtlipbdiijjfheabDoorPlain
import Derived.Test.YtlipbdiijjfheabDoorIdentMath
import Derived.Test.YtlipbdiijjfheabDoorBitsW
import Derived.Deep.RegionHeld3
import Derived.Test.YtlipbdiijjfheabDoorCUp
namespace Go.Proofs.YtlipbdiijjfheabDoor
open Go.RowKit

set_option maxHeartbeats 400000 in
theorem wpart10 (w k p x y : Int) (hk : ¬ k < 0) (hp : (2 : Int) ^ min k.toNat 64 = p) (hx : w / p = x) (hy : bits .and .u64 x 1023 = y) (y0 : 0 ≤ y) (y1 : y ≤ 1023) (W : World) :
    Calls Tryd.prog 64 #[.int .u64 w, .int .i64 k, .int .i64 10] W fun e w' => e = .returned (.int .i64 y) ∧ Below W.heap.size W w' := by
  go_enter Tryd.func64, Tryd.ntmps64
  go_wp2
  go_quiet (fail)
  go_wp2
  go_ret
  exact ⟨rfl, belowN (by go_grown) _⟩
set_option maxHeartbeats 400000 in
theorem wpart3 (w k p x y : Int) (hk : ¬ k < 0) (hp : (2 : Int) ^ min k.toNat 64 = p) (hx : w / p = x) (hy : bits .and .u64 x 7 = y) (y0 : 0 ≤ y) (y1 : y ≤ 7) (W : World) :
    Calls Tryd.prog 64 #[.int .u64 w, .int .i64 k, .int .i64 3] W fun e w' => e = .returned (.int .i64 y) ∧ Below W.heap.size W w' := by
  go_enter Tryd.func64, Tryd.ntmps64
  go_wp2
  go_quiet (fail)
  go_wp2
  go_ret
  exact ⟨rfl, belowN (by go_grown) _⟩
set_option maxHeartbeats 400000 in
theorem wpart4 (w k p x y : Int) (hk : ¬ k < 0) (hp : (2 : Int) ^ min k.toNat 64 = p) (hx : w / p = x) (hy : bits .and .u64 x 15 = y) (y0 : 0 ≤ y) (y1 : y ≤ 15) (W : World) :
    Calls Tryd.prog 64 #[.int .u64 w, .int .i64 k, .int .i64 4] W fun e w' => e = .returned (.int .i64 y) ∧ Below W.heap.size W w' := by
  go_enter Tryd.func64, Tryd.ntmps64
  go_wp2
  go_quiet (fail)
  go_wp2
  go_ret
  exact ⟨rfl, belowN (by go_grown) _⟩

set_option maxHeartbeats 400000 in
theorem wdigitAt (r D : Int) (h0 : 0 ≤ r) (h1 : r ≤ 12) (hD : 3 * (12 - r) = D) (W : World) :
    Calls Tryd.prog 29 #[.int .i64 r] W fun e w' => e = .returned (.int .i64 D) ∧ w' = W := by
  go_enter Tryd.func29, Tryd.ntmps29
  go_wp2
  go_ret
  exact ⟨by subst hD; rfl, rfl⟩
/-- What is told of a word's parts. -/
theorem wpart_dg (w : Int) (hw : U64 w) (r : Nat) (_r1 : 1 ≤ r) (r2 : r ≤ 12) (W : World) :
    Calls Tryd.prog 64 #[.int .u64 w, .int .i64 (3 * (12 - (r : Int))), .int .i64 3] W fun e w' => e = .returned (.int .i64 (dg w r)) ∧ Below W.heap.size W w' := by
  have e : (3 * (12 - (r : Int))).toNat = 3 * (12 - r) := by omega
  have hp : (2 : Int) ^ min (3 * (12 - (r : Int))).toNat 64 = 8 ^ (12 - r) := by
    rw [e, show min (3 * (12 - r)) 64 = 3 * (12 - r) by omega, Int.pow_mul]; rfl
  have hpos : (0 : Int) < 8 ^ (12 - r) := Int.pow_pos (by omega)
  have hb := dg_box w r
  exact wpart3 w _ _ _ (dg w r) (by omega) hp rfl (umask3 _ (u64_div hw hpos)) hb.1 hb.2 W
theorem wpart_mark (w : Int) (hw : U64 w) (W : World) :
    Calls Tryd.prog 64 #[.int .u64 w, .int .i64 60, .int .i64 4] W fun e w' => e = .returned (.int .i64 (w / 1152921504606846976)) ∧ Below W.heap.size W w' := by
  obtain ⟨w0, w1⟩ := hw
  exact wpart4 w 60 1152921504606846976 _ _ (by omega) rfl rfl (by rw [umask4 _ (u64_div ⟨w0, w1⟩ (by omega))]; omega) (by omega) (by omega) W
theorem wpart_size (w : Int) (hw : U64 w) (W : World) :
    Calls Tryd.prog 64 #[.int .u64 w, .int .i64 56, .int .i64 4] W fun e w' => e = .returned (.int .i64 (wR w)) ∧ Below W.heap.size W w' :=
  wpart4 w 56 72057594037927936 _ (wR w) (by omega) rfl rfl (umask4 _ (u64_div hw (by omega))) (wR_box w).1 (wR_box w).2 W
set_option maxHeartbeats 400000 in
theorem wsize (v : Int) (hw : U64 v) (w : World) :
    Calls Tryd.prog 42 #[.int .u64 v] w fun e w' => e = .returned (.int .i64 (wR v)) ∧ Below w.heap.size w w' := by
  have PS := wpart_size v hw
  have hb := wR_box v
  generalize wR v = R at *
  replace PS : Hid _ := PS
  go_enter Tryd.func42, Tryd.ntmps42
  go_wp2_with fail
  refine (PS.out _).mono ?_
  rintro e w1 ⟨rfl, d1⟩
  have c1 : Below w.heap.size w w1 := Below.trans (by go_grown) (d1.mono (by simp; try omega))
  have hB := c1
  clear c1 d1
  go_wp2
  go_ret
  exact ⟨rfl, hB⟩
set_option maxHeartbeats 1000000 in
theorem wwith_core (w r d D p s x t y : Int) (d0 : 0 ≤ d) (d7 : d ≤ 7) (hk : ¬ D < 0) (hp : (2 : Int) ^ min D.toNat 64 = p)
    (DA : ∀ W, Calls Tryd.prog 29 #[.int .i64 r] W fun e w' => e = .returned (.int .i64 D) ∧ w' = W)
    (hs : IntKind.u64.wrap (7 * p) = s) (hx : bits .andNot .u64 w s = x) (ht : IntKind.u64.wrap (d * p) = t) (hy : bits .or .u64 x t = y) (W : World) :
    Calls Tryd.prog 15 #[.int .u64 w, .int .i64 r, .int .i64 d] W fun e w' => e = .returned (.int .u64 y) ∧ Below W.heap.size W w' := by
  replace DA : Hid _ := DA
  go_enter Tryd.func15, Tryd.ntmps15
  go_wp2
  go_quiet ((go_at_call 29; exact Calls.quiet_of_same (DA.out _)))
  go_wp2
  go_ret
  exact ⟨rfl, belowN (by go_grown) _⟩

theorem whole_box {v : Int} (hv : Whole v) : 1152921504606846976 ≤ v ∧ v < 2305843009213693952 := by
  have := hv.1
  omega
theorem u64_wrap {n : Int} (h : U64 n) : IntKind.u64.wrap n = n := by
  obtain ⟨h0, h1⟩ := h
  simp [IntKind.wrap, IntKind.bits, IntKind.signed]
  omega
theorem pow8_box {r : Nat} (r1 : 1 ≤ r) (r2 : r ≤ 12) : (0 : Int) < 8 ^ (12 - r) ∧ (8 : Int) ^ (12 - r) ≤ 8589934592 := by
  rcases twelve r1 r2 with rfl | rfl | rfl | rfl | rfl | rfl | rfl | rfl | rfl | rfl | rfl | rfl <;> decide
theorem setD_box {v d : Int} {r : Nat} (hv : U64 v) (d0 : 0 ≤ d) (d7 : d ≤ 7) (r1 : 1 ≤ r) (r2 : r ≤ 12) : U64 (setD v r d) := by
  have hp := pow8_box r1 r2
  obtain ⟨h0, h1⟩ := hv
  unfold U64 setD dg
  rcases twelve r1 r2 with rfl | rfl | rfl | rfl | rfl | rfl | rfl | rfl | rfl | rfl | rfl | rfl <;> simp <;> omega
theorem with_math {v d : Int} {r : Nat} (hv : U64 v) (d0 : 0 ≤ d) (d7 : d ≤ 7) (r1 : 1 ≤ r) (r2 : r ≤ 12) :
    bits .or .u64 (bits .andNot .u64 v (IntKind.u64.wrap (7 * 8 ^ (12 - r)))) (IntKind.u64.wrap (d * 8 ^ (12 - r))) = setD v r d := by
  have hp := pow8_box r1 r2
  have hm := mul_in (a := d) (b := 8 ^ (12 - r)) (A := 7) (B := 8589934592) (by omega) (by omega)
  have h0 : 0 ≤ d * 8 ^ (12 - r) := Int.mul_nonneg d0 (by omega)
  rw [u64_wrap ⟨by omega, by omega⟩, u64_wrap ⟨h0, by omega⟩]
  exact u64_with (k := 3 * (12 - r)) hv d0 d7 (by omega) (by rw [Int.pow_mul]; rfl) rfl rfl rfl
/-- WITH: another digit. -/
theorem wwith (v d : Int) (hv : U64 v) (d0 : 0 ≤ d) (d7 : d ≤ 7) (r : Nat) (r1 : 1 ≤ r) (r2 : r ≤ 12) (W : World) :
    Calls Tryd.prog 15 #[.int .u64 v, .int .i64 (r : Int), .int .i64 d] W fun e w' => e = .returned (.int .u64 (setD v r d)) ∧ Below W.heap.size W w' := by
  have hp : (2 : Int) ^ min (3 * (12 - (r : Int))).toNat 64 = 8 ^ (12 - r) := by
    rw [show (3 * (12 - (r : Int))).toNat = 3 * (12 - r) by omega, show min (3 * (12 - r)) 64 = 3 * (12 - r) by omega, Int.pow_mul]; rfl
  exact wwith_core v r d (3 * (12 - (r : Int))) _ _ _ _ _ d0 d7 (by omega) hp (wdigitAt r _ (by omega) (by omega) rfl) rfl rfl rfl (with_math hv d0 d7 r1 r2) W
set_option maxHeartbeats 1000000 in
theorem wblank_core (r A B x1 y1 x2 y2 x3 y3 z : Int) (r0 : 0 ≤ r) (r1 : r ≤ 12) (a0 : -512 ≤ A) (a1 : A ≤ 511) (b0 : -512 ≤ B) (b1 : B ≤ 511)
    (h1 : IntKind.u64.wrap (r * 72057594037927936) = x1) (k1 : bits .or .u64 1152921504606846976 x1 = y1)
    (h2 : IntKind.u64.wrap ((A + 512) * 70368744177664) = x2) (k2 : bits .or .u64 y1 x2 = y2)
    (h3 : IntKind.u64.wrap ((B + 512) * 68719476736) = x3) (k3 : bits .or .u64 y2 x3 = y3) (k4 : bits .or .u64 y3 68719476735 = z) (w : World) :
    Calls Tryd.prog 13 #[.int .i64 r, .agg #[.int .i64 A, .int .i64 B]] w fun e w' => e = .returned (.int .u64 z) ∧ Below w.heap.size w w' := by
  go_enter Tryd.func13, Tryd.ntmps13
  go_wp2
  go_ret
  exact ⟨by first | rfl | skip, by go_grown⟩
end Go.Proofs.YtlipbdiijjfheabDoor
