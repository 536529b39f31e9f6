/-
  What package eisen's calls tell where all parts are small: the parts themselves, and true; for any numbers of the lattice within the bounds written, in whatever memory.
-/
import Derived.Test.YtpncnpmikhbmnaaDoorENorm
import Derived.Test.YtpncnpmikhbmnaaDoorMask
import Derived.Test.YtpncnpmikhbmnaaDoorLattice
namespace Go.Proofs.YtpncnpmikhbmnaaDoor
open Go.RowKit

theorem store_keep {w : World} {p q : Addr} {v u : Value} (h : w.cell? p = some v) (ne : q ≠ p) : (w.setCell q u).cell? p = some v := (World.cell?_setCell_other _ _ _ _ ne).trans h
theorem store_new {w : World} {p : Addr} {x u : Value} (h : w.cell? p = some x) : (w.setCell p u).cell? p = some u := World.cell?_setCell_same _ _ _ h

theorem emul_small (a b c d X Y : Int) (hX : a * c - b * d = X) (hY : a * d + b * c + b * d = Y) (a1 : -4611686018427387903 ≤ a) (a2 : a ≤ 4611686018427387903) (b1 : -4611686018427387903 ≤ b) (b2 : b ≤ 4611686018427387903) (k1 : -4611686018427387903 ≤ c) (k2 : c ≤ 4611686018427387903) (d1 : -4611686018427387903 ≤ d) (d2 : d ≤ 4611686018427387903) (X1 : -9223372036854775808 ≤ X) (X2 : X ≤ 9223372036854775807) (Y1 : -9223372036854775808 ≤ Y) (Y2 : Y ≤ 9223372036854775807) (w : World) :
    Calls Tryd.prog 10 #[.agg #[.int .i64 a, .int .i64 b], .agg #[.int .i64 c, .int .i64 d]] w fun e w' => e = .returned (.tuple #[.agg #[.int .i64 X, .int .i64 Y], .bool true]) ∧ Below w.heap.size w w' := by
  have h := emul_any a b c d (by omega) (by omega) (by omega) (by omega) (by omega) (by omega) (by omega) (by omega) w
  rw [hX, hY] at h
  have hb := both_mk (fits_mk ⟨X1, X2⟩) (fits_mk ⟨Y1, Y2⟩)
  rw [hb, keptA_mk hb, keptB_mk hb] at h
  exact h
theorem eadd_small (a b c d X Y : Int) (hX : a + c = X) (hY : b + d = Y) (a1 : -4611686018427387903 ≤ a) (a2 : a ≤ 4611686018427387903) (b1 : -4611686018427387903 ≤ b) (b2 : b ≤ 4611686018427387903) (k1 : -4611686018427387903 ≤ c) (k2 : c ≤ 4611686018427387903) (d1 : -4611686018427387903 ≤ d) (d2 : d ≤ 4611686018427387903) (w : World) :
    Calls Tryd.prog 19 #[.agg #[.int .i64 a, .int .i64 b], .agg #[.int .i64 c, .int .i64 d]] w fun e w' => e = .returned (.tuple #[.agg #[.int .i64 X, .int .i64 Y], .bool true]) ∧ Below w.heap.size w w' := by
  have h := eadd_any a b c d (by omega) (by omega) (by omega) (by omega) (by omega) (by omega) (by omega) (by omega) w
  have hb := both_mk (x := a + c) (y := b + d) (fits_mk ⟨by omega, by omega⟩) (fits_mk ⟨by omega, by omega⟩)
  rw [hb, keptA_mk hb, keptB_mk hb, hX, hY] at h
  exact h
theorem esub_small (a b c d X Y : Int) (hX : a - c = X) (hY : b - d = Y) (a1 : -4611686018427387903 ≤ a) (a2 : a ≤ 4611686018427387903) (b1 : -4611686018427387903 ≤ b) (b2 : b ≤ 4611686018427387903) (k1 : -4611686018427387903 ≤ c) (k2 : c ≤ 4611686018427387903) (d1 : -4611686018427387903 ≤ d) (d2 : d ≤ 4611686018427387903) (w : World) :
    Calls Tryd.prog 13 #[.agg #[.int .i64 a, .int .i64 b], .agg #[.int .i64 c, .int .i64 d]] w fun e w' => e = .returned (.tuple #[.agg #[.int .i64 X, .int .i64 Y], .bool true]) ∧ Below w.heap.size w w' := by
  have h := esub_any a b c d (by omega) (by omega) (by omega) (by omega) (by omega) (by omega) (by omega) (by omega) w
  have hb := both_mk (x := a - c) (y := b - d) (fits_mk ⟨by omega, by omega⟩) (fits_mk ⟨by omega, by omega⟩)
  rw [hb, keptA_mk hb, keptB_mk hb, hX, hY] at h
  exact h
theorem econj_small (a b X Y : Int) (hX : a + b = X) (hY : -b = Y) (a1 : -4611686018427387903 ≤ a) (a2 : a ≤ 4611686018427387903) (b1 : -4611686018427387903 ≤ b) (b2 : b ≤ 4611686018427387903) (w : World) :
    Calls Tryd.prog 25 #[.agg #[.int .i64 a, .int .i64 b]] w fun e w' => e = .returned (.tuple #[.agg #[.int .i64 X, .int .i64 Y], .bool true]) ∧ Below w.heap.size w w' := by
  have h := econj_any a b (by omega) (by omega) (by omega) (by omega) w
  have hb := both_mk (x := a + b) (y := -b) (fits_mk ⟨by omega, by omega⟩) (fits_mk ⟨by omega, by omega⟩)
  rw [hb, keptA_mk hb, keptB_mk hb, hX, hY] at h
  exact h
theorem enorm_small (a b N : Int) (hN : normE a b = N) (a1 : -4611686018427387903 ≤ a) (a2 : a ≤ 4611686018427387903) (b1 : -4611686018427387903 ≤ b) (b2 : b ≤ 4611686018427387903) (N2 : N ≤ 9223372036854775807) (w : World) :
    Calls Tryd.prog 12 #[.agg #[.int .i64 a, .int .i64 b]] w fun e w' => e = .returned (.tuple #[.int .i64 N, .bool true]) ∧ Below w.heap.size w w' := by
  have h := enorm_any a b (by omega) (by omega) (by omega) (by omega) w
  have e : a * a + a * b + b * b = N := hN
  have p : 0 ≤ N := by rw [← hN]; exact norm_pos a b
  rw [e, kept_mk (fits_mk ⟨by omega, N2⟩), fits_mk ⟨by omega, N2⟩] at h
  exact h

/-- A part by truncation. -/
def tam (n : Int) : Int := n.tmod 16384
theorem tam_box (n : Int) : -16384 < tam n ∧ tam n < 16384 := tmod_box n 16384 (by omega)
set_option maxHeartbeats 400000 in
theorem tame_any (a b : Int) (w : World) :
    Calls Tryd.prog 9 #[.agg #[.int .i64 a, .int .i64 b]] w fun e w' => e = .returned (.agg #[.int .i64 (tam a), .int .i64 (tam b)]) ∧ Below w.heap.size w w' := by
  have ba := tam_box a
  have bb := tam_box b
  obtain ⟨x, hx⟩ : ∃ x, a.tmod 16384 = x := ⟨_, rfl⟩
  obtain ⟨y, hy⟩ : ∃ y, b.tmod 16384 = y := ⟨_, rfl⟩
  have ex : tam a = x := hx
  have ey : tam b = y := hy
  rw [ex] at ba; rw [ey] at bb; rw [ex, ey]
  clear ex ey
  obtain ⟨ba1, ba2⟩ := ba
  obtain ⟨bb1, bb2⟩ := bb
  go_enter Tryd.func9, Tryd.ntmps9
  go_wp2
  exact bodyPost_ret (v := .agg #[.int .i64 x, .int .i64 y]) (by simp [results, Tryd.results9, go_sem]) rfl ⟨rfl, by go_grown⟩
end Go.Proofs.YtpncnpmikhbmnaaDoor
