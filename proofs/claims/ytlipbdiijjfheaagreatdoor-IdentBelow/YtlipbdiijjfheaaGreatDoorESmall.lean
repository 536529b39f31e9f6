/-
  What package eisen's calls tell where all parts are small: the parts themselves, and true; for any numbers of the lattice within the bounds written, in whatever memory.
-/
import Derived.Test.YtlipbdiijjfheaaGreatDoorERing
import Derived.Test.YtlipbdiijjfheaaGreatDoorMask
import Derived.Test.YtlipbdiijjfheaaGreatDoorLattice
namespace Go.Proofs.YtlipbdiijjfheaaGreatDoor
open Go.RowKit

theorem store_keep {w : World} {p q : Addr} {v u : Value} (h : w.cell? p = some v) (ne : q ≠ p) : (w.setCell q u).cell? p = some v := (World.cell?_setCell_other _ _ _ _ ne).trans h
theorem store_new {w : World} {p : Addr} {x u : Value} (h : w.cell? p = some x) : (w.setCell p u).cell? p = some u := World.cell?_setCell_same _ _ _ h

/-- A number of the lattice that was just made: nought, in a block that may be written. -/
def NewE (B : Nat) (w : World) : Prop := w.cell? ⟨B, 0, none⟩ = some (.int .i64 0) ∧ w.cell? ⟨B, 1, none⟩ = some (.int .i64 0) ∧ w.frozen? ⟨B, 0, none⟩ = false ∧ w.frozen? ⟨B, 1, none⟩ = false
theorem new_alloc (w : World) : NewE w.heap.size (w.alloc (.cells #[.int .i64 0, .int .i64 0] 32)) := ⟨by go_simp, by go_simp, by go_simp, by go_simp⟩
theorem keepNew {B : Nat} {a b : World} (hb : Below a.heap.size a b) (h : NewE B a) : NewE B b := ⟨keepCell hb h.1, keepCell hb h.2.1, keepFrozen hb h.1 h.2.2.1, keepFrozen hb h.2.1 h.2.2.2⟩
theorem allocB (w : World) (o : Obj) : Below w.heap.size w (w.alloc o) := (Below.refl _ _).alloc (Nat.le_refl _) _
theorem keepTwoStore {w0 a : World} {p0 p1 : Addr} {B : Nat} {v0 v1 x y : Value} (n0 : B ≠ p0.block) (n1 : B ≠ p1.block) (hB : w0.heap.size ≤ B) (h : a.cell? p0 = some v0 ∧ a.cell? p1 = some v1 ∧ Below w0.heap.size w0 a) :
    ((a.setCell ⟨B, 0, none⟩ x).setCell ⟨B, 1, none⟩ y).cell? p0 = some v0 ∧ ((a.setCell ⟨B, 0, none⟩ x).setCell ⟨B, 1, none⟩ y).cell? p1 = some v1 ∧ Below w0.heap.size w0 ((a.setCell ⟨B, 0, none⟩ x).setCell ⟨B, 1, none⟩ y) := by
  have f : ∀ (p : Addr) (o : Nat), B ≠ p.block → (⟨B, o, none⟩ : Addr) ≠ p := fun p o h e => h (by rw [← e])
  exact ⟨store_keep (store_keep h.1 (f _ _ n0)) (f _ _ n0), store_keep (store_keep h.2.1 (f _ _ n1)) (f _ _ n1), (h.2.2.setCell hB _).setCell hB _⟩

theorem swapB {w0 a : World} {o o' : Obj} (hs : w0.heap.size ≤ a.heap.size) (h : Below w0.heap.size w0 (a.alloc o)) : Below w0.heap.size w0 (a.alloc o') := by
  have h1 := allocB a o
  have h2 := allocB a o'
  obtain ⟨e1, e2, e3, e4, e5⟩ := h
  refine ⟨e1, e2, e3, by have := h2.size; omega, fun i hi => ?_⟩
  have k1 := h1.block i (by omega)
  have k2 := h2.block i (by omega)
  exact (k2.trans k1.symm).trans (e5 i hi)
theorem keepTwoSwap {w0 a : World} {o o' : Obj} {p0 p1 : Addr} {v0 v1 : Value} (q0 : p0.block < a.heap.size) (q1 : p1.block < a.heap.size) (hs : w0.heap.size ≤ a.heap.size) (h : (a.alloc o).cell? p0 = some v0 ∧ (a.alloc o).cell? p1 = some v1 ∧ Below w0.heap.size w0 (a.alloc o)) :
    (a.alloc o').cell? p0 = some v0 ∧ (a.alloc o').cell? p1 = some v1 ∧ Below w0.heap.size w0 (a.alloc o') :=
  ⟨((allocB a o').cell q0).trans (((allocB a o).cell q0).symm.trans h.1), ((allocB a o').cell q1).trans (((allocB a o).cell q1).symm.trans h.2.1), swapB hs h.2.2⟩

theorem norm_small {x y B : Int} (h : -B ≤ x ∧ x ≤ B ∧ -B ≤ y ∧ y ≤ B) : normE x y ≤ 3 * (B * B) := by
  have sq : ∀ x y : Int, -B ≤ x → x ≤ B → -B ≤ y → y ≤ B → x * y ≤ B * B := fun x y x1 x2 y1 y2 => by
    have h : (x * y).natAbs ≤ B.natAbs * B.natAbs := by rw [Int.natAbs_mul]; exact Nat.mul_le_mul (by omega) (by omega)
    have g2 : (B.natAbs * B.natAbs : Nat) = (B * B).natAbs := by rw [Int.natAbs_mul]
    have g3 : 0 ≤ B * B := by have := sq_ge B; omega
    omega
  have h1 := sq x x h.1 h.2.1 h.1 h.2.1
  have h2 := sq x y h.1 h.2.1 h.2.2.1 h.2.2.2
  have h3 := sq y y h.2.2.1 h.2.2.2 h.2.2.1 h.2.2.2
  unfold normE
  omega

theorem keepSix {w0 a b : World} {p0 p1 p2 p3 p4 p5 : Addr} {v0 v1 v2 v3 v4 v5 : Value} (hb : Below a.heap.size a b) (h : a.cell? p0 = some v0 ∧ a.cell? p1 = some v1 ∧ a.cell? p2 = some v2 ∧ a.cell? p3 = some v3 ∧ a.cell? p4 = some v4 ∧ a.cell? p5 = some v5 ∧ Below w0.heap.size w0 a) : b.cell? p0 = some v0 ∧ b.cell? p1 = some v1 ∧ b.cell? p2 = some v2 ∧ b.cell? p3 = some v3 ∧ b.cell? p4 = some v4 ∧ b.cell? p5 = some v5 ∧ Below w0.heap.size w0 b :=
  ⟨keepCell hb h.1, keepCell hb h.2.1, keepCell hb h.2.2.1, keepCell hb h.2.2.2.1, keepCell hb h.2.2.2.2.1, keepCell hb h.2.2.2.2.2.1, belowT h.2.2.2.2.2.2 hb⟩

theorem emul_small (a b c d X Y : Int) (hX : a * c - b * d = X) (hY : a * d + b * c + b * d = Y) (a1 : -4611686018427387903 ≤ a) (a2 : a ≤ 4611686018427387903) (b1 : -4611686018427387903 ≤ b) (b2 : b ≤ 4611686018427387903) (k1 : -4611686018427387903 ≤ c) (k2 : c ≤ 4611686018427387903) (d1 : -4611686018427387903 ≤ d) (d2 : d ≤ 4611686018427387903) (X1 : -9223372036854775808 ≤ X) (X2 : X ≤ 9223372036854775807) (Y1 : -9223372036854775808 ≤ Y) (Y2 : Y ≤ 9223372036854775807) (w : World) :
    Calls Tryz.prog 80 #[.agg #[.int .i64 a, .int .i64 b], .agg #[.int .i64 c, .int .i64 d]] w fun e w' => e = .returned (.tuple #[.agg #[.int .i64 X, .int .i64 Y], .bool true]) ∧ Below w.heap.size w w' := by
  have h := emul_any a b c d (by omega) (by omega) (by omega) (by omega) (by omega) (by omega) (by omega) (by omega) w
  rw [hX, hY] at h
  have hb := both_mk (fits_mk ⟨X1, X2⟩) (fits_mk ⟨Y1, Y2⟩)
  rw [hb, keptA_mk hb, keptB_mk hb] at h
  exact h
theorem eadd_small (a b c d X Y : Int) (hX : a + c = X) (hY : b + d = Y) (a1 : -4611686018427387903 ≤ a) (a2 : a ≤ 4611686018427387903) (b1 : -4611686018427387903 ≤ b) (b2 : b ≤ 4611686018427387903) (k1 : -4611686018427387903 ≤ c) (k2 : c ≤ 4611686018427387903) (d1 : -4611686018427387903 ≤ d) (d2 : d ≤ 4611686018427387903) (w : World) :
    Calls Tryz.prog 81 #[.agg #[.int .i64 a, .int .i64 b], .agg #[.int .i64 c, .int .i64 d]] w fun e w' => e = .returned (.tuple #[.agg #[.int .i64 X, .int .i64 Y], .bool true]) ∧ Below w.heap.size w w' := by
  have h := eadd_any a b c d (by omega) (by omega) (by omega) (by omega) (by omega) (by omega) (by omega) (by omega) w
  have hb := both_mk (x := a + c) (y := b + d) (fits_mk ⟨by omega, by omega⟩) (fits_mk ⟨by omega, by omega⟩)
  rw [hb, keptA_mk hb, keptB_mk hb, hX, hY] at h
  exact h
theorem esub_small (a b c d X Y : Int) (hX : a - c = X) (hY : b - d = Y) (a1 : -4611686018427387903 ≤ a) (a2 : a ≤ 4611686018427387903) (b1 : -4611686018427387903 ≤ b) (b2 : b ≤ 4611686018427387903) (k1 : -4611686018427387903 ≤ c) (k2 : c ≤ 4611686018427387903) (d1 : -4611686018427387903 ≤ d) (d2 : d ≤ 4611686018427387903) (w : World) :
    Calls Tryz.prog 123 #[.agg #[.int .i64 a, .int .i64 b], .agg #[.int .i64 c, .int .i64 d]] w fun e w' => e = .returned (.tuple #[.agg #[.int .i64 X, .int .i64 Y], .bool true]) ∧ Below w.heap.size w w' := by
  have h := esub_any a b c d (by omega) (by omega) (by omega) (by omega) (by omega) (by omega) (by omega) (by omega) w
  have hb := both_mk (x := a - c) (y := b - d) (fits_mk ⟨by omega, by omega⟩) (fits_mk ⟨by omega, by omega⟩)
  rw [hb, keptA_mk hb, keptB_mk hb, hX, hY] at h
  exact h
theorem econj_small (a b X Y : Int) (hX : a + b = X) (hY : -b = Y) (a1 : -4611686018427387903 ≤ a) (a2 : a ≤ 4611686018427387903) (b1 : -4611686018427387903 ≤ b) (b2 : b ≤ 4611686018427387903) (w : World) :
    Calls Tryz.prog 124 #[.agg #[.int .i64 a, .int .i64 b]] w fun e w' => e = .returned (.tuple #[.agg #[.int .i64 X, .int .i64 Y], .bool true]) ∧ Below w.heap.size w w' := by
  have h := econj_any a b (by omega) (by omega) (by omega) (by omega) w
  have hb := both_mk (x := a + b) (y := -b) (fits_mk ⟨by omega, by omega⟩) (fits_mk ⟨by omega, by omega⟩)
  rw [hb, keptA_mk hb, keptB_mk hb, hX, hY] at h
  exact h
/-- A part by truncation. -/
def tam (n : Int) : Int := n.tmod 16384
theorem tam_box (n : Int) : -16384 < tam n ∧ tam n < 16384 := tmod_box n 16384 (by omega)
end Go.Proofs.YtlipbdiijjfheaaGreatDoor
