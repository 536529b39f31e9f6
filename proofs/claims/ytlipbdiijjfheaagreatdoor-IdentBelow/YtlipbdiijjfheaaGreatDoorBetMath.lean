/-
  The parts of a product on the lattice, and of Beta's powers: plain numbers, and what holds at the head of Beta's loop; no condition but the ones written.
-/
import Derived.Test.YtlipbdiijjfheaaGreatDoorHalves
import Derived.Test.YtlipbdiijjfheaaGreatDoorLattice
namespace Go.Proofs.YtlipbdiijjfheaaGreatDoor
open Go.RowKit

/-- The parts of a product on the lattice. -/
def mulA (a b c d : Int) : Int := a * c + -(b * d)
def mulB (a b c d : Int) : Int := a * d + b * c + b * d

/-- The parts of Beta's powers. -/
def bet : Nat → Int × Int
  | 0 => (1, 0)
  | i + 1 => (mulA (bet i).1 (bet i).2 2 1, mulB (bet i).1 (bet i).2 2 1)
theorem bet_fin : ∀ i : Fin 21, (decide (-2147483648 ≤ (bet i.val).1) && decide ((bet i.val).1 ≤ 2147483648) && decide (-2147483648 ≤ (bet i.val).2) && decide ((bet i.val).2 ≤ 2147483648)) = true := by decide +kernel
theorem bet_box (i : Nat) (h : i ≤ 20) : -2147483648 ≤ (bet i).1 ∧ (bet i).1 ≤ 2147483648 ∧ -2147483648 ≤ (bet i).2 ∧ (bet i).2 ≤ 2147483648 := by
  have := bet_fin ⟨i, by omega⟩
  simp only [Bool.and_eq_true, decide_eq_true_eq] at this
  omega

/-- What holds at the head of Beta's loop: the power so far lies in its variable, the result's place is there, and nothing old has turned. -/
def BetAt (w : World) (q : Nat) (wr : World) : Prop :=
  wr.cell? ⟨w.heap.size + 1, 0, none⟩ = some (.int .i64 (bet q).1) ∧ wr.cell? ⟨w.heap.size + 1, 1, none⟩ = some (.int .i64 (bet q).2) ∧
  wr.frozen? ⟨w.heap.size + 1, 0, none⟩ = false ∧ wr.frozen? ⟨w.heap.size + 1, 1, none⟩ = false ∧
  wr.cell? ⟨w.heap.size, 0, none⟩ = some (.int .i64 0) ∧ wr.cell? ⟨w.heap.size, 1, none⟩ = some (.int .i64 0) ∧
  wr.frozen? ⟨w.heap.size, 0, none⟩ = false ∧ wr.frozen? ⟨w.heap.size, 1, none⟩ = false ∧ Below w.heap.size w wr
end Go.Proofs.YtlipbdiijjfheaaGreatDoor
