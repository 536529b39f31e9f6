/-
  What package cell's Children tells: the seven cells below one, in new memory; for any cell, in whatever memory where both tables hold what their texts lay.
-/
import Derived.Test.YtlipbdiijjfheabDoorCCell
namespace Go.Proofs.YtlipbdiijjfheabDoor
open Go.RowKit

/-- The o-th of the 21 numbers of a cell's children. -/
def kidG (r a b : Int) (o : Nat) : Int := if o % 3 = 0 then r + 1 else if o % 3 = 1 then chA ((o / 3 : Nat) : Int) a b else chB ((o / 3 : Nat) : Int) a b
/-- The first k children are told; the others are nought. -/
def kidAt (G : Nat → Int) (k o : Nat) : Int := if o < k * 3 then G o else 0
/-- 21 cells of which the first k children are told. -/
def KidRel (B : Nat) (G : Nat → Int) (k : Nat) (w : World) : Prop := ∀ o < 21, w.cell? ⟨B, o, none⟩ = some (.int .i64 (kidAt G k o)) ∧ w.frozen? ⟨B, o, none⟩ = false
theorem kid_keep {a b : World} {B k : Nat} {G : Nat → Int} (hb : Below a.heap.size a b) (h : KidRel B G k a) : KidRel B G k b := fun o ho => ⟨keepCell hb (h o ho).1, keepFrozen hb (h o ho).1 (h o ho).2⟩
theorem kid_step {w : World} {B k : Nat} {G : Nat → Int} (h : KidRel B G k w) :
    KidRel B G (k + 1) (((w.setCell ⟨B, k * 3, none⟩ (.int .i64 (G (k * 3)))).setCell ⟨B, k * 3 + 1, none⟩ (.int .i64 (G (k * 3 + 1)))).setCell ⟨B, k * 3 + 2, none⟩ (.int .i64 (G (k * 3 + 2)))) := by
  intro o ho
  have h0 := h o ho
  constructor
  · by_cases e2 : o = k * 3 + 2
    · subst e2
      have : kidAt G (k + 1) (k * 3 + 2) = G (k * 3 + 2) := if_pos (by omega)
      rw [this]
      exact World.cell?_setCell_same _ _ _ (store_keep (store_keep h0.1 (by simp)) (by simp))
    · rw [World.cell?_setCell_other _ _ _ _ (by simp; try omega)]
      by_cases e1 : o = k * 3 + 1
      · subst e1
        have : kidAt G (k + 1) (k * 3 + 1) = G (k * 3 + 1) := if_pos (by omega)
        rw [this]
        exact World.cell?_setCell_same _ _ _ (store_keep h0.1 (by simp))
      · rw [World.cell?_setCell_other _ _ _ _ (by simp; try omega)]
        by_cases e0 : o = k * 3
        · subst e0
          have : kidAt G (k + 1) (k * 3) = G (k * 3) := if_pos (by omega)
          rw [this]
          exact World.cell?_setCell_same _ _ _ h0.1
        · rw [World.cell?_setCell_other _ _ _ _ (by simp; try omega), h0.1]
          congr 2
          unfold kidAt
          by_cases hl : o < k * 3
          · rw [if_pos hl, if_pos (by omega)]
          · rw [if_neg hl, if_neg (by omega)]
  · simp [h0.2]
/-- The ending that tells seven cells in new memory. -/
def TellsK (w : World) (G : Nat → Int) (E : Int) (e : Ending) (w' : World) : Prop := ∃ Bk, w.heap.size ≤ Bk ∧ e = .returned (.tuple #[.slice (some ⟨Bk, 0, none⟩) 7 7, .int .i64 E]) ∧ KidRel Bk G 7 w'


theorem kidG_0 (r a b : Int) (k : Nat) : kidG r a b (k * 3) = r + 1 := by
  unfold kidG
  rw [if_pos (by omega)]
theorem kidG_1 (r a b : Int) (k : Nat) : kidG r a b (k * 3 + 1) = chA (k : Int) a b := by
  unfold kidG
  rw [if_neg (by omega), if_pos (by omega), show (k * 3 + 1) / 3 = k by omega]
theorem kidG_2 (r a b : Int) (k : Nat) : kidG r a b (k * 3 + 2) = chB (k : Int) a b := by
  unfold kidG
  rw [if_neg (by omega), if_neg (by omega), show (k * 3 + 2) / 3 = k by omega]
theorem kidAt_all (G : Nat → Int) (o : Nat) (ho : o < 21) : kidAt G 7 o = G o := if_pos ho
end Go.Proofs.YtlipbdiijjfheabDoor
