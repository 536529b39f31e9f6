/-
  From the row's condition to the walks' fact: where the tables of Units, of digits and of places read as their texts lay them, their cells hold just that.
-/
import Derived.Test.YtlipbdiijjfheabDoorLaidC
import Derived.Test.YtlipbdiijjfheabDoorIAwake
import Derived.Lib.LaidU8
namespace Go.Proofs.YtlipbdiijjfheabDoor
open Go.RowKit

theorem gDebType : (Tryd.prog.globals[5]?).map (·.type) = some 136 := by kernel_rfl
theorem cellsDeb : Tryd.prog.cellsOf 136 = 64 := by kernel_rfl
theorem cellsU8 : Tryd.prog.cellsOf 5 = 1 := by kernel_rfl
set_option maxRecDepth 20000 in
theorem deb_of_laid {H : Type} {enc : TypeId × Value → H} {w : World} {base : Nat} {sp : Nat → Bool} {held : Bool} {fuel : Nat} {cs : List Value} {p : List MemPlace}
    (h : DataW.trod enc Tryd.prog w base sp held fuel 136 cs = some (Rows.laid_math_bits_deBruijn64tab, p)) : cs.toArray = debCells := by
  have := Lib.cells_of_tab (zs := [0, 1, 56, 2, 57, 49, 28, 3, 61, 58, 42, 50, 38, 29, 17, 4, 62, 47, 59, 36, 45, 43, 51, 22, 53, 39, 33, 30, 24, 18, 12, 5, 63, 55, 48, 27, 60, 41, 37, 16, 46, 35, 44, 21, 52, 32, 23, 11, 54, 26, 40, 15, 34, 20, 31, 10, 25, 14, 19, 9, 13, 8, 7, 6]) Tryd.underlying136 Tryd.underlying5 cellsU8 cellsDeb h
  rw [this]; rfl

/-- The walks' fact out of the row's condition. -/
theorem five_of_row {W : World} {l : List (String × DataW Unit)} (h : laidMet Tryd.prog l W) (h1 : ("apiary/eisen.units", Rows.laid_apiary_eisen_units) ∈ l) (h2 : ("apiary/cell.digits", Rows.laid_apiary_cell_digits) ∈ l) (h3 : ("math/bits.deBruijn64tab", Rows.laid_math_bits_deBruijn64tab) ∈ l) : Five W := by
  refine ⟨⟨?_, ?_⟩, ?_⟩
  · obtain ⟨g', t', cs, fuel, p, hg', ht', hvar, hd⟩ := Lib.laidMet.reads h h2
    obtain rfl := Option.some.inj (gDigs.symm.trans hg')
    obtain rfl := Option.some.inj (gDigsType.symm.trans ht')
    unfold Digs
    rw [hvar, ← digs_of_laid hd]
  · obtain ⟨g', t', cs, fuel, p, hg', ht', hvar, hd⟩ := Lib.laidMet.reads h h1
    obtain rfl := Option.some.inj (gUni.symm.trans hg')
    obtain rfl := Option.some.inj (gUniType.symm.trans ht')
    unfold Uni
    rw [hvar, ← uni_of_laid hd]
  · obtain ⟨g', t', cs, fuel, p, hg', ht', hvar, hd⟩ := Lib.laidMet.reads h h3
    obtain rfl := Option.some.inj (gDeb.symm.trans hg')
    obtain rfl := Option.some.inj (gDebType.symm.trans ht')
    unfold DeB
    rw [hvar, ← deb_of_laid hd]
end Go.Proofs.YtlipbdiijjfheabDoor
