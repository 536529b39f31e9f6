/-
  From the row's condition to the walks' fact: where the tables of Units and of digits read as their texts lay them, their cells hold just that. A cell that comes in is three numbers.
-/
import Derived.Test.YtdklpgphmoaniaaGreatDoorC1X
import Derived.Test.YtdklpgphmoaniaaGreatDoorLaidE
import Derived.Test.YtdklpgphmoaniaaGreatDoorProg
import Derived.Handy
import Derived.Deep.QuietTactic
import Derived.WalkSpells
import Derived.WalkLawsBesides
import Derived.BigQuiet
import Derived.PlainAid
import Derived.Deep.RegionWith
import Derived.Laws.BitsAllLaws
import Derived.WalkSmall
import Derived.Test.YtdklpgphmoaniaaGreatDoorRows
import Derived.LaidMore
import Derived.Stop.LaidErr
import Derived.Deep.RegionHeld3
import Derived.Deep.CutRange
namespace Go.Proofs.YtdklpgphmoaniaaGreatDoor
open Go.RowKit

theorem gDigsType : (Tryz.prog.globals[2]?).map (·.type) = some 215 := by kernel_rfl

theorem cellsDigs : Tryz.prog.cellsOf 215 = 7 := by kernel_rfl

theorem cellsInt : Tryz.prog.cellsOf 3 = 1 := by kernel_rfl

theorem cellsCell : Tryz.prog.cellsOf 25 = 3 := by kernel_rfl

theorem digs_of_laid {H : Type} {enc : TypeId × Value → H} {w : World} {base : Nat} {sp : Nat → Bool} {held : Bool} {fuel : Nat} {cs : List Value} {p : List MemPlace}
    (h : DataW.trod enc Tryz.prog w base sp held fuel 215 cs = some (Rows.laid_apiary_cell_digits, p)) : cs.toArray = digCells := by
  have := Lib.cells_of_tab (zs := [0, 1, 5, 6, 3, 2, 4]) Tryz.underlying215 Tryz.underlying3 cellsInt cellsDigs h
  rw [this]; rfl

/-- The walks' fact out of the row's condition. -/
theorem tabs_of_row {W : World} (h : laidMet Tryz.prog [("apiary/eisen.units", Rows.laid_apiary_eisen_units), ("apiary/cell.digits", Rows.laid_apiary_cell_digits)] W) : Tabs W := by
  refine ⟨?_, uni_of_row h⟩
  obtain ⟨ps, ⟨-, -, -, -, -, q, -, -, -, -, hr, -⟩, -⟩ := h
  obtain ⟨g', t', cs, fuel, p, q', hg', ht', hvar, hd, _, _⟩ := hr
  obtain rfl := Option.some.inj (gDigs.symm.trans hg')
  obtain rfl := Option.some.inj (gDigsType.symm.trans ht')
  unfold Digs
  rw [hvar, ← digs_of_laid hd]

section
variable {H : Type} {enc : TypeId × Value → H} {w : World} {base : Nat} {sp : Nat → Bool} {held : Bool}
set_option maxRecDepth 20000 in
/-- A cell that comes in: three numbers. -/
theorem open_Cell {r : Reach} {b0 : Nat} {v : Value} {d : DataW H} {ps : List MemPlace} (hval : Value.okWide Tryz.prog w r b0 25 v) (hd : DataW.Trod enc Tryz.prog w base sp held 25 v d ps) :
    ∃ x y z, v = .agg #[.int .i64 x, .int .i64 y, .int .i64 z] ∧ d = .agg [.lit (.int .i64 x), .agg [.lit (.int .i64 y), .lit (.int .i64 z)]] ∧ ps = [] ∧ (Lit.int .i64 x).wf = true ∧ (Lit.int .i64 y).wf = true ∧ (Lit.int .i64 z).wf = true := by
  obtain ⟨cs, rfl, hsz⟩ := Go.WideShapes.okWide_struct Tryz.underlying25 hval
  rw [cellsCell] at hsz
  obtain ⟨l⟩ := cs
  match l, hsz with
  | [c0, c1, c2], _ =>
  obtain ⟨fuel, hf⟩ := hd
  obtain ⟨y0, y1, m, hx, _, hy0, hy1⟩ := Go.ChangeShapes.trod_struct2 Tryz.underlying25 hf
  obtain ⟨a, e0, rfl, wa⟩ := DataW.trod_int Tryz.underlying3 hy0
  obtain ⟨z0, z1, m', hx', _, hz0, hz1⟩ := Go.ChangeShapes.trod_struct2 Tryz.underlying23 hy1
  obtain ⟨b, e1, rfl, wb⟩ := DataW.trod_int Tryz.underlying2 hz0
  obtain ⟨c, e2, rfl, wc⟩ := DataW.trod_int Tryz.underlying2 hz1
  simp [Value.cells, cellsI, cellsInt, cellsE] at e0 e1 e2
  subst e0 e1 e2
  subst hx'
  simp only [Prod.mk.injEq] at hx
  exact ⟨a, b, c, rfl, hx.1, by simpa using hx.2, wa, wb, wc⟩
set_option maxRecDepth 20000 in
theorem shut_Cell {x y z : Int} (wa : (Lit.int .i64 x).wf = true) (wb : (Lit.int .i64 y).wf = true) (wc : (Lit.int .i64 z).wf = true) : DataW.Trod enc Tryz.prog w base sp held 25 (.agg #[.int .i64 x, .int .i64 y, .int .i64 z]) (.agg [.lit (.int .i64 x), .agg [.lit (.int .i64 y), .lit (.int .i64 z)]]) [] := ⟨3, by
  have f0 : DataW.trod enc Tryz.prog w base sp held 2 3 [.int .i64 x] = some (.lit (.int .i64 x), []) := by simp [DataW.trod, Tryz.underlying3, wa]
  have f1 : DataW.trod enc Tryz.prog w base sp held 1 2 [.int .i64 y] = some (.lit (.int .i64 y), []) := by simp [DataW.trod, Tryz.underlying2, wb]
  have f2 : DataW.trod enc Tryz.prog w base sp held 1 2 [.int .i64 z] = some (.lit (.int .i64 z), []) := by simp [DataW.trod, Tryz.underlying2, wc]
  have hE := Go.ChangeShapes.trod_struct2_mk (enc := enc) (w := w) (base := base) (spare := sp) (held := held) (n := 1) (cs := [.int .i64 y, .int .i64 z]) Tryz.underlying23 (by simp [cellsE]) (by simpa [cellsI] using f1) (by simpa [cellsI] using f2)
  have := Go.ChangeShapes.trod_struct2_mk (enc := enc) (w := w) (base := base) (spare := sp) (held := held) (n := 2) (cs := [.int .i64 x, .int .i64 y, .int .i64 z]) Tryz.underlying25 (by simp [cellsCell]) (by simpa [cellsInt] using f0) (by simpa [cellsE] using hE)
  simpa [Value.cells] using this⟩
end

end Go.Proofs.YtdklpgphmoaniaaGreatDoor
