/-
  From the row's condition to the walks' fact: where the tables of Units, of digits and of ways read as their texts lay them, their cells hold just that; whatever else the row lists.
-/
import Derived.Test.YtdklpgphmoaniaaGreatDoorPHexX
import Derived.Test.YtdklpgphmoaniaaGreatDoorLaidC
import Derived.Test.YtdklpgphmoaniaaGreatDoorProg
import Derived.Handy
import Derived.Deep.QuietTactic
import Derived.WalkSpells
import Derived.WalkLawsBesides
import Derived.BigQuiet
import Derived.PlainAid
import Derived.Deep.RegionWith
import Derived.Laws.BitsAllLaws
import Derived.WalkSmall
import Derived.Test.YtdklpgphmoaniaaGreatDoorRows
import Derived.LaidMore
import Derived.Stop.LaidErr
import Derived.Deep.RegionHeld3
import Derived.Deep.CutRange
import Derived.WalkKit
namespace Go.Proofs.YtdklpgphmoaniaaGreatDoor
open Go.RowKit

/-- The three tables. -/
def Cov3 (w : World) : Prop := Tabs w ∧ Ways w

theorem Cov3.below {w w' : World} (h : Cov3 w) (hb : Below w.heap.size w w') : Cov3 w' := ⟨h.1.below hb, h.2.below hb⟩

theorem gWaysType : (Tryz.prog.globals[1]?).map (·.type) = some 123 := by kernel_rfl

theorem cellsWays : Tryz.prog.cellsOf 123 = 12 := by kernel_rfl

set_option maxRecDepth 20000 in
theorem ways_of_laid {H : Type} {enc : TypeId × Value → H} {w : World} {base : Nat} {sp : Nat → Bool} {held : Bool} {fuel : Nat} {cs : List Value} {p : List MemPlace}
    (h : DataW.trod enc Tryz.prog w base sp held fuel 123 cs = some (Rows.laid_apiary_plane_ways, p)) : cs.toArray = wayCells := by
  have hl : cs.length = 12 := by
    cases fuel with
    | zero => simp [DataW.trod] at h
    | succ fuel =>
      simp only [DataW.trod, Tryz.underlying123, cellsWays, cellsE] at h
      split at h
      · rename_i hl; exact hl
      · cases h
  match cs, hl with
  | [c0, c1, c2, c3, c4, c5, c6, c7, c8, c9, c10, c11], _ =>
  obtain ⟨f0, d0, q0, h0, t0⟩ := Lib.array_elem Tryz.underlying123 h 0 (by omega)
  rw [cellsE] at t0
  obtain rfl : (.agg ([(1 : Int), 1].map fun z => .lit (.int .i64 z))) = d0 := Option.some.inj h0
  have e0 := Lib.ints_of_struct Tryz.underlying23 (fieldsE Tryz.underlying23).1 (by rw [cellsE]; rfl) t0
  simp at e0
  obtain ⟨f1, d1, q1, h1, t1⟩ := Lib.array_elem Tryz.underlying123 h 1 (by omega)
  rw [cellsE] at t1
  obtain rfl : (.agg ([((-1) : Int), 2].map fun z => .lit (.int .i64 z))) = d1 := Option.some.inj h1
  have e1 := Lib.ints_of_struct Tryz.underlying23 (fieldsE Tryz.underlying23).1 (by rw [cellsE]; rfl) t1
  simp at e1
  obtain ⟨f2, d2, q2, h2, t2⟩ := Lib.array_elem Tryz.underlying123 h 2 (by omega)
  rw [cellsE] at t2
  obtain rfl : (.agg ([((-2) : Int), 1].map fun z => .lit (.int .i64 z))) = d2 := Option.some.inj h2
  have e2 := Lib.ints_of_struct Tryz.underlying23 (fieldsE Tryz.underlying23).1 (by rw [cellsE]; rfl) t2
  simp at e2
  obtain ⟨f3, d3, q3, h3, t3⟩ := Lib.array_elem Tryz.underlying123 h 3 (by omega)
  rw [cellsE] at t3
  obtain rfl : (.agg ([((-1) : Int), (-1)].map fun z => .lit (.int .i64 z))) = d3 := Option.some.inj h3
  have e3 := Lib.ints_of_struct Tryz.underlying23 (fieldsE Tryz.underlying23).1 (by rw [cellsE]; rfl) t3
  simp at e3
  obtain ⟨f4, d4, q4, h4, t4⟩ := Lib.array_elem Tryz.underlying123 h 4 (by omega)
  rw [cellsE] at t4
  obtain rfl : (.agg ([(1 : Int), (-2)].map fun z => .lit (.int .i64 z))) = d4 := Option.some.inj h4
  have e4 := Lib.ints_of_struct Tryz.underlying23 (fieldsE Tryz.underlying23).1 (by rw [cellsE]; rfl) t4
  simp at e4
  obtain ⟨f5, d5, q5, h5, t5⟩ := Lib.array_elem Tryz.underlying123 h 5 (by omega)
  rw [cellsE] at t5
  obtain rfl : (.agg ([(2 : Int), (-1)].map fun z => .lit (.int .i64 z))) = d5 := Option.some.inj h5
  have e5 := Lib.ints_of_struct Tryz.underlying23 (fieldsE Tryz.underlying23).1 (by rw [cellsE]; rfl) t5
  simp at e5
  obtain ⟨rfl, rfl⟩ := e0
  obtain ⟨rfl, rfl⟩ := e1
  obtain ⟨rfl, rfl⟩ := e2
  obtain ⟨rfl, rfl⟩ := e3
  obtain ⟨rfl, rfl⟩ := e4
  obtain ⟨rfl, rfl⟩ := e5
  rfl

theorem cov_of_row {W : World} {l : List (String × DataW Unit)} (h : laidMet Tryz.prog l W) (h1 : ("apiary/eisen.units", Rows.laid_apiary_eisen_units) ∈ l) (h2 : ("apiary/cell.digits", Rows.laid_apiary_cell_digits) ∈ l) (h3 : ("apiary/plane.ways", Rows.laid_apiary_plane_ways) ∈ l) : Cov3 W := by
  refine ⟨⟨?_, ?_⟩, ?_⟩
  · obtain ⟨g', t', cs, fuel, p, hg', ht', hvar, hd⟩ := Lib.laidMet.reads h h2
    obtain rfl := Option.some.inj (gDigs.symm.trans hg')
    obtain rfl := Option.some.inj (gDigsType.symm.trans ht')
    unfold Digs
    rw [hvar, ← digs_of_laid hd]
  · obtain ⟨g', t', cs, fuel, p, hg', ht', hvar, hd⟩ := Lib.laidMet.reads h h1
    obtain rfl := Option.some.inj (gUni.symm.trans hg')
    obtain rfl := Option.some.inj (gUniType.symm.trans ht')
    unfold Uni
    rw [hvar, ← uni_of_laid hd]
  · obtain ⟨g', t', cs, fuel, p, hg', ht', hvar, hd⟩ := Lib.laidMet.reads h h3
    obtain rfl := Option.some.inj (gWays.symm.trans hg')
    obtain rfl := Option.some.inj (gWaysType.symm.trans ht')
    unfold Ways
    rw [hvar, ← ways_of_laid hd]

end Go.Proofs.YtdklpgphmoaniaaGreatDoor
