/-
  From the row's condition to the walks' fact: where the package's table of ways reads as its text lays it, its cells hold just that.
-/
import Derived.Test.YtchcidhcefblpaaDoorPHex
import Derived.Test.YtchcidhcefblpaaDoorOpenE
import Derived.Test.YtchcidhcefblpaaDoorRows
import Derived.Lib.LaidU8
import Derived.LaidMore
import Derived.Lib.LaidTab
import Derived.Stop.LaidErr
namespace Go.Proofs.YtchcidhcefblpaaDoor
open Go.RowKit

theorem gWaysType : (Tryd.prog.globals[0]?).map (·.type) = some 54 := by kernel_rfl
theorem cellsWays : Tryd.prog.cellsOf 54 = 12 := by kernel_rfl

theorem fieldsE {fs : Array Field} (hfs : Tryd.prog.underlying 25 = some (.struct fs)) : (∀ (i : Nat) (f : Field), fs[i]? = some f → Tryd.prog.underlying f.type = some (.int .i64) ∧ f.offset = i ∧ Tryd.prog.cellsOf f.type = 1) ∧ fs.size = 2 := by
  have h := Tryd.underlying25
  rw [hfs] at h
  obtain rfl := TypeDesc.struct.inj (Option.some.inj h)
  refine ⟨fun i f h => ?_, rfl⟩
  match i with
  | 0 => cases h; exact ⟨Tryd.underlying2, rfl, cellsI⟩
  | 1 => cases h; exact ⟨Tryd.underlying2, rfl, cellsI⟩
  | i + 2 => simp at h

theorem ways_of_laid {H : Type} {enc : TypeId × Value → H} {w : World} {base : Nat} {sp : Nat → Bool} {held : Bool} {fuel : Nat} {cs : List Value} {p : List MemPlace}
    (h : DataW.trod enc Tryd.prog w base sp held fuel 54 cs = some (Rows.laid_apiary_plane_ways, p)) : cs.toArray = wayCells := by
  have hl : cs.length = 12 := by
    cases fuel with
    | zero => simp [DataW.trod] at h
    | succ fuel =>
      simp only [DataW.trod, Tryd.underlying54, cellsWays, cellsE] at h
      split at h
      · rename_i hl; exact hl
      · cases h
  match cs, hl with
  | [c0, c1, c2, c3, c4, c5, c6, c7, c8, c9, c10, c11], _ =>
  obtain ⟨f0, d0, q0, h0, t0⟩ := Lib.array_elem Tryd.underlying54 h 0 (by omega)
  rw [cellsE] at t0
  obtain rfl : (.agg ([(1 : Int), 1].map fun z => .lit (.int .i64 z))) = d0 := Option.some.inj h0
  have e0 := Lib.ints_of_struct Tryd.underlying25 (fieldsE Tryd.underlying25).1 (by rw [cellsE]; rfl) t0
  simp at e0
  obtain ⟨f1, d1, q1, h1, t1⟩ := Lib.array_elem Tryd.underlying54 h 1 (by omega)
  rw [cellsE] at t1
  obtain rfl : (.agg ([((-1) : Int), 2].map fun z => .lit (.int .i64 z))) = d1 := Option.some.inj h1
  have e1 := Lib.ints_of_struct Tryd.underlying25 (fieldsE Tryd.underlying25).1 (by rw [cellsE]; rfl) t1
  simp at e1
  obtain ⟨f2, d2, q2, h2, t2⟩ := Lib.array_elem Tryd.underlying54 h 2 (by omega)
  rw [cellsE] at t2
  obtain rfl : (.agg ([((-2) : Int), 1].map fun z => .lit (.int .i64 z))) = d2 := Option.some.inj h2
  have e2 := Lib.ints_of_struct Tryd.underlying25 (fieldsE Tryd.underlying25).1 (by rw [cellsE]; rfl) t2
  simp at e2
  obtain ⟨f3, d3, q3, h3, t3⟩ := Lib.array_elem Tryd.underlying54 h 3 (by omega)
  rw [cellsE] at t3
  obtain rfl : (.agg ([((-1) : Int), (-1)].map fun z => .lit (.int .i64 z))) = d3 := Option.some.inj h3
  have e3 := Lib.ints_of_struct Tryd.underlying25 (fieldsE Tryd.underlying25).1 (by rw [cellsE]; rfl) t3
  simp at e3
  obtain ⟨f4, d4, q4, h4, t4⟩ := Lib.array_elem Tryd.underlying54 h 4 (by omega)
  rw [cellsE] at t4
  obtain rfl : (.agg ([(1 : Int), (-2)].map fun z => .lit (.int .i64 z))) = d4 := Option.some.inj h4
  have e4 := Lib.ints_of_struct Tryd.underlying25 (fieldsE Tryd.underlying25).1 (by rw [cellsE]; rfl) t4
  simp at e4
  obtain ⟨f5, d5, q5, h5, t5⟩ := Lib.array_elem Tryd.underlying54 h 5 (by omega)
  rw [cellsE] at t5
  obtain rfl : (.agg ([(2 : Int), (-1)].map fun z => .lit (.int .i64 z))) = d5 := Option.some.inj h5
  have e5 := Lib.ints_of_struct Tryd.underlying25 (fieldsE Tryd.underlying25).1 (by rw [cellsE]; rfl) t5
  simp at e5
  obtain ⟨rfl, rfl⟩ := e0
  obtain ⟨rfl, rfl⟩ := e1
  obtain ⟨rfl, rfl⟩ := e2
  obtain ⟨rfl, rfl⟩ := e3
  obtain ⟨rfl, rfl⟩ := e4
  obtain ⟨rfl, rfl⟩ := e5
  rfl

/-- The walks' fact out of the row's condition: the table stands first on the list. -/
theorem ways_of_row {W : World} {rest : List (String × DataW Unit)} (h : laidMet Tryd.prog (("apiary/plane.ways", Rows.laid_apiary_plane_ways) :: rest) W) : Ways W := by
  obtain ⟨ps, ⟨g', t', cs, fuel, p, q, hg', ht', hvar, hd, _, _⟩, _⟩ := h
  obtain rfl := Option.some.inj (gWays.symm.trans hg')
  obtain rfl := Option.some.inj (gWaysType.symm.trans ht')
  unfold Ways
  rw [hvar, ← ways_of_laid hd]

end Go.Proofs.YtchcidhcefblpaaDoor
