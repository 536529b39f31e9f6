/-
  An array of numbers that a law is handed, opened; no condition beyond those written.
-/
import Derived.Test.YtdklpgphmoaniaaGreatDoorRows
import Derived.WalkKit
import Derived.ProofKit
import Derived.OpenShut
import Derived.ChangeSlices
namespace Go.Proofs.YtdklpgphmoaniaaGreatDoor
open Go.ChangeShapes Go.WideShapes Go.RowKit

section
variable {P : Program} {H : Type} {enc : TypeId × Value → H} {w : World} {base : Nat} {sp : Nat → Bool} {held : Bool} {fuel : Nat}
theorem open_cells {n : Nat} {t e : TypeId} {cs : List Value} {x : DataW H × List MemPlace} (ht : P.underlying t = some (.array n e)) (he : P.underlying e = some (.int .i64)) (hc : P.cellsOf e = 1) (hct : P.cellsOf t = n)
    (h : DataW.trod enc P w base sp held fuel t cs = some x) : cs.length = n ∧ ∀ i, i < n → ∃ z : Int, cs[i]? = some (.int .i64 z) ∧ (Lit.int .i64 z).wf = true := by
  obtain ⟨xs, m, rfl, rfl, hl, hn, hi⟩ := DataW.trod_array ht h
  rw [hct] at hl
  refine ⟨hl, fun i hin => ?_⟩
  have h0 := hi i hin
  rw [hc, Nat.mul_one, List.getElem?_eq_getElem (by omega)] at h0
  obtain ⟨a, ea, -, wa⟩ := DataW.trod_int he h0
  refine ⟨a, ?_, wa⟩
  have e2 := congrArg (fun l => l[0]?) ea
  simpa [List.getElem?_take, List.getElem?_drop] using e2
theorem open_arr {n : Nat} {t e : TypeId} {v : Value} {d : DataW H} {ps : List MemPlace} (h2 : 2 ≤ n) (ht : P.underlying t = some (.array n e)) (he : P.underlying e = some (.int .i64)) (hc : P.cellsOf e = 1) (hct : P.cellsOf t = n)
    (h : DataW.Trod enc P w base sp held t v d ps) : ∃ cs : List Value, v = .agg cs.toArray ∧ cs.length = n ∧ ∀ i, i < n → ∃ z : Int, cs[i]? = some (.int .i64 z) ∧ (Lit.int .i64 z).wf = true := by
  obtain ⟨fuel, hf⟩ := h
  obtain ⟨hl, hi⟩ := open_cells ht he hc hct hf
  cases v with
  | agg cs => exact ⟨cs.toList, by simp, by simpa [Value.cells] using hl, fun i hin => by simpa [Value.cells] using hi i hin⟩
  | _ => simp [Value.cells] at hl; omega
theorem open_two {t e : TypeId} {v : Value} {d : DataW H} {ps : List MemPlace} (ht : P.underlying t = some (.array 2 e)) (he : P.underlying e = some (.int .i64)) (hc : P.cellsOf e = 1) (hct : P.cellsOf t = 2)
    (h : DataW.Trod enc P w base sp held t v d ps) : ∃ x y : Int, v = .agg #[.int .i64 x, .int .i64 y] ∧ (Lit.int .i64 x).wf = true ∧ (Lit.int .i64 y).wf = true := by
  obtain ⟨cs, rfl, hl, hi⟩ := open_arr (by omega) ht he hc hct h
  obtain ⟨x, ex, wx⟩ := hi 0 (by omega)
  obtain ⟨y, ey, wy⟩ := hi 1 (by omega)
  match cs, hl with
  | [c0, c1], _ =>
    simp only [List.getElem?_cons_zero, List.getElem?_cons_succ, Option.some.injEq] at ex ey
    exact ⟨x, y, by rw [ex, ey], wx, wy⟩
theorem open_four {t e : TypeId} {v : Value} {d : DataW H} {ps : List MemPlace} (ht : P.underlying t = some (.array 4 e)) (he : P.underlying e = some (.int .i64)) (hc : P.cellsOf e = 1) (hct : P.cellsOf t = 4)
    (h : DataW.Trod enc P w base sp held t v d ps) : ∃ x y z u : Int, v = .agg #[.int .i64 x, .int .i64 y, .int .i64 z, .int .i64 u] ∧ ((Lit.int .i64 x).wf = true ∧ (Lit.int .i64 y).wf = true) ∧ (Lit.int .i64 z).wf = true ∧ (Lit.int .i64 u).wf = true := by
  obtain ⟨cs, rfl, hl, hi⟩ := open_arr (by omega) ht he hc hct h
  obtain ⟨x, ex, wx⟩ := hi 0 (by omega)
  obtain ⟨y, ey, wy⟩ := hi 1 (by omega)
  obtain ⟨z, ez, wz⟩ := hi 2 (by omega)
  obtain ⟨u, eu, wu⟩ := hi 3 (by omega)
  match cs, hl with
  | [c0, c1, c2, c3], _ =>
    simp only [List.getElem?_cons_zero, List.getElem?_cons_succ, Option.some.injEq] at ex ey ez eu
    exact ⟨x, y, z, u, by rw [ex, ey, ez, eu], ⟨wx, wy⟩, wz, wu⟩
end

end Go.Proofs.YtdklpgphmoaniaaGreatDoor
