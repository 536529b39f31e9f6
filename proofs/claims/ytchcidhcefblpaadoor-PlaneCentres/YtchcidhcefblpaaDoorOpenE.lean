/-
  A number of the lattice that comes in, and that is handed on: two parts of 64 bits.
-/
import Derived.Test.YtchcidhcefblpaaDoorRows
import Derived.WalkKit
import Derived.ProofKit
import Derived.OpenShut
namespace Go.Proofs.YtchcidhcefblpaaDoor
open Go.RowKit

theorem cellsE : Tryd.prog.cellsOf 25 = 2 := by kernel_rfl
theorem cellsI : Tryd.prog.cellsOf 2 = 1 := by kernel_rfl

section
variable {H : Type} {enc : TypeId × Value → H} {w : World} {base : Nat} {sp : Nat → Bool} {held : Bool}
/-- A number of the lattice that comes in: two parts. -/
theorem open_E {r : Reach} {b0 : Nat} {v : Value} {d : DataW H} {ps : List MemPlace} (hval : Value.okWide Tryd.prog w r b0 25 v) (hd : DataW.Trod enc Tryd.prog w base sp held 25 v d ps) :
    ∃ x y, v = .agg #[.int .i64 x, .int .i64 y] ∧ d = .agg [.lit (.int .i64 x), .lit (.int .i64 y)] ∧ ps = [] ∧ (Lit.int .i64 x).wf = true ∧ (Lit.int .i64 y).wf = true := by
  obtain ⟨cs, rfl, hsz⟩ := Go.WideShapes.okWide_struct Tryd.underlying25 hval
  rw [cellsE] at hsz
  obtain ⟨l⟩ := cs
  match l, hsz with
  | [c0, c1], _ =>
  obtain ⟨fuel, hf⟩ := hd
  obtain ⟨y0, y1, m, hx, _, hy0, hy1⟩ := Go.ChangeShapes.trod_struct2 Tryd.underlying25 hf
  obtain ⟨a, e0, rfl, wa⟩ := DataW.trod_int Tryd.underlying2 hy0
  obtain ⟨b, e1, rfl, wb⟩ := DataW.trod_int Tryd.underlying2 hy1
  simp [Value.cells, cellsI] at e0 e1
  subst e0 e1
  simp only [Prod.mk.injEq] at hx
  exact ⟨a, b, rfl, hx.1, by simpa using hx.2, wa, wb⟩
theorem shut_E {x y : Int} (wa : (Lit.int .i64 x).wf = true) (wb : (Lit.int .i64 y).wf = true) : DataW.Trod enc Tryd.prog w base sp held 25 (.agg #[.int .i64 x, .int .i64 y]) (.agg [.lit (.int .i64 x), .lit (.int .i64 y)]) [] := ⟨2, by
  have f0 : DataW.trod enc Tryd.prog w base sp held 1 2 [.int .i64 x] = some (.lit (.int .i64 x), []) := by simp [DataW.trod, Tryd.underlying2, wa]
  have f1 : DataW.trod enc Tryd.prog w base sp held 1 2 [.int .i64 y] = some (.lit (.int .i64 y), []) := by simp [DataW.trod, Tryd.underlying2, wb]
  have := Go.ChangeShapes.trod_struct2_mk (enc := enc) (w := w) (base := base) (spare := sp) (held := held) (n := 1) (cs := [.int .i64 x, .int .i64 y]) Tryd.underlying25 (by simp [cellsE]) (by simpa [cellsI] using f0) (by simpa [cellsI] using f1)
  simpa [Value.cells] using this⟩
end
end Go.Proofs.YtchcidhcefblpaaDoor
