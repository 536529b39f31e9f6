/-
  Two pairs of numbers are compared number by number; no condition.
-/
import Derived.Test.YtchcidhcefblpaaDoorPHex
import Derived.Laws.StructEq
namespace Go.Proofs.YtchcidhcefblpaaDoor
open Go.RowKit

theorem eq_pair_d (d : Nat) (x y p q : Int) (w : World) : (Op.equalIn (d + 1 + 1) 35 (.agg #[.int .i64 x, .int .i64 y]) (.agg #[.int .i64 p, .int .i64 q])).run Tryd.prog w = .ok (x == p && y == q) w := by
  have hs : ∀ w, Sem.run Tryd.prog (sizeOf 2) w = .ok 1 w := fun _ => by kernel_rfl
  have h0 : ∀ (x y : Int) w, Sem.run Tryd.prog (part 2 #[.int .i64 x, .int .i64 y] 0) w = .ok (.int .i64 x) w := fun _ _ _ => by kernel_rfl
  have h1 : ∀ (x y : Int) w, Sem.run Tryd.prog (part 2 #[.int .i64 x, .int .i64 y] 1) w = .ok (.int .i64 y) w := fun _ _ _ => by kernel_rfl
  rw [Op.equalIn]
  simp only [Sem.run_bind, run_underlying Tryd.underlying35, Result.andThen_ok, hs]
  have hr : List.range' 0 2 1 = [0, 1] := by decide
  simp only [Std.Legacy.Range.forIn_eq_forIn_range', Std.Legacy.Range.size, Nat.sub_zero, Nat.add_sub_cancel, Nat.div_one, hr, List.forIn_cons, List.forIn_nil, Sem.run_bind, Nat.zero_mul, Nat.one_mul, h0, Result.andThen_ok, run_equalIn_int _ _ _ _ _ _ _ Tryd.underlying2]
  cases (x == p)
  · simp
  · simp [h1, run_equalIn_int _ _ _ _ _ _ _ Tryd.underlying2]
    by_cases h : y = q <;> simp [h]
theorem eq_pair (x y p q : Int) (w : World) : (Op.equalIn 10000 35 (.agg #[.int .i64 x, .int .i64 y]) (.agg #[.int .i64 p, .int .i64 q])).run Tryd.prog w = .ok (x == p && y == q) w := eq_pair_d 9998 x y p q w
end Go.Proofs.YtchcidhcefblpaaDoor
