/-
  A row that is laid as its text names it holds what it names; in whatever memory.
-/
import Derived.Test.YtlfjfendlohekabGreatDoorUC
import Derived.Laws.BitsAllLaws
import Derived.Handy
import Derived.Deep.QuietTactic
import Derived.Test.YtlfjfendlohekabGreatDoorProg
import Derived.WalkSpells
import Derived.WalkLawsBesides
import Derived.BigQuiet
import Derived.PlainAid
import Derived.Deep.RegionWith
import Derived.Deep.RegionHeld3
import Derived.WalkSmall
import Derived.Deep.CutRange
import Derived.BigRegion
import Derived.OwnWalk
import Derived.Laws.OwnMore
import Derived.OneCell
import Derived.Laws.CopyOwn
import Derived.Sort.Row
import Derived.Laws.AppendOwn
import Derived.Laws.AppendOwnNone
import Derived.BigFrame
namespace Go.Proofs.YtlfjfendlohekabGreatDoor
open Go.RowKit

theorem lit_lst (w : World) (L : List Int) (e : TypeId) : Lst (w.alloc (.cells (vals L).toArray e)) (.slice (some ⟨w.heap.size, 0, none⟩) L.length L.length) L := by
  refine Lst.row (Nat.le_refl _) fun j hj => ?_
  rw [Nat.zero_add, cell_of_row _ w.heap.size j (vals L).toArray e (0, 0) (by show (w.heap.push _)[w.heap.size]? = _; simp)]
  simp [vals, hj]

theorem nil_lst (w : World) : Lst w (.slice none 0 0) [] := ⟨none, 0, rfl, Nat.le_refl _, fun _ hj => absurd hj (Nat.not_lt_zero _)⟩

theorem lit1 (w : World) (x : Int) (e : TypeId) : Lst (w.alloc (.cells #[.int .u64 x] e)) (.slice (some ⟨w.heap.size, 0, none⟩) 1 1) [x] := lit_lst w [x] e

theorem lit2 (w : World) (x y : Int) (e : TypeId) : Lst (w.alloc (.cells #[.int .u64 x, .int .u64 y] e)) (.slice (some ⟨w.heap.size, 0, none⟩) 2 2) [x, y] := lit_lst w [x, y] e

theorem lit3 (w : World) (x y z : Int) (e : TypeId) : Lst (w.alloc (.cells #[.int .u64 x, .int .u64 y, .int .u64 z] e)) (.slice (some ⟨w.heap.size, 0, none⟩) 3 3) [x, y, z] := lit_lst w [x, y, z] e

/-- A new row of zeros. -/
theorem make_zeros (w : World) (N : Nat) (hN : N ≤ 100000) : ∃ w', (Instr.makeSlice 24 (.int .i64 (N : Int)) (.int .i64 (N : Int))).run Tryz.prog w = .ok (.slice (some ⟨w.heap.size, 0, none⟩) N N) w' ∧
    w'.ownsRow w.heap.size 26 1 (.slice (some ⟨w.heap.size, 0, none⟩) N N) N (vals (List.replicate N 0)) ∧ w.grownBy w' none := by
  obtain ⟨i0, hi, hz0, hz1, hz2⟩ := info_parts infoU64
  obtain ⟨w', h1, h2, h3⟩ := run_make_full (P := Tryz.prog) w w.heap.size 24 26 i0 (.int .u64 0) 1 Tryz.underlying24 hi hz0 hz1 .i64 .i64 N (by rw [hz2]; omega) (by unfold maxLen; omega) (Nat.le_refl _)
  refine ⟨w', h1, ?_, h3⟩
  have e : (madeCells (Value.int .u64 0).cells (N * 1)).toList = vals (List.replicate N 0) := by
    rw [Nat.mul_one, show (Value.int .u64 0).cells = #[.int .u64 0] from rfl, toList_madeCells_one]
    simp [vals]
  rw [e] at h2
  exact h2

end Go.Proofs.YtlfjfendlohekabGreatDoor
