/-
  Package cover's boxes: what lies in one, which are far off, which are turned about; in whatever memory.
-/
import Derived.Test.YtdklpgphmoaniaaGreatDoorUX
import Derived.Test.YtdklpgphmoaniaaGreatDoorProg
import Derived.Handy
import Derived.Deep.QuietTactic
import Derived.WalkSpells
import Derived.WalkLawsBesides
import Derived.BigQuiet
import Derived.PlainAid
import Derived.Deep.RegionWith
import Derived.Laws.BitsAllLaws
import Derived.Deep.RegionHeld3
import Derived.WalkSmall
import Derived.WalkKit
import Derived.OwnWalk
import Derived.Laws.OwnMore
import Derived.Deep.CutRange
import Derived.BigRegion
import Derived.OneCell
import Derived.Laws.CopyOwn
import Derived.Sort.Row
import Derived.Deep.LoopGhost
import Derived.RangeFuncFrom
import Derived.RangeFuncCalls
import Derived.RangeFuncLeaves
import Derived.OwnWalkIn
import Derived.TacticsInMore
import Derived.LoopNIn
import Derived.LoopIn
import Derived.RegionIn
import Derived.Stop.RegionWithIn
import Derived.Sort.LotD3
import Derived.Deep.Cut
import Derived.Sort.WalkA6
import Derived.Sort.Walk13a
import Derived.Sort.LotA
import Derived.Sort.LotB
import Derived.Sort.LotD1
import Derived.Deep.Draws
import Derived.BigGuard
import Derived.BigCall
import Derived.CellFam
import Derived.Sort.WalkB3
namespace Go.Proofs.YtdklpgphmoaniaaGreatDoor
open Go.RowKit

def inB (l1 l2 u1 u2 x y : Int) : Bool := decide (l1 ≤ x ∧ x ≤ u1 ∧ l2 ≤ y ∧ y ≤ u2)

theorem inB_ways (l1 l2 u1 u2 x y : Int) : (decide (l1 ≤ x) = false ∧ inB l1 l2 u1 u2 x y = false) ∨ (l1 ≤ x ∧ decide (x ≤ u1) = false ∧ inB l1 l2 u1 u2 x y = false) ∨ (l1 ≤ x ∧ x ≤ u1 ∧ decide (l2 ≤ y) = false ∧ inB l1 l2 u1 u2 x y = false) ∨
    (l1 ≤ x ∧ x ≤ u1 ∧ l2 ≤ y ∧ decide (y ≤ u2) = false ∧ inB l1 l2 u1 u2 x y = false) ∨ (l1 ≤ x ∧ x ≤ u1 ∧ l2 ≤ y ∧ y ≤ u2 ∧ inB l1 l2 u1 u2 x y = true) := by
  unfold inB
  simp only [decide_eq_false_iff_not, decide_eq_true_eq]
  omega

set_option maxHeartbeats 2000000 in
set_option maxRecDepth 20000 in
theorem q_holds (l1 l2 u1 u2 x y : Int) (w : World) : Calls Tryz.prog 38 #[.agg #[.int .i64 l1, .int .i64 l2, .int .i64 u1, .int .i64 u2], .agg #[.int .i64 x, .int .i64 y]] w fun e w' => e = .returned (.bool (inB l1 l2 u1 u2 x y)) ∧ Below w.heap.size w w' := by
  have hw := inB_ways l1 l2 u1 u2 x y
  generalize inB l1 l2 u1 u2 x y = b at *
  rcases hw with ⟨h1, rfl⟩ | ⟨h1, h2, rfl⟩ | ⟨h1, h2, h3, rfl⟩ | ⟨h1, h2, h3, h4, rfl⟩ | ⟨h1, h2, h3, h4, rfl⟩
  all_goals
    go_enter Tryz.func38, Tryz.ntmps38
    go_wp2
    go_ret
    exact ⟨rfl, by go_grown⟩

set_option maxHeartbeats 2000000 in
set_option maxRecDepth 20000 in
theorem q_turned (l1 l2 u1 u2 : Int) (b : Bool) (h : (u1 < l1 ∧ b = true) ∨ (decide (u1 < l1) = false ∧ u2 < l2 ∧ b = true) ∨ (decide (u1 < l1) = false ∧ decide (u2 < l2) = false ∧ b = false)) (w : World) :
    Calls Tryz.prog 44 #[.agg #[.int .i64 l1, .int .i64 l2, .int .i64 u1, .int .i64 u2]] w fun e w' => e = .returned (.bool b) ∧ Below w.heap.size w w' := by
  rcases h with ⟨h1, rfl⟩ | ⟨h1, h2, rfl⟩ | ⟨h1, h2, rfl⟩
  all_goals
    go_enter Tryz.func44, Tryz.ntmps44
    go_wp2
    go_ret
    exact ⟨rfl, by go_grown⟩

set_option maxHeartbeats 4000000 in
set_option maxRecDepth 20000 in
theorem q_isNear (l1 l2 u1 u2 : Int) (p q : Bool) (hp : inB (-2147483648) (-2147483648) 2147483648 2147483648 l1 l2 = p) (hq : inB (-2147483648) (-2147483648) 2147483648 2147483648 u1 u2 = q) (w : World) :
    Calls Tryz.prog 43 #[.agg #[.int .i64 l1, .int .i64 l2, .int .i64 u1, .int .i64 u2]] w fun e w' => e = .returned (.bool (p && q)) ∧ Below w.heap.size w w' := by
  have H1 := hidd fun w => (by have := q_holds (-2147483648) (-2147483648) 2147483648 2147483648 l1 l2 w; rwa [hp] at this : Calls Tryz.prog 38 #[.agg #[.int .i64 (-2147483648), .int .i64 (-2147483648), .int .i64 2147483648, .int .i64 2147483648], .agg #[.int .i64 l1, .int .i64 l2]] w fun e w' => e = .returned (.bool p) ∧ Below w.heap.size w w')
  have H2 := hidd fun w => (by have := q_holds (-2147483648) (-2147483648) 2147483648 2147483648 u1 u2 w; rwa [hq] at this : Calls Tryz.prog 38 #[.agg #[.int .i64 (-2147483648), .int .i64 (-2147483648), .int .i64 2147483648, .int .i64 2147483648], .agg #[.int .i64 u1, .int .i64 u2]] w fun e w' => e = .returned (.bool q) ∧ Below w.heap.size w w')
  clear hp hq
  cases p
  ·
    go_enter Tryz.func43, Tryz.ntmps43
    go_wp2_with fail
    refine (H1.out _).mono ?_
    rintro e w1 ⟨rfl, d1⟩
    have c1 : Below w.heap.size w w1 := Below.trans (by go_grown) (d1.mono (by simp; try omega))
    have hB := c1
    clear c1 d1
    go_wp2
    go_ret
    exact ⟨by simp, hB⟩
  ·
    go_enter Tryz.func43, Tryz.ntmps43
    go_wp2_with fail
    refine (H1.out _).mono ?_
    rintro e w1 ⟨rfl, d1⟩
    have c1 : Below w.heap.size w w1 := Below.trans (by go_grown) (d1.mono (by simp; try omega))
    have s0 : w1.cell? ⟨w.heap.size, 0, none⟩ = some (.int .i64 l1) := keepCell d1 (by go_simp)
    have qs0 := World.block_lt_of_cell? _ _ s0
    have s1 : w1.cell? ⟨w.heap.size, 1, none⟩ = some (.int .i64 l2) := keepCell d1 (by go_simp)
    have s2 : w1.cell? ⟨w.heap.size, 2, none⟩ = some (.int .i64 u1) := keepCell d1 (by go_simp)
    have s3 : w1.cell? ⟨w.heap.size, 3, none⟩ = some (.int .i64 u2) := keepCell d1 (by go_simp)
    have t0 : w1.cell? ⟨w.heap.size + 1, 0, none⟩ = some (.int .i64 (-2147483648)) := keepCell d1 (by go_simp)
    have qt0 := World.block_lt_of_cell? _ _ t0
    have t1 : w1.cell? ⟨w.heap.size + 1, 1, none⟩ = some (.int .i64 (-2147483648)) := keepCell d1 (by go_simp)
    have t2 : w1.cell? ⟨w.heap.size + 1, 2, none⟩ = some (.int .i64 2147483648) := keepCell d1 (by go_simp)
    have t3 : w1.cell? ⟨w.heap.size + 1, 3, none⟩ = some (.int .i64 2147483648) := keepCell d1 (by go_simp)
    have hB := c1
    clear c1 d1
    go_wp2_with fail
    refine (H2.out _).mono ?_
    rintro e w2 ⟨rfl, d2⟩
    have c2 : Below w1.heap.size w1 w2 := Below.trans (by go_grown) (d2.mono (by simp; try omega))
    replace s0 := keepCell c2 s0
    replace qs0 := World.block_lt_of_cell? _ _ s0
    replace s1 := keepCell c2 s1
    replace s2 := keepCell c2 s2
    replace s3 := keepCell c2 s3
    replace t0 := keepCell c2 t0
    replace qt0 := World.block_lt_of_cell? _ _ t0
    replace t1 := keepCell c2 t1
    replace t2 := keepCell c2 t2
    replace t3 := keepCell c2 t3
    replace hB := belowT hB c2
    clear c2 d2
    go_wp2
    go_ret
    exact ⟨by simp, hB⟩

end Go.Proofs.YtdklpgphmoaniaaGreatDoor
