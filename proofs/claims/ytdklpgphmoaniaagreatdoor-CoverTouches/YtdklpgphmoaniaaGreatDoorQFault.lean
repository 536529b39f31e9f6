/-
  What package cover tells of a box and a size that may not be; in whatever memory.
-/
import Derived.Test.YtdklpgphmoaniaaGreatDoorRCov
import Derived.Test.YtdklpgphmoaniaaGreatDoorQBox
import Derived.Test.YtdklpgphmoaniaaGreatDoorProg
import Derived.Handy
import Derived.Deep.QuietTactic
import Derived.WalkSpells
import Derived.WalkLawsBesides
import Derived.BigQuiet
import Derived.PlainAid
import Derived.Deep.RegionWith
import Derived.Laws.BitsAllLaws
import Derived.Deep.RegionHeld3
import Derived.WalkSmall
import Derived.WalkKit
import Derived.OwnWalk
import Derived.Laws.OwnMore
import Derived.Deep.CutRange
import Derived.BigRegion
import Derived.OneCell
import Derived.Laws.CopyOwn
import Derived.Sort.Row
import Derived.Deep.LoopGhost
import Derived.RangeFuncFrom
import Derived.RangeFuncCalls
import Derived.RangeFuncLeaves
import Derived.OwnWalkIn
import Derived.TacticsInMore
import Derived.LoopNIn
import Derived.LoopIn
import Derived.RegionIn
import Derived.Stop.RegionWithIn
import Derived.Sort.LotD3
import Derived.Deep.Cut
import Derived.Sort.WalkA6
import Derived.Sort.Walk13a
import Derived.Sort.LotA
import Derived.Sort.LotB
import Derived.Sort.LotD1
import Derived.Deep.Draws
import Derived.BigGuard
import Derived.BigCall
import Derived.CellFam
import Derived.Sort.WalkB3
namespace Go.Proofs.YtdklpgphmoaniaaGreatDoor
open Go.RowKit

/-- Four cells of a box. -/
def Box4 (B : Nat) (l1 l2 u1 u2 : Int) (W : World) : Prop := W.cell? ⟨B, 0, none⟩ = some (.int .i64 l1) ∧ W.cell? ⟨B, 1, none⟩ = some (.int .i64 l2) ∧ W.cell? ⟨B, 2, none⟩ = some (.int .i64 u1) ∧ W.cell? ⟨B, 3, none⟩ = some (.int .i64 u2)

theorem Box4.keep {B : Nat} {l1 l2 u1 u2 : Int} {W W' : World} (h : Box4 B l1 l2 u1 u2 W) (hb : Below W.heap.size W W') : Box4 B l1 l2 u1 u2 W' := ⟨keepCell hb h.1, keepCell hb h.2.1, keepCell hb h.2.2.1, keepCell hb h.2.2.2⟩

theorem box4_made (w : World) (e : TypeId) (l1 l2 u1 u2 : Int) : Box4 w.heap.size l1 l2 u1 u2 (w.alloc (.cells #[.int .i64 l1, .int .i64 l2, .int .i64 u1, .int .i64 u2] e)) := ⟨by go_simp, by go_simp, by go_simp, by go_simp⟩

set_option maxHeartbeats 8000000 in
set_option maxRecDepth 100000 in
theorem q_fault_core (l1 l2 u1 u2 r t : Int) (p q : Bool) (tb : Bool)
    (h : (r < 0 ∧ t = 1) ∨ (decide (r < 0) = false ∧ 12 < r ∧ t = 1) ∨ (decide (r < 0) = false ∧ decide (12 < r) = false ∧ ((p = false ∧ t = 4) ∨ (p = true ∧ q = false ∧ t = 4) ∨ (p = true ∧ q = true ∧ tb = true ∧ t = 1) ∨ (p = true ∧ q = true ∧ tb = false ∧ t = 0))))
    (W1 : ∀ w, Calls Tryz.prog 56 #[.int .i64 l1, .int .i64 l2] w fun e w' => e = .returned (.bool p) ∧ Below w.heap.size w w')
    (W2 : ∀ w, Calls Tryz.prog 56 #[.int .i64 u1, .int .i64 u2] w fun e w' => e = .returned (.bool q) ∧ Below w.heap.size w w')
    (TU : ∀ w, Calls Tryz.prog 44 #[.agg #[.int .i64 l1, .int .i64 l2, .int .i64 u1, .int .i64 u2]] w fun e w' => e = .returned (.bool tb) ∧ Below w.heap.size w w') (w : World) :
    Calls Tryz.prog 66 #[.agg #[.int .i64 l1, .int .i64 l2, .int .i64 u1, .int .i64 u2], .int .i64 r] w fun e w' => e = .returned (.int .i64 t) ∧ Below w.heap.size w w' := by
  replace W1 : Hid _ := W1
  replace W2 : Hid _ := W2
  replace TU : Hid _ := TU
  have S0 := hidd (box4_made w 80 l1 l2 u1 u2)
  have B0 := hidd (allocB w (.cells #[.int .i64 l1, .int .i64 l2, .int .i64 u1, .int .i64 u2] 80))
  obtain ⟨y0, y1, y2, y3⟩ := S0.out
  rcases h with ⟨h1, rfl⟩ | ⟨h1, h2, rfl⟩ | ⟨h1, h2, h3⟩
  ·
    go_enter Tryz.func66, Tryz.ntmps66
    go_wp2_with fail
    go_ret
    exact ⟨rfl, B0.out⟩
  ·
    go_enter Tryz.func66, Tryz.ntmps66
    go_wp2_with fail
    go_ret
    exact ⟨rfl, B0.out⟩
  ·
    go_enter Tryz.func66, Tryz.ntmps66
    go_wp2_with fail
    generalize w.alloc (.cells #[.int .i64 l1, .int .i64 l2, .int .i64 u1, .int .i64 u2] 80) = w0 at *
    refine (W1.out _).mono ?_
    rintro e w1 ⟨rfl, b1⟩
    have B1 := hidd (belowT B0.out b1)
    have S1 := hidd (S0.out.keep b1)
    clear y0 y1 y2 y3 S0 B0 b1 W1
    obtain ⟨y0, y1, y2, y3⟩ := S1.out
    rcases h3 with ⟨rfl, rfl⟩ | ⟨rfl, h3⟩ | ⟨rfl, h3⟩ | ⟨rfl, h3⟩
    · go_wp2_with fail
      go_ret
      exact ⟨rfl, B1.out⟩
    all_goals
      go_wp2_with fail
      refine (W2.out _).mono ?_
      rintro e w2 ⟨rfl, b2⟩
      have B2 := hidd (belowT B1.out b2)
      have S2 := hidd (S1.out.keep b2)
      clear y0 y1 y2 y3 S1 B1 b2 W2
      obtain ⟨y0, y1, y2, y3⟩ := S2.out
    · obtain ⟨rfl, rfl⟩ := h3
      go_wp2_with fail
      go_ret
      exact ⟨rfl, B2.out⟩
    · obtain ⟨rfl, rfl, rfl⟩ := h3
      go_wp2_with fail
      refine (TU.out _).mono ?_
      rintro e w3 ⟨rfl, b3⟩
      have B3 := hidd (belowT B2.out b3)
      clear y0 y1 y2 y3 b3
      go_wp2_with fail
      go_ret
      exact ⟨rfl, B3.out⟩
    · obtain ⟨rfl, rfl, rfl⟩ := h3
      go_wp2_with fail
      refine (TU.out _).mono ?_
      rintro e w3 ⟨rfl, b3⟩
      have B3 := hidd (belowT B2.out b3)
      clear y0 y1 y2 y3 b3
      go_wp2_with fail
      go_ret
      exact ⟨rfl, B3.out⟩

theorem q_fault (l1 l2 u1 u2 r t : Int) (h : MayT l1 l2 u1 u2 r t) (w : World) :
    Calls Tryz.prog 66 #[.agg #[.int .i64 l1, .int .i64 l2, .int .i64 u1, .int .i64 u2], .int .i64 r] w fun e w' => e = .returned (.int .i64 t) ∧ Below w.heap.size w w' := by
  have TU : ∀ w, Calls Tryz.prog 44 #[.agg #[.int .i64 l1, .int .i64 l2, .int .i64 u1, .int .i64 u2]] w fun e w' => e = .returned (.bool (decide (u1 < l1 ∨ u2 < l2))) ∧ Below w.heap.size w w' := fun w => by
    refine q_turned l1 l2 u1 u2 _ ?_ w
    simp only [decide_eq_false_iff_not, decide_eq_true_eq]
    omega
  refine q_fault_core l1 l2 u1 u2 r t (inWB l1 l2) (inWB u1 u2) _ ?_ (fun w => pok_at l1 l2 _ rfl w) (fun w => pok_at u1 u2 _ rfl w) TU w
  unfold MayT at h
  have e1 : inWB l1 l2 = true ↔ InW l1 l2 := ⟨inWB_yes, inWB_mk⟩
  have e2 : inWB u1 u2 = true ↔ InW u1 u2 := ⟨inWB_yes, inWB_mk⟩
  cases p : inWB l1 l2 <;> cases q : inWB u1 u2 <;> rw [p] at e1 <;> rw [q] at e2 <;> simp only [Bool.false_eq_true, false_iff, true_iff] at e1 e2
  all_goals
    simp only [decide_eq_false_iff_not, decide_eq_true_eq, true_and, false_and, or_false, false_or, Bool.false_eq_true, Bool.true_eq_false]
    simp only [e1, e2, and_self, and_true, true_and, and_false, false_and, not_false_eq_true, not_true_eq_false, or_false, false_or] at h
    omega

end Go.Proofs.YtdklpgphmoaniaaGreatDoor
