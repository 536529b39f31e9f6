/-
  The word of a cell made of numbers: its size, and that it is whole; in whatever memory.
-/
import Derived.Test.YtlfjfendlohekabGreatDoorI2C
import Derived.Test.YtlfjfendlohekabGreatDoorProg
import Derived.Handy
import Derived.Deep.QuietTactic
import Derived.WalkSpells
import Derived.WalkLawsBesides
import Derived.BigQuiet
import Derived.PlainAid
import Derived.Deep.RegionWith
import Derived.Laws.BitsAllLaws
import Derived.Deep.RegionHeld3
import Derived.WalkSmall
import Derived.Deep.CutRange
import Derived.BigRegion
import Derived.OwnWalk
import Derived.Laws.OwnMore
import Derived.Deep.LoopGhost
import Derived.RangeFuncFrom
import Derived.RangeFuncCalls
import Derived.RangeFuncLeaves
import Derived.WalkKit
import Derived.OwnWalkIn
import Derived.TacticsInMore
import Derived.LoopNIn
import Derived.LoopIn
import Derived.RegionIn
import Derived.Stop.RegionWithIn
namespace Go.Proofs.YtlfjfendlohekabGreatDoor
open Go.RowKit

/-- The size that a number makes. -/
def szOf (r : Int) : Int := (r.tmod 13 + 13).tmod 13

theorem csome_sz (x0 y0 r0 : Int) : 0 ≤ szOf r0 ∧ szOf r0 ≤ 12 ∧ ∀ w, Calls Tryz.prog 26 #[.int .i64 x0, .int .i64 y0, .int .i64 r0] w fun e w' => TellsS (szOf r0) e ∧ Below w.heap.size w w' := by
  obtain ⟨t, s, K, ht, hs, t1, t2, hK, hr⟩ := size13 r0
  have e : szOf r0 = s := by unfold szOf; rw [ht, hs]
  rw [e]
  refine ⟨by omega, by omega, fun w => ?_⟩
  cases h0 : (bits .and .i64 y0 1 == 0) with
  | true =>
    obtain ⟨u, v, hw, PT⟩ := point_any x0 y0
    obtain ⟨a, b, hn⟩ := nearest_some (dvK_box (K := K) hK).1 (nuA K u v) (nuB K u v)
    exact (csome_point x0 y0 r0 t s _ u v a b ht hs t1 t2 rfl h0 PT (rnear_at u v s K hK hr hw a b hn) w).mono fun e w' ⟨he, hb⟩ => ⟨⟨a, b, he, near_ok hK hr hw hn⟩, hb⟩
  | false =>
    obtain ⟨n, rfl⟩ := Int.eq_ofNat_of_zero_le (show 0 ≤ s by omega)
    exact csome_down x0 y0 r0 t n (by omega) _ ht hs t1 t2 rfl h0 w

theorem w_eq {r : Nat} {a b : Int} (h : Ok4 (r : Int) a b) : Whole (wordOf r a b) ∧ wR (wordOf r a b) = r ∧ cellA (wordOf r a b) = a ∧ cellB (wordOf r a b) = b ∧ U64 (wordOf r a b) := by
  have h1 := word_parts h
  have h2 := cell_word h
  exact ⟨h1.1, h1.2.1, h2.1, h2.2, h1.2.2.2.2.2.1, by have := h1.2.2.2.2.2.2; omega⟩

/-- The word of a cell made of numbers. -/
theorem aword_sz (x0 y0 r0 : Int) : ∃ s : Nat, szOf r0 = (s : Int) ∧ s ≤ 12 ∧ ∀ w, Calls Tryz.prog 10 #[.int .i64 x0, .int .i64 y0, .int .i64 r0] w fun e w' => (∃ v, e = .returned (.int .u64 v) ∧ Whole v ∧ wR v = (s : Int) ∧ U64 v) ∧ Below w.heap.size w w' := by
  obtain ⟨s0, s12, SO⟩ := csome_sz x0 y0 r0
  obtain ⟨n, hn⟩ := Int.eq_ofNat_of_zero_le s0
  rw [hn] at SO s12
  refine ⟨n, hn, by omega, fun w => (aword_at x0 y0 r0 n SO w).mono ?_⟩
  rintro e w' ⟨⟨P, Q, rfl, hO⟩, hb⟩
  have h := w_eq hO
  exact ⟨⟨_, rfl, h.1, h.2.1, h.2.2.2.2⟩, hb⟩

theorem szOf_box {r : Int} (h0 : 0 ≤ r) (h12 : r ≤ 12) : szOf r = r := by unfold szOf; rw [Int.tmod_eq_emod_of_nonneg h0, Int.emod_eq_of_lt h0 (by omega), Int.tmod_eq_emod_of_nonneg (by omega)]; omega

end Go.Proofs.YtlfjfendlohekabGreatDoor
