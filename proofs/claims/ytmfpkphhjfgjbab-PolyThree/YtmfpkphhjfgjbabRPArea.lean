/-
  What the document's own Area2 tells of a ring that may be; in whatever memory.
-/
import Derived.Laws.BitsAllLaws
import Derived.Handy
import Derived.Deep.QuietTactic
import Derived.Test.YtmfpkphhjfgjbabProg
import Derived.WalkSpells
import Derived.WalkLawsBesides
import Derived.BigQuiet
import Derived.PlainAid
import Derived.Deep.RegionWith
import Derived.Deep.RegionHeld3
import Derived.WalkSmall
import Derived.Deep.CutRange
import Derived.BigRegion
import Derived.OwnWalk
import Derived.Laws.OwnMore
import Derived.OneCell
import Derived.Laws.CopyOwn
import Derived.Sort.Row
namespace Go.Proofs.Ytmfpkphhjfgjbab
open Go.RowKit

/-- The next corner's number. -/
theorem next_ix {k l : Nat} (h : k < l) : ∃ j : Nat, (k + 1) % l = j ∧ j < l ∧ ((k : Int) + 1) % (l : Int) = (j : Int) ∧ ((k : Int) + 1).tmod (l : Int) = (j : Int) := by
  have h1 := Nat.mod_lt (k + 1) (show 0 < l by omega)
  have e : (((k + 1) % l : Nat) : Int) = ((k : Int) + 1) % (l : Int) := by push_cast; rfl
  exact ⟨_, rfl, h1, e.symm, by rw [Int.tmod_eq_emod_of_nonneg (by omega)]; exact e.symm⟩

theorem prod_world {a b : Int} (a0 : 0 ≤ a) (a1 : a < 1073741824) (b0 : 0 ≤ b) (b1 : b < 1073741824) : 0 ≤ a * b ∧ a * b ≤ 1152921504606846976 := by
  have h1 := Int.mul_nonneg a0 b0
  have h2 := Int.mul_le_mul (show a ≤ 1073741824 by omega) (show b ≤ 1073741824 by omega) b0 (by omega)
  omega

theorem wrap_box (x : Int) : -9223372036854775808 ≤ wrap64 x ∧ wrap64 x ≤ 9223372036854775807 := by unfold wrap64; omega

theorem wrap_two (S A B : Int) : wrap64 (wrap64 (wrap64 S + A) - B) = wrap64 (S + (A - B)) := by unfold wrap64; omega

end Go.Proofs.Ytmfpkphhjfgjbab
