/-
  Union, Meet, Minus and Set of package cells where nothing is too long: the list that is told, its words, its length; in whatever memory.
-/
import Derived.Test.YtogkfmoediiieaaUSet
import Derived.Laws.BitsAllLaws
import Derived.Handy
import Derived.Deep.QuietTactic
import Derived.Test.YtogkfmoediiieaaProg
import Derived.WalkSpells
import Derived.WalkLawsBesides
import Derived.BigQuiet
import Derived.PlainAid
import Derived.Deep.RegionWith
import Derived.Deep.RegionHeld3
import Derived.WalkSmall
import Derived.Deep.CutRange
import Derived.BigRegion
import Derived.OwnWalk
import Derived.Laws.OwnMore
import Derived.OneCell
import Derived.Laws.CopyOwn
import Derived.Sort.Row
import Derived.Deep.Cut
import Derived.Sort.LotD3
import Derived.Deep.LoopGhost
import Derived.Sort.WalkA6
import Derived.Sort.Walk13a
import Derived.Sort.LotA
import Derived.Sort.LotB
import Derived.Sort.LotD1
import Derived.Deep.Draws
import Derived.WalkKit
import Derived.BigGuard
import Derived.BigCall
import Derived.CellFam
import Derived.Sort.WalkB3
import Derived.Sort.WalkB12
import Derived.Deep.OwnRows
import Derived.Deep.RegionLaw
namespace Go.Proofs.Ytogkfmoediiieaa
open Go.RowKit

/-- A call tells a rising list alone. -/
def TellsS1 (n : Nat) (P : Int → Prop) (e : Ending) (w : World) : Prop := ∃ (K : List Int) (v : Value), e = .returned v ∧ Lst w v K ∧ Rising K ∧ (∀ x, x ∈ K ↔ P x) ∧ K.length ≤ n ∧ ∀ x ∈ K, U64 x

theorem eset (s : Value) (A : List Int) (hn : A.length ≤ 20000) (uA : ∀ x ∈ A, U64 x) (w : World) (hA : Lst w s A) :
    Calls Try.prog 13 #[s] w fun e w' => TellsS1 A.length (fun x => x ∈ A) e w' ∧ Below w.heap.size w w' := by
  refine (cset s A (by omega) w hA).mono ?_
  rintro e w' ⟨⟨g, cap, L, rfl, -, h1, h2, h3, h4, h5⟩, hb⟩
  exact ⟨⟨L, _, rfl, Lst.row h1 h5, h2, h3, h4, fun x hx => uA x ((h3 x).1 hx)⟩, hb⟩

end Go.Proofs.Ytogkfmoediiieaa
