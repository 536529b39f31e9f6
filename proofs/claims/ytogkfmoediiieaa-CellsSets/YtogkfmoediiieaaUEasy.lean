/-
  Union, Meet, Minus and Set of package cells where nothing is too long: the list that is told, its words, its length; in whatever memory.
-/
import Derived.Test.YtogkfmoediiieaaUChoose
import Derived.Laws.BitsAllLaws
import Derived.Handy
import Derived.Deep.QuietTactic
import Derived.Test.YtogkfmoediiieaaProg
import Derived.WalkSpells
import Derived.WalkLawsBesides
import Derived.BigQuiet
import Derived.PlainAid
import Derived.Deep.RegionWith
import Derived.Deep.RegionHeld3
import Derived.WalkSmall
import Derived.Deep.CutRange
import Derived.BigRegion
import Derived.OwnWalk
import Derived.Laws.OwnMore
import Derived.OneCell
import Derived.Laws.CopyOwn
import Derived.Sort.Row
import Derived.Deep.Cut
import Derived.Sort.LotD3
import Derived.Deep.LoopGhost
import Derived.Sort.WalkA6
import Derived.Sort.Walk13a
import Derived.Sort.LotA
import Derived.Sort.LotB
import Derived.Sort.LotD1
import Derived.Deep.Draws
import Derived.WalkKit
import Derived.BigGuard
import Derived.BigCall
import Derived.CellFam
import Derived.Sort.WalkB3
import Derived.Sort.WalkB12
import Derived.RangeFuncFrom
import Derived.RangeFuncCalls
import Derived.RangeFuncLeaves
import Derived.OwnWalkIn
import Derived.TacticsInMore
import Derived.LoopNIn
import Derived.LoopIn
import Derived.RegionIn
import Derived.Stop.RegionWithIn
import Derived.Deep.OwnRows
import Derived.Deep.RegionLaw
namespace Go.Proofs.Ytogkfmoediiieaa
open Go.RowKit

/-- A call tells a rising list of at most n words, those for which P holds, and no error. -/
def TellsL (n : Nat) (P : Int → Prop) (e : Ending) (w : World) : Prop := ∃ (K : List Int) (v : Value), e = .returned (.tuple #[v, .int .i64 0]) ∧ Lst w v K ∧ Rising K ∧ (∀ x, x ∈ K ↔ P x) ∧ K.length ≤ n ∧ ∀ x ∈ K, U64 x

/-- A call tells a rising list alone. -/
def TellsS1 (n : Nat) (P : Int → Prop) (e : Ending) (w : World) : Prop := ∃ (K : List Int) (v : Value), e = .returned v ∧ Lst w v K ∧ Rising K ∧ (∀ x, x ∈ K ↔ P x) ∧ K.length ≤ n ∧ ∀ x ∈ K, U64 x

theorem easy_len {k : Bool → Bool → Bool} {A B K : List Int} (h : Chosen k A B K) : K.length ≤ A.length + B.length := by
  have h1 : K.Nodup := rising_nodup h.1
  have h2 : K ⊆ A ++ B := fun x hx => List.mem_append.2 ((h.2 x).1 hx).2
  have := List.Nodup.length_le_of_subset h1 h2
  simpa using this

theorem easy_tell {k : Bool → Bool → Bool} {A B K : List Int} {P : Int → Prop} {e : Ending} {w : World} (h : Chosen k A B K) (ht : TellsChosen K e w) (hP : ∀ x, (k (decide (x ∈ A)) (decide (x ∈ B)) = true ∧ (x ∈ A ∨ x ∈ B)) ↔ P x) (hn : A.length + B.length ≤ 20000) (uA : ∀ x ∈ A, U64 x) (uB : ∀ x ∈ B, U64 x) : TellsL (A.length + B.length) P e w := by
  have hl := easy_len h
  rcases ht with ⟨-, v, h1, h2⟩ | ⟨h1, -⟩
  · refine ⟨K, v, h1, h2, h.1, fun x => (h.2 x).trans (hP x), hl, fun x hx => ?_⟩
    rcases ((h.2 x).1 hx).2 with h3 | h3
    · exact uA x h3
    · exact uB x h3
  · omega

theorem eunion (s t : Value) (A B : List Int) (hn : A.length + B.length ≤ 20000) (uA : ∀ x ∈ A, U64 x) (uB : ∀ x ∈ B, U64 x) (w : World) (hA : Lst w s A) (hB : Lst w t B) :
    Calls Try.prog 18 #[s, t] w fun e w' => TellsL (A.length + B.length) (fun x => x ∈ A ∨ x ∈ B) e w' ∧ Below w.heap.size w w' := by
  refine (cunion s t A B (by omega) (by omega) uA uB w hA hB).mono ?_
  rintro e w' ⟨⟨K, hC, hT⟩, hb⟩
  refine ⟨easy_tell hC hT (fun x => ?_) hn uA uB, hb⟩
  simp

theorem emeet (s t : Value) (A B : List Int) (hn : A.length + B.length ≤ 20000) (uA : ∀ x ∈ A, U64 x) (uB : ∀ x ∈ B, U64 x) (w : World) (hA : Lst w s A) (hB : Lst w t B) :
    Calls Try.prog 19 #[s, t] w fun e w' => TellsL (A.length + B.length) (fun x => x ∈ A ∧ x ∈ B) e w' ∧ Below w.heap.size w w' := by
  refine (cmeet s t A B (by omega) (by omega) uA uB w hA hB).mono ?_
  rintro e w' ⟨⟨K, hC, hT⟩, hb⟩
  refine ⟨easy_tell hC hT (fun x => ?_) hn uA uB, hb⟩
  by_cases h1 : x ∈ A <;> by_cases h2 : x ∈ B <;> simp [h1, h2]

theorem eminus (s t : Value) (A B : List Int) (hn : A.length + B.length ≤ 20000) (uA : ∀ x ∈ A, U64 x) (uB : ∀ x ∈ B, U64 x) (w : World) (hA : Lst w s A) (hB : Lst w t B) :
    Calls Try.prog 20 #[s, t] w fun e w' => TellsL (A.length + B.length) (fun x => x ∈ A ∧ ¬ x ∈ B) e w' ∧ Below w.heap.size w w' := by
  refine (cminus s t A B (by omega) (by omega) uA uB w hA hB).mono ?_
  rintro e w' ⟨⟨K, hC, hT⟩, hb⟩
  refine ⟨easy_tell hC hT (fun x => ?_) hn uA uB, hb⟩
  by_cases h1 : x ∈ A <;> by_cases h2 : x ∈ B <;> simp [h1, h2]

theorem eset (s : Value) (A : List Int) (hn : A.length ≤ 20000) (uA : ∀ x ∈ A, U64 x) (w : World) (hA : Lst w s A) :
    Calls Try.prog 13 #[s] w fun e w' => TellsS1 A.length (fun x => x ∈ A) e w' ∧ Below w.heap.size w w' := by
  refine (cset s A (by omega) w hA).mono ?_
  rintro e w' ⟨⟨g, cap, L, rfl, -, h1, h2, h3, h4, h5⟩, hb⟩
  exact ⟨⟨L, _, rfl, Lst.row h1 h5, h2, h3, h4, fun x hx => uA x ((h3 x).1 hx)⟩, hb⟩

end Go.Proofs.Ytogkfmoediiieaa
