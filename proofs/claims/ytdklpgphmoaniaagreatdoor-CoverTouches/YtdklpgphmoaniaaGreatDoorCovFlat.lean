/-
  Spots as cells of a row, three each; plain facts. No condition beyond those written.
-/
import Derived.Test.YtdklpgphmoaniaaGreatDoorCovSpot
import Derived.Test.YtdklpgphmoaniaaGreatDoorProg
import Derived.Handy
import Derived.Deep.QuietTactic
import Derived.WalkSpells
import Derived.WalkLawsBesides
import Derived.BigQuiet
import Derived.PlainAid
import Derived.Deep.RegionWith
import Derived.Laws.BitsAllLaws
import Derived.Sort.LotA
import Derived.Sort.LotB
namespace Go.Proofs.YtdklpgphmoaniaaGreatDoor
open Go.RowKit

def spcV (x : Int) : List Value := [.int .i64 (sp0 x), .int .i64 (sp1 x), .int .i64 (sp2 x)]

def flat (L : List Int) : List Value := L.flatMap spcV

theorem flat_cons (x : Int) (L : List Int) : flat (x :: L) = .int .i64 (sp0 x) :: .int .i64 (sp1 x) :: .int .i64 (sp2 x) :: flat L := rfl

theorem flat_nil : flat [] = [] := rfl

theorem flat_app (L M : List Int) : flat (L ++ M) = flat L ++ flat M := by unfold flat; rw [List.flatMap_append]

theorem flat_one (x : Int) : flat [x] = [.int .i64 (sp0 x), .int .i64 (sp1 x), .int .i64 (sp2 x)] := by unfold flat; simp [spcV]

theorem flat_len : ∀ L : List Int, (flat L).length = L.length * 3
  | [] => rfl
  | x :: L => by rw [flat_cons]; simp only [List.length_cons, flat_len L]; omega

theorem flat_at : ∀ (L : List Int) (i : Nat) (h : i < L.length), (flat L)[i * 3]? = some (.int .i64 (sp0 L[i])) ∧ (flat L)[i * 3 + 1]? = some (.int .i64 (sp1 L[i])) ∧ (flat L)[i * 3 + 2]? = some (.int .i64 (sp2 L[i]))
  | x :: L, 0, _ => by rw [flat_cons]; exact ⟨rfl, rfl, rfl⟩
  | x :: L, i + 1, h => by
    rw [flat_cons, show (i + 1) * 3 = i * 3 + 1 + 1 + 1 by omega]
    have := flat_at L i (by simpa using h)
    simp only [List.getElem?_cons_succ, List.getElem_cons_succ]
    exact this

theorem flat_set : ∀ (L : List Int) (i : Nat) (x : Int), (((flat L).set (i * 3) (.int .i64 (sp0 x))).set (i * 3 + 1) (.int .i64 (sp1 x))).set (i * 3 + 2) (.int .i64 (sp2 x)) = flat (L.set i x)
  | [], _, _ => by simp [flat_nil]
  | y :: L, 0, x => rfl
  | y :: L, i + 1, x => by
    rw [flat_cons, show (i + 1) * 3 = i * 3 + 1 + 1 + 1 by omega]
    simp only [List.set_cons_succ]
    rw [flat_set L i x, flat_cons]

theorem flat_take (L : List Int) (m : Nat) : (flat L).take (m * 3) = flat (L.take m) := by
  induction L generalizing m with
  | nil => simp [flat_nil]
  | cons x L ih =>
    cases m with
    | zero => simp [flat_nil]
    | succ m =>
      rw [flat_cons, show (m + 1) * 3 = m * 3 + 1 + 1 + 1 by omega]
      simp only [List.take_succ_cons]
      rw [ih m, flat_cons]

theorem swp_list (d : Array Int) (i j : Nat) : (Sort.swp d i j).toList = (d.toList.set i d[j]!).set j d[i]! := by
  unfold Sort.swp
  rw [Array.toList_setIfInBounds, Array.toList_setIfInBounds]

end Go.Proofs.YtdklpgphmoaniaaGreatDoor
