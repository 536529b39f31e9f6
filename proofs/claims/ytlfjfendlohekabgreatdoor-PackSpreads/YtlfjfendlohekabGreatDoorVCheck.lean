/-
  What Check of package cells, and the document's own, tell of a list of words: its first fault; in whatever memory.
-/
import Derived.Test.YtlfjfendlohekabGreatDoorUC
import Derived.Test.YtlfjfendlohekabGreatDoorI2C
import Derived.Laws.BitsAllLaws
import Derived.Handy
import Derived.Deep.QuietTactic
import Derived.Test.YtlfjfendlohekabGreatDoorProg
import Derived.WalkSpells
import Derived.WalkLawsBesides
import Derived.BigQuiet
import Derived.PlainAid
import Derived.Deep.RegionWith
import Derived.Deep.RegionHeld3
import Derived.WalkSmall
import Derived.Deep.CutRange
import Derived.BigRegion
import Derived.OwnWalk
import Derived.Laws.OwnMore
import Derived.OneCell
import Derived.Laws.CopyOwn
import Derived.Sort.Row
import Derived.Laws.AppendOwn
import Derived.Laws.AppendOwnNone
import Derived.BigFrame
import Derived.RangeFuncFrom
import Derived.RangeFuncCalls
import Derived.RangeFuncLeaves
import Derived.WalkKit
import Derived.OwnWalkIn
import Derived.TacticsInMore
import Derived.LoopNIn
import Derived.LoopIn
import Derived.RegionIn
import Derived.Stop.RegionWithIn
import Derived.Deep.LoopGhost
namespace Go.Proofs.YtlfjfendlohekabGreatDoor
open Go.RowKit

/-- The first fault of a list that should have words of size r alone. -/
def ChkT (L : List Int) (r t : Int) : Prop :=
  (t = 0 ∧ ∀ (j : Nat) (hj : j < L.length), Whole L[j] ∧ wR L[j] = r) ∨
  ∃ (i : Nat) (hi : i < L.length), (∀ (j : Nat) (hj : j < L.length), j < i → Whole L[j] ∧ wR L[j] = r) ∧ ((t = 5 ∧ ¬ Whole L[i]) ∨ (t = 8 ∧ Whole L[i] ∧ wR L[i] ≠ r))

theorem chk_one {L : List Int} {r t t' : Int} (h : ChkT L r t) (h' : ChkT L r t') : t = t' := by
  have bad : ∀ {i : Nat} {hi : i < L.length} {t : Int}, ((t = 5 ∧ ¬ Whole L[i]) ∨ (t = 8 ∧ Whole L[i] ∧ wR L[i] ≠ r)) → ¬ (Whole L[i] ∧ wR L[i] = r) := fun h g => by
    rcases h with ⟨-, h⟩ | ⟨-, -, h⟩
    · exact h g.1
    · exact h g.2
  rcases h with ⟨rfl, h⟩ | ⟨i, hi, h1, h2⟩
  · rcases h' with ⟨rfl, -⟩ | ⟨i', hi', -, h2'⟩
    · rfl
    · exact absurd (h i' hi') (bad h2')
  · rcases h' with ⟨rfl, h'⟩ | ⟨i', hi', h1', h2'⟩
    · exact absurd (h' i hi) (bad h2)
    · have e : i = i' := by
        rcases Nat.lt_trichotomy i i' with k | k | k
        · exact absurd (h1' i hi k) (bad h2)
        · exact k
        · exact absurd (h1 i' hi' k) (bad h2')
      subst e
      rcases h2 with ⟨rfl, h2⟩ | ⟨rfl, h2, h3⟩
      · rcases h2' with ⟨rfl, -⟩ | ⟨rfl, h4, -⟩
        · rfl
        · exact absurd h4 h2
      · rcases h2' with ⟨rfl, h4⟩ | ⟨rfl, -, -⟩
        · exact absurd h2 h4
        · rfl

set_option maxHeartbeats 4000000 in
set_option maxRecDepth 20000 in
theorem ccheck (s : Value) (L : List Int) (r : Int) (hn : L.length ≤ 50000) (uL : ∀ x ∈ L, U64 x) (w : World) (hl : Lst w s L) :
    Calls Tryz.prog 46 #[s, .int .i64 r] w fun e w' => (∃ t, e = .returned (.int .i64 t) ∧ ChkT L r t) ∧ Below w.heap.size w w' := by
  obtain ⟨p, cap, rfl, -, hc⟩ := hl
  obtain ⟨n, en⟩ : ∃ n, L.length = n := ⟨_, rfl⟩
  have HC := hidd hc
  have EN := hidd en
  have UL := hidd uL
  rw [en] at hn ⊢
  clear hc en uL
  go_enter Tryz.func46, Tryz.ntmps46
  go_wp2_with fail
  go_loopw [9] (fun v9 wr => ∃ i : Nat, i ≤ n ∧ v9 = .int .i64 (i : Int) ∧ Hid (∀ (j : Nat) (hj : j < L.length), j < i → Whole L[j] ∧ wR L[j] = r) ∧ Below w.heap.size w wr) (fun v9 _ => n - (intOf v9).toNat)
  case atStart => exact ⟨0, by omega, rfl, hidd fun j _ h => absurd h (Nat.not_lt_zero _), Below.refl _ _⟩
  case round =>
    obtain ⟨i, hi, rfl, hI, hB⟩ := hrel
    by_cases hlt : i < n
    · have hiL : i < L.length := by rw [EN.out]; exact hlt
      obtain ⟨g, o, rfl, x1⟩ := HC.out i hiL
      replace x1 := keepCell hB x1
      have hu := UL.out _ (List.getElem_mem hiL)
      by_cases hW : Whole L[i]
      · have IK := hidd fun w => iok L[i] hu true (by simp [hW]) w
        have RS := hidd fun w => ires_yes L[i] hW w
        by_cases hr : wR L[i] = r
        · have hI2 : Hid (∀ (j : Nat) (hj : j < L.length), j < i + 1 → Whole L[j] ∧ wR L[j] = r) := hidd fun j hj h => by
            rcases Nat.lt_or_ge j i with k | k
            · exact hI.out j hj k
            · obtain rfl : j = i := by omega
              exact ⟨hW, hr⟩
          have hb : (wR L[i] != r) = false := by simp [hr]
          clear hW hr hI
          generalize wR L[i] = z at *
          generalize L[i]'_ = x at *
          go_wp2_with fail
          refine (IK.out _).mono ?_
          rintro e w1 ⟨rfl, b1⟩
          have B1 := belowT hB b1
          go_wp2_with fail
          refine (RS.out _).mono ?_
          rintro e w2 ⟨rfl, b2⟩
          have B2 := belowT B1 b2
          go_wp2_with fail
          go_roundw
          case rel => exact ⟨i + 1, by omega, by go_num, hI2, B2⟩
          case measure => simp [intOf]; omega
        · have hT : Hid (ChkT L r 8) := hidd (.inr ⟨i, hiL, hI.out, .inr ⟨rfl, hW, hr⟩⟩)
          have hb : (wR L[i] != r) = true := by simp [hr]
          clear hW hr hI
          generalize wR L[i] = z at *
          generalize L[i]'_ = x at *
          go_wp2_with fail
          refine (IK.out _).mono ?_
          rintro e w1 ⟨rfl, b1⟩
          have B1 := belowT hB b1
          go_wp2_with fail
          refine (RS.out _).mono ?_
          rintro e w2 ⟨rfl, b2⟩
          have B2 := belowT B1 b2
          go_wp2_with fail
          go_ret
          exact ⟨⟨8, rfl, hT.out⟩, B2⟩
      · have IK := hidd fun w => iok L[i] hu false (by simp [hW]) w
        have hT : Hid (ChkT L r 5) := hidd (.inr ⟨i, hiL, hI.out, .inl ⟨rfl, hW⟩⟩)
        clear hW hI
        generalize L[i]'_ = x at *
        go_wp2_with fail
        refine (IK.out _).mono ?_
        rintro e w1 ⟨rfl, b1⟩
        have B1 := belowT hB b1
        go_wp2_with fail
        go_ret
        exact ⟨⟨5, rfl, hT.out⟩, B1⟩
    · obtain rfl : i = n := by omega
      have hT : Hid (ChkT L r 0) := hidd (.inl ⟨rfl, fun j hj => hI.out j hj (by rw [← EN.out]; exact hj)⟩)
      clear hI
      go_wp2_with fail
      go_ret
      exact ⟨⟨0, rfl, hT.out⟩, hB⟩

end Go.Proofs.YtlfjfendlohekabGreatDoor
