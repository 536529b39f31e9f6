/-
  What the document's own Same and Has tell of rows of words: that two rows are one; whether a rising row has a word; in whatever memory.
-/
import Derived.Test.YtdklpgphmoaniabGreatDoorUX
import Derived.Test.YtdklpgphmoaniabGreatDoorNX
import Derived.Laws.BitsAllLaws
import Derived.Handy
import Derived.Deep.QuietTactic
import Derived.Test.YtdklpgphmoaniabGreatDoorProg
import Derived.WalkSpells
import Derived.WalkLawsBesides
import Derived.BigQuiet
import Derived.PlainAid
import Derived.Deep.RegionWith
import Derived.Deep.RegionHeld3
import Derived.WalkSmall
import Derived.Deep.CutRange
import Derived.BigRegion
import Derived.OwnWalk
import Derived.Laws.OwnMore
import Derived.OneCell
import Derived.Laws.CopyOwn
import Derived.Sort.Row
import Derived.Sort.LotD3
import Derived.Deep.Cut
import Derived.Deep.LoopGhost
import Derived.Sort.WalkA6
import Derived.Sort.Walk13a
import Derived.Sort.LotA
import Derived.Sort.LotB
import Derived.Sort.LotD1
import Derived.Deep.Draws
import Derived.WalkKit
import Derived.BigGuard
import Derived.BigCall
import Derived.CellFam
import Derived.Sort.WalkB3
namespace Go.Proofs.YtdklpgphmoaniabGreatDoor
open Go.RowKit

theorem RowAt.form {C : Nat} {w : World} {s : Value} {L : List Int} (h : RowAt C w s L) : ∃ p cap, s = .slice p L.length cap ∧ ∀ (j : Nat) (hj : j < L.length), ∃ g, p = some ⟨g, 0, none⟩ ∧ w.cell? ⟨g, j, none⟩ = some (.int .u64 L[j]) := by
  rcases h with ⟨rfl, rfl⟩ | ⟨g, cap, h1, h2, h3⟩
  · exact ⟨none, 0, rfl, fun j hj => absurd hj (Nat.not_lt_zero _)⟩
  · exact ⟨_, cap, h1, fun j hj => ⟨g, rfl, h3 j hj⟩⟩

set_option maxHeartbeats 4000000 in
/-- SAME of one row twice. -/
theorem rsame (C D : Nat) (s t : Value) (L : List Int) (hn : L.length ≤ 40000) (w : World) (h1 : RowAt C w s L) (h2 : RowAt D w t L) :
    Calls Tryz.prog 9 #[s, t] w fun e w' => e = .returned (.bool true) ∧ Below w.heap.size w w' := by
  obtain ⟨p, c, rfl, hp⟩ := h1.form
  obtain ⟨q, c2, rfl, hq⟩ := h2.form
  obtain ⟨n, en⟩ : ∃ n, L.length = n := ⟨_, rfl⟩
  have HP := hidd hp
  have HQ := hidd hq
  have EN := hidd en
  rw [en] at hn ⊢
  clear hp hq h1 h2 en
  go_enter Tryz.func9, Tryz.ntmps9
  go_wp2_with fail
  go_loopw [5] (fun v5 wr => ∃ i : Nat, i ≤ n ∧ v5 = .int .i64 (i : Int) ∧ Below w.heap.size w wr) (fun v5 _ => n - (intOf v5).toNat)
  case atStart => exact ⟨0, by omega, rfl, Below.refl _ _⟩
  case round =>
    obtain ⟨i, hi, rfl, hB⟩ := hrel
    by_cases hlt : i < n
    · obtain ⟨g, rfl, x1⟩ := HP.out i (by rw [EN.out]; exact hlt)
      obtain ⟨g2, rfl, x2⟩ := HQ.out i (by rw [EN.out]; exact hlt)
      replace x1 := keepCell hB x1
      replace x2 := keepCell hB x2
      generalize L[i]'_ = x at *
      clear HP HQ EN
      go_wp2_with fail
      go_quiet (fail)
      go_wp2
      go_roundw
      case rel => exact ⟨i + 1, by omega, by go_num, belowN hB _⟩
      case measure => simp [intOf]; omega
    · obtain rfl : i = n := by omega
      go_wp2
      go_ret
      exact ⟨rfl, hB⟩

end Go.Proofs.YtdklpgphmoaniabGreatDoor
