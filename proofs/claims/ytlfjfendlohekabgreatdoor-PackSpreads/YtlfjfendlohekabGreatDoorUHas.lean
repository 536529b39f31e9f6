/-
  What the library's Index and Contains, and Has of package cells, tell of a list of words; nothing is written; in whatever memory. The methods by which a side is chosen.
-/
import Derived.Test.YtlfjfendlohekabGreatDoorUC
import Derived.Laws.BitsAllLaws
import Derived.Handy
import Derived.Deep.QuietTactic
import Derived.Test.YtlfjfendlohekabGreatDoorProg
import Derived.WalkSpells
import Derived.WalkLawsBesides
import Derived.BigQuiet
import Derived.PlainAid
import Derived.Deep.RegionWith
import Derived.Deep.RegionHeld3
import Derived.WalkSmall
import Derived.Deep.CutRange
import Derived.BigRegion
import Derived.OwnWalk
import Derived.Laws.OwnMore
import Derived.OneCell
import Derived.Laws.CopyOwn
import Derived.Sort.Row
namespace Go.Proofs.YtlfjfendlohekabGreatDoor
open Go.RowKit

set_option maxHeartbeats 2000000 in
theorem index_any (s : Value) (L : List Int) (x : Int) (hn : L.length ≤ 50000) (w : World) (hl : Lst w s L) :
    Calls Tryz.prog 94 #[s, .int .u64 x] w fun e w' => (∃ k : Int, e = .returned (.int .i64 k) ∧ (0 ≤ k ↔ x ∈ L)) ∧ w' = w := by
  obtain ⟨p, cap, rfl, -, hc⟩ := hl
  obtain ⟨n, en⟩ : ∃ n, L.length = n := ⟨_, rfl⟩
  have HC := hidd hc
  have EN := hidd en
  rw [en] at hn ⊢
  clear hc en
  go_enter Tryz.func94, Tryz.ntmps94
  go_wp2_with fail
  go_loopw [8] (fun v8 wr => ∃ i : Nat, i ≤ n ∧ v8 = .int .i64 (i : Int) ∧ wr = w ∧ Hid (∀ (j : Nat) (hj : j < L.length), j < i → L[j] ≠ x)) (fun v8 _ => n - (intOf v8).toNat)
  case atStart => exact ⟨0, by omega, rfl, rfl, hidd fun j _ h => absurd h (Nat.not_lt_zero _)⟩
  case round =>
    obtain ⟨i, hi, rfl, rfl, hI⟩ := hrel
    by_cases hlt : i < n
    · have hiL : i < L.length := by rw [EN.out]; exact hlt
      obtain ⟨g, o, rfl, x1⟩ := HC.out i hiL
      by_cases hx : L[i] = x
      · have hm : Hid (x ∈ L) := hidd (hx ▸ List.getElem_mem hiL)
        rw [hx] at x1
        clear HC EN hI
        go_wp2_with fail
        go_ret
        exact ⟨⟨(i : Int), rfl, ⟨fun _ => hm.out, fun _ => by omega⟩⟩, rfl⟩
      · have hne : (x == L[i]) = false := by simpa using fun e => hx e.symm
        have hI2 : Hid (∀ (j : Nat) (hj : j < L.length), j < i + 1 → L[j] ≠ x) := hidd fun j hj h => by
          rcases Nat.lt_or_ge j i with k | k
          · exact hI.out j hj k
          · obtain rfl : j = i := by omega
            exact hx
        generalize L[i]'_ = y at *
        clear HC EN hI hx
        go_wp2_with fail
        go_roundw
        case rel => exact ⟨i + 1, by omega, by go_num, by trivial, hI2⟩
        case measure => simp [intOf]; omega
    · obtain rfl : i = n := by omega
      have hno : Hid (x ∉ L) := hidd fun hm => by
        obtain ⟨j, hj, e⟩ := List.mem_iff_getElem.1 hm
        exact hI.out j hj (by rw [← EN.out]; exact hj) e
      clear HC EN hI
      go_wp2_with fail
      go_ret
      exact ⟨⟨-1, by trivial, ⟨fun h => by omega, fun h => absurd h hno.out⟩⟩, by trivial⟩

set_option maxHeartbeats 1000000 in
theorem contains_any (s : Value) (L : List Int) (x : Int) (hn : L.length ≤ 50000) (w : World) (hl : Lst w s L) :
    Calls Tryz.prog 67 #[s, .int .u64 x] w fun e w' => e = .returned (.bool (decide (x ∈ L))) ∧ w' = w := by
  have IX := hidd (index_any s L x hn w hl)
  clear hl
  go_enter Tryz.func67, Tryz.ntmps67
  go_wp2_with fail
  refine IX.out.mono ?_
  rintro e w1 ⟨⟨k, rfl, hk⟩, rfl⟩
  have hd : Hid (decide (0 ≤ k) = decide (x ∈ L)) := hidd (decide_eq_decide.2 hk)
  clear hk IX
  go_wp2_with fail
  go_ret
  exact ⟨by rw [← hd.out]; rfl, rfl⟩

set_option maxHeartbeats 1000000 in
theorem chas (s : Value) (L : List Int) (x : Int) (hn : L.length ≤ 50000) (w : World) (hl : Lst w s L) :
    Calls Tryz.prog 36 #[s, .int .u64 x] w fun e w' => e = .returned (.bool (decide (x ∈ L))) ∧ w' = w := by
  have IX := hidd (contains_any s L x hn w hl)
  clear hl
  go_enter Tryz.func36, Tryz.ntmps36
  go_wp2_with fail
  refine IX.out.mono ?_
  rintro e w1 ⟨rfl, rfl⟩
  go_wp2_with fail
  go_ret
  exact ⟨rfl, rfl⟩

end Go.Proofs.YtlfjfendlohekabGreatDoor
