/-
  What the document's own Same and Has tell of rows of words: that two rows are one; whether a rising row has a word; in whatever memory.
-/
import Derived.Test.YtdklpgphmoaniaaGreatDoorUX
import Derived.Test.YtdklpgphmoaniaaGreatDoorNX
import Derived.Laws.BitsAllLaws
import Derived.Handy
import Derived.Deep.QuietTactic
import Derived.Test.YtdklpgphmoaniaaGreatDoorProg
import Derived.WalkSpells
import Derived.WalkLawsBesides
import Derived.BigQuiet
import Derived.PlainAid
import Derived.Deep.RegionWith
import Derived.Deep.RegionHeld3
import Derived.WalkSmall
import Derived.Deep.CutRange
import Derived.BigRegion
import Derived.OwnWalk
import Derived.Laws.OwnMore
import Derived.OneCell
import Derived.Laws.CopyOwn
import Derived.Sort.Row
import Derived.Sort.LotD3
import Derived.Deep.Cut
import Derived.Deep.LoopGhost
import Derived.Sort.WalkA6
import Derived.Sort.Walk13a
import Derived.Sort.LotA
import Derived.Sort.LotB
import Derived.Sort.LotD1
import Derived.Deep.Draws
import Derived.WalkKit
import Derived.BigGuard
import Derived.BigCall
import Derived.CellFam
import Derived.Sort.WalkB3
namespace Go.Proofs.YtdklpgphmoaniaaGreatDoor
open Go.RowKit

theorem RowAt.form {C : Nat} {w : World} {s : Value} {L : List Int} (h : RowAt C w s L) : ∃ p cap, s = .slice p L.length cap ∧ ∀ (j : Nat) (hj : j < L.length), ∃ g, p = some ⟨g, 0, none⟩ ∧ w.cell? ⟨g, j, none⟩ = some (.int .u64 L[j]) := by
  rcases h with ⟨rfl, rfl⟩ | ⟨g, cap, h1, h2, h3⟩
  · exact ⟨none, 0, rfl, fun j hj => absurd hj (Nat.not_lt_zero _)⟩
  · exact ⟨_, cap, h1, fun j hj => ⟨g, rfl, h3 j hj⟩⟩

set_option maxHeartbeats 4000000 in
/-- SAME of one row twice. -/
theorem rsame (C D : Nat) (s t : Value) (L : List Int) (hn : L.length ≤ 40000) (w : World) (h1 : RowAt C w s L) (h2 : RowAt D w t L) :
    Calls Tryz.prog 16 #[s, t] w fun e w' => e = .returned (.bool true) ∧ Below w.heap.size w w' := by
  obtain ⟨p, c, rfl, hp⟩ := h1.form
  obtain ⟨q, c2, rfl, hq⟩ := h2.form
  obtain ⟨n, en⟩ : ∃ n, L.length = n := ⟨_, rfl⟩
  have HP := hidd hp
  have HQ := hidd hq
  have EN := hidd en
  rw [en] at hn ⊢
  clear hp hq h1 h2 en
  go_enter Tryz.func16, Tryz.ntmps16
  go_wp2_with fail
  go_loopw [5] (fun v5 wr => ∃ i : Nat, i ≤ n ∧ v5 = .int .i64 (i : Int) ∧ Below w.heap.size w wr) (fun v5 _ => n - (intOf v5).toNat)
  case atStart => exact ⟨0, by omega, rfl, Below.refl _ _⟩
  case round =>
    obtain ⟨i, hi, rfl, hB⟩ := hrel
    by_cases hlt : i < n
    · obtain ⟨g, rfl, x1⟩ := HP.out i (by rw [EN.out]; exact hlt)
      obtain ⟨g2, rfl, x2⟩ := HQ.out i (by rw [EN.out]; exact hlt)
      replace x1 := keepCell hB x1
      replace x2 := keepCell hB x2
      generalize L[i]'_ = x at *
      clear HP HQ EN
      go_wp2_with fail
      go_quiet (fail)
      go_wp2
      go_roundw
      case rel => exact ⟨i + 1, by omega, by go_num, belowN hB _⟩
      case measure => simp [intOf]; omega
    · obtain rfl : i = n := by omega
      go_wp2
      go_ret
      exact ⟨rfl, hB⟩

set_option maxHeartbeats 4000000 in
/-- HAS: whether a rising row has a word. -/
theorem rhas (C : Nat) (s : Value) (L : List Int) (x : Int) (hx : U64 x) (hR : Rising L) (hU : ∀ y ∈ L, U64 y) (hn : L.length ≤ 40000) (w : World) (h1 : RowAt C w s L) :
    Calls Tryz.prog 22 #[s, .int .u64 x] w fun e w' => e = .returned (.bool (decide (x ∈ L))) ∧ Below w.heap.size w w' := by
  obtain ⟨p, c, rfl, hp⟩ := h1.form
  obtain ⟨n, en⟩ : ∃ n, L.length = n := ⟨_, rfl⟩
  have HP := hidd hp
  have EN := hidd en
  have HR := hidd hR
  have HU := hidd hU
  obtain ⟨x0, x1⟩ := hx
  rw [en] at hn ⊢
  clear hp h1 en hR hU
  go_enter Tryz.func22, Tryz.ntmps22
  go_wp2_with fail
  go_loopw [5, 6] (fun v5 v6 wr => ∃ lo hi : Nat, lo ≤ hi ∧ hi ≤ n ∧ v5 = .int .i64 (lo : Int) ∧ v6 = .int .i64 (hi : Int) ∧ Hid (Seek L x lo hi) ∧ Below w.heap.size w wr) (fun v5 v6 _ => (intOf v6 - intOf v5).toNat)
  case atStart => exact ⟨0, n, by omega, by omega, rfl, rfl, hidd ⟨fun t ht hl => by omega, fun t ht hl => by have := EN.out; omega⟩, Below.refl _ _⟩
  case round =>
    obtain ⟨lo, hi, h1, h2, rfl, rfl, hS, hB⟩ := hrel
    by_cases hlh : lo < hi
    · obtain ⟨mid, hmid⟩ : ∃ mid, (lo + hi) / 2 = mid := ⟨_, rfl⟩
      have m1 : lo ≤ mid := by omega
      have m2 : mid < hi := by omega
      have m3 : mid < n := by omega
      have em : ((lo : Int) + (hi : Int)).tdiv 2 = (mid : Int) := by rw [Int.tdiv_eq_ediv_of_nonneg (by omega)]; omega
      clear hmid
      have hmL : mid < L.length := by rw [EN.out]; exact m3
      obtain ⟨g, rfl, cy⟩ := HP.out mid hmL
      replace cy := keepCell hB cy
      obtain ⟨y0, y1⟩ := HU.out _ (List.getElem_mem hmL)
      have hUp := hidd (fun h => hS.out.up HR.out hmL h)
      have hDn := hidd (fun h => hS.out.down HR.out hmL h)
      generalize L[mid] = y at *
      have hlh' : (lo : Int) < (hi : Int) := by omega
      have hq : y < x ∨ decide (y < x) = false := by simp only [decide_eq_false_iff_not]; omega
      rcases hq with hq | hq
      · go_wp2_with fail
        go_roundw
        case rel => exact ⟨mid + 1, hi, by omega, by omega, by go_num, rfl, hidd (hUp.out hq), hB⟩
        case measure => simp [intOf]; omega
      · go_wp2_with fail
        go_roundw
        case rel => exact ⟨lo, mid, by omega, by omega, rfl, rfl, hidd (hDn.out (by simpa using hq)), hB⟩
        case measure => simp [intOf]; omega
    · obtain rfl : lo = hi := by omega
      have hlh' : decide ((lo : Int) < (lo : Int)) = false := by simp
      by_cases hln : lo < n
      · have hmL : lo < L.length := by rw [EN.out]; exact hln
        obtain ⟨g, rfl, cy⟩ := HP.out lo hmL
        replace cy := keepCell hB cy
        have hD : Hid (decide (x ∈ L) = (L[lo] == x)) := by
          refine hidd ?_
          by_cases e : L[lo] = x
          · rw [decide_eq_true (e ▸ List.getElem_mem hmL)]; simp [e]
          · rw [decide_eq_false]
            · simp [e]
            · intro hm
              obtain ⟨t, ht, et⟩ := List.mem_iff_getElem.1 hm
              rcases Nat.lt_or_ge t lo with k | k
              · have := hS.out.1 t ht k; omega
              · have h3 := hS.out.2 lo hmL (Nat.le_refl _)
                have h4 := rise_le HR.out hmL ht k
                omega
        have hln' : (lo : Int) < (n : Int) := by omega
        generalize L[lo] = y at *
        clear hS HP HR HU EN
        go_wp2_with fail
        go_ret
        exact ⟨by rw [hD.out]; rfl, hB⟩
      · have hD : Hid (decide (x ∈ L) = false) := by
          refine hidd (decide_eq_false fun hm => ?_)
          obtain ⟨t, ht, et⟩ := List.mem_iff_getElem.1 hm
          have := hS.out.1 t ht (by rw [EN.out] at ht; omega)
          omega
        have hln' : decide ((lo : Int) < (n : Int)) = false := df (by omega)
        have hln2 : decide (lo < n) = false := df (by omega)
        clear hS HP HR HU EN
        go_wp2_with fail
        go_ret
        exact ⟨by rw [hD.out]; rfl, hB⟩

end Go.Proofs.YtdklpgphmoaniaaGreatDoor
