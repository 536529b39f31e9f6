/-
  The library's insertion sort of a row of words, at this program: the part of the row comes to rise, its words are the same ones; in whatever memory.
-/
import Derived.Test.YtdklpgphmoaniaaGreatDoorSRowX
import Derived.Test.YtdklpgphmoaniaaGreatDoorProg
import Derived.Handy
import Derived.Deep.QuietTactic
import Derived.Sort.Walk13a
import Derived.Sort.LotA
import Derived.Sort.LotB
import Derived.Sort.LotD1
import Derived.Deep.Draws
import Derived.WalkKit
import Derived.BigGuard
import Derived.BigCall
import Derived.CellFam
import Derived.BigQuiet
namespace Go.Proofs.YtdklpgphmoaniaaGreatDoor
open Go.RowKit

theorem u_nan (x : Int) (w : World) : Calls Tryz.prog 175 #[.int .u64 x] w fun e w' => e = .returned (.bool false) ∧ w' = w := by
  go_enter Tryz.func175, Tryz.ntmps175
  go_wp2
  go_ret
  exact ⟨by simp, rfl⟩

theorem u_less (x y : Int) (w : World) : Calls Tryz.prog 150 #[.int .u64 x, .int .u64 y] w fun e w' => e = .returned (.bool (Sort.ltInt x y)) ∧ w' = w := by
  go_enter Tryz.func150, Tryz.ntmps150
  go_wp2_with (go_at_call 175; refine (u_nan _ _).mono ?_; rintro e w' ⟨rfl, rfl⟩)
  go_ret
  exact ⟨rfl, rfl⟩

set_option maxHeartbeats 4000000 in
set_option maxRecDepth 100000 in
theorem u_ins (g off cap a b n : Nat) (d : Array Int) (hn : d.size = n) (w : World) (hH : Sort.Holds (Value.int .u64) w g off d) (hg : g < w.heap.size) (hab : a ≤ b) (hb : b ≤ n) (hsz : n < 4611686018427387904) :
    Calls Tryz.prog 144 #[.slice (some ⟨g, off, none⟩) n cap, .int .i64 a, .int .i64 b] w fun e w' =>
      e = .returned (.tuple #[]) ∧ ∃ d', Sort.PermIn a b d d' ∧ Sort.SortedIn Sort.ltInt a b d' ∧ St w g off d d' w' := by
  have H0 : Hid (Sort.Holds (Value.int .u64) w g off d) := hH
  have HN : Hid (d.size = n) := hn
  clear hH hn
  go_enter Tryz.func144, Tryz.ntmps144
  go_wp2
  go_loopw [6] (fun vi wr => ∃ (i : Nat) (dk : Array Int), vi = .int .i64 i ∧ a < i ∧ i ≤ b + 1 ∧ Hid (St w g off d dk wr ∧ Sort.PermIn a b d dk ∧ Sort.SortedIn Sort.ltInt a i dk)) (fun vi _ => b + 1 - (intOf vi).toNat)
  case atStart => exact ⟨a + 1, d, by go_num, by omega, by omega, St.refl H0.out, perm_refl _ _ _, fun i j h1 h2 h3 => by omega⟩
  case round =>
    obtain ⟨i, dk, rfl, hai, hib, hS⟩ := hrel
    by_cases hlt : i < b
    · go_wp2
      go_loopw [7] (fun vj wr2 => ∃ (j : Nat) (dj : Array Int), vj = .int .i64 j ∧ a ≤ j ∧ j ≤ i ∧ Hid (St w g off d dj wr2 ∧ Sort.PermIn a b d dj ∧ Sort.Ins Sort.ltInt a j i dj)) (fun vj _ => (intOf vj).toNat)
      case atStart => exact ⟨i, dk, rfl, by omega, Nat.le_refl _, hS.out.1, hS.out.2.1, ⟨fun p q hap hpq hqi _ hq => hS.out.2.2 p q hap hpq (by omega), fun q h1 h2 => by omega⟩⟩
      case round =>
        clear hS
        obtain ⟨j, dj, rfl, haj, hji, hS⟩ := hrel
        obtain ⟨G, hG, hcw, hfw⟩ := hS.out.1.fam H0.out hg
        rw [HN.out] at hcw hfw
        have HG : Hid (∀ t, G t = dj[t]!) := hG
        clear hG
        have out : (j ≤ a ∨ Sort.ltInt dj[j]! dj[j - 1]! = false) → ∀ q, ∃ (i' : Nat) (dk' : Array Int), Value.int .i64 ((i : Int) + 1) = .int .i64 (i' : Nat) ∧ a < i' ∧ i' ≤ b + 1 ∧ Hid (St w g off d dk' (wr.drewN q) ∧ Sort.PermIn a b d dk' ∧ Sort.SortedIn Sort.ltInt a i' dk') := fun hs q =>
          ⟨i + 1, dj, by go_num, by omega, by omega, hS.out.1.drawn q, hS.out.2.1, hS.out.2.2.stop Sort.swo_ltInt hs⟩
        have OUT : Hid _ := out
        clear out
        go_wp2
        by_cases hja : a < j
        · go_quiet (first | (go_at_call 150; refine Calls.quiet_of_same (u_less _ _ _)))
          go_wp2
          · have hl : Sort.ltInt (G j) (G (j - 1)) = true := by assumption
            go_region
            all_goals go_wp2
            go_roundw
            case rel =>
              refine ⟨j - 1, Sort.swp dj j (j - 1), by congr 1; omega, by omega, by omega, hS.out.1.swap H0.out hg HG.out (by rw [HN.out]; omega) (by rw [HN.out]; omega) (nq + 1), perm_trans hS.out.2.1 (swp_perm _ _ _ _ _ (by omega) (by omega) (by omega) (by omega) (by rw [hS.out.1.1, HN.out]; omega)), ?_⟩
              obtain ⟨j', rfl⟩ : ∃ j', j = j' + 1 := ⟨j - 1, by omega⟩
              exact hS.out.2.2.step (by rw [← HG.out, ← HG.out]; exact hl) (by omega) (by rw [hS.out.1.1, HN.out]; omega)
            case measure => simp [intOf]; omega
          · have hl : Sort.ltInt (G j) (G (j - 1)) = false := by assumption
            go_roundw
            case rel => exact OUT.out (Or.inr (by rw [← HG.out, ← HG.out]; exact hl)) nq
            case measure => simp [intOf]; omega
        · go_quiet (first | (go_at_call 150; refine Calls.quiet_of_same (u_less _ _ _)))
          go_wp2
          go_roundw
          case rel => exact OUT.out (Or.inl (by omega)) nq
          case measure => simp [intOf]; omega
    · go_wp2
      go_end0
      exact ⟨rfl, dk, hS.out.2.1, fun p q h1 h2 h3 => hS.out.2.2 p q h1 h2 (by omega), hS.out.1⟩

end Go.Proofs.YtdklpgphmoaniaaGreatDoor
