/-
  The law PackErrors answers true for every two numbers and sizes, in whatever memory where the two tables hold what their texts lay.
-/
import Derived.Test.YtlfjfendlohekaaGreatDoorPAwake
import Derived.Test.YtlfjfendlohekaaGreatDoorLitL
import Derived.Test.YtlfjfendlohekaaGreatDoorProg
import Derived.Handy
import Derived.Deep.QuietTactic
import Derived.WalkSpells
import Derived.WalkLawsBesides
import Derived.BigQuiet
import Derived.PlainAid
import Derived.Deep.RegionWith
import Derived.Laws.BitsAllLaws
import Derived.Sort.Walk13a
import Derived.Sort.LotA
import Derived.Sort.LotB
import Derived.Sort.LotD1
import Derived.Deep.Draws
import Derived.WalkKit
import Derived.BigGuard
import Derived.BigCall
import Derived.CellFam
import Derived.Sort.WalkB3
import Derived.BigRegion
import Derived.Sort.WalkA6
import Derived.Deep.RegionHeld3
import Derived.WalkSmall
import Derived.Deep.CutRange
import Derived.OwnWalk
import Derived.Laws.OwnMore
import Derived.OneCell
import Derived.Laws.CopyOwn
import Derived.Sort.Row
import Derived.Laws.AppendOwn
import Derived.Laws.AppendOwnNone
import Derived.BigFrame
import Derived.Deep.AppendLies
import Derived.Deep.RegionLaw
import Derived.RangeFuncFrom
import Derived.RangeFuncCalls
import Derived.RangeFuncLeaves
import Derived.OwnWalkIn
import Derived.TacticsInMore
import Derived.LoopNIn
import Derived.LoopIn
import Derived.RegionIn
import Derived.Stop.RegionWithIn
import Derived.Sort.LotD3
import Derived.Deep.Cut
import Derived.Deep.LoopGhost
import Derived.Sort.WalkB12
import Derived.Deep.OwnRows
namespace Go.Proofs.YtlfjfendlohekaaGreatDoor
open Go.RowKit

theorem sz_next {r : Int} (h1 : -9223372036854775808 ≤ r) (h2 : r ≤ 9223372036854775807) : szOf r ≠ szOf (wrap64 (r + 1)) := by
  have e : ∀ x : Int, szOf x = x % 13 := fun x => by
    unfold szOf
    have h := Int.tmod_eq_emod (a := x) (b := 13)
    have : (x.tmod 13 + 13).tmod 13 = (x.tmod 13 + 13) % 13 := Int.tmod_eq_emod_of_nonneg (by split at h <;> omega)
    rw [this]
    split at h <;> omega
  rw [e, e]
  by_cases hr : r = 9223372036854775807
  · have h' : wrap64 (r + 1) = -9223372036854775808 := by rw [hr]; unfold wrap64; omega
    rw [h', hr]
    decide
  · rw [show wrap64 (r + 1) = r + 1 by unfold wrap64; omega]
    omega

theorem cmp_word {C : Nat} {L : List Int} (hn : L.length ≤ 20000) (h : ¬ ∀ x ∈ L, Whole x) {e : Ending} {w' : World} (hc : TellsCmp C L e w') : e = .returned (.tuple #[.slice none 0 0, .int .i64 5]) := by
  rcases hc with ⟨h', _⟩ | ⟨_, _, e⟩ | ⟨_, h', _⟩ | ⟨_, h', _⟩
  · omega
  · exact e
  · exact absurd h' h
  · exact absurd h' h

theorem cmp_res {C : Nat} {L : List Int} (hn : L.length ≤ 20000) (h : ∀ x ∈ L, Whole x) (h1 : ¬ OneR L) {e : Ending} {w' : World} (hc : TellsCmp C L e w') : e = .returned (.tuple #[.slice none 0 0, .int .i64 8]) := by
  rcases hc with ⟨h', _⟩ | ⟨_, h', _⟩ | ⟨_, _, _, e⟩ | ⟨_, _, h', _⟩
  · omega
  · exact absurd h h'
  · exact e
  · exact absurd h' h1

theorem cmp_many {C : Nat} {L : List Int} (hn : 20000 < L.length) {e : Ending} {w' : World} (hc : TellsCmp C L e w') : e = .returned (.tuple #[.slice none 0 0, .int .i64 7]) := by
  rcases hc with ⟨_, e⟩ | ⟨h', _⟩ | ⟨h', _⟩ | ⟨h', _⟩
  · exact e
  all_goals omega

theorem size_word {L : List Int} (h : ¬ ∀ x ∈ L, Whole x) {r z t : Int} (hz : SizeT L r z t) : z = 0 ∧ t = 5 := hz.one (.inl ⟨h, rfl, rfl⟩)

theorem spr_arg {L : List Int} {r : Int} (h : ∀ x ∈ L, Whole x ∧ wR x ≤ r) (hr : ¬ (0 ≤ r ∧ r ≤ 12)) {e : Ending} {w' : World} (hs : TellsSpr L r e w') : e = .returned (.tuple #[.slice none 0 0, .int .i64 1]) := by
  obtain ⟨z, t, hz, h'⟩ := hs
  obtain ⟨rfl, rfl⟩ := hz.one (.inr (.inr (.inl ⟨fun x hx => (h x hx).1, fun x hx => (h x hx).2, hr, rfl, rfl⟩)))
  rcases h' with ⟨_, e⟩ | ⟨h', _⟩ | ⟨h', _⟩
  · exact e
  · omega
  · omega

theorem not_zero : ¬ Whole 0 := fun h => by have := h.1; omega

set_option maxHeartbeats 8000000 in
set_option maxRecDepth 20000 in
theorem packErrors_walk (x y r n : Int) (w : World) (hT : Tabs w) (_ : -9223372036854775808 ≤ x) (_ : x ≤ 9223372036854775807) (_ : -9223372036854775808 ≤ y) (_ : y ≤ 9223372036854775807) (hr1 : -9223372036854775808 ≤ r) (hr2 : r ≤ 9223372036854775807) (_ : -9223372036854775808 ≤ n) (_ : n ≤ 9223372036854775807) :
    Calls Tryz.prog 5 #[.int .i64 x, .int .i64 y, .int .i64 r, .int .i64 n] w fun e w' => e = .returned (.bool true) ∧ Below w.heap.size w w' := by
  obtain ⟨s1, hs1, b1, W1⟩ := aword_sz x y r
  obtain ⟨s2, hs2, b2, W2⟩ := aword_sz y x (wrap64 (r + 1))
  have hne : s1 ≠ s2 := fun e => sz_next hr1 hr2 (by rw [hs1, hs2, e])
  obtain ⟨r1, er⟩ : ∃ r1, wrap64 (r + 1) = r1 := ⟨_, rfl⟩
  rw [er] at W2 hs2
  have W1 := hidd W1
  have W2 := hidd W2
  have HT := hidd hT
  have NE := hidd hne
  have AW := hidd fun w h => pawake w h
  have hm : Hid (∃ k : Nat, bits .and .i64 n 7 = (k : Int) ∧ k ≤ 7) := hidd ⟨(n % 8).toNat, by rw [mask3]; omega, by omega⟩
  clear hs1 hs2 hne hT hr1 hr2
  go_enter Tryz.func5, Tryz.ntmps5
  go_wp2_with fail
  refine (W1.out _).mono ?_
  rintro e w1 ⟨⟨a, rfl, ha, hra, ua⟩, d1⟩
  have c1 : Below w.heap.size w w1 := Below.trans (by go_grown) (d1.mono (by simp; try omega))
  have hB := c1
  clear c1 d1
  have HA := hidd (And.intro ha (And.intro hra ua))
  clear ha hra ua
  go_wp2_with fail
  refine (W2.out _).mono ?_
  rintro e w2 ⟨⟨b, rfl, hb, hrb, ub⟩, d2⟩
  have c2 : Below w1.heap.size w1 w2 := Below.trans (by go_grown) (d2.mono (by simp; try omega))
  replace hB := belowT hB c2
  clear c2 d2
  have HBb := hidd (And.intro hb (And.intro hrb ub))
  clear hb hrb ub
  have L1 := hidd (lit3 w2 a b 0 30)
  have C1 := hidd (p_compact _ [a, b, 0] (by simp) (fun x hx => by
    simp at hx
    rcases hx with rfl | rfl | rfl
    · exact HA.out.2.2
    · exact HBb.out.2.2
    · exact ⟨by omega, by omega⟩) _ L1.out)
  clear W1 W2
  go_wp2_with fail
  refine C1.out.mono ?_
  rintro e w3 ⟨hc, b3⟩
  obtain rfl := cmp_word (by simp) (fun h => not_zero (h 0 (by simp))) hc
  have B3 := hidd (belowT hB (belowT (allocB w2 _) b3))
  clear hc b3 C1 L1 hB
  have L1 := hidd (lit2 w3 a b 30)
  have C1 := hidd (p_compact _ [a, b] (by simp) (fun x hx => by
    simp at hx
    rcases hx with rfl | rfl
    · exact HA.out.2.2
    · exact HBb.out.2.2) _ L1.out)
  go_wp2_with fail
  refine C1.out.mono ?_
  rintro e w4 ⟨hc, b4⟩
  obtain rfl := cmp_res (by simp) (fun x hx => by
    simp at hx
    rcases hx with rfl | rfl
    · exact HA.out.1
    · exact HBb.out.1) (fun h => NE.out (by
      have := h a (by simp) b (by simp)
      rw [HA.out.2.1, HBb.out.2.1] at this
      omega)) hc
  have B4 := hidd (belowT B3.out (belowT (allocB w3 _) b4))
  clear hc b4 C1 L1 B3
  obtain ⟨k, hk, hk7⟩ := hm.out
  obtain ⟨N, hN⟩ : ∃ N : Nat, k + 19997 = N := ⟨_, rfl⟩
  have eN : (k : Int) + 19997 = (N : Int) := by omega
  have N1 : 19997 ≤ N := by omega
  have N2 : N ≤ 20004 := by omega
  have HKN := hidd hN
  clear hN hm
  obtain ⟨w5, MK, hown, hgrow⟩ := make_zeros w4 N (by omega)
  have hs4 := B4.out.size
  have B5 := hidd (B4.out.grown hgrow hs4 (fun _ h => by cases h))
  have L5 := hidd (Lst.own hown)
  clear hown hgrow B4
  have C5 := hidd (p_compact _ (List.replicate N 0) (by simp; omega) (fun x hx => by
    rw [List.eq_of_mem_replicate hx]; exact ⟨by omega, by omega⟩) _ L5.out)
  clear L5
  go_wp2_with fail
  refine C5.out.mono ?_
  rintro e w6 ⟨hc, b6⟩
  have B6 := hidd (belowT B5.out b6)
  have hwant : ∃ q : Int, e = .returned (.tuple #[.slice none 0 0, .int .i64 q]) ∧ ((20000 < N ∧ q = 7) ∨ (¬ 20000 < N ∧ q = 5)) := by
    by_cases h : 20000 < N
    · exact ⟨7, cmp_many (by simpa using h) hc, .inl ⟨h, rfl⟩⟩
    · exact ⟨5, cmp_word (by simp; omega) (fun h => not_zero (h 0 (by simp; omega))) hc, .inr ⟨h, rfl⟩⟩
  obtain ⟨q, rfl, hq⟩ := hwant
  have T6 := hidd (HT.out.below B6.out)
  clear hc b6 C5 B5 HKN MK
  have L1 := hidd (lit2 w6 a 0 30)
  have S1 := hidd (p_size _ [a, 0] (-1) (by omega) (by simp) (fun x hx => by
    simp at hx
    rcases hx with rfl | rfl
    · exact HA.out.2.2
    · exact ⟨by omega, by omega⟩) _ L1.out)
  have hB6 := hidd (allocB w6 (.cells #[.int .u64 a, .int .u64 0] 30))
  rcases hq with ⟨hq, rfl⟩ | ⟨hq, rfl⟩
  all_goals
    have hq' : decide ((20000 : Int) < (N : Int)) = decide (20000 < N) := by by_cases h : 20000 < N <;> simp [h] <;> omega
    go_wp2_with fail
    refine S1.out.mono ?_
    rintro e w7 ⟨⟨z, t, rfl, hz⟩, b7⟩
    obtain ⟨rfl, rfl⟩ := size_word (fun h => not_zero (h 0 (by simp))) hz
    have B7 := hidd (belowT B6.out (belowT hB6.out b7))
    have T7 := hidd (HT.out.below B7.out)
    clear b7 hz S1 L1
    have L1 := hidd (lit1 w7 a 30)
    have hB7 := hidd (allocB w7 (.cells #[.int .u64 a] 30))
    have S1 := hidd (p_spread _ [a] 13 (by omega) (by simp) (fun x hx => by
      simp at hx; subst hx; exact HA.out.2.2) _ L1.out (T7.out.below hB7.out))
    go_wp2_with fail
    refine S1.out.mono ?_
    rintro e w8 ⟨hs, b8⟩
    obtain rfl := spr_arg (fun x hx => by simp at hx; subst hx; exact ⟨HA.out.1, by rw [HA.out.2.1]; omega⟩) (by omega) hs
    have B8 := hidd (belowT B7.out (belowT hB7.out b8))
    clear hs b8 S1 L1
    have C8 := hidd (p_compact _ [] (by simp) (fun x hx => by simp at hx) w8 (nil_lst w8))
    go_wp2_with fail
    refine C8.out.mono ?_
    rintro e w9 ⟨hc, b9⟩
    obtain ⟨sl, P, rfl, -, hP, hl, -⟩ := cmp_yes (r := 0) (fun x hx => by simp at hx) (by simp) hc
    obtain rfl : P = [] := List.length_eq_zero_iff.1 (by simpa using hP)
    obtain ⟨p9, c9, rfl, -⟩ := hl
    have B9 := hidd (belowT B8.out b9)
    have A9 := hidd (AW.out w9 (HT.out.below B9.out))
    clear hc b9 C8
    go_wp2_with fail
    refine A9.out.mono ?_
    rintro e w10 ⟨rfl, b10⟩
    have B10 := belowT B9.out b10
    go_wp2_with fail
    go_ret
    exact ⟨rfl, B10⟩

end Go.Proofs.YtlfjfendlohekaaGreatDoor
