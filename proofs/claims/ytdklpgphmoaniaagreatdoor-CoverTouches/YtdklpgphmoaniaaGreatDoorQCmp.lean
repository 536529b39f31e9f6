/-
  How package cmp compares two numbers, and tells the first of some that is not nought; in whatever memory.
-/
import Derived.Test.YtdklpgphmoaniaaGreatDoorUX
import Derived.Test.YtdklpgphmoaniaaGreatDoorCovSpot
import Derived.Test.YtdklpgphmoaniaaGreatDoorProg
import Derived.Handy
import Derived.Deep.QuietTactic
import Derived.WalkSpells
import Derived.WalkLawsBesides
import Derived.BigQuiet
import Derived.PlainAid
import Derived.Deep.RegionWith
import Derived.Laws.BitsAllLaws
import Derived.Sort.LotA
import Derived.Sort.LotB
import Derived.Deep.RegionHeld3
import Derived.WalkSmall
import Derived.Deep.CutRange
import Derived.BigRegion
import Derived.OwnWalk
import Derived.Laws.OwnMore
import Derived.OneCell
import Derived.Laws.CopyOwn
import Derived.Sort.Row
namespace Go.Proofs.YtdklpgphmoaniaaGreatDoor
open Go.RowKit

theorem c_isnan (x : Int) (w : World) : Calls Tryz.prog 203 #[.int .i64 x] w fun e w' => e = .returned (.bool false) ∧ w' = w := by
  go_enter Tryz.func203, Tryz.ntmps203
  go_wp2
  go_ret
  exact ⟨by simp, rfl⟩

set_option maxHeartbeats 1000000 in
theorem c_cmp (x y : Int) (w : World) : Calls Tryz.prog 202 #[.int .i64 x, .int .i64 y] w fun e w' => e = .returned (.int .i64 (cmpI x y)) ∧ w' = w := by
  by_cases h : x < y
  · have e1 : cmpI x y = -1 := by unfold cmpI; rw [if_pos h]
    rw [e1]
    go_enter Tryz.func202, Tryz.ntmps202
    go_wp2_with fail
    refine (c_isnan _ _).mono ?_
    rintro e w1 ⟨rfl, rfl⟩
    go_wp2_with fail
    refine (c_isnan _ _).mono ?_
    rintro e w1 ⟨rfl, rfl⟩
    go_wp2
    go_ret
    exact ⟨rfl, rfl⟩
  · by_cases h2 : y < x
    · have e1 : cmpI x y = 1 := by unfold cmpI; rw [if_neg h, if_pos h2]
      have h0 : decide (x < y) = false := df (by omega)
      clear h
      rw [e1]
      go_enter Tryz.func202, Tryz.ntmps202
      go_wp2_with fail
      refine (c_isnan _ _).mono ?_
      rintro e w1 ⟨rfl, rfl⟩
      go_wp2_with fail
      refine (c_isnan _ _).mono ?_
      rintro e w1 ⟨rfl, rfl⟩
      go_wp2
      go_ret
      exact ⟨rfl, rfl⟩
    · have e1 : cmpI x y = 0 := by unfold cmpI; rw [if_neg h, if_neg h2]
      have h0 : decide (x < y) = false := df (by omega)
      have h3 : decide (y < x) = false := df (by omega)
      clear h h2
      rw [e1]
      go_enter Tryz.func202, Tryz.ntmps202
      go_wp2_with fail
      refine (c_isnan _ _).mono ?_
      rintro e w1 ⟨rfl, rfl⟩
      go_wp2_with fail
      refine (c_isnan _ _).mono ?_
      rintro e w1 ⟨rfl, rfl⟩
      go_wp2
      go_ret
      exact ⟨rfl, rfl⟩

/-- The first of three that is not nought. -/
def orG (G : Nat → Int) : Int := if G 0 ≠ 0 then G 0 else if G 1 ≠ 0 then G 1 else G 2

theorem orG_at {G : Nat → Int} {k : Nat} (hk : k < 3) (h : ∀ j, j < k → G j = 0) (hn : G k ≠ 0) : orG G = G k := by
  unfold orG
  obtain rfl | rfl | rfl : k = 0 ∨ k = 1 ∨ k = 2 := by omega
  · rw [if_pos hn]
  · rw [if_neg (by rw [h 0 (by omega)]; simp), if_pos hn]
  · rw [if_neg (by rw [h 0 (by omega)]; simp), if_neg (by rw [h 1 (by omega)]; simp)]

theorem orG_none {G : Nat → Int} (h : ∀ j, j < 3 → G j = 0) : orG G = 0 := by
  unfold orG
  rw [if_neg (by rw [h 0 (by omega)]; simp), if_neg (by rw [h 1 (by omega)]; simp), h 2 (by omega)]

set_option maxHeartbeats 1000000 in
theorem c_or (g c : Nat) (G : Nat → Int) (Z : Int) (hZ : orG G = Z) (w : World) (hc : ∀ i, i < 3 → w.cell? ⟨g, i, none⟩ = some (.int .i64 (G i))) :
    Calls Tryz.prog 201 #[.slice (some ⟨g, 0, none⟩) 3 c] w fun e w' => e = .returned (.int .i64 Z) ∧ w' = w := by
  have HC := hidd hc
  have HZ := hidd hZ
  clear hc hZ
  go_enter Tryz.func201, Tryz.ntmps201
  go_wp2_with fail
  go_loopw [8] (fun v8 wr => ∃ k : Nat, k ≤ 3 ∧ v8 = .int .i64 (k : Int) ∧ Hid (∀ j, j < k → G j = 0) ∧ wr = w) (fun v8 _ => 3 - (intOf v8).toNat)
  case atStart => exact ⟨0, by omega, rfl, hidd (fun j hj => by omega), rfl⟩
  case round =>
    obtain ⟨k, hk, rfl, hz, rfl⟩ := hrel
    by_cases h3 : k < 3
    · have h3' : (k : Int) < 3 := by omega
      have hx := HC.out k h3
      by_cases hn : G k = 0
      · have hz2 : Hid (∀ j, j < k + 1 → G j = 0) := hidd fun j hj => by
          by_cases e : j = k
          · rw [e]; exact hn
          · exact hz.out j (by omega)
        rw [hn] at hx
        clear hz hn
        go_wp2_with fail
        go_roundw
        case rel => exact ⟨k + 1, by omega, by go_num, hz2, trivial⟩
        case measure => simp [intOf]; omega
      · have hn2 : (G k == 0) = false := by simpa using hn
        have e := (orG_at h3 hz.out hn).symm.trans HZ.out
        rw [e] at hx hn2
        clear hz e hn
        go_wp2
        go_ret
        exact ⟨rfl, rfl⟩
    · have h3' : decide ((k : Int) < 3) = false := df (by omega)
      have e := hidd ((orG_none fun j hj => hz.out j (by omega)).symm.trans HZ.out)
      clear hz h3
      go_wp2
      go_ret
      exact ⟨by rw [← e.out]; rfl, rfl⟩

theorem cmpS_or (x y : Int) : orG (fun i => if i = 0 then cmpI (sp0 x) (sp0 y) else if i = 1 then cmpI (sp1 x) (sp1 y) else cmpI (sp2 x) (sp2 y)) = cmpS x y := rfl

def threeG (p q r : Int) (i : Nat) : Int := if i = 0 then p else if i = 1 then q else r

theorem c_or3 (g c : Nat) (p q r Z : Int) (hZ : orG (threeG p q r) = Z) (w : World) (h0 : w.cell? ⟨g, 0, none⟩ = some (.int .i64 p)) (h1 : w.cell? ⟨g, 1, none⟩ = some (.int .i64 q)) (h2 : w.cell? ⟨g, 2, none⟩ = some (.int .i64 r)) :
    Calls Tryz.prog 201 #[.slice (some ⟨g, 0, none⟩) 3 c] w fun e w' => e = .returned (.int .i64 Z) ∧ w' = w :=
  c_or g c _ Z hZ w fun i hi => by
    obtain rfl | rfl | rfl : i = 0 ∨ i = 1 ∨ i = 2 := by omega
    · exact h0
    · exact h1
    · exact h2

theorem keepSixQ {w0 a b : World} {p0 p1 p2 p3 p4 p5 : Addr} {v0 v1 v2 v3 v4 v5 : Value} (hb : Below a.heap.size a b) (h : a.cell? p0 = some v0 ∧ a.cell? p1 = some v1 ∧ a.cell? p2 = some v2 ∧ a.cell? p3 = some v3 ∧ a.cell? p4 = some v4 ∧ a.cell? p5 = some v5 ∧ Below w0.heap.size w0 a) :
    b.cell? p0 = some v0 ∧ b.cell? p1 = some v1 ∧ b.cell? p2 = some v2 ∧ b.cell? p3 = some v3 ∧ b.cell? p4 = some v4 ∧ b.cell? p5 = some v5 ∧ Below w0.heap.size w0 b :=
  ⟨keepCell hb h.1, keepCell hb h.2.1, keepCell hb h.2.2.1, keepCell hb h.2.2.2.1, keepCell hb h.2.2.2.2.1, keepCell hb h.2.2.2.2.2.1, belowT h.2.2.2.2.2.2 hb⟩

end Go.Proofs.YtdklpgphmoaniaaGreatDoor
