/-
  The law NearBounds: it returns true for any numbers, in whatever memory where both tables hold what their texts lay.
-/
import Derived.Test.YteipijgkiobmaabGreatDoorNAwake
namespace Go.Proofs.YteipijgkiobmaabGreatDoor
open Go.RowKit

theorem mask_of (n : Int) (j : Nat) (hj : j < 63) {K M : Int} (hK : ((2 ^ j - 1 : Nat) : Int) = K) (hM : ((2 ^ j : Nat) : Int) = M) : bits .and .i64 n K = n % M := by
  have := i64_mask n j hj
  rwa [hK, hM] at this
/-- A disk or a ring told with an error alone. -/
def TellsErr (t : Int) (e : Ending) : Prop := ∃ s, e = .returned (.tuple #[s, .int .i64 t])
theorem disk_err (v k t : Int) (hw : Whole v) (ht : (k < 0 ∧ t = 1) ∨ (0 ≤ k ∧ k ≤ 81 ∧ t = 0) ∨ (81 < k ∧ t = 7)) (w : World) (hT : Tabs w) :
    Calls Tryz.prog 11 #[.int .u64 v, .int .i64 k] w fun e w' => TellsErr t e ∧ Below w.heap.size w w' := by
  have hv : U64 v := by have := whole_box hw; exact ⟨by omega, by omega⟩
  rcases ht with ⟨h1, h2⟩ | ⟨h1, h2, rfl⟩ | ⟨h1, h2⟩
  · exact (ndisk_no v k t hv (.inr (.inl ⟨hw, h1, h2⟩)) w hT).mono fun _ _ ⟨he, hb⟩ => ⟨⟨_, he⟩, hb⟩
  · obtain ⟨n, rfl⟩ : ∃ n : Nat, k = n := ⟨k.toNat, by omega⟩
    exact (ndisk_yes v n hw (by omega) w hT).mono fun _ _ ⟨⟨_, ⟨s, he, _⟩, _⟩, hb⟩ => ⟨⟨s, he⟩, hb⟩
  · exact (ndisk_no v k t hv (.inr (.inr ⟨hw, by omega, h1, h2⟩)) w hT).mono fun _ _ ⟨he, hb⟩ => ⟨⟨_, he⟩, hb⟩
theorem ring_err (v k t : Int) (hw : Whole v) (ht : (k < 0 ∧ t = 1) ∨ (0 ≤ k ∧ k ≤ 3333 ∧ t = 0) ∨ (3333 < k ∧ t = 7)) (w : World) (hT : Tabs w) :
    Calls Tryz.prog 13 #[.int .u64 v, .int .i64 k] w fun e w' => TellsErr t e ∧ Below w.heap.size w w' := by
  have hv : U64 v := by have := whole_box hw; exact ⟨by omega, by omega⟩
  rcases ht with ⟨h1, h2⟩ | ⟨h1, h2, rfl⟩ | ⟨h1, h2⟩
  · exact (nring_no v k t hv (.inr (.inl ⟨hw, h1, h2⟩)) w hT).mono fun _ _ ⟨he, hb⟩ => ⟨⟨_, he⟩, hb⟩
  · obtain ⟨n, rfl⟩ : ∃ n : Nat, k = n := ⟨k.toNat, by omega⟩
    exact (nring_yes v n hw (by omega) w hT).mono fun _ _ ⟨⟨_, ⟨s, he, _⟩, _⟩, hb⟩ => ⟨⟨s, he⟩, hb⟩
  · exact (nring_no v k t hv (.inr (.inr ⟨hw, by omega, h1, h2⟩)) w hT).mono fun _ _ ⟨he, hb⟩ => ⟨⟨_, he⟩, hb⟩
theorem nought_no : ¬ Whole 0 := fun h => by have := whole_box h; omega

set_option maxHeartbeats 8000000 in
set_option maxRecDepth 20000 in
theorem nearBounds_walk (x0 y0 r0 k0 : Int) (w : World) (hT : Tabs w) : Calls Tryz.prog 5 #[.int .i64 x0, .int .i64 y0, .int .i64 r0, .int .i64 k0] w fun e w' => e = .returned (.bool true) ∧ Below w.heap.size w w' := by
  obtain ⟨m, hm⟩ : ∃ m, bits .and .i64 r0 7 = m := ⟨_, rfl⟩
  have m0 : 0 ≤ m ∧ m ≤ 7 := by rw [← hm, mask_of r0 3 (by omega) (K := 7) (M := 8) (by decide) (by decide)]; omega
  obtain ⟨n, hn⟩ : ∃ n, bits .and .i64 k0 3 = n := ⟨_, rfl⟩
  have n0 : 0 ≤ n ∧ n ≤ 3 := by rw [← hn, mask_of k0 2 (by omega) (K := 3) (M := 4) (by decide) (by decide)]; omega
  obtain ⟨p, hp⟩ : ∃ p, bits .and .i64 (n - 1) 3 = p := ⟨_, rfl⟩
  have p0 : 0 ≤ p ∧ p ≤ 3 := by rw [← hp, mask_of (n - 1) 2 (by omega) (K := 3) (M := 4) (by decide) (by decide)]; omega
  obtain ⟨m0, m1⟩ := m0
  obtain ⟨n0, n1⟩ := n0
  obtain ⟨p0, p1⟩ := p0
  obtain ⟨s1, -, S1⟩ := aword_any x0 (bits .andNot .i64 y0 1) (m + 5)
  replace S1 := hidd S1
  have hT0 : Hid (Tabs w) := hT
  have NW := hidd (ndisk_no 0 (-1) 5 ⟨by omega, by omega⟩ (.inl ⟨nought_no, rfl⟩))
  clear hT
  go_enter Tryz.func5, Tryz.ntmps5
  go_wp2_with fail
  refine (S1.out _).mono ?_
  rintro e w1 ⟨⟨P, Q, rfl, O1⟩, b1⟩
  have hW := (word_eq O1).1
  generalize wordOf s1 P Q = W at *
  have T1 := hidd (hT0.out.below b1)
  obtain ⟨t, ht, A, B⟩ : ∃ t : Int, ((t = 0 ∧ n ≤ 1) ∨ (t = 7 ∧ 1 < n)) ∧ Hid (∀ w, Tabs w → Calls Tryz.prog 11 #[.int .u64 W, .int .i64 (81 + (n - 1))] w fun e w' => TellsErr t e ∧ Below w.heap.size w w') ∧ Hid (∀ w, Tabs w → Calls Tryz.prog 13 #[.int .u64 W, .int .i64 (3333 + (n - 1))] w fun e w' => TellsErr t e ∧ Below w.heap.size w w') := by
    by_cases h : 0 < n - 1
    · exact ⟨7, .inr ⟨rfl, by omega⟩, hidd (disk_err W _ 7 hW (.inr (.inr ⟨by omega, rfl⟩))), hidd (ring_err W _ 7 hW (.inr (.inr ⟨by omega, rfl⟩)))⟩
    · exact ⟨0, .inl ⟨rfl, by omega⟩, hidd (disk_err W _ 0 hW (.inr (.inl ⟨by omega, by omega, rfl⟩))), hidd (ring_err W _ 0 hW (.inr (.inl ⟨by omega, by omega, rfl⟩)))⟩
  have C := hidd (disk_err W (-1 - p) 1 hW (.inl ⟨by omega, rfl⟩))
  have D := hidd (ring_err W (-2) 1 hW (.inl ⟨by omega, rfl⟩))
  clear S1 O1 hW
  go_wp2_with fail
  refine (A.out _ T1.out).mono ?_
  rintro e w2 ⟨⟨a2, rfl⟩, b2⟩
  have B2 := belowT b1 b2
  have T2 := hidd (hT0.out.below B2)
  clear A T1 b1 b2
  go_wp2_with fail
  refine (B.out _ T2.out).mono ?_
  rintro e w3 ⟨⟨a3, rfl⟩, b3⟩
  have B3 := belowT B2 b3
  have T3 := hidd (hT0.out.below B3)
  clear B T2 B2 b3
  go_wp2_with fail
  refine (C.out _ T3.out).mono ?_
  rintro e w4 ⟨⟨a4, rfl⟩, b4⟩
  have B4 := belowT B3 b4
  have T4 := hidd (hT0.out.below B4)
  clear C T3 B3 b4
  go_wp2_with fail
  refine (D.out _ T4.out).mono ?_
  rintro e w5 ⟨⟨a5, rfl⟩, b5⟩
  have B5 := belowT B4 b5
  have T5 := hidd (hT0.out.below B5)
  clear D T4 B4 b5
  go_wp2_with fail
  refine (NW.out _ T5.out).mono ?_
  rintro e w6 ⟨rfl, b6⟩
  have B6 := belowT B5 b6
  have AW := hidd (nawake _ (hT0.out.below B6))
  clear NW T5 B5 b6
  rcases ht with ⟨rfl, hz⟩ | ⟨rfl, hz⟩
  · have hz' : decide (0 < n - 1) = false := decide_eq_false (by omega)
    go_wp2_with fail
    refine AW.out.mono ?_
    rintro e w8 ⟨rfl, b8⟩
    go_wp2
    go_ret
    exact ⟨rfl, belowT B6 b8⟩
  · have hz' : decide (0 < n - 1) = true := decide_eq_true (by omega)
    go_wp2_with fail
    refine AW.out.mono ?_
    rintro e w8 ⟨rfl, b8⟩
    go_wp2
    go_ret
    exact ⟨rfl, belowT B6 b8⟩
end Go.Proofs.YteipijgkiobmaabGreatDoor
