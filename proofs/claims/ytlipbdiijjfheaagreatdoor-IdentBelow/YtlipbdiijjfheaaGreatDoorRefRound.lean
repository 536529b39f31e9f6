/-
  What the document's own Round tells, for any number of the lattice and any divisor within the bounds, in whatever memory: the nearest centre, the least of several.
-/
import Derived.Test.YtlipbdiijjfheaaGreatDoorProg
import Derived.Test.YtlipbdiijjfheaaGreatDoorRefFloor
import Derived.Test.YtlipbdiijjfheaaGreatDoorLattice
import Derived.Test.YtlipbdiijjfheaaGreatDoorHalves
import Derived.Test.YtlipbdiijjfheaaGreatDoorRefSize
namespace Go.Proofs.YtlipbdiijjfheaaGreatDoor
open Go.RowKit

/-- Whether the hexagon holds a remainder. -/
def hexB (d s t : Int) : Bool := decide ((2 * s + t).natAbs ≤ d.toNat ∧ (s + 2 * t).natAbs ≤ d.toNat ∧ (s - t).natAbs ≤ d.toNat)
theorem hexB_yes {d s t : Int} (hd : 0 ≤ d) : hexB d s t = true ↔ Hex d s t := by
  unfold hexB Hex
  rw [decide_eq_true_iff]
  omega

set_option maxHeartbeats 1000000 in
theorem holds_any (s t d : Int) (s1 : -9007199254740992 ≤ s) (s2 : s ≤ 9007199254740992) (t1 : -9007199254740992 ≤ t) (t2 : t ≤ 9007199254740992) (hd : 0 ≤ d) (w : World) :
    Calls Tryz.prog 97 #[.int .i64 s, .int .i64 t, .int .i64 d] w fun e w' => e = .returned (.bool (hexB d s t)) ∧ w' = w := by
  obtain ⟨x, hx⟩ : ∃ x : Int, ((2 * s + t).natAbs : Int) = x := ⟨_, rfl⟩
  obtain ⟨y, hy⟩ : ∃ y : Int, ((s + 2 * t).natAbs : Int) = y := ⟨_, rfl⟩
  obtain ⟨z, hz⟩ : ∃ z : Int, ((s - t).natAbs : Int) = z := ⟨_, rfl⟩
  have HB : Hid (hexB d s t = decide (x ≤ d ∧ y ≤ d ∧ z ≤ d)) := by
    show hexB d s t = _
    unfold hexB
    congr 1
    apply propext
    omega
  by_cases h1 : x ≤ d
  · by_cases h2 : y ≤ d
    · by_cases h3 : z ≤ d
      · have HR : Hid (hexB d s t = true) := by show _; rw [HB.out]; exact decide_eq_true ⟨h1, h2, h3⟩
        clear HB
        go_enter Tryz.func97, Tryz.ntmps97
        go_wp2_with (go_at_call 125; refine (size_any _ (by omega) (by omega) _).mono ?_; rintro e w' ⟨rfl, rfl⟩)
        go_ret
        exact ⟨by rw [HR.out]; rfl, rfl⟩
      · have HR : Hid (hexB d s t = false) := by show _; rw [HB.out]; exact decide_eq_false (by omega)
        clear HB
        have h3' := df h3
        go_enter Tryz.func97, Tryz.ntmps97
        go_wp2_with (go_at_call 125; refine (size_any _ (by omega) (by omega) _).mono ?_; rintro e w' ⟨rfl, rfl⟩)
        go_ret
        exact ⟨by rw [HR.out]; rfl, rfl⟩
    · have HR : Hid (hexB d s t = false) := by show _; rw [HB.out]; exact decide_eq_false (by omega)
      clear HB
      have h2' := df h2
      go_enter Tryz.func97, Tryz.ntmps97
      go_wp2_with (go_at_call 125; refine (size_any _ (by omega) (by omega) _).mono ?_; rintro e w' ⟨rfl, rfl⟩)
      go_ret
      exact ⟨by rw [HR.out]; rfl, rfl⟩
  · have HR : Hid (hexB d s t = false) := by show _; rw [HB.out]; exact decide_eq_false (by omega)
    clear HB
    have h1' := df h1
    go_enter Tryz.func97, Tryz.ntmps97
    go_wp2_with (go_at_call 125; refine (size_any _ (by omega) (by omega) _).mono ?_; rintro e w' ⟨rfl, rfl⟩)
    go_ret
    exact ⟨by rw [HR.out]; rfl, rfl⟩

set_option maxHeartbeats 1000000 in
theorem refround_see (u v d : Int) (u1 : -1152921504606846976 ≤ u) (u2 : u ≤ 1152921504606846976) (v1 : -1152921504606846976 ≤ v) (v2 : v ≤ 1152921504606846976) (d1 : 1 ≤ d) (d2 : d ≤ 1125899906842624) (w : World) :
    Calls Tryz.prog 70 #[.agg #[.int .i64 u, .int .i64 v], .int .i64 d] w fun e w' => TellsR d u v e ∧ Below w.heap.size w w' := by
  have q1 : -1152921504606846976 ≤ u / d ∧ u / d ≤ 1152921504606846976 := div_box u1 u2 d1
  have q2 : -1152921504606846976 ≤ v / d ∧ v / d ≤ 1152921504606846976 := div_box v1 v2 d1
  have r1 := Int.emod_nonneg u (b := d) (by omega)
  have r2 := Int.emod_lt_of_pos u (b := d) (by omega)
  have r3 := Int.emod_nonneg v (b := d) (by omega)
  have r4 := Int.emod_lt_of_pos v (b := d) (by omega)
  have E1 : Hid (u = d * (u / d) + u % d) := (Int.mul_ediv_add_emod u d).symm
  have E2 : Hid (v = d * (v / d) + v % d) := (Int.mul_ediv_add_emod v d).symm
  have F1 : ∀ w, Calls Tryz.prog 96 #[.int .i64 u, .int .i64 d] w fun e w' => e = .returned (.tuple #[.int .i64 (u / d), .int .i64 (u % d), .bool true]) ∧ Below w.heap.size w w' := reffloor_any u d (by omega) (by omega) (by omega) (by omega)
  have F2 : ∀ w, Calls Tryz.prog 96 #[.int .i64 v, .int .i64 d] w fun e w' => e = .returned (.tuple #[.int .i64 (v / d), .int .i64 (v % d), .bool true]) ∧ Below w.heap.size w w' := reffloor_any v d (by omega) (by omega) (by omega) (by omega)
  generalize u / d = a at q1 E1 F1
  generalize v / d = b at q2 E2 F2
  generalize u % d = s at r1 r2 E1 F1
  generalize v % d = t at r3 r4 E2 F2
  replace F1 : Hid _ := F1
  replace F2 : Hid _ := F2
  go_enter Tryz.func70, Tryz.ntmps70
  go_wp2_with fail
  refine (F1.out _).mono ?_
  rintro e w1 ⟨rfl, c1⟩
  have d0 : w1.cell? ⟨w.heap.size, 0, none⟩ = some (.int .i64 u) := by rw [c1.cell (p := ⟨w.heap.size, 0, none⟩) (by simp; omega)]; go_simp
  have d1 : w1.cell? ⟨w.heap.size, 1, none⟩ = some (.int .i64 v) := by rw [c1.cell (p := ⟨w.heap.size, 1, none⟩) (by simp; omega)]; go_simp
  go_wp2_with fail
  refine (F2.out _).mono ?_
  rintro e w2 ⟨rfl, c2⟩
  have e0 : w2.cell? ⟨w.heap.size + 1, 0, none⟩ = some (.int .i64 0) := by
    rw [c2.cell (p := ⟨w.heap.size + 1, 0, none⟩) (by have := c1.size; simp at this; show w.heap.size + 1 < w1.heap.size; omega), c1.cell (p := ⟨w.heap.size + 1, 0, none⟩) (by simp)]; go_simp
  have e1 : w2.cell? ⟨w.heap.size + 1, 1, none⟩ = some (.int .i64 0) := by
    rw [c2.cell (p := ⟨w.heap.size + 1, 1, none⟩) (by have := c1.size; simp at this; show w.heap.size + 1 < w1.heap.size; omega), c1.cell (p := ⟨w.heap.size + 1, 1, none⟩) (by simp)]; go_simp
  have f0 : w2.frozen? ⟨w.heap.size + 1, 0, none⟩ = false := by
    rw [c2.frozen (p := ⟨w.heap.size + 1, 0, none⟩) (by have := c1.size; simp at this; show w.heap.size + 1 < w1.heap.size; omega), c1.frozen (p := ⟨w.heap.size + 1, 0, none⟩) (by simp)]; go_simp
  have f1 : w2.frozen? ⟨w.heap.size + 1, 1, none⟩ = false := by
    rw [c2.frozen (p := ⟨w.heap.size + 1, 1, none⟩) (by have := c1.size; simp at this; show w.heap.size + 1 < w1.heap.size; omega), c1.frozen (p := ⟨w.heap.size + 1, 1, none⟩) (by simp)]; go_simp
  have BW : Hid (Below w.heap.size w w2) := by
    have h1 : Below w.heap.size w w1 := (((Below.refl _ _).alloc (Nat.le_refl _) _).alloc (by simp) _).trans (c1.mono (by simp; omega))
    exact h1.trans (c2.mono h1.size)
  clear c1 c2 d0 d1 F1 F2
  go_wp2_with fail
  go_loop [12] (fun vi => ∃ i : Int, -1 ≤ i ∧ i ≤ 3 ∧ vi = .int .i64 i ∧ Hid (∀ i' k', i' < i → ¬ HexW d s t i' k')) (fun vi => (3 - intOf vi).toNat)
  case atStart => exact ⟨-1, by omega, by omega, rfl, fun i' k' hi h => by have := hex_window r1 r2 r3 r4 h; omega⟩
  case round =>
    obtain ⟨i, i1, i2, rfl, HI⟩ := hrel
    by_cases hi : i ≤ 2
    · obtain ⟨bi1, bi2⟩ := mul_box i1 hi d1 d2
      go_wp2_with fail
      go_loop [13] (fun vk => ∃ k : Int, -1 ≤ k ∧ k ≤ 3 ∧ vk = .int .i64 k ∧ Hid (∀ k', k' < k → ¬ HexW d s t i k')) (fun vk => (3 - intOf vk).toNat)
      case atStart => exact ⟨-1, by omega, by omega, rfl, fun k' hk h => by have := hex_window r1 r2 r3 r4 h; omega⟩
      case round =>
        obtain ⟨k, k1, k2, rfl, HK⟩ := hrel
        by_cases hk : k ≤ 2
        · obtain ⟨bk1, bk2⟩ := mul_box k1 hk d1 d2
          cases hB : hexB d (s - i * d) (t - k * d) with
          | true =>
            have HB : Hid (hexB d (s - i * d) (t - k * d) = true) := hB
            clear hB
            obtain ⟨g0, g1⟩ := two_stores (u := .int .i64 (a + i)) (v := .int .i64 (b + k)) e0 e1
            go_wp2_with fail
            refine (holds_any (s - i * d) (t - k * d) d (by omega) (by omega) (by omega) (by omega) (by omega) _).mono ?_
            rw [HB.out]
            rintro e w3 ⟨rfl, rfl⟩
            go_wp2
            refine bodyPost_ret (v := .tuple #[.agg #[.int .i64 (a + i), .int .i64 (b + k)], .bool true]) (by simp [results, Tryz.results70, go_sem, g0, g1]) rfl ⟨⟨a + i, b + k, rfl, nearest_of E1.out E2.out ((hexB_yes (by omega)).1 HB.out) (fun i' k' h => ?_)⟩, (BW.out.setCell (by simp) _).setCell (by simp) _⟩
            by_cases hlt : i' < i
            · exact absurd h (HI.out i' k' hlt)
            · by_cases he : i' = i
              · subst he
                by_cases hkl : k' < k
                · exact absurd h (HK.out k' hkl)
                · omega
              · omega
          | false =>
            have HB : Hid (hexB d (s - i * d) (t - k * d) = false) := hB
            clear hB
            go_wp2_with fail
            refine (holds_any (s - i * d) (t - k * d) d (by omega) (by omega) (by omega) (by omega) (by omega) _).mono ?_
            rw [HB.out]
            rintro e w3 ⟨rfl, rfl⟩
            go_wp2
            go_round
            case rel =>
              refine ⟨k + 1, by omega, by omega, rfl, fun k' hk' h => ?_⟩
              by_cases he : k' = k
              · subst he
                have := (hexB_yes (show 0 ≤ d by omega)).2 h
                rw [HB.out] at this
                cases this
              · exact HK.out k' (by omega) h
            case measure => simp [intOf]; omega
        · have hk' : ¬ k < 3 := by omega
          go_wp2
          go_round
          case rel =>
            refine ⟨i + 1, by omega, by omega, rfl, fun i' k' hi' h => ?_⟩
            by_cases he : i' = i
            · subst he
              have hw := hex_window r1 r2 r3 r4 h
              exact HK.out k' (by omega) h
            · exact HI.out i' k' (by omega) h
          case measure => simp [intOf]; omega
    · exfalso
      obtain ⟨i', k', h⟩ := hexW_some r1 r2 r3 r4
      have hw := hex_window r1 r2 r3 r4 h
      exact HI.out i' k' (by omega) h

set_option maxHeartbeats 400000 in
theorem refround_d1 (u v d : Int)  (h : d < 1) (w : World) :
    Calls Tryz.prog 70 #[.agg #[.int .i64 u, .int .i64 v], .int .i64 d] w fun e w' => e = .returned (.tuple #[.agg #[.int .i64 0, .int .i64 0], .bool false]) ∧ Below w.heap.size w w' := by
  go_enter Tryz.func70, Tryz.ntmps70
  go_wp2
  exact bodyPost_ret (v := .tuple #[.agg #[.int .i64 0, .int .i64 0], .bool false]) (by simp [results, Tryz.results70, go_sem]) rfl ⟨rfl, by go_grown⟩

set_option maxHeartbeats 400000 in
theorem refround_d2 (u v d : Int) (p1 : ¬ d < 1) (h : 1125899906842624 < d) (w : World) :
    Calls Tryz.prog 70 #[.agg #[.int .i64 u, .int .i64 v], .int .i64 d] w fun e w' => e = .returned (.tuple #[.agg #[.int .i64 0, .int .i64 0], .bool false]) ∧ Below w.heap.size w w' := by
  have q1 := df p1
  go_enter Tryz.func70, Tryz.ntmps70
  go_wp2
  exact bodyPost_ret (v := .tuple #[.agg #[.int .i64 0, .int .i64 0], .bool false]) (by simp [results, Tryz.results70, go_sem]) rfl ⟨rfl, by go_grown⟩

set_option maxHeartbeats 400000 in
theorem refround_u1 (u v d : Int) (p1 : ¬ d < 1) (p2 : ¬ 1125899906842624 < d) (h : u < -1152921504606846976) (w : World) :
    Calls Tryz.prog 70 #[.agg #[.int .i64 u, .int .i64 v], .int .i64 d] w fun e w' => e = .returned (.tuple #[.agg #[.int .i64 0, .int .i64 0], .bool false]) ∧ Below w.heap.size w w' := by
  have q1 := df p1
  have q2 := df p2
  go_enter Tryz.func70, Tryz.ntmps70
  go_wp2
  exact bodyPost_ret (v := .tuple #[.agg #[.int .i64 0, .int .i64 0], .bool false]) (by simp [results, Tryz.results70, go_sem]) rfl ⟨rfl, by go_grown⟩

set_option maxHeartbeats 400000 in
theorem refround_u2 (u v d : Int) (p1 : ¬ d < 1) (p2 : ¬ 1125899906842624 < d) (p3 : ¬ u < -1152921504606846976) (h : 1152921504606846976 < u) (w : World) :
    Calls Tryz.prog 70 #[.agg #[.int .i64 u, .int .i64 v], .int .i64 d] w fun e w' => e = .returned (.tuple #[.agg #[.int .i64 0, .int .i64 0], .bool false]) ∧ Below w.heap.size w w' := by
  have q1 := df p1
  have q2 := df p2
  have q3 := df p3
  go_enter Tryz.func70, Tryz.ntmps70
  go_wp2
  exact bodyPost_ret (v := .tuple #[.agg #[.int .i64 0, .int .i64 0], .bool false]) (by simp [results, Tryz.results70, go_sem]) rfl ⟨rfl, by go_grown⟩

set_option maxHeartbeats 400000 in
theorem refround_v1 (u v d : Int) (p1 : ¬ d < 1) (p2 : ¬ 1125899906842624 < d) (p3 : ¬ u < -1152921504606846976) (p4 : ¬ 1152921504606846976 < u) (h : v < -1152921504606846976) (w : World) :
    Calls Tryz.prog 70 #[.agg #[.int .i64 u, .int .i64 v], .int .i64 d] w fun e w' => e = .returned (.tuple #[.agg #[.int .i64 0, .int .i64 0], .bool false]) ∧ Below w.heap.size w w' := by
  have q1 := df p1
  have q2 := df p2
  have q3 := df p3
  have q4 := df p4
  go_enter Tryz.func70, Tryz.ntmps70
  go_wp2
  exact bodyPost_ret (v := .tuple #[.agg #[.int .i64 0, .int .i64 0], .bool false]) (by simp [results, Tryz.results70, go_sem]) rfl ⟨rfl, by go_grown⟩

set_option maxHeartbeats 400000 in
theorem refround_v2 (u v d : Int) (p1 : ¬ d < 1) (p2 : ¬ 1125899906842624 < d) (p3 : ¬ u < -1152921504606846976) (p4 : ¬ 1152921504606846976 < u) (p5 : ¬ v < -1152921504606846976) (h : 1152921504606846976 < v) (w : World) :
    Calls Tryz.prog 70 #[.agg #[.int .i64 u, .int .i64 v], .int .i64 d] w fun e w' => e = .returned (.tuple #[.agg #[.int .i64 0, .int .i64 0], .bool false]) ∧ Below w.heap.size w w' := by
  have q1 := df p1
  have q2 := df p2
  have q3 := df p3
  have q4 := df p4
  have q5 := df p5
  go_enter Tryz.func70, Tryz.ntmps70
  go_wp2
  exact bodyPost_ret (v := .tuple #[.agg #[.int .i64 0, .int .i64 0], .bool false]) (by simp [results, Tryz.results70, go_sem]) rfl ⟨rfl, by go_grown⟩

theorem refround_no (u v d : Int) (h : ¬ (1 ≤ d ∧ d ≤ 1125899906842624 ∧ -1152921504606846976 ≤ u ∧ u ≤ 1152921504606846976 ∧ -1152921504606846976 ≤ v ∧ v ≤ 1152921504606846976)) (w : World) :
    Calls Tryz.prog 70 #[.agg #[.int .i64 u, .int .i64 v], .int .i64 d] w fun e w' => e = .returned (.tuple #[.agg #[.int .i64 0, .int .i64 0], .bool false]) ∧ Below w.heap.size w w' := by
  by_cases p1 : d < 1
  · exact refround_d1 u v d p1 w
  · by_cases p2 : 1125899906842624 < d
    · exact refround_d2 u v d p1 p2 w
    · by_cases p3 : u < -1152921504606846976
      · exact refround_u1 u v d p1 p2 p3 w
      · by_cases p4 : 1152921504606846976 < u
        · exact refround_u2 u v d p1 p2 p3 p4 w
        · by_cases p5 : v < -1152921504606846976
          · exact refround_v1 u v d p1 p2 p3 p4 p5 w
          · exact refround_v2 u v d p1 p2 p3 p4 p5 (by omega) w

end Go.Proofs.YtlipbdiijjfheaaGreatDoor
