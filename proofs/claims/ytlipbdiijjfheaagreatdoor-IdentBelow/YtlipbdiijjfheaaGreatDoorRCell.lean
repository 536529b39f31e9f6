/-
  What the document's own Ok, Parent, Up, Digit of cells tell, for any numbers, in whatever memory.
-/
import Derived.Test.YtlipbdiijjfheaaGreatDoorRParent
import Derived.Test.YtlipbdiijjfheaaGreatDoorCUp
namespace Go.Proofs.YtlipbdiijjfheaaGreatDoor
open Go.RowKit

theorem slotInt_of {w : World} {p : Addr} {n : Int} (h : w.cell? p = some (.int .i64 n)) : slotInt w p = n := by unfold slotInt; rw [h]
set_option maxHeartbeats 4000000 in
theorem rok_core (r : Nat) (a b P Q : Int) (v : Bool) (r2 : r ≤ 12) (a1 : -1073741824 ≤ a) (a2 : a ≤ 1073741824) (b1 : -1073741824 ≤ b) (b2 : b ≤ 1073741824) (hP : (ups r a b).1 = P) (hQ : (ups r a b).2 = Q)
    (hv : Hid (v = decide ((-512 ≤ P ∧ P ≤ 511) ∧ (-512 ≤ Q ∧ Q ≤ 511)))) (w : World) :
    Calls Tryz.prog 34 #[.agg #[.int .i64 (r : Int), .int .i64 a, .int .i64 b]] w fun e w' => e = .returned (.bool v) ∧ Below w.heap.size w w' := by
  have PA : Hid (∀ k : Nat, k ≤ 12 → ∀ w, Calls Tryz.prog 44 #[.agg #[.int .i64 (ups k a b).1, .int .i64 (ups k a b).2]] w fun e w' => e = .returned (.tuple #[.agg #[.int .i64 (ups (k + 1) a b).1, .int .i64 (ups (k + 1) a b).2], .int .i64 (dig (ups k a b).1 (ups k a b).2)]) ∧ Below w.heap.size w w') := by
    intro k hk w
    have hx := ups_box (B := 1073741824) (by omega) k (a := a) (b := b) ⟨a1, a2⟩ ⟨b1, b2⟩
    rw [ups_last]
    exact rparent_any _ _ hx.1 hx.2 w
  have hPQ : Hid (ups r a b = (P, Q)) := by show ups r a b = (P, Q); rw [← hP, ← hQ]
  clear hP hQ
  go_enter Tryz.func34, Tryz.ntmps34
  go_wp2_with fail
  go_loopw [4] (fun v4 wr => ∃ k : Nat, k ≤ r ∧ v4 = .int .i64 (k : Int) ∧ wr.cell? ⟨w.heap.size + 1, 0, none⟩ = some (.int .i64 (ups k a b).1) ∧ wr.cell? ⟨w.heap.size + 1, 1, none⟩ = some (.int .i64 (ups k a b).2) ∧ wr.frozen? ⟨w.heap.size + 1, 0, none⟩ = false ∧ wr.frozen? ⟨w.heap.size + 1, 1, none⟩ = false ∧ wr.cell? ⟨w.heap.size, 0, none⟩ = some (.int .i64 (r : Int)) ∧ Below w.heap.size w wr) (fun v4 _ => r - (intOf v4).toNat)
  case atStart => exact ⟨0, by omega, rfl, by go_simp; rfl, by go_simp; rfl, by go_simp, by go_simp, by go_simp, by go_grown⟩
  case round =>
    obtain ⟨k, hk, rfl, z0, z1, fz0, fz1, c0, hB⟩ := hrel
    have lz : w.heap.size + 1 < wr.heap.size := World.block_lt_of_cell? _ _ z0
    by_cases hlt : k < r
    · have PK : Hid _ := PA.out k (by omega)
      clear PA hPQ hv
      generalize (ups k a b).1 = X at PK z0
      generalize (ups k a b).2 = Y at PK z1
      obtain ⟨U, hU⟩ : ∃ U, (ups (k + 1) a b).1 = U := ⟨_, rfl⟩
      obtain ⟨V, hV⟩ : ∃ V, (ups (k + 1) a b).2 = V := ⟨_, rfl⟩
      rw [hU, hV] at PK
      replace hU : Hid _ := hU
      replace hV : Hid _ := hV
      have qz0 := World.block_lt_of_cell? _ _ z0
      have qc0 := World.block_lt_of_cell? _ _ c0
      go_wp2_with fail
      refine (PK.out _).mono ?_
      rintro e v1 ⟨rfl, d1⟩
      have c1 : Below wr.heap.size wr v1 := Below.trans (by go_grown) (d1.mono (by simp; try omega))
      replace fz0 := keepFrozen c1 z0 fz0
      replace z0 := keepCell c1 z0
      replace qz0 := World.block_lt_of_cell? _ _ z0
      replace fz1 := keepFrozen c1 z1 fz1
      replace z1 := keepCell c1 z1
      replace c0 := keepCell c1 c0
      replace qc0 := World.block_lt_of_cell? _ _ c0
      replace hB := belowT hB c1
      clear c1 d1
      obtain ⟨g0, g1⟩ := two_stores (u := .int .i64 U) (v := .int .i64 V) z0 z1
      go_wp2
      go_roundw
      case rel => exact ⟨k + 1, by omega, by go_num, by rw [hU.out]; exact g0, by rw [hV.out]; exact g1, by simp [fz0], by simp [fz1], store_keep (store_keep c0 (by simp)) (by simp), (hB.setCell (by simp) _).setCell (by simp) _⟩
      case measure => simp [intOf]; omega
    · obtain rfl : k = r := by omega
      rw [hPQ.out] at z0 z1
      clear PA hPQ
      simp only at z0 z1
      by_cases h1 : -512 ≤ P
      · by_cases h2 : P ≤ 511
        · by_cases h3 : -512 ≤ Q
          · by_cases h4 : Q ≤ 511
            · obtain rfl : v = true := by rw [hv.out]; exact decide_eq_true ⟨⟨h1, h2⟩, h3, h4⟩
              clear hv
              go_wp2
              go_ret
              exact ⟨rfl, hB⟩
            · obtain rfl : v = false := by rw [hv.out]; exact decide_eq_false (by omega)
              clear hv
              have q := df h4
              go_wp2
              go_ret
              exact ⟨rfl, hB⟩
          · obtain rfl : v = false := by rw [hv.out]; exact decide_eq_false (by omega)
            clear hv
            have q := df h3
            go_wp2
            go_ret
            exact ⟨rfl, hB⟩
        · obtain rfl : v = false := by rw [hv.out]; exact decide_eq_false (by omega)
          clear hv
          have q := df h2
          go_wp2
          go_ret
          exact ⟨rfl, hB⟩
      · obtain rfl : v = false := by rw [hv.out]; exact decide_eq_false (by omega)
        clear hv
        have q := df h1
        go_wp2
        go_ret
        exact ⟨rfl, hB⟩
set_option maxHeartbeats 1000000 in
theorem rok_no0 (r a b : Int) (h : r < 0) (w : World) :
    Calls Tryz.prog 34 #[.agg #[.int .i64 r, .int .i64 a, .int .i64 b]] w fun e w' => e = .returned (.bool false) ∧ Below w.heap.size w w' := by
  go_enter Tryz.func34, Tryz.ntmps34
  go_wp2
  go_ret
  exact ⟨rfl, by go_grown⟩
set_option maxHeartbeats 1000000 in
theorem rok_no1 (r a b : Int) (q0 : decide (r < 0) = false) (h : 12 < r) (w : World) :
    Calls Tryz.prog 34 #[.agg #[.int .i64 r, .int .i64 a, .int .i64 b]] w fun e w' => e = .returned (.bool false) ∧ Below w.heap.size w w' := by
  go_enter Tryz.func34, Tryz.ntmps34
  go_wp2
  go_ret
  exact ⟨rfl, by go_grown⟩
set_option maxHeartbeats 1000000 in
theorem rok_no2 (r a b : Int) (q0 : decide (r < 0) = false) (q1 : decide (12 < r) = false) (h : a < -1073741824) (w : World) :
    Calls Tryz.prog 34 #[.agg #[.int .i64 r, .int .i64 a, .int .i64 b]] w fun e w' => e = .returned (.bool false) ∧ Below w.heap.size w w' := by
  go_enter Tryz.func34, Tryz.ntmps34
  go_wp2
  go_ret
  exact ⟨rfl, by go_grown⟩
set_option maxHeartbeats 1000000 in
theorem rok_no3 (r a b : Int) (q0 : decide (r < 0) = false) (q1 : decide (12 < r) = false) (q2 : decide (a < -1073741824) = false) (h : 1073741824 < a) (w : World) :
    Calls Tryz.prog 34 #[.agg #[.int .i64 r, .int .i64 a, .int .i64 b]] w fun e w' => e = .returned (.bool false) ∧ Below w.heap.size w w' := by
  go_enter Tryz.func34, Tryz.ntmps34
  go_wp2
  go_ret
  exact ⟨rfl, by go_grown⟩
set_option maxHeartbeats 1000000 in
theorem rok_no4 (r a b : Int) (q0 : decide (r < 0) = false) (q1 : decide (12 < r) = false) (q2 : decide (a < -1073741824) = false) (q3 : decide (1073741824 < a) = false) (h : b < -1073741824) (w : World) :
    Calls Tryz.prog 34 #[.agg #[.int .i64 r, .int .i64 a, .int .i64 b]] w fun e w' => e = .returned (.bool false) ∧ Below w.heap.size w w' := by
  go_enter Tryz.func34, Tryz.ntmps34
  go_wp2
  go_ret
  exact ⟨rfl, by go_grown⟩
set_option maxHeartbeats 1000000 in
theorem rok_no5 (r a b : Int) (q0 : decide (r < 0) = false) (q1 : decide (12 < r) = false) (q2 : decide (a < -1073741824) = false) (q3 : decide (1073741824 < a) = false) (q4 : decide (b < -1073741824) = false) (h : 1073741824 < b) (w : World) :
    Calls Tryz.prog 34 #[.agg #[.int .i64 r, .int .i64 a, .int .i64 b]] w fun e w' => e = .returned (.bool false) ∧ Below w.heap.size w w' := by
  go_enter Tryz.func34, Tryz.ntmps34
  go_wp2
  go_ret
  exact ⟨rfl, by go_grown⟩
/-- OK, as the document's own answer has it. -/
theorem rok_any (r a b : Int) (w : World) :
    Calls Tryz.prog 34 #[.agg #[.int .i64 r, .int .i64 a, .int .i64 b]] w fun e w' => e = .returned (.bool (ok4B r a b)) ∧ Below w.heap.size w w' := by
  by_cases q0 : r < 0
  · rw [ok4_no fun h => by unfold Ok4 In30c at h; omega]; exact rok_no0 r a b q0 w
  · skip
    by_cases q1 : 12 < r
    · rw [ok4_no fun h => by unfold Ok4 In30c at h; omega]; exact rok_no1 r a b (df q0) q1 w
    · skip
      by_cases q2 : a < -1073741824
      · rw [ok4_no fun h => by unfold Ok4 In30c at h; omega]; exact rok_no2 r a b (df q0) (df q1) q2 w
      · skip
        by_cases q3 : 1073741824 < a
        · rw [ok4_no fun h => by unfold Ok4 In30c at h; omega]; exact rok_no3 r a b (df q0) (df q1) (df q2) q3 w
        · skip
          by_cases q4 : b < -1073741824
          · rw [ok4_no fun h => by unfold Ok4 In30c at h; omega]; exact rok_no4 r a b (df q0) (df q1) (df q2) (df q3) q4 w
          · skip
            by_cases q5 : 1073741824 < b
            · rw [ok4_no fun h => by unfold Ok4 In30c at h; omega]; exact rok_no5 r a b (df q0) (df q1) (df q2) (df q3) (df q4) q5 w
            · skip
              obtain ⟨n, rfl⟩ := Int.eq_ofNat_of_zero_le (show 0 ≤ r by omega)
              exact rok_core n a b _ _ _ (by omega) (by omega) (by omega) (by omega) (by omega) rfl rfl (by
                show ok4B _ _ _ = _
                unfold ok4B
                congr 1
                apply propext
                show _ ↔ ((-512 ≤ (ups n a b).1 ∧ (ups n a b).1 ≤ 511) ∧ (-512 ≤ (ups n a b).2 ∧ (ups n a b).2 ≤ 511))
                constructor
                · intro h; exact ⟨h.2.2.2.2.1, h.2.2.2.2.2⟩
                · intro h; exact ⟨by omega, by omega, by omega, by omega, h.1, h.2⟩) w
set_option maxHeartbeats 1000000 in
theorem rparent4_yes (r a b : Int) (h : Ok4 r a b) (hr : 0 < r) (w : World) :
    Calls Tryz.prog 47 #[.agg #[.int .i64 r, .int .i64 a, .int .i64 b]] w fun e w' => e = .returned (.tuple #[.agg #[.int .i64 (r - 1), .int .i64 (parA a b), .int .i64 (parB a b)], .int .i64 0]) ∧ Below w.heap.size w w' := by
  have OK : Hid (∀ w, Calls Tryz.prog 34 #[.agg #[.int .i64 r, .int .i64 a, .int .i64 b]] w fun e w' => e = .returned (.bool true) ∧ Below w.heap.size w w') := fun w => by rw [← ok4_mk h]; exact rok_any r a b w
  have PA : Hid _ := rparent_any a b h.2.2.1 h.2.2.2.1
  have q0 : (r == 0) = false := by simp; omega
  have r2 : r ≤ 12 := h.2.1
  clear h
  generalize parA a b = P at *
  generalize parB a b = Q at *
  go_enter Tryz.func47, Tryz.ntmps47
  go_wp2_with fail
  refine (OK.out _).mono ?_
  rintro e w1 ⟨rfl, d1⟩
  have c1 : Below w.heap.size w w1 := Below.trans (by go_grown) (d1.mono (by simp; try omega))
  have z0 : w1.cell? ⟨w.heap.size, 0, none⟩ = some (.int .i64 r) := keepCell d1 (by go_simp)
  have fz0 : w1.frozen? ⟨w.heap.size, 0, none⟩ = false := keepFrozen (v := .int .i64 r) d1 (by go_simp) (by go_simp)
  have qz0 := World.block_lt_of_cell? _ _ z0
  have z1 : w1.cell? ⟨w.heap.size, 1, none⟩ = some (.int .i64 a) := keepCell d1 (by go_simp)
  have fz1 : w1.frozen? ⟨w.heap.size, 1, none⟩ = false := keepFrozen (v := .int .i64 a) d1 (by go_simp) (by go_simp)
  have z2 : w1.cell? ⟨w.heap.size, 2, none⟩ = some (.int .i64 b) := keepCell d1 (by go_simp)
  have fz2 : w1.frozen? ⟨w.heap.size, 2, none⟩ = false := keepFrozen (v := .int .i64 b) d1 (by go_simp) (by go_simp)
  have r0 : w1.cell? ⟨w.heap.size + 1, 0, none⟩ = some (.int .i64 0) := keepCell d1 (by go_simp)
  have fr0 : w1.frozen? ⟨w.heap.size + 1, 0, none⟩ = false := keepFrozen (v := .int .i64 0) d1 (by go_simp) (by go_simp)
  have qr0 := World.block_lt_of_cell? _ _ r0
  have r1 : w1.cell? ⟨w.heap.size + 1, 1, none⟩ = some (.int .i64 0) := keepCell d1 (by go_simp)
  have fr1 : w1.frozen? ⟨w.heap.size + 1, 1, none⟩ = false := keepFrozen (v := .int .i64 0) d1 (by go_simp) (by go_simp)
  have r2 : w1.cell? ⟨w.heap.size + 1, 2, none⟩ = some (.int .i64 0) := keepCell d1 (by go_simp)
  have fr2 : w1.frozen? ⟨w.heap.size + 1, 2, none⟩ = false := keepFrozen (v := .int .i64 0) d1 (by go_simp) (by go_simp)
  have hB := c1
  clear c1 d1
  go_wp2_with fail
  refine (PA.out _).mono ?_
  rintro e w2 ⟨rfl, d2⟩
  have c2 : Below w1.heap.size w1 w2 := Below.trans (by go_grown) (d2.mono (by simp; try omega))
  replace fz0 := keepFrozen c2 z0 fz0
  replace z0 := keepCell c2 z0
  replace qz0 := World.block_lt_of_cell? _ _ z0
  replace fz1 := keepFrozen c2 z1 fz1
  replace z1 := keepCell c2 z1
  replace fz2 := keepFrozen c2 z2 fz2
  replace z2 := keepCell c2 z2
  replace fr0 := keepFrozen c2 r0 fr0
  replace r0 := keepCell c2 r0
  replace qr0 := World.block_lt_of_cell? _ _ r0
  replace fr1 := keepFrozen c2 r1 fr1
  replace r1 := keepCell c2 r1
  replace fr2 := keepFrozen c2 r2 fr2
  replace r2 := keepCell c2 r2
  replace hB := belowT hB c2
  clear c2 d2
  obtain ⟨g0, g1, g2⟩ := three_stores (u0 := .int .i64 (r - 1)) (u1 := .int .i64 (P)) (u2 := .int .i64 (Q)) r0 r1 r2
  have e0 := keepCell (allocB _ (.cells #[.int .i64 (P), .int .i64 (Q)] 32)) g0
  have e1 := keepCell (allocB _ (.cells #[.int .i64 (P), .int .i64 (Q)] 32)) g1
  have e2 := keepCell (allocB _ (.cells #[.int .i64 (P), .int .i64 (Q)] 32)) g2
  go_wp2
  exact bodyPost_ret (v := .tuple #[.agg #[.int .i64 (r - 1), .int .i64 (P), .int .i64 (Q)], .int .i64 0]) (by simp [results, Tryz.results47, go_sem, e0, e1, e2]) rfl ⟨rfl, (((hB.setCell (by simp) _).setCell (by simp) _).setCell (by simp) _).alloc (by simp; omega) _⟩
set_option maxHeartbeats 1000000 in
theorem rparent4_bad (r a b : Int) (h : ¬ Ok4 r a b) (w : World) :
    Calls Tryz.prog 47 #[.agg #[.int .i64 r, .int .i64 a, .int .i64 b]] w fun e w' => e = .returned (.tuple #[.agg #[.int .i64 (0), .int .i64 (0), .int .i64 (0)], .int .i64 2]) ∧ Below w.heap.size w w' := by
  have OK : Hid (∀ w, Calls Tryz.prog 34 #[.agg #[.int .i64 r, .int .i64 a, .int .i64 b]] w fun e w' => e = .returned (.bool false) ∧ Below w.heap.size w w') := fun w => by rw [← ok4_no h]; exact rok_any r a b w
  clear h
  go_enter Tryz.func47, Tryz.ntmps47
  go_wp2_with fail
  refine (OK.out _).mono ?_
  rintro e w1 ⟨rfl, d1⟩
  have c1 : Below w.heap.size w w1 := Below.trans (by go_grown) (d1.mono (by simp; try omega))
  have z0 : w1.cell? ⟨w.heap.size, 0, none⟩ = some (.int .i64 r) := keepCell d1 (by go_simp)
  have fz0 : w1.frozen? ⟨w.heap.size, 0, none⟩ = false := keepFrozen (v := .int .i64 r) d1 (by go_simp) (by go_simp)
  have qz0 := World.block_lt_of_cell? _ _ z0
  have z1 : w1.cell? ⟨w.heap.size, 1, none⟩ = some (.int .i64 a) := keepCell d1 (by go_simp)
  have fz1 : w1.frozen? ⟨w.heap.size, 1, none⟩ = false := keepFrozen (v := .int .i64 a) d1 (by go_simp) (by go_simp)
  have z2 : w1.cell? ⟨w.heap.size, 2, none⟩ = some (.int .i64 b) := keepCell d1 (by go_simp)
  have fz2 : w1.frozen? ⟨w.heap.size, 2, none⟩ = false := keepFrozen (v := .int .i64 b) d1 (by go_simp) (by go_simp)
  have r0 : w1.cell? ⟨w.heap.size + 1, 0, none⟩ = some (.int .i64 0) := keepCell d1 (by go_simp)
  have fr0 : w1.frozen? ⟨w.heap.size + 1, 0, none⟩ = false := keepFrozen (v := .int .i64 0) d1 (by go_simp) (by go_simp)
  have qr0 := World.block_lt_of_cell? _ _ r0
  have r1 : w1.cell? ⟨w.heap.size + 1, 1, none⟩ = some (.int .i64 0) := keepCell d1 (by go_simp)
  have fr1 : w1.frozen? ⟨w.heap.size + 1, 1, none⟩ = false := keepFrozen (v := .int .i64 0) d1 (by go_simp) (by go_simp)
  have r2 : w1.cell? ⟨w.heap.size + 1, 2, none⟩ = some (.int .i64 0) := keepCell d1 (by go_simp)
  have fr2 : w1.frozen? ⟨w.heap.size + 1, 2, none⟩ = false := keepFrozen (v := .int .i64 0) d1 (by go_simp) (by go_simp)
  have hB := c1
  clear c1 d1
  obtain ⟨g0, g1, g2⟩ := three_stores (u0 := .int .i64 (0)) (u1 := .int .i64 (0)) (u2 := .int .i64 (0)) r0 r1 r2
  go_wp2
  exact bodyPost_ret (v := .tuple #[.agg #[.int .i64 (0), .int .i64 (0), .int .i64 (0)], .int .i64 2]) (by simp [results, Tryz.results47, go_sem, g0, g1, g2]) rfl ⟨rfl, ((hB.setCell (by simp) _).setCell (by simp) _).setCell (by simp) _⟩
set_option maxHeartbeats 1000000 in
theorem rparent4_top (r a b : Int) (h : Ok4 r a b) (hr : (r == 0) = true) (w : World) :
    Calls Tryz.prog 47 #[.agg #[.int .i64 r, .int .i64 a, .int .i64 b]] w fun e w' => e = .returned (.tuple #[.agg #[.int .i64 (0), .int .i64 (0), .int .i64 (0)], .int .i64 3]) ∧ Below w.heap.size w w' := by
  have OK : Hid (∀ w, Calls Tryz.prog 34 #[.agg #[.int .i64 r, .int .i64 a, .int .i64 b]] w fun e w' => e = .returned (.bool true) ∧ Below w.heap.size w w') := fun w => by rw [← ok4_mk h]; exact rok_any r a b w
  clear h
  go_enter Tryz.func47, Tryz.ntmps47
  go_wp2_with fail
  refine (OK.out _).mono ?_
  rintro e w1 ⟨rfl, d1⟩
  have c1 : Below w.heap.size w w1 := Below.trans (by go_grown) (d1.mono (by simp; try omega))
  have z0 : w1.cell? ⟨w.heap.size, 0, none⟩ = some (.int .i64 r) := keepCell d1 (by go_simp)
  have fz0 : w1.frozen? ⟨w.heap.size, 0, none⟩ = false := keepFrozen (v := .int .i64 r) d1 (by go_simp) (by go_simp)
  have qz0 := World.block_lt_of_cell? _ _ z0
  have z1 : w1.cell? ⟨w.heap.size, 1, none⟩ = some (.int .i64 a) := keepCell d1 (by go_simp)
  have fz1 : w1.frozen? ⟨w.heap.size, 1, none⟩ = false := keepFrozen (v := .int .i64 a) d1 (by go_simp) (by go_simp)
  have z2 : w1.cell? ⟨w.heap.size, 2, none⟩ = some (.int .i64 b) := keepCell d1 (by go_simp)
  have fz2 : w1.frozen? ⟨w.heap.size, 2, none⟩ = false := keepFrozen (v := .int .i64 b) d1 (by go_simp) (by go_simp)
  have r0 : w1.cell? ⟨w.heap.size + 1, 0, none⟩ = some (.int .i64 0) := keepCell d1 (by go_simp)
  have fr0 : w1.frozen? ⟨w.heap.size + 1, 0, none⟩ = false := keepFrozen (v := .int .i64 0) d1 (by go_simp) (by go_simp)
  have qr0 := World.block_lt_of_cell? _ _ r0
  have r1 : w1.cell? ⟨w.heap.size + 1, 1, none⟩ = some (.int .i64 0) := keepCell d1 (by go_simp)
  have fr1 : w1.frozen? ⟨w.heap.size + 1, 1, none⟩ = false := keepFrozen (v := .int .i64 0) d1 (by go_simp) (by go_simp)
  have r2 : w1.cell? ⟨w.heap.size + 1, 2, none⟩ = some (.int .i64 0) := keepCell d1 (by go_simp)
  have fr2 : w1.frozen? ⟨w.heap.size + 1, 2, none⟩ = false := keepFrozen (v := .int .i64 0) d1 (by go_simp) (by go_simp)
  have hB := c1
  clear c1 d1
  obtain ⟨g0, g1, g2⟩ := three_stores (u0 := .int .i64 (0)) (u1 := .int .i64 (0)) (u2 := .int .i64 (0)) r0 r1 r2
  go_wp2
  exact bodyPost_ret (v := .tuple #[.agg #[.int .i64 (0), .int .i64 (0), .int .i64 (0)], .int .i64 3]) (by simp [results, Tryz.results47, go_sem, g0, g1, g2]) rfl ⟨rfl, ((hB.setCell (by simp) _).setCell (by simp) _).setCell (by simp) _⟩
end Go.Proofs.YtlipbdiijjfheaaGreatDoor
