/-
  What package plane's Ok, Axial, stepOf and Near tell, for any two numbers and any size, in whatever memory.
-/
import Derived.Test.YtnnbdlnginkldabDoorPlaneMath
import Derived.Test.YtnnbdlnginkldabDoorEBeta
import Derived.Test.YtnnbdlnginkldabDoorENear
import Derived.Test.YtnnbdlnginkldabDoorESmall
namespace Go.Proofs.YtnnbdlnginkldabDoor
open Go.RowKit

/-- Whether (x, y) is a point of the world. -/
def inWB (x y : Int) : Bool := decide (0 ≤ x ∧ x < 1073741824 ∧ 0 ≤ y ∧ y < 1073741824)
theorem inWB_yes {x y : Int} (h : inWB x y = true) : InW x y := by unfold InW; exact of_decide_eq_true h
theorem inWB_no {x y : Int} (h : inWB x y = false) : ¬ InW x y := by unfold InW; exact of_decide_eq_false h
theorem inWB_mk {x y : Int} (h : InW x y) : inWB x y = true := by unfold InW at h; exact decide_eq_true h
theorem inWB_not {x y : Int} (h : ¬ InW x y) : inWB x y = false := by unfold InW at h; exact decide_eq_false h

set_option maxHeartbeats 400000 in
theorem pok_yes (x y : Int) (h1 : 0 ≤ x) (h2 : x < 1073741824) (h3 : 0 ≤ y) (h4 : y < 1073741824) (w : World) :
    Calls Tryd.prog 28 #[.int .i64 x, .int .i64 y] w fun e w' => e = .returned (.bool true) ∧ w' = w := by
  go_enter Tryd.func28, Tryd.ntmps28
  go_wp2
  go_ret
  exact ⟨rfl, rfl⟩
set_option maxHeartbeats 400000 in
theorem pok_no1 (x y : Int) (h1 : decide (0 ≤ x) = false) (w : World) :
    Calls Tryd.prog 28 #[.int .i64 x, .int .i64 y] w fun e w' => e = .returned (.bool false) ∧ w' = w := by
  go_enter Tryd.func28, Tryd.ntmps28
  go_wp2
  go_ret
  exact ⟨rfl, rfl⟩
set_option maxHeartbeats 400000 in
theorem pok_no2 (x y : Int) (h1 : 0 ≤ x) (h2 : decide (x < 1073741824) = false) (w : World) :
    Calls Tryd.prog 28 #[.int .i64 x, .int .i64 y] w fun e w' => e = .returned (.bool false) ∧ w' = w := by
  go_enter Tryd.func28, Tryd.ntmps28
  go_wp2
  go_ret
  exact ⟨rfl, rfl⟩
set_option maxHeartbeats 400000 in
theorem pok_no3 (x y : Int) (h1 : 0 ≤ x) (h2 : x < 1073741824) (h3 : decide (0 ≤ y) = false) (w : World) :
    Calls Tryd.prog 28 #[.int .i64 x, .int .i64 y] w fun e w' => e = .returned (.bool false) ∧ w' = w := by
  go_enter Tryd.func28, Tryd.ntmps28
  go_wp2
  go_ret
  exact ⟨rfl, rfl⟩
set_option maxHeartbeats 400000 in
theorem pok_no4 (x y : Int) (h1 : 0 ≤ x) (h2 : x < 1073741824) (h3 : 0 ≤ y) (h4 : decide (y < 1073741824) = false) (w : World) :
    Calls Tryd.prog 28 #[.int .i64 x, .int .i64 y] w fun e w' => e = .returned (.bool false) ∧ w' = w := by
  go_enter Tryd.func28, Tryd.ntmps28
  go_wp2
  go_ret
  exact ⟨rfl, rfl⟩
/-- OK: whether it is a point of the world. -/
theorem pok_any (x y : Int) (w : World) :
    Calls Tryd.prog 28 #[.int .i64 x, .int .i64 y] w fun e w' => e = .returned (.bool (inWB x y)) ∧ w' = w := by
  by_cases h1 : 0 ≤ x
  · by_cases h2 : x < 1073741824
    · by_cases h3 : 0 ≤ y
      · by_cases h4 : y < 1073741824
        · rw [inWB_mk ⟨h1, h2, h3, h4⟩]; exact pok_yes x y h1 h2 h3 h4 w
        · rw [inWB_not fun h => h4 h.2.2.2]; exact pok_no4 x y h1 h2 h3 (df h4) w
      · rw [inWB_not fun h => h3 h.2.2.1]; exact pok_no3 x y h1 h2 (df h3) w
    · rw [inWB_not fun h => h2 h.2.1]; exact pok_no2 x y h1 (df h2) w
  · rw [inWB_not fun h => h1 h.1]; exact pok_no1 x y (df h1) w
theorem pok_at (x y : Int) (v : Bool) (h : inWB x y = v) (w : World) :
    Calls Tryd.prog 28 #[.int .i64 x, .int .i64 y] w fun e w' => e = .returned (.bool v) ∧ Below w.heap.size w w' := by
  rw [← h]; exact (pok_any x y w).mono fun e w' ⟨he, hw⟩ => ⟨he, by rw [hw]; exact Below.refl _ _⟩

set_option maxHeartbeats 400000 in
theorem paxial_yes (x y u v : Int) (hw : InW x y) (hu : 45 * x - 26 * y = u) (hv : 52 * y = v) (w : World) :
    Calls Tryd.prog 56 #[.int .i64 x, .int .i64 y] w fun e w' => e = .returned (.tuple #[.agg #[.int .i64 u, .int .i64 v], .bool true]) ∧ Below w.heap.size w w' := by
  have OK : Hid (∀ w, Calls Tryd.prog 28 #[.int .i64 x, .int .i64 y] w fun e w' => e = .returned (.bool true) ∧ w' = w) := pok_yes x y hw.1 hw.2.1 hw.2.2.1 hw.2.2.2
  obtain ⟨h1, h2, h3, h4⟩ := hw
  go_enter Tryd.func56, Tryd.ntmps56
  go_wp2_with fail
  refine (OK.out _).mono ?_
  rintro e w1 ⟨rfl, rfl⟩
  go_wp2
  exact bodyPost_ret (v := .tuple #[.agg #[.int .i64 u, .int .i64 v], .bool true]) (by simp [results, Tryd.results56, go_sem]) rfl ⟨rfl, by go_grown⟩
set_option maxHeartbeats 400000 in
theorem paxial_no (x y : Int) (hw : inWB x y = false) (w : World) :
    Calls Tryd.prog 56 #[.int .i64 x, .int .i64 y] w fun e w' => e = .returned (.tuple #[.agg #[.int .i64 0, .int .i64 0], .bool false]) ∧ Below w.heap.size w w' := by
  have OK : Hid (∀ w, Calls Tryd.prog 28 #[.int .i64 x, .int .i64 y] w fun e w' => e = .returned (.bool false) ∧ w' = w) := fun w => by rw [← hw]; exact pok_any x y w
  clear hw
  go_enter Tryd.func56, Tryd.ntmps56
  go_wp2_with fail
  refine (OK.out _).mono ?_
  rintro e w1 ⟨rfl, rfl⟩
  go_wp2
  exact bodyPost_ret (v := .tuple #[.agg #[.int .i64 0, .int .i64 0], .bool false]) (by simp [results, Tryd.results56, go_sem]) rfl ⟨rfl, by go_grown⟩

set_option maxHeartbeats 400000 in
theorem pstep_yes (r : Int) (K : Nat) (hK : K ≤ 12) (hr : 12 - r = (K : Int)) (w : World) :
    Calls Tryd.prog 46 #[.int .i64 r] w fun e w' => e = .returned (.tuple #[.agg #[.int .i64 (bet K).1, .int .i64 (bet K).2], .bool true]) ∧ Below w.heap.size w w' := by
  have BE : Hid (∀ w, Calls Tryd.prog 50 #[.int .i64 (12 - r)] w fun e w' => e = .returned (.tuple #[.agg #[.int .i64 (bet K).1, .int .i64 (bet K).2], .bool true]) ∧ Below w.heap.size w w') := fun w => by rw [hr]; exact ebeta_yes K (by omega) w
  have r0 : 0 ≤ r := by omega
  have r1 : r ≤ 12 := by omega
  clear hr
  generalize (bet K).1 = X at *
  generalize (bet K).2 = Y at *
  go_enter Tryd.func46, Tryd.ntmps46
  go_wp2_with fail
  refine (BE.out _).mono ?_
  rintro e w1 ⟨rfl, c1⟩
  obtain ⟨hc, hf⟩ := bcell c1
  have e0 : w1.cell? ⟨w.heap.size, 0, none⟩ = some (.int .i64 0) := by rw [hc _ _ (by simp)]; go_simp
  have e1 : w1.cell? ⟨w.heap.size, 1, none⟩ = some (.int .i64 0) := by rw [hc _ _ (by simp)]; go_simp
  obtain ⟨g0, g1⟩ := two_stores (u := .int .i64 X) (v := .int .i64 Y) e0 e1
  have hB : Below w.heap.size w w1 := Below.trans (by go_grown) (c1.mono (by simp; try omega))
  go_wp2
  exact bodyPost_ret (v := .tuple #[.agg #[.int .i64 X, .int .i64 Y], .bool true]) (by simp [results, Tryd.results46, go_sem, g0, g1]) rfl ⟨rfl, (hB.setCell (by simp; try omega) _).setCell (by simp; try omega) _⟩
set_option maxHeartbeats 400000 in
theorem pstep_below (r : Int) (h : r < 0) (w : World) :
    Calls Tryd.prog 46 #[.int .i64 r] w fun e w' => e = .returned (.tuple #[.agg #[.int .i64 0, .int .i64 0], .bool false]) ∧ Below w.heap.size w w' := by
  go_enter Tryd.func46, Tryd.ntmps46
  go_wp2
  exact bodyPost_ret (v := .tuple #[.agg #[.int .i64 0, .int .i64 0], .bool false]) (by simp [results, Tryd.results46, go_sem]) rfl ⟨rfl, by go_grown⟩
set_option maxHeartbeats 400000 in
theorem pstep_above (r : Int) (h0 : decide (r < 0) = false) (h : 12 < r) (w : World) :
    Calls Tryd.prog 46 #[.int .i64 r] w fun e w' => e = .returned (.tuple #[.agg #[.int .i64 0, .int .i64 0], .bool false]) ∧ Below w.heap.size w w' := by
  go_enter Tryd.func46, Tryd.ntmps46
  go_wp2
  exact bodyPost_ret (v := .tuple #[.agg #[.int .i64 0, .int .i64 0], .bool false]) (by simp [results, Tryd.results46, go_sem]) rfl ⟨rfl, by go_grown⟩
theorem pstep_no (r : Int) (h : ¬ (0 ≤ r ∧ r ≤ 12)) (w : World) :
    Calls Tryd.prog 46 #[.int .i64 r] w fun e w' => e = .returned (.tuple #[.agg #[.int .i64 0, .int .i64 0], .bool false]) ∧ Below w.heap.size w w' := by
  by_cases h0 : r < 0
  · exact pstep_below r h0 w
  · exact pstep_above r (df h0) (by omega) w

/-- The ending that tells a number of the lattice of which P holds. -/
def TellsP (P : Int → Int → Prop) (e : Ending) : Prop := ∃ a b : Int, e = .returned (.tuple #[.agg #[.int .i64 a, .int .i64 b], .bool true]) ∧ P a b

set_option maxHeartbeats 2000000 in
theorem pnear_core (x y r u v X Y c d N A B : Int) (P : Int → Int → Prop) (N1 : 1 ≤ N) (N2 : N ≤ 13841287201)
    (AX : ∀ w, Calls Tryd.prog 56 #[.int .i64 x, .int .i64 y] w fun e w' => e = .returned (.tuple #[.agg #[.int .i64 u, .int .i64 v], .bool true]) ∧ Below w.heap.size w w')
    (ST : ∀ w, Calls Tryd.prog 46 #[.int .i64 r] w fun e w' => e = .returned (.tuple #[.agg #[.int .i64 X, .int .i64 Y], .bool true]) ∧ Below w.heap.size w w')
    (CJ : ∀ w, Calls Tryd.prog 55 #[.agg #[.int .i64 X, .int .i64 Y]] w fun e w' => e = .returned (.tuple #[.agg #[.int .i64 c, .int .i64 d], .bool true]) ∧ Below w.heap.size w w')
    (MU : ∀ w, Calls Tryd.prog 48 #[.agg #[.int .i64 u, .int .i64 v], .agg #[.int .i64 c, .int .i64 d]] w fun e w' => e = .returned (.tuple #[.agg #[.int .i64 A, .int .i64 B], .bool true]) ∧ Below w.heap.size w w')
    (NO : ∀ w, Calls Tryd.prog 57 #[.agg #[.int .i64 X, .int .i64 Y]] w fun e w' => e = .returned (.tuple #[.int .i64 N, .bool true]) ∧ Below w.heap.size w w')
    (RO : ∀ w, Calls Tryd.prog 58 #[.agg #[.int .i64 A, .int .i64 B], .int .i64 (2340 * N)] w fun e w' => TellsP P e ∧ Below w.heap.size w w')
    (w : World) :
    Calls Tryd.prog 29 #[.int .i64 x, .int .i64 y, .int .i64 r] w fun e w' => TellsP P e ∧ Below w.heap.size w w' := by
  replace AX : Hid _ := AX
  replace ST : Hid _ := ST
  replace CJ : Hid _ := CJ
  replace MU : Hid _ := MU
  replace NO : Hid _ := NO
  replace RO : Hid _ := RO
  go_enter Tryd.func29, Tryd.ntmps29
  go_wp2_with fail
  refine (AX.out _).mono ?_
  rintro e w1 ⟨rfl, d1⟩
  have c1 : Below w.heap.size w w1 := Below.trans (by go_grown) (d1.mono (by simp; try omega))
  have r0 : w1.cell? ⟨w.heap.size, 0, none⟩ = some (.int .i64 0) := keepCell d1 (by go_simp)
  have fr0 : w1.frozen? ⟨w.heap.size, 0, none⟩ = false := keepFrozen (v := .int .i64 0) d1 (by go_simp) (by go_simp)
  have qr0 := World.block_lt_of_cell? _ _ r0
  have r1 : w1.cell? ⟨w.heap.size, 1, none⟩ = some (.int .i64 0) := keepCell d1 (by go_simp)
  have fr1 : w1.frozen? ⟨w.heap.size, 1, none⟩ = false := keepFrozen (v := .int .i64 0) d1 (by go_simp) (by go_simp)
  have hB := c1
  clear c1 d1
  have n1 : ¬ w1.heap.size = w.heap.size := Nat.ne_of_gt qr0
  have l1 : w.heap.size ≤ w1.heap.size := Nat.le_of_lt qr0
  go_wp2_with fail
  refine (ST.out _).mono ?_
  rintro e w2 ⟨rfl, d2⟩
  have c2 : Below w1.heap.size w1 w2 := Below.trans (by go_grown) (d2.mono (by simp; try omega))
  replace fr0 := keepFrozen c2 r0 fr0
  replace r0 := keepCell c2 r0
  replace qr0 := World.block_lt_of_cell? _ _ r0
  replace fr1 := keepFrozen c2 r1 fr1
  replace r1 := keepCell c2 r1
  have p0 : w2.cell? ⟨w1.heap.size, 0, none⟩ = some (.int .i64 u) := keepCell d2 (by go_simp)
  have fp0 : w2.frozen? ⟨w1.heap.size, 0, none⟩ = false := keepFrozen (v := .int .i64 u) d2 (by go_simp) (by go_simp)
  have qp0 := World.block_lt_of_cell? _ _ p0
  have p1 : w2.cell? ⟨w1.heap.size, 1, none⟩ = some (.int .i64 v) := keepCell d2 (by go_simp)
  have fp1 : w2.frozen? ⟨w1.heap.size, 1, none⟩ = false := keepFrozen (v := .int .i64 v) d2 (by go_simp) (by go_simp)
  replace hB := belowT hB c2
  clear c2 d2
  have n2 : ¬ w1.heap.size = w2.heap.size := Nat.ne_of_lt qp0
  go_wp2_with fail
  refine (CJ.out _).mono ?_
  rintro e w3 ⟨rfl, d3⟩
  have c3 : Below w2.heap.size w2 w3 := Below.trans (by go_grown) (d3.mono (by simp; try omega))
  replace fr0 := keepFrozen c3 r0 fr0
  replace r0 := keepCell c3 r0
  replace qr0 := World.block_lt_of_cell? _ _ r0
  replace fr1 := keepFrozen c3 r1 fr1
  replace r1 := keepCell c3 r1
  replace fp0 := keepFrozen c3 p0 fp0
  replace p0 := keepCell c3 p0
  replace qp0 := World.block_lt_of_cell? _ _ p0
  replace fp1 := keepFrozen c3 p1 fp1
  replace p1 := keepCell c3 p1
  have s0 : w3.cell? ⟨w2.heap.size, 0, none⟩ = some (.int .i64 X) := keepCell d3 (by go_simp)
  have qs0 := World.block_lt_of_cell? _ _ s0
  have s1 : w3.cell? ⟨w2.heap.size, 1, none⟩ = some (.int .i64 Y) := keepCell d3 (by go_simp)
  replace hB := belowT hB c3
  clear c3 d3
  go_wp2_with fail
  refine (MU.out _).mono ?_
  rintro e w4 ⟨rfl, d4⟩
  have c4 : Below w3.heap.size w3 w4 := Below.trans (by go_grown) (d4.mono (by simp; try omega))
  replace fr0 := keepFrozen c4 r0 fr0
  replace r0 := keepCell c4 r0
  replace qr0 := World.block_lt_of_cell? _ _ r0
  replace fr1 := keepFrozen c4 r1 fr1
  replace r1 := keepCell c4 r1
  replace fp0 := keepFrozen c4 p0 fp0
  replace p0 := keepCell c4 p0
  replace qp0 := World.block_lt_of_cell? _ _ p0
  replace fp1 := keepFrozen c4 p1 fp1
  replace p1 := keepCell c4 p1
  replace s0 := keepCell c4 s0
  replace qs0 := World.block_lt_of_cell? _ _ s0
  replace s1 := keepCell c4 s1
  have c0 : w4.cell? ⟨w3.heap.size, 0, none⟩ = some (.int .i64 c) := keepCell d4 (by go_simp)
  have qc0 := World.block_lt_of_cell? _ _ c0
  have c1 : w4.cell? ⟨w3.heap.size, 1, none⟩ = some (.int .i64 d) := keepCell d4 (by go_simp)
  replace hB := belowT hB c4
  clear c4 d4
  go_wp2_with fail
  have q0 := store_keep (u := .int .i64 B) (q := ⟨w1.heap.size, 1, none⟩) (store_new (u := .int .i64 A) p0) (by simp)
  have q1 := store_new (u := .int .i64 B) (store_keep (u := .int .i64 A) (q := ⟨w1.heap.size, 0, none⟩) p1 (by simp))
  have k0 := store_keep (u := .int .i64 B) (q := ⟨w1.heap.size, 1, none⟩) (store_keep (u := .int .i64 A) (q := ⟨w1.heap.size, 0, none⟩) r0 (by simp)) (by simp)
  have k1 := store_keep (u := .int .i64 B) (q := ⟨w1.heap.size, 1, none⟩) (store_keep (u := .int .i64 A) (q := ⟨w1.heap.size, 0, none⟩) r1 (by simp)) (by simp)
  have fk0 : ((w4.setCell ⟨w1.heap.size, 0, none⟩ (.int .i64 A)).setCell ⟨w1.heap.size, 1, none⟩ (.int .i64 B)).frozen? ⟨w.heap.size, 0, none⟩ = false := by simp [fr0]
  have fk1 : ((w4.setCell ⟨w1.heap.size, 0, none⟩ (.int .i64 A)).setCell ⟨w1.heap.size, 1, none⟩ (.int .i64 B)).frozen? ⟨w.heap.size, 1, none⟩ = false := by simp [fr1]
  replace hB := (hB.setCell (p := ⟨w1.heap.size, 0, none⟩) (by exact l1) (.int .i64 A)).setCell (p := ⟨w1.heap.size, 1, none⟩) (by exact l1) (.int .i64 B)
  clear p0 p1 r0 r1 s0 s1 c0 c1 qr0 qp0 qs0 qc0 fr0 fr1 fp0 fp1
  generalize (w4.setCell ⟨w1.heap.size, 0, none⟩ (.int .i64 A)).setCell ⟨w1.heap.size, 1, none⟩ (.int .i64 B) = wc at *
  have qq0 := World.block_lt_of_cell? _ _ q0
  have qk0 := World.block_lt_of_cell? _ _ k0
  go_wp2_with fail
  refine (NO.out _).mono ?_
  rintro e v1 ⟨rfl, d1⟩
  have c1 : Below wc.heap.size wc v1 := Below.trans (by go_grown) (d1.mono (by simp; try omega))
  replace q0 := keepCell c1 q0
  replace qq0 := World.block_lt_of_cell? _ _ q0
  replace q1 := keepCell c1 q1
  replace fk0 := keepFrozen c1 k0 fk0
  replace k0 := keepCell c1 k0
  replace qk0 := World.block_lt_of_cell? _ _ k0
  replace fk1 := keepFrozen c1 k1 fk1
  replace k1 := keepCell c1 k1
  replace hB := belowT hB c1
  clear c1 d1
  go_wp2_with fail
  refine (RO.out _).mono ?_
  rintro e v2 ⟨⟨a, b, rfl, hn⟩, d2⟩
  have c2 : Below v1.heap.size v1 v2 := Below.trans (by go_grown) (d2.mono (by simp; try omega))
  replace q0 := keepCell c2 q0
  replace qq0 := World.block_lt_of_cell? _ _ q0
  replace q1 := keepCell c2 q1
  replace fk0 := keepFrozen c2 k0 fk0
  replace k0 := keepCell c2 k0
  replace qk0 := World.block_lt_of_cell? _ _ k0
  replace fk1 := keepFrozen c2 k1 fk1
  replace k1 := keepCell c2 k1
  replace hB := belowT hB c2
  clear c2 d2
  obtain ⟨g0, g1⟩ := two_stores (u := .int .i64 a) (v := .int .i64 b) k0 k1
  go_wp2
  exact bodyPost_ret (v := .tuple #[.agg #[.int .i64 a, .int .i64 b], .bool true]) (by simp [results, Tryd.results29, go_sem, g0, g1]) rfl ⟨⟨a, b, rfl, hn⟩, (hB.setCell (by simp) _).setCell (by simp) _⟩

/-- NEAR, of a point and a size: the nearest centre, the least of several. -/
theorem pnear_see (x y r : Int) (K : Nat) (hK : K ≤ 12) (hr : 12 - r = (K : Int)) (hw : InW x y) (w : World) :
    Calls Tryd.prog 29 #[.int .i64 x, .int .i64 y, .int .i64 r] w fun e w' => TellsP (Nearest (dvK K) (nuA K x y) (nuB K x y)) e ∧ Below w.heap.size w w' := by
  have hs := sev_box hK
  have hd := dvK_box hK
  have hb := bet_small hK
  have hu := nu_box hK hw
  obtain ⟨x1, x2, y1, y2⟩ := id hw
  exact pnear_core x y r _ _ _ _ (cjA K) (cjB K) (sev K) (nuA K x y) (nuB K x y) _ hs.1 hs.2 (paxial_yes x y _ _ hw rfl rfl) (pstep_yes r K hK hr)
    (econj_small _ _ _ _ rfl rfl (by omega) (by omega) (by omega) (by omega))
    (emul_small _ _ _ _ _ _ rfl rfl (by omega) (by omega) (by omega) (by omega) (by omega) (by omega) (by omega) (by omega) (by omega) (by omega) (by omega) (by omega))
    (enorm_small _ _ _ rfl (by omega) (by omega) (by omega) (by omega) (by omega))
    (eround_see _ _ _ (by omega) (by omega) (by omega) (by omega) hd.1 hd.2) w

theorem pnear_at (x y r : Int) (K : Nat) (hK : K ≤ 12) (hr : 12 - r = (K : Int)) (hw : InW x y) (a b : Int) (hn : Nearest (dvK K) (nuA K x y) (nuB K x y) a b) (w : World) :
    Calls Tryd.prog 29 #[.int .i64 x, .int .i64 y, .int .i64 r] w fun e w' => e = .returned (.tuple #[.agg #[.int .i64 a, .int .i64 b], .bool true]) ∧ Below w.heap.size w w' := by
  refine (pnear_see x y r K hK hr hw w).mono ?_
  rintro e w' ⟨⟨a', b', rfl, hn'⟩, hb⟩
  obtain ⟨rfl, rfl⟩ := nearest_one hn hn'
  exact ⟨rfl, hb⟩

set_option maxHeartbeats 1000000 in
theorem pnear_bad1 (x y r u v X Y : Int) (s : Bool)
    (AX : ∀ w, Calls Tryd.prog 56 #[.int .i64 x, .int .i64 y] w fun e w' => e = .returned (.tuple #[.agg #[.int .i64 u, .int .i64 v], .bool false]) ∧ Below w.heap.size w w')
    (ST : ∀ w, Calls Tryd.prog 46 #[.int .i64 r] w fun e w' => e = .returned (.tuple #[.agg #[.int .i64 X, .int .i64 Y], .bool s]) ∧ Below w.heap.size w w')
    (w : World) :
    Calls Tryd.prog 29 #[.int .i64 x, .int .i64 y, .int .i64 r] w fun e w' => e = .returned (.tuple #[.agg #[.int .i64 0, .int .i64 0], .bool false]) ∧ Below w.heap.size w w' := by
  replace AX : Hid _ := AX
  replace ST : Hid _ := ST
  go_enter Tryd.func29, Tryd.ntmps29
  go_wp2_with fail
  refine (AX.out _).mono ?_
  rintro e w1 ⟨rfl, d1⟩
  have c1 : Below w.heap.size w w1 := Below.trans (by go_grown) (d1.mono (by simp; try omega))
  have r0 : w1.cell? ⟨w.heap.size, 0, none⟩ = some (.int .i64 0) := keepCell d1 (by go_simp)
  have fr0 : w1.frozen? ⟨w.heap.size, 0, none⟩ = false := keepFrozen (v := .int .i64 0) d1 (by go_simp) (by go_simp)
  have qr0 := World.block_lt_of_cell? _ _ r0
  have r1 : w1.cell? ⟨w.heap.size, 1, none⟩ = some (.int .i64 0) := keepCell d1 (by go_simp)
  have fr1 : w1.frozen? ⟨w.heap.size, 1, none⟩ = false := keepFrozen (v := .int .i64 0) d1 (by go_simp) (by go_simp)
  have hB := c1
  clear c1 d1
  have n1 : ¬ w1.heap.size = w.heap.size := Nat.ne_of_gt qr0
  go_wp2_with fail
  refine (ST.out _).mono ?_
  rintro e w2 ⟨rfl, d2⟩
  have c2 : Below w1.heap.size w1 w2 := Below.trans (by go_grown) (d2.mono (by simp; try omega))
  replace fr0 := keepFrozen c2 r0 fr0
  replace r0 := keepCell c2 r0
  replace qr0 := World.block_lt_of_cell? _ _ r0
  replace fr1 := keepFrozen c2 r1 fr1
  replace r1 := keepCell c2 r1
  replace hB := belowT hB c2
  clear c2 d2
  have n2 : ¬ w2.heap.size = w.heap.size := Nat.ne_of_gt qr0
  obtain ⟨g0, g1⟩ := two_stores (u := .int .i64 0) (v := .int .i64 0) r0 r1
  have e0 := keepCell (allocB _ (.cells #[.int .i64 X, .int .i64 Y] 23)) g0
  have e1 := keepCell (allocB _ (.cells #[.int .i64 X, .int .i64 Y] 23)) g1
  go_wp2
  exact bodyPost_ret (v := .tuple #[.agg #[.int .i64 0, .int .i64 0], .bool false]) (by simp [results, Tryd.results29, go_sem, e0, e1]) rfl ⟨rfl, ((hB.setCell (by simp) _).setCell (by simp) _).alloc (by simp; omega) _⟩
set_option maxHeartbeats 1000000 in
theorem pnear_bad2 (x y r u v X Y : Int)
    (AX : ∀ w, Calls Tryd.prog 56 #[.int .i64 x, .int .i64 y] w fun e w' => e = .returned (.tuple #[.agg #[.int .i64 u, .int .i64 v], .bool true]) ∧ Below w.heap.size w w')
    (ST : ∀ w, Calls Tryd.prog 46 #[.int .i64 r] w fun e w' => e = .returned (.tuple #[.agg #[.int .i64 X, .int .i64 Y], .bool false]) ∧ Below w.heap.size w w')
    (w : World) :
    Calls Tryd.prog 29 #[.int .i64 x, .int .i64 y, .int .i64 r] w fun e w' => e = .returned (.tuple #[.agg #[.int .i64 0, .int .i64 0], .bool false]) ∧ Below w.heap.size w w' := by
  replace AX : Hid _ := AX
  replace ST : Hid _ := ST
  go_enter Tryd.func29, Tryd.ntmps29
  go_wp2_with fail
  refine (AX.out _).mono ?_
  rintro e w1 ⟨rfl, d1⟩
  have c1 : Below w.heap.size w w1 := Below.trans (by go_grown) (d1.mono (by simp; try omega))
  have r0 : w1.cell? ⟨w.heap.size, 0, none⟩ = some (.int .i64 0) := keepCell d1 (by go_simp)
  have fr0 : w1.frozen? ⟨w.heap.size, 0, none⟩ = false := keepFrozen (v := .int .i64 0) d1 (by go_simp) (by go_simp)
  have qr0 := World.block_lt_of_cell? _ _ r0
  have r1 : w1.cell? ⟨w.heap.size, 1, none⟩ = some (.int .i64 0) := keepCell d1 (by go_simp)
  have fr1 : w1.frozen? ⟨w.heap.size, 1, none⟩ = false := keepFrozen (v := .int .i64 0) d1 (by go_simp) (by go_simp)
  have hB := c1
  clear c1 d1
  have n1 : ¬ w1.heap.size = w.heap.size := Nat.ne_of_gt qr0
  go_wp2_with fail
  refine (ST.out _).mono ?_
  rintro e w2 ⟨rfl, d2⟩
  have c2 : Below w1.heap.size w1 w2 := Below.trans (by go_grown) (d2.mono (by simp; try omega))
  replace fr0 := keepFrozen c2 r0 fr0
  replace r0 := keepCell c2 r0
  replace qr0 := World.block_lt_of_cell? _ _ r0
  replace fr1 := keepFrozen c2 r1 fr1
  replace r1 := keepCell c2 r1
  replace hB := belowT hB c2
  clear c2 d2
  have n2 : ¬ w2.heap.size = w.heap.size := Nat.ne_of_gt qr0
  obtain ⟨g0, g1⟩ := two_stores (u := .int .i64 0) (v := .int .i64 0) r0 r1
  have e0 := keepCell (allocB _ (.cells #[.int .i64 X, .int .i64 Y] 23)) g0
  have e1 := keepCell (allocB _ (.cells #[.int .i64 X, .int .i64 Y] 23)) g1
  go_wp2
  exact bodyPost_ret (v := .tuple #[.agg #[.int .i64 0, .int .i64 0], .bool false]) (by simp [results, Tryd.results29, go_sem, e0, e1]) rfl ⟨rfl, ((hB.setCell (by simp) _).setCell (by simp) _).alloc (by simp; omega) _⟩
/-- NEAR, of what is no point, or no size: false. -/
theorem pnear_no (x y r : Int) (h : ¬ (InW x y ∧ 0 ≤ r ∧ r ≤ 12)) (w : World) :
    Calls Tryd.prog 29 #[.int .i64 x, .int .i64 y, .int .i64 r] w fun e w' => e = .returned (.tuple #[.agg #[.int .i64 0, .int .i64 0], .bool false]) ∧ Below w.heap.size w w' := by
  by_cases hw : InW x y
  · exact pnear_bad2 x y r _ _ _ _ (paxial_yes x y _ _ hw rfl rfl) (pstep_no r fun hr => h ⟨hw, hr⟩) w
  · by_cases hr : 0 ≤ r ∧ r ≤ 12
    · exact pnear_bad1 x y r _ _ _ _ _ (paxial_no x y (inWB_not hw)) (pstep_yes r (12 - r).toNat (by omega) (by omega)) w
    · exact pnear_bad1 x y r _ _ _ _ _ (paxial_no x y (inWB_not hw)) (pstep_no r hr) w
end Go.Proofs.YtnnbdlnginkldabDoor
