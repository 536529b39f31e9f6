/-
  What the document's own World, conj, Seven and Near tell, for any two numbers and any size, in whatever memory.
-/
import Derived.Test.YtlipbdiijjfheaaGreatDoorRefBeta
import Derived.Test.YtlipbdiijjfheaaGreatDoorRefPow
import Derived.Test.YtlipbdiijjfheaaGreatDoorRefRound
import Derived.Test.YtlipbdiijjfheaaGreatDoorESmall
import Derived.Test.YtlipbdiijjfheaaGreatDoorPlaneMath
namespace Go.Proofs.YtlipbdiijjfheaaGreatDoor
open Go.RowKit

set_option maxHeartbeats 400000 in
theorem rworld_yes (x y : Int) (h1 : 0 ≤ x) (h2 : x < 1073741824) (h3 : 0 ≤ y) (h4 : y < 1073741824) (w : World) :
    Calls Tryz.prog 71 #[.int .i64 x, .int .i64 y] w fun e w' => e = .returned (.bool true) ∧ w' = w := by
  go_enter Tryz.func71, Tryz.ntmps71
  go_wp2
  go_ret
  exact ⟨rfl, rfl⟩
set_option maxHeartbeats 400000 in
theorem rworld_no1 (x y : Int) (h1 : decide (0 ≤ x) = false) (w : World) :
    Calls Tryz.prog 71 #[.int .i64 x, .int .i64 y] w fun e w' => e = .returned (.bool false) ∧ w' = w := by
  go_enter Tryz.func71, Tryz.ntmps71
  go_wp2
  go_ret
  exact ⟨rfl, rfl⟩
set_option maxHeartbeats 400000 in
theorem rworld_no2 (x y : Int) (h1 : 0 ≤ x) (h2 : decide (x < 1073741824) = false) (w : World) :
    Calls Tryz.prog 71 #[.int .i64 x, .int .i64 y] w fun e w' => e = .returned (.bool false) ∧ w' = w := by
  go_enter Tryz.func71, Tryz.ntmps71
  go_wp2
  go_ret
  exact ⟨rfl, rfl⟩
set_option maxHeartbeats 400000 in
theorem rworld_no3 (x y : Int) (h1 : 0 ≤ x) (h2 : x < 1073741824) (h3 : decide (0 ≤ y) = false) (w : World) :
    Calls Tryz.prog 71 #[.int .i64 x, .int .i64 y] w fun e w' => e = .returned (.bool false) ∧ w' = w := by
  go_enter Tryz.func71, Tryz.ntmps71
  go_wp2
  go_ret
  exact ⟨rfl, rfl⟩
set_option maxHeartbeats 400000 in
theorem rworld_no4 (x y : Int) (h1 : 0 ≤ x) (h2 : x < 1073741824) (h3 : 0 ≤ y) (h4 : decide (y < 1073741824) = false) (w : World) :
    Calls Tryz.prog 71 #[.int .i64 x, .int .i64 y] w fun e w' => e = .returned (.bool false) ∧ w' = w := by
  go_enter Tryz.func71, Tryz.ntmps71
  go_wp2
  go_ret
  exact ⟨rfl, rfl⟩
theorem rworld_any (x y : Int) (w : World) :
    Calls Tryz.prog 71 #[.int .i64 x, .int .i64 y] w fun e w' => e = .returned (.bool (inWB x y)) ∧ w' = w := by
  by_cases h1 : 0 ≤ x
  · by_cases h2 : x < 1073741824
    · by_cases h3 : 0 ≤ y
      · by_cases h4 : y < 1073741824
        · rw [inWB_mk ⟨h1, h2, h3, h4⟩]; exact rworld_yes x y h1 h2 h3 h4 w
        · rw [inWB_not fun h => h4 h.2.2.2]; exact rworld_no4 x y h1 h2 h3 (df h4) w
      · rw [inWB_not fun h => h3 h.2.2.1]; exact rworld_no3 x y h1 h2 (df h3) w
    · rw [inWB_not fun h => h2 h.2.1]; exact rworld_no2 x y h1 (df h2) w
  · rw [inWB_not fun h => h1 h.1]; exact rworld_no1 x y (df h1) w

set_option maxHeartbeats 1000000 in
theorem rconj_core (k X Y c d : Int) (hc : X + Y = c) (hd : -Y = d) (X1 : -262144 ≤ X) (X2 : X ≤ 262144) (Y1 : -262144 ≤ Y) (Y2 : Y ≤ 262144)
    (BE : ∀ w, Calls Tryz.prog 98 #[.int .i64 k] w fun e w' => e = .returned (.tuple #[.agg #[.int .i64 X, .int .i64 Y], .bool true]) ∧ Below w.heap.size w w') (w : World) :
    Calls Tryz.prog 72 #[.int .i64 k] w fun e w' => e = .returned (.agg #[.int .i64 c, .int .i64 d]) ∧ Below w.heap.size w w' := by
  replace BE : Hid _ := BE
  subst hc hd
  go_enter Tryz.func72, Tryz.ntmps72
  go_wp2_with fail
  refine (BE.out _).mono ?_
  rintro e w1 ⟨rfl, d1⟩
  have c1 : Below w.heap.size w w1 := Below.trans (by go_grown) (d1.mono (by simp; try omega))
  have r0 : w1.cell? ⟨w.heap.size, 0, none⟩ = some (.int .i64 0) := keepCell d1 (by go_simp)
  have fr0 : w1.frozen? ⟨w.heap.size, 0, none⟩ = false := keepFrozen (v := .int .i64 0) d1 (by go_simp) (by go_simp)
  have qr0 := World.block_lt_of_cell? _ _ r0
  have r1 : w1.cell? ⟨w.heap.size, 1, none⟩ = some (.int .i64 0) := keepCell d1 (by go_simp)
  have fr1 : w1.frozen? ⟨w.heap.size, 1, none⟩ = false := keepFrozen (v := .int .i64 0) d1 (by go_simp) (by go_simp)
  have hB := c1
  clear c1 d1
  have n1 : ¬ w1.heap.size = w.heap.size := Nat.ne_of_gt qr0
  obtain ⟨g0, g1⟩ := two_stores (u := .int .i64 (X + Y)) (v := .int .i64 (-Y)) r0 r1
  have e0 := keepCell (allocB _ (.cells #[.int .i64 X, .int .i64 Y] 32)) g0
  have e1 := keepCell (allocB _ (.cells #[.int .i64 X, .int .i64 Y] 32)) g1
  go_wp2
  exact bodyPost_ret (v := .agg #[.int .i64 (X + Y), .int .i64 (-Y)]) (by simp [results, Tryz.results72, go_sem, e0, e1]) rfl ⟨rfl, ((hB.setCell (by simp) _).setCell (by simp) _).alloc (by simp; omega) _⟩
theorem rconj_any (K : Nat) (hK : K ≤ 12) (w : World) :
    Calls Tryz.prog 72 #[.int .i64 (K : Int)] w fun e w' => e = .returned (.agg #[.int .i64 (cjA K), .int .i64 (cjB K)]) ∧ Below w.heap.size w w' := by
  have hb := bet_small hK
  exact rconj_core K _ _ (cjA K) (cjB K) rfl rfl (by omega) (by omega) (by omega) (by omega) (refbeta_yes K (by omega)) w

set_option maxHeartbeats 400000 in
theorem rseven_any (K : Nat) (hK : K ≤ 12) (w : World) :
    Calls Tryz.prog 69 #[.int .i64 (K : Int)] w fun e w' => e = .returned (.int .i64 (sev K)) ∧ Below w.heap.size w w' := by
  have h : Hid (∀ w, Calls Tryz.prog 95 #[.int .i64 7, .int .i64 (K : Int)] w fun e w' => e = .returned (.tuple #[.int .i64 (sev K), .bool true]) ∧ Below w.heap.size w w') := by
    have h := refpow_any 7 K (by omega) (by omega) (by omega)
    have hs := sev_box hK
    have hf : fits ((7 : Int) ^ K) = true := by rw [← sev_pow hK]; exact fits_mk ⟨by omega, by omega⟩
    rw [kept_mk hf, hf, ← sev_pow hK] at h
    exact h
  generalize sev K = S at h
  go_enter Tryz.func69, Tryz.ntmps69
  go_wp2_with fail
  refine (h.out _).mono ?_
  rintro e w1 ⟨rfl, d1⟩
  have c1 : Below w.heap.size w w1 := Below.trans (by go_grown) (d1.mono (by simp; try omega))
  have hB := c1
  clear c1 d1
  go_wp2
  go_ret
  exact ⟨rfl, hB⟩

set_option maxHeartbeats 2000000 in
theorem rnear_core (x y r u v c d N A B : Int) (P : Int → Int → Prop) (x1 : 0 ≤ x) (x2 : x < 1073741824) (y1 : 0 ≤ y) (y2 : y < 1073741824) (r1 : 0 ≤ r) (r2 : r ≤ 12) (hu : 45 * x - 26 * y = u) (hv : 52 * y = v) (N1 : 1 ≤ N) (N2 : N ≤ 13841287201)
    (WO : ∀ w, Calls Tryz.prog 71 #[.int .i64 x, .int .i64 y] w fun e w' => e = .returned (.bool true) ∧ w' = w)
    (CJ : ∀ w, Calls Tryz.prog 72 #[.int .i64 (12 - r)] w fun e w' => e = .returned (.agg #[.int .i64 c, .int .i64 d]) ∧ Below w.heap.size w w')
    (MU : ∀ w, Calls Tryz.prog 35 #[.agg #[.int .i64 u, .int .i64 v], .agg #[.int .i64 c, .int .i64 d]] w fun e w' => e = .returned (.tuple #[.agg #[.int .i64 A, .int .i64 B], .bool true]) ∧ Below w.heap.size w w')
    (SV : ∀ w, Calls Tryz.prog 69 #[.int .i64 (12 - r)] w fun e w' => e = .returned (.int .i64 N) ∧ Below w.heap.size w w')
    (RO : ∀ w, Calls Tryz.prog 70 #[.agg #[.int .i64 A, .int .i64 B], .int .i64 (2340 * N)] w fun e w' => TellsP P e ∧ Below w.heap.size w w')
    (w : World) :
    Calls Tryz.prog 46 #[.int .i64 x, .int .i64 y, .int .i64 r] w fun e w' => TellsP P e ∧ Below w.heap.size w w' := by
  have SV2 : Hid (∀ w, Calls Tryz.prog 69 #[.int .i64 (IntKind.i64.wrap (12 - r))] w fun e w' => e = .returned (.int .i64 N) ∧ Below w.heap.size w w') := by
    rw [IntWalk.i64_left, wrap_fits ⟨by omega, by omega⟩]; exact SV
  have RO2 : Hid (∀ w, Calls Tryz.prog 70 #[.agg #[.int .i64 A, .int .i64 B], .int .i64 (IntKind.i64.wrap (2340 * N))] w fun e w' => TellsP P e ∧ Below w.heap.size w w') := by
    rw [IntWalk.i64_left, wrap_fits ⟨by omega, by omega⟩]; exact RO
  replace WO : Hid _ := WO
  replace CJ : Hid _ := CJ
  replace MU : Hid _ := MU
  replace SV : Hid _ := SV
  replace RO : Hid _ := RO
  go_enter Tryz.func46, Tryz.ntmps46
  go_wp2_with fail
  refine (WO.out _).mono ?_
  rintro e w0 ⟨rfl, rfl⟩
  go_wp2_with fail
  refine (CJ.out _).mono ?_
  rintro e w1 ⟨rfl, d1⟩
  have c1 : Below w.heap.size w w1 := Below.trans (by go_grown) (d1.mono (by simp; try omega))
  have p0 : w1.cell? ⟨w.heap.size, 0, none⟩ = some (.int .i64 0) := keepCell d1 (by go_simp)
  have fp0 : w1.frozen? ⟨w.heap.size, 0, none⟩ = false := keepFrozen (v := .int .i64 0) d1 (by go_simp) (by go_simp)
  have qp0 := World.block_lt_of_cell? _ _ p0
  have p1 : w1.cell? ⟨w.heap.size, 1, none⟩ = some (.int .i64 0) := keepCell d1 (by go_simp)
  have fp1 : w1.frozen? ⟨w.heap.size, 1, none⟩ = false := keepFrozen (v := .int .i64 0) d1 (by go_simp) (by go_simp)
  have hB := c1
  clear c1 d1
  go_wp2_with fail
  refine (MU.out _).mono ?_
  rintro e w2 ⟨rfl, d2⟩
  have c2 : Below w1.heap.size w1 w2 := Below.trans (by go_grown) (d2.mono (by simp; try omega))
  replace fp0 := keepFrozen c2 p0 fp0
  replace p0 := keepCell c2 p0
  replace qp0 := World.block_lt_of_cell? _ _ p0
  replace fp1 := keepFrozen c2 p1 fp1
  replace p1 := keepCell c2 p1
  replace hB := belowT hB c2
  clear c2 d2
  have n2 : ¬ w2.heap.size = w.heap.size := Nat.ne_of_gt qp0
  go_wp2_with fail
  have hk := allocB w2 (.cells #[.int .i64 A, .int .i64 B] 32)
  have q0 : (w2.alloc (.cells #[.int .i64 A, .int .i64 B] 32)).cell? ⟨w2.heap.size, 0, none⟩ = some (.int .i64 A) := by go_simp
  have q1 : (w2.alloc (.cells #[.int .i64 A, .int .i64 B] 32)).cell? ⟨w2.heap.size, 1, none⟩ = some (.int .i64 B) := by go_simp
  replace fp0 := keepFrozen hk p0 fp0
  replace fp1 := keepFrozen hk p1 fp1
  replace p0 := keepCell hk p0
  replace p1 := keepCell hk p1
  replace hB := belowT hB hk
  clear hk qp0
  generalize hwc : w2.alloc (.cells #[.int .i64 A, .int .i64 B] 32) = wc at *
  clear hwc
  have hS0 := keepHeld (drewB wc) ⟨q0, q1, q0, q1, slot_of p0, slot_of p1, q0, q1, fp0, fp1, hB⟩
  go_region_held3 (fun w' => w'.cell? ⟨w2.heap.size, 0, none⟩ = some (.int .i64 A) ∧ w'.cell? ⟨w2.heap.size, 1, none⟩ = some (.int .i64 B) ∧ w'.cell? ⟨w2.heap.size, 0, none⟩ = some (.int .i64 A) ∧ w'.cell? ⟨w2.heap.size, 1, none⟩ = some (.int .i64 B) ∧ w'.cell? ⟨w.heap.size, 0, none⟩ = some (.int .i64 (slotInt w' ⟨w.heap.size, 0, none⟩)) ∧ w'.cell? ⟨w.heap.size, 1, none⟩ = some (.int .i64 (slotInt w' ⟨w.heap.size, 1, none⟩)) ∧ w'.cell? ⟨w2.heap.size, 0, none⟩ = some (.int .i64 A) ∧ w'.cell? ⟨w2.heap.size, 1, none⟩ = some (.int .i64 B) ∧ w'.frozen? ⟨w.heap.size, 0, none⟩ = false ∧ w'.frozen? ⟨w.heap.size, 1, none⟩ = false ∧ Below w.heap.size w w') (first | exact hS0 | exact keepHeld hb (by assumption) | exact keepStore (by simp; try omega) (by simp; try omega) (by simp; try omega) (by simp; try omega) (by simp; try omega) (by simp; try omega) rfl (by simp) (by simp; try omega) (by assumption))
    (first | (go_at_call 69; (first | with_reducible refine (SV.out _).mono ?_ | with_reducible refine (SV2.out _).mono ?_); rintro e w' ⟨rfl, hb⟩) | (go_at_call 70; (first | with_reducible refine (RO.out _).mono ?_ | with_reducible refine (RO2.out _).mono ?_); rintro e w' ⟨⟨a, b, rfl, hn⟩, hb⟩))
  go_wp2
  rename_i wA bA hS
  obtain ⟨g0, g1⟩ := two_stores (u := .int .i64 a) (v := .int .i64 b) (keepCell hb (keepCell bA (keepCell (drewB wc) p0))) (keepCell hb (keepCell bA (keepCell (drewB wc) p1)))
  exact bodyPost_ret (v := .tuple #[.agg #[.int .i64 a, .int .i64 b], .bool true]) (by simp [results, Tryz.results46, go_sem, g0, g1]) rfl ⟨⟨a, b, rfl, hn⟩, hS.2.2.2.2.2.2.2.2.2.2⟩
/-- NEAR, as the document's own answer has it, of a point and a size. -/
theorem rnear_see (x y r : Int) (K : Nat) (hK : K ≤ 12) (hr : 12 - r = (K : Int)) (hw : InW x y) (w : World) :
    Calls Tryz.prog 46 #[.int .i64 x, .int .i64 y, .int .i64 r] w fun e w' => TellsP (Nearest (dvK K) (nuA K x y) (nuB K x y)) e ∧ Below w.heap.size w w' := by
  have hs := sev_box hK
  have hd := dvK_box hK
  have hb := bet_small hK
  have hu := nu_box hK hw
  obtain ⟨x1, x2, y1, y2⟩ := id hw
  have eA : mulA (45 * x - 26 * y) (52 * y) (cjA K) (cjB K) = nuA K x y := by unfold mulA nuA; omega
  have MU := refmul_yes (45 * x - 26 * y) (52 * y) (cjA K) (cjB K) (by omega) (by omega) (by omega) (by omega) (by omega) (by omega) (by omega) (by omega) (by rw [eA]; exact fits_mk ⟨by omega, by omega⟩) (fits_mk ⟨by show _ ≤ nuB K x y; omega, by show nuB K x y ≤ _; omega⟩)
  rw [eA] at MU
  exact rnear_core x y r _ _ (cjA K) (cjB K) (sev K) (nuA K x y) (nuB K x y) _ x1 x2 y1 y2 (by omega) (by omega) rfl rfl hs.1 hs.2 (rworld_yes x y x1 x2 y1 y2)
    (by rw [hr]; exact rconj_any K hK) MU (by rw [hr]; exact rseven_any K hK)
    (refround_see _ _ _ (by omega) (by omega) (by omega) (by omega) hd.1 hd.2) w
theorem rnear_at (x y r : Int) (K : Nat) (hK : K ≤ 12) (hr : 12 - r = (K : Int)) (hw : InW x y) (a b : Int) (hn : Nearest (dvK K) (nuA K x y) (nuB K x y) a b) (w : World) :
    Calls Tryz.prog 46 #[.int .i64 x, .int .i64 y, .int .i64 r] w fun e w' => e = .returned (.tuple #[.agg #[.int .i64 a, .int .i64 b], .bool true]) ∧ Below w.heap.size w w' := by
  refine (rnear_see x y r K hK hr hw w).mono ?_
  rintro e w' ⟨⟨a', b', rfl, hn'⟩, hb⟩
  obtain ⟨rfl, rfl⟩ := nearest_one hn hn'
  exact ⟨rfl, hb⟩

set_option maxHeartbeats 1000000 in
theorem rnear_world (x y r : Int) (h : inWB x y = false) (w : World) :
    Calls Tryz.prog 46 #[.int .i64 x, .int .i64 y, .int .i64 r] w fun e w' => e = .returned (.tuple #[.agg #[.int .i64 0, .int .i64 0], .bool false]) ∧ Below w.heap.size w w' := by
  have WO : Hid (∀ w, Calls Tryz.prog 71 #[.int .i64 x, .int .i64 y] w fun e w' => e = .returned (.bool false) ∧ w' = w) := fun w => by rw [← h]; exact rworld_any x y w
  clear h
  go_enter Tryz.func46, Tryz.ntmps46
  go_wp2_with fail
  refine (WO.out _).mono ?_
  rintro e w0 ⟨rfl, rfl⟩
  go_wp2
  exact bodyPost_ret (v := .tuple #[.agg #[.int .i64 0, .int .i64 0], .bool false]) (by simp [results, Tryz.results46, go_sem]) rfl ⟨rfl, by go_grown⟩
set_option maxHeartbeats 1000000 in
theorem rnear_below (x y r : Int) (hw : InW x y) (h : r < 0) (w : World) :
    Calls Tryz.prog 46 #[.int .i64 x, .int .i64 y, .int .i64 r] w fun e w' => e = .returned (.tuple #[.agg #[.int .i64 0, .int .i64 0], .bool false]) ∧ Below w.heap.size w w' := by
  have WO : Hid (∀ w, Calls Tryz.prog 71 #[.int .i64 x, .int .i64 y] w fun e w' => e = .returned (.bool true) ∧ w' = w) := rworld_yes x y hw.1 hw.2.1 hw.2.2.1 hw.2.2.2
  clear hw
  go_enter Tryz.func46, Tryz.ntmps46
  go_wp2_with fail
  refine (WO.out _).mono ?_
  rintro e w0 ⟨rfl, rfl⟩
  go_wp2
  exact bodyPost_ret (v := .tuple #[.agg #[.int .i64 0, .int .i64 0], .bool false]) (by simp [results, Tryz.results46, go_sem]) rfl ⟨rfl, by go_grown⟩
set_option maxHeartbeats 1000000 in
theorem rnear_above (x y r : Int) (hw : InW x y) (h0 : decide (r < 0) = false) (h : 12 < r) (w : World) :
    Calls Tryz.prog 46 #[.int .i64 x, .int .i64 y, .int .i64 r] w fun e w' => e = .returned (.tuple #[.agg #[.int .i64 0, .int .i64 0], .bool false]) ∧ Below w.heap.size w w' := by
  have WO : Hid (∀ w, Calls Tryz.prog 71 #[.int .i64 x, .int .i64 y] w fun e w' => e = .returned (.bool true) ∧ w' = w) := rworld_yes x y hw.1 hw.2.1 hw.2.2.1 hw.2.2.2
  clear hw
  go_enter Tryz.func46, Tryz.ntmps46
  go_wp2_with fail
  refine (WO.out _).mono ?_
  rintro e w0 ⟨rfl, rfl⟩
  go_wp2
  exact bodyPost_ret (v := .tuple #[.agg #[.int .i64 0, .int .i64 0], .bool false]) (by simp [results, Tryz.results46, go_sem]) rfl ⟨rfl, by go_grown⟩
theorem rnear_no (x y r : Int) (h : ¬ (InW x y ∧ 0 ≤ r ∧ r ≤ 12)) (w : World) :
    Calls Tryz.prog 46 #[.int .i64 x, .int .i64 y, .int .i64 r] w fun e w' => e = .returned (.tuple #[.agg #[.int .i64 0, .int .i64 0], .bool false]) ∧ Below w.heap.size w w' := by
  by_cases hw : InW x y
  · by_cases h0 : r < 0
    · exact rnear_below x y r hw h0 w
    · exact rnear_above x y r hw (df h0) (by have : ¬ r ≤ 12 := fun h2 => h ⟨hw, by omega, h2⟩; omega) w
  · exact rnear_world x y r (inWB_not hw) w
end Go.Proofs.YtlipbdiijjfheaaGreatDoor
