/-
  What Add, Sub, Mul, Conj and Norm of package eisen tell, for any numbers of the lattice with parts of 64 bits, in whatever memory: the parts, where both fit, else nought and false.
-/
import Derived.Test.YtlipbdiijjfheaaGreatDoorEWide
import Derived.Test.YtlipbdiijjfheaaGreatDoorNumAny
import Derived.Deep.RegionHeld3
namespace Go.Proofs.YtlipbdiijjfheaaGreatDoor
open Go.RowKit

/-- Both parts fit. -/
def both (x y : Int) : Bool := fits x && fits y
/-- A part, where both fit; else nought. -/
def keptA (x y : Int) : Int := if both x y = true then x else 0
def keptB (x y : Int) : Int := if both x y = true then y else 0
theorem both_mk {x y : Int} (h : fits x = true) (k : fits y = true) : both x y = true := by unfold both; rw [h, k]; rfl
theorem keptA_mk {x y : Int} (h : both x y = true) : keptA x y = x := if_pos h
theorem keptB_mk {x y : Int} (h : both x y = true) : keptB x y = y := if_pos h
theorem keptA_no {x y : Int} (h : both x y = false) : keptA x y = 0 := by unfold keptA; rw [h]; rfl
theorem keptB_no {x y : Int} (h : both x y = false) : keptB x y = 0 := by unfold keptB; rw [h]; rfl
theorem kept_same {x : Int} (h : both x x = true) : fits x = true := by unfold both at h; simpa using h

set_option maxHeartbeats 400000 in
theorem joined_yes (x y : Int) (w : World) :
    Calls Tryz.prog 111 #[.int .i64 x, .bool true, .int .i64 y, .bool true] w fun e w' => e = .returned (.tuple #[.agg #[.int .i64 x, .int .i64 y], .bool true]) ∧ Below w.heap.size w w' := by
  go_enter Tryz.func111, Tryz.ntmps111
  go_wp2
  exact bodyPost_ret (v := .tuple #[.agg #[.int .i64 x, .int .i64 y], .bool true]) (by simp [results, Tryz.results111, go_sem]) rfl ⟨rfl, by go_grown⟩
set_option maxHeartbeats 400000 in
theorem joined_first (x y : Int) (b : Bool) (w : World) :
    Calls Tryz.prog 111 #[.int .i64 x, .bool false, .int .i64 y, .bool b] w fun e w' => e = .returned (.tuple #[.agg #[.int .i64 0, .int .i64 0], .bool false]) ∧ Below w.heap.size w w' := by
  go_enter Tryz.func111, Tryz.ntmps111
  go_wp2
  exact bodyPost_ret (v := .tuple #[.agg #[.int .i64 0, .int .i64 0], .bool false]) (by simp [results, Tryz.results111, go_sem]) rfl ⟨rfl, by go_grown⟩
set_option maxHeartbeats 400000 in
theorem joined_other (x y : Int) (w : World) :
    Calls Tryz.prog 111 #[.int .i64 x, .bool true, .int .i64 y, .bool false] w fun e w' => e = .returned (.tuple #[.agg #[.int .i64 0, .int .i64 0], .bool false]) ∧ Below w.heap.size w w' := by
  go_enter Tryz.func111, Tryz.ntmps111
  go_wp2
  exact bodyPost_ret (v := .tuple #[.agg #[.int .i64 0, .int .i64 0], .bool false]) (by simp [results, Tryz.results111, go_sem]) rfl ⟨rfl, by go_grown⟩
theorem joined_any (x y : Int) (w : World) :
    Calls Tryz.prog 111 #[.int .i64 (kept x), .bool (fits x), .int .i64 (kept y), .bool (fits y)] w fun e w' => e = .returned (.tuple #[.agg #[.int .i64 (keptA x y), .int .i64 (keptB x y)], .bool (both x y)]) ∧ Below w.heap.size w w' := by
  cases hx : fits x with
  | false =>
    have hb : both x y = false := by unfold both; rw [hx]; rfl
    rw [hb, keptA_no hb, keptB_no hb]; exact joined_first _ _ _ w
  | true =>
    cases hy : fits y with
    | false =>
      have hb : both x y = false := by unfold both; rw [hx, hy]; rfl
      rw [hb, keptA_no hb, keptB_no hb]; exact joined_other _ _ w
    | true =>
      have hb := both_mk hx hy
      rw [hb, keptA_mk hb, keptB_mk hb, kept_mk hx, kept_mk hy]; exact joined_yes _ _ w

set_option maxHeartbeats 400000 in
theorem eadd_any (a b c d : Int) (a1 : -9223372036854775808 ≤ a) (a2 : a ≤ 9223372036854775807) (b1 : -9223372036854775808 ≤ b) (b2 : b ≤ 9223372036854775807) (k1 : -9223372036854775808 ≤ c) (k2 : c ≤ 9223372036854775807) (d1 : -9223372036854775808 ≤ d) (d2 : d ≤ 9223372036854775807) (w : World) :
    Calls Tryz.prog 81 #[.agg #[.int .i64 a, .int .i64 b], .agg #[.int .i64 c, .int .i64 d]] w fun e w' => e = .returned (.tuple #[.agg #[.int .i64 (keptA (a + c) (b + d)), .int .i64 (keptB (a + c) (b + d))], .bool (both (a + c) (b + d))]) ∧ Below w.heap.size w w' := by
  go_enter Tryz.func81, Tryz.ntmps81
  go_wp2_with fail
  refine (add_any a c a1 a2 k1 k2 _).mono ?_
  rintro e w1 ⟨rfl, c1⟩
  obtain ⟨hc, hf⟩ := bcell c1
  go_wp2_with fail
  refine (add_any b d b1 b2 d1 d2 _).mono ?_
  rintro e w2 ⟨rfl, c2⟩
  replace c2 := belowT c1 c2
  clear c1 hc hf
  obtain ⟨hc, hf⟩ := bcell c2
  go_wp2_with fail
  refine (joined_any (a + c) (b + d) _).mono ?_
  rintro e w3 ⟨rfl, c3⟩
  replace c3 := belowT c2 c3
  clear c2 hc hf
  obtain ⟨hc, hf⟩ := bcell c3
  have e0 : w3.cell? ⟨w.heap.size + 1 + 1, 0, none⟩ = some (.int .i64 0) := by rw [hc _ _ (by simp)]; go_simp
  have e1 : w3.cell? ⟨w.heap.size + 1 + 1, 1, none⟩ = some (.int .i64 0) := by rw [hc _ _ (by simp)]; go_simp
  obtain ⟨g0, g1⟩ := two_stores (u := .int .i64 (keptA (a + c) (b + d))) (v := .int .i64 (keptB (a + c) (b + d))) e0 e1
  have hB : Below w.heap.size w w3 := Below.trans (by go_grown) (c3.mono (by simp; try omega))
  go_wp2
  exact bodyPost_ret (v := .tuple #[.agg #[.int .i64 (keptA (a + c) (b + d)), .int .i64 (keptB (a + c) (b + d))], .bool (both (a + c) (b + d))]) (by simp [results, Tryz.results81, go_sem, g0, g1]) rfl ⟨rfl, (hB.setCell (by simp; try omega) _).setCell (by simp; try omega) _⟩

set_option maxHeartbeats 400000 in
theorem esub_any (a b c d : Int) (a1 : -9223372036854775808 ≤ a) (a2 : a ≤ 9223372036854775807) (b1 : -9223372036854775808 ≤ b) (b2 : b ≤ 9223372036854775807) (k1 : -9223372036854775808 ≤ c) (k2 : c ≤ 9223372036854775807) (d1 : -9223372036854775808 ≤ d) (d2 : d ≤ 9223372036854775807) (w : World) :
    Calls Tryz.prog 123 #[.agg #[.int .i64 a, .int .i64 b], .agg #[.int .i64 c, .int .i64 d]] w fun e w' => e = .returned (.tuple #[.agg #[.int .i64 (keptA (a - c) (b - d)), .int .i64 (keptB (a - c) (b - d))], .bool (both (a - c) (b - d))]) ∧ Below w.heap.size w w' := by
  go_enter Tryz.func123, Tryz.ntmps123
  go_wp2_with fail
  refine (sub_any a c a1 a2 k1 k2 _).mono ?_
  rintro e w1 ⟨rfl, c1⟩
  obtain ⟨hc, hf⟩ := bcell c1
  go_wp2_with fail
  refine (sub_any b d b1 b2 d1 d2 _).mono ?_
  rintro e w2 ⟨rfl, c2⟩
  replace c2 := belowT c1 c2
  clear c1 hc hf
  obtain ⟨hc, hf⟩ := bcell c2
  go_wp2_with fail
  refine (joined_any (a - c) (b - d) _).mono ?_
  rintro e w3 ⟨rfl, c3⟩
  replace c3 := belowT c2 c3
  clear c2 hc hf
  obtain ⟨hc, hf⟩ := bcell c3
  have e0 : w3.cell? ⟨w.heap.size + 1 + 1, 0, none⟩ = some (.int .i64 0) := by rw [hc _ _ (by simp)]; go_simp
  have e1 : w3.cell? ⟨w.heap.size + 1 + 1, 1, none⟩ = some (.int .i64 0) := by rw [hc _ _ (by simp)]; go_simp
  obtain ⟨g0, g1⟩ := two_stores (u := .int .i64 (keptA (a - c) (b - d))) (v := .int .i64 (keptB (a - c) (b - d))) e0 e1
  have hB : Below w.heap.size w w3 := Below.trans (by go_grown) (c3.mono (by simp; try omega))
  go_wp2
  exact bodyPost_ret (v := .tuple #[.agg #[.int .i64 (keptA (a - c) (b - d)), .int .i64 (keptB (a - c) (b - d))], .bool (both (a - c) (b - d))]) (by simp [results, Tryz.results123, go_sem, g0, g1]) rfl ⟨rfl, (hB.setCell (by simp; try omega) _).setCell (by simp; try omega) _⟩

set_option maxHeartbeats 400000 in
theorem econj_any (a b : Int) (a1 : -9223372036854775808 ≤ a) (a2 : a ≤ 9223372036854775807) (b1 : -9223372036854775808 ≤ b) (b2 : b ≤ 9223372036854775807) (w : World) :
    Calls Tryz.prog 124 #[.agg #[.int .i64 a, .int .i64 b]] w fun e w' => e = .returned (.tuple #[.agg #[.int .i64 (keptA (a + b) (-b)), .int .i64 (keptB (a + b) (-b))], .bool (both (a + b) (-b))]) ∧ Below w.heap.size w w' := by
  go_enter Tryz.func124, Tryz.ntmps124
  go_wp2_with fail
  refine (add_any a b a1 a2 b1 b2 _).mono ?_
  rintro e w1 ⟨rfl, c1⟩
  obtain ⟨hc, hf⟩ := bcell c1
  go_wp2_with fail
  refine (neg_any b b1 b2 _).mono ?_
  rintro e w2 ⟨rfl, c2⟩
  replace c2 := belowT c1 c2
  clear c1 hc hf
  obtain ⟨hc, hf⟩ := bcell c2
  go_wp2_with fail
  refine (joined_any (a + b) (-b) _).mono ?_
  rintro e w3 ⟨rfl, c3⟩
  replace c3 := belowT c2 c3
  clear c2 hc hf
  obtain ⟨hc, hf⟩ := bcell c3
  have e0 : w3.cell? ⟨w.heap.size + 1, 0, none⟩ = some (.int .i64 0) := by rw [hc _ _ (by simp)]; go_simp
  have e1 : w3.cell? ⟨w.heap.size + 1, 1, none⟩ = some (.int .i64 0) := by rw [hc _ _ (by simp)]; go_simp
  obtain ⟨g0, g1⟩ := two_stores (u := .int .i64 (keptA (a + b) (-b))) (v := .int .i64 (keptB (a + b) (-b))) e0 e1
  have hB : Below w.heap.size w w3 := Below.trans (by go_grown) (c3.mono (by simp; try omega))
  go_wp2
  exact bodyPost_ret (v := .tuple #[.agg #[.int .i64 (keptA (a + b) (-b)), .int .i64 (keptB (a + b) (-b))], .bool (both (a + b) (-b))]) (by simp [results, Tryz.results124, go_sem, g0, g1]) rfl ⟨rfl, (hB.setCell (by simp; try omega) _).setCell (by simp; try omega) _⟩

theorem prod126 {a b : Int} (a1 : -9223372036854775808 ≤ a) (a2 : a ≤ 9223372036854775807) (b1 : -9223372036854775808 ≤ b) (b2 : b ≤ 9223372036854775807) :
    -85070591730234615865843651857942052864 ≤ a * b ∧ a * b ≤ 85070591730234615865843651857942052864 := by
  have h : (a * b).natAbs ≤ 9223372036854775808 * 9223372036854775808 := by
    rw [Int.natAbs_mul]; exact Nat.mul_le_mul (by omega) (by omega)
  omega

theorem drewB (w : World) : Below w.heap.size w w.drew := (Below.refl _ _).drew
theorem keepEight {w0 a b : World} {p0 p1 p2 p3 p4 p5 p6 p7 : Addr} {v0 v1 v2 v3 v4 v5 v6 v7 : Value} (hb : Below a.heap.size a b)
    (h : a.cell? p0 = some v0 ∧ a.cell? p1 = some v1 ∧ a.cell? p2 = some v2 ∧ a.cell? p3 = some v3 ∧ a.cell? p4 = some v4 ∧ a.cell? p5 = some v5 ∧ a.cell? p6 = some v6 ∧ a.cell? p7 = some v7 ∧ a.frozen? p4 = false ∧ a.frozen? p5 = false ∧ Below w0.heap.size w0 a) :
    b.cell? p0 = some v0 ∧ b.cell? p1 = some v1 ∧ b.cell? p2 = some v2 ∧ b.cell? p3 = some v3 ∧ b.cell? p4 = some v4 ∧ b.cell? p5 = some v5 ∧ b.cell? p6 = some v6 ∧ b.cell? p7 = some v7 ∧ b.frozen? p4 = false ∧ b.frozen? p5 = false ∧ Below w0.heap.size w0 b := by
  obtain ⟨h0, h1, h2, h3, h4, h5, h6, h7, f4, f5, hw⟩ := h
  exact ⟨keepCell hb h0, keepCell hb h1, keepCell hb h2, keepCell hb h3, keepCell hb h4, keepCell hb h5, keepCell hb h6, keepCell hb h7, keepFrozen hb h4 f4, keepFrozen hb h5 f5, belowT hw hb⟩

set_option maxHeartbeats 4000000 in
theorem emul_any (a b c d : Int) (a1 : -9223372036854775808 ≤ a) (a2 : a ≤ 9223372036854775807) (b1 : -9223372036854775808 ≤ b) (b2 : b ≤ 9223372036854775807) (k1 : -9223372036854775808 ≤ c) (k2 : c ≤ 9223372036854775807) (d1 : -9223372036854775808 ≤ d) (d2 : d ≤ 9223372036854775807) (w : World) :
    Calls Tryz.prog 80 #[.agg #[.int .i64 a, .int .i64 b], .agg #[.int .i64 c, .int .i64 d]] w fun e w' => e = .returned (.tuple #[.agg #[.int .i64 (keptA (a * c - b * d) (a * d + b * c + b * d)), .int .i64 (keptB (a * c - b * d) (a * d + b * c + b * d))], .bool (both (a * c - b * d) (a * d + b * c + b * d))]) ∧ Below w.heap.size w w' := by
  have p1 := prod126 a1 a2 k1 k2
  have p2 := prod126 b1 b2 d1 d2
  have p3 := prod126 a1 a2 d1 d2
  have p4 := prod126 b1 b2 k1 k2
  have N1 : Hid (∀ w, Calls Tryz.prog 109 #[.agg #[.int .u64 (high64 (a * c - b * d)), .int .u64 (low64 (a * c - b * d))]] w fun e w' => e = .returned (.tuple #[.int .i64 (kept (a * c - b * d)), .bool (fits (a * c - b * d))]) ∧ Below w.heap.size w w') := fun w => enarrow_any _ (by omega) (by omega) w
  have N2 : Hid (∀ w, Calls Tryz.prog 109 #[.agg #[.int .u64 (high64 (a * d + b * c + b * d)), .int .u64 (low64 (a * d + b * c + b * d))]] w fun e w' => e = .returned (.tuple #[.int .i64 (kept (a * d + b * c + b * d)), .bool (fits (a * d + b * c + b * d))]) ∧ Below w.heap.size w w') := fun w => enarrow_any _ (by omega) (by omega) w
  clear p1 p2 p3 p4
  go_enter Tryz.func80, Tryz.ntmps80
  go_wp2_with fail
  refine (eproduct_any b d b1 b2 d1 d2 _).mono ?_
  rintro e w1 ⟨rfl, c1⟩
  obtain ⟨hc, hf⟩ := bcell c1
  have z1 : w.heap.size + 1 + 1 < w1.heap.size := by have := c1.size; simp at this; omega
  have hbw : Below w.heap.size w (w1.alloc (.cells #[.int .u64 (high64 (b * d)), .int .u64 (low64 (b * d))] 152)).drew := ((Below.trans (by go_grown) (c1.mono (by simp; omega))).alloc (by omega) _).drew
  have hx : Below w1.heap.size w1 (w1.alloc (.cells #[.int .u64 (high64 (b * d)), .int .u64 (low64 (b * d))] 152)).drew := ((Below.refl _ _).alloc (Nat.le_refl _) _).drew
  have k0' : w1.cell? ⟨w.heap.size, 0, none⟩ = some (.int .i64 a) := by rw [hc _ _ (by simp; try omega)]; go_simp
  have s0 : (w1.alloc (.cells #[.int .u64 (high64 (b * d)), .int .u64 (low64 (b * d))] 152)).drew.cell? ⟨w.heap.size, 0, none⟩ = some (.int .i64 a) := keepCell hx k0'
  have k1' : w1.cell? ⟨w.heap.size, 1, none⟩ = some (.int .i64 b) := by rw [hc _ _ (by simp; try omega)]; go_simp
  have s1 : (w1.alloc (.cells #[.int .u64 (high64 (b * d)), .int .u64 (low64 (b * d))] 152)).drew.cell? ⟨w.heap.size, 1, none⟩ = some (.int .i64 b) := keepCell hx k1'
  have k2' : w1.cell? ⟨w.heap.size + 1, 0, none⟩ = some (.int .i64 c) := by rw [hc _ _ (by simp; try omega)]; go_simp
  have s2 : (w1.alloc (.cells #[.int .u64 (high64 (b * d)), .int .u64 (low64 (b * d))] 152)).drew.cell? ⟨w.heap.size + 1, 0, none⟩ = some (.int .i64 c) := keepCell hx k2'
  have k3' : w1.cell? ⟨w.heap.size + 1, 1, none⟩ = some (.int .i64 d) := by rw [hc _ _ (by simp; try omega)]; go_simp
  have s3 : (w1.alloc (.cells #[.int .u64 (high64 (b * d)), .int .u64 (low64 (b * d))] 152)).drew.cell? ⟨w.heap.size + 1, 1, none⟩ = some (.int .i64 d) := keepCell hx k3'
  have k4' : w1.cell? ⟨w.heap.size + 1 + 1, 0, none⟩ = some (.int .i64 0) := by rw [hc _ _ (by simp; try omega)]; go_simp
  have s4 : (w1.alloc (.cells #[.int .u64 (high64 (b * d)), .int .u64 (low64 (b * d))] 152)).drew.cell? ⟨w.heap.size + 1 + 1, 0, none⟩ = some (.int .i64 0) := keepCell hx k4'
  have k5' : w1.cell? ⟨w.heap.size + 1 + 1, 1, none⟩ = some (.int .i64 0) := by rw [hc _ _ (by simp; try omega)]; go_simp
  have s5 : (w1.alloc (.cells #[.int .u64 (high64 (b * d)), .int .u64 (low64 (b * d))] 152)).drew.cell? ⟨w.heap.size + 1 + 1, 1, none⟩ = some (.int .i64 0) := keepCell hx k5'
  have f4' : w1.frozen? ⟨w.heap.size + 1 + 1, 0, none⟩ = false := by rw [hf _ _ (by simp; try omega)]; go_simp
  have f4 : (w1.alloc (.cells #[.int .u64 (high64 (b * d)), .int .u64 (low64 (b * d))] 152)).drew.frozen? ⟨w.heap.size + 1 + 1, 0, none⟩ = false := keepFrozen hx k4' f4'
  have f5' : w1.frozen? ⟨w.heap.size + 1 + 1, 1, none⟩ = false := by rw [hf _ _ (by simp; try omega)]; go_simp
  have f5 : (w1.alloc (.cells #[.int .u64 (high64 (b * d)), .int .u64 (low64 (b * d))] 152)).drew.frozen? ⟨w.heap.size + 1 + 1, 1, none⟩ = false := keepFrozen hx k5' f5'
  have s6 : (w1.alloc (.cells #[.int .u64 (high64 (b * d)), .int .u64 (low64 (b * d))] 152)).drew.cell? ⟨w1.heap.size, 0, none⟩ = some (.int .u64 (high64 (b * d))) := by go_simp
  have s7 : (w1.alloc (.cells #[.int .u64 (high64 (b * d)), .int .u64 (low64 (b * d))] 152)).drew.cell? ⟨w1.heap.size, 1, none⟩ = some (.int .u64 (low64 (b * d))) := by go_simp
  clear k0' k1' k2' k3' k4' k5' f4' f5' hc hf hx
  go_wp2_with fail
  go_region_held3 (fun w' => w'.cell? ⟨w.heap.size, 0, none⟩ = some (.int .i64 a) ∧ w'.cell? ⟨w.heap.size, 1, none⟩ = some (.int .i64 b) ∧ w'.cell? ⟨w.heap.size + 1, 0, none⟩ = some (.int .i64 c) ∧ w'.cell? ⟨w.heap.size + 1, 1, none⟩ = some (.int .i64 d) ∧ w'.cell? ⟨w.heap.size + 1 + 1, 0, none⟩ = some (.int .i64 0) ∧ w'.cell? ⟨w.heap.size + 1 + 1, 1, none⟩ = some (.int .i64 0) ∧ w'.cell? ⟨w1.heap.size, 0, none⟩ = some (.int .u64 (high64 (b * d))) ∧ w'.cell? ⟨w1.heap.size, 1, none⟩ = some (.int .u64 (low64 (b * d))) ∧ w'.frozen? ⟨w.heap.size + 1 + 1, 0, none⟩ = false ∧ w'.frozen? ⟨w.heap.size + 1 + 1, 1, none⟩ = false ∧ Below w.heap.size w w') (first | exact ⟨s0, s1, s2, s3, s4, s5, s6, s7, f4, f5, hbw⟩ | exact keepEight hb (by assumption))
    (first | (go_at_call 107; refine (eproduct_any _ _ (by assumption) (by assumption) (by assumption) (by assumption) _).mono ?_; rintro e w' ⟨rfl, hb⟩) | (go_at_call 108; refine (eminus_any _ _ _).mono ?_; rintro e w' ⟨rfl, hb⟩) | (go_at_call 109; refine (N1.out _).mono ?_; rintro e w' ⟨rfl, hb⟩))
  rename_i hH
  clear s0 s1 s2 s3 s4 s5 s6 s7 f4 f5 hbw N1
  go_wp2_with fail
  go_region_held3 (fun w' => w'.cell? ⟨w.heap.size, 0, none⟩ = some (.int .i64 a) ∧ w'.cell? ⟨w.heap.size, 1, none⟩ = some (.int .i64 b) ∧ w'.cell? ⟨w.heap.size + 1, 0, none⟩ = some (.int .i64 c) ∧ w'.cell? ⟨w.heap.size + 1, 1, none⟩ = some (.int .i64 d) ∧ w'.cell? ⟨w.heap.size + 1 + 1, 0, none⟩ = some (.int .i64 0) ∧ w'.cell? ⟨w.heap.size + 1 + 1, 1, none⟩ = some (.int .i64 0) ∧ w'.cell? ⟨w1.heap.size, 0, none⟩ = some (.int .u64 (high64 (b * d))) ∧ w'.cell? ⟨w1.heap.size, 1, none⟩ = some (.int .u64 (low64 (b * d))) ∧ w'.frozen? ⟨w.heap.size + 1 + 1, 0, none⟩ = false ∧ w'.frozen? ⟨w.heap.size + 1 + 1, 1, none⟩ = false ∧ Below w.heap.size w w') (first | exact keepEight hb (by assumption) | exact keepEight (drewB _) (by assumption))
    (first | (go_at_call 107; refine (eproduct_any _ _ (by assumption) (by assumption) (by assumption) (by assumption) _).mono ?_; rintro e w' ⟨rfl, hb⟩) | (go_at_call 110; refine (eplus_any _ _ _).mono ?_; rintro e w' ⟨rfl, hb⟩) | (go_at_call 109; refine (N2.out _).mono ?_; rintro e w' ⟨rfl, hb⟩))
  rename_i hH
  go_wp2_with fail
  refine (joined_any (a * c - b * d) (a * d + b * c + b * d) _).mono ?_
  rintro e w9 ⟨rfl, c9⟩
  obtain ⟨-, -, -, -, e0, e1, -, -, f0, f1, hB⟩ := keepEight c9 hH
  obtain ⟨g0, g1⟩ := two_stores (u := .int .i64 (keptA (a * c - b * d) (a * d + b * c + b * d))) (v := .int .i64 (keptB (a * c - b * d) (a * d + b * c + b * d))) e0 e1
  go_wp2
  exact bodyPost_ret (v := .tuple #[.agg #[.int .i64 (keptA (a * c - b * d) (a * d + b * c + b * d)), .int .i64 (keptB (a * c - b * d) (a * d + b * c + b * d))], .bool (both (a * c - b * d) (a * d + b * c + b * d))]) (by simp [results, Tryz.results80, go_sem, g0, g1]) rfl ⟨rfl, (hB.setCell (by simp; try omega) _).setCell (by simp; try omega) _⟩
theorem keepTwo {w0 a b : World} {p0 p1 : Addr} {v0 v1 : Value} (hb : Below a.heap.size a b) (h : a.cell? p0 = some v0 ∧ a.cell? p1 = some v1 ∧ Below w0.heap.size w0 a) :
    b.cell? p0 = some v0 ∧ b.cell? p1 = some v1 ∧ Below w0.heap.size w0 b := ⟨keepCell hb h.1, keepCell hb h.2.1, belowT h.2.2 hb⟩
end Go.Proofs.YtlipbdiijjfheaaGreatDoor
