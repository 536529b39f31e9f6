/-
  What the document's own product and Norm on the lattice tell, for any numbers of 64 bits, in whatever memory.
-/
import Derived.Test.YtlipbdiijjfheaaGreatDoorRefE
import Derived.Test.YtlipbdiijjfheaaGreatDoorBetMath
import Derived.Deep.RegionHeld3
namespace Go.Proofs.YtlipbdiijjfheaaGreatDoor
open Go.RowKit

theorem prod_box (a b : Int) (a1 : -9223372036854775808 ≤ a) (a2 : a ≤ 9223372036854775807) (b1 : -9223372036854775808 ≤ b) (b2 : b ≤ 9223372036854775807) :
    -85070591730234615865843651857942052864 ≤ a * b ∧ a * b ≤ 85070591730234615865843651857942052864 := by
  have h : (a * b).natAbs ≤ 9223372036854775808 * 9223372036854775808 := by
    rw [Int.natAbs_mul]; exact Nat.mul_le_mul (by omega) (by omega)
  omega

theorem tmod6 (k : Int) : ∃ r, k.tmod 6 = r ∧ -5 ≤ r ∧ r ≤ 5 ∧ (r + 6) % 6 = k % 6 := by
  have e := Int.mul_tdiv_add_tmod k 6
  have h : (k.tmod 6).natAbs = k.natAbs % 6 := Int.natAbs_tmod k 6
  exact ⟨_, rfl, by omega, by omega, by omega⟩
theorem refunit_any (k : Int) (w : World) :
    Calls Tryz.prog 36 #[.int .i64 k] w fun e w' => e = .returned (.agg #[.int .i64 (unitA (k % 6)), .int .i64 (unitB (k % 6))]) ∧ Below w.heap.size w w' := by
  obtain ⟨r, h1, h2, h3, h4⟩ := tmod6 k
  have hc : k % 6 = 0 ∨ k % 6 = 1 ∨ k % 6 = 2 ∨ k % 6 = 3 ∨ k % 6 = 4 ∨ k % 6 = 5 := by omega
  rcases hc with hc | hc | hc | hc | hc | hc
  · rw [hc]; exact refunit_0 k r h1 h2 h3 (by omega) w
  · rw [hc]; exact refunit_1 k r h1 h2 h3 (by omega) w
  · rw [hc]; exact refunit_2 k r h1 h2 h3 (by omega) w
  · rw [hc]; exact refunit_3 k r h1 h2 h3 (by omega) w
  · rw [hc]; exact refunit_4 k r h1 h2 h3 (by omega) w
  · rw [hc]; exact refunit_5 k r h1 h2 h3 (by omega) w

theorem keepHeld {w0 a b : World} {p0 p1 p2 p3 p4 p5 p6 p7 : Addr} {v0 v1 v2 v3 v6 v7 : Value} (hb : Below a.heap.size a b)
    (h : a.cell? p0 = some v0 ∧ a.cell? p1 = some v1 ∧ a.cell? p2 = some v2 ∧ a.cell? p3 = some v3 ∧ a.cell? p4 = some (.int .i64 (slotInt a p4)) ∧ a.cell? p5 = some (.int .i64 (slotInt a p5)) ∧ a.cell? p6 = some v6 ∧ a.cell? p7 = some v7 ∧ a.frozen? p4 = false ∧ a.frozen? p5 = false ∧ Below w0.heap.size w0 a) :
    b.cell? p0 = some v0 ∧ b.cell? p1 = some v1 ∧ b.cell? p2 = some v2 ∧ b.cell? p3 = some v3 ∧ b.cell? p4 = some (.int .i64 (slotInt b p4)) ∧ b.cell? p5 = some (.int .i64 (slotInt b p5)) ∧ b.cell? p6 = some v6 ∧ b.cell? p7 = some v7 ∧ b.frozen? p4 = false ∧ b.frozen? p5 = false ∧ Below w0.heap.size w0 b := by
  obtain ⟨h0, h1, h2, h3, h4, h5, h6, h7, f4, f5, hw⟩ := h
  exact ⟨keepCell hb h0, keepCell hb h1, keepCell hb h2, keepCell hb h3, slot_of (keepCell hb h4), slot_of (keepCell hb h5), keepCell hb h6, keepCell hb h7, keepFrozen hb h4 f4, keepFrozen hb h5 f5, belowT hw hb⟩
theorem keepStore {w0 a : World} {p0 p1 p2 p3 p4 p5 p6 p7 : Addr} {v0 v1 v2 v3 v6 v7 : Value} {x y : Int} (n0 : p0.block ≠ p4.block) (n1 : p1.block ≠ p4.block) (n2 : p2.block ≠ p4.block) (n3 : p3.block ≠ p4.block) (n6 : p6.block ≠ p4.block) (n7 : p7.block ≠ p4.block) (e5 : p5.block = p4.block) (ne : p4 ≠ p5) (hB : w0.heap.size ≤ p4.block)
    (h : a.cell? p0 = some v0 ∧ a.cell? p1 = some v1 ∧ a.cell? p2 = some v2 ∧ a.cell? p3 = some v3 ∧ a.cell? p4 = some (.int .i64 (slotInt a p4)) ∧ a.cell? p5 = some (.int .i64 (slotInt a p5)) ∧ a.cell? p6 = some v6 ∧ a.cell? p7 = some v7 ∧ a.frozen? p4 = false ∧ a.frozen? p5 = false ∧ Below w0.heap.size w0 a) :
    ((a.setCell p4 (.int .i64 x)).setCell p5 (.int .i64 y)).cell? p0 = some v0 ∧ ((a.setCell p4 (.int .i64 x)).setCell p5 (.int .i64 y)).cell? p1 = some v1 ∧ ((a.setCell p4 (.int .i64 x)).setCell p5 (.int .i64 y)).cell? p2 = some v2 ∧ ((a.setCell p4 (.int .i64 x)).setCell p5 (.int .i64 y)).cell? p3 = some v3 ∧ ((a.setCell p4 (.int .i64 x)).setCell p5 (.int .i64 y)).cell? p4 = some (.int .i64 (slotInt ((a.setCell p4 (.int .i64 x)).setCell p5 (.int .i64 y)) p4)) ∧ ((a.setCell p4 (.int .i64 x)).setCell p5 (.int .i64 y)).cell? p5 = some (.int .i64 (slotInt ((a.setCell p4 (.int .i64 x)).setCell p5 (.int .i64 y)) p5)) ∧ ((a.setCell p4 (.int .i64 x)).setCell p5 (.int .i64 y)).cell? p6 = some v6 ∧ ((a.setCell p4 (.int .i64 x)).setCell p5 (.int .i64 y)).cell? p7 = some v7 ∧ ((a.setCell p4 (.int .i64 x)).setCell p5 (.int .i64 y)).frozen? p4 = false ∧ ((a.setCell p4 (.int .i64 x)).setCell p5 (.int .i64 y)).frozen? p5 = false ∧ Below w0.heap.size w0 ((a.setCell p4 (.int .i64 x)).setCell p5 (.int .i64 y)) := by
  obtain ⟨h0, h1, h2, h3, h4, h5, h6, h7, f4, f5, hw⟩ := h
  have far : ∀ p : Addr, p.block ≠ p4.block → ((a.setCell p4 (.int .i64 x)).setCell p5 (.int .i64 y)).cell? p = a.cell? p := by
    intro p hp
    rw [World.cell?_setCell_other _ _ _ _ (by intro e; subst e; exact hp e5), World.cell?_setCell_other _ _ _ _ (by intro e; subst e; exact hp rfl)]
  have s5 : (a.setCell p4 (.int .i64 x)).cell? p5 = some (.int .i64 (slotInt a p5)) := (World.cell?_setCell_other _ _ _ _ ne).trans h5
  have g4 : ((a.setCell p4 (.int .i64 x)).setCell p5 (.int .i64 y)).cell? p4 = some (.int .i64 x) := (World.cell?_setCell_other _ _ _ _ (Ne.symm ne)).trans (World.cell?_setCell_same _ _ _ h4)
  have g5 : ((a.setCell p4 (.int .i64 x)).setCell p5 (.int .i64 y)).cell? p5 = some (.int .i64 y) := World.cell?_setCell_same _ _ _ s5
  refine ⟨(far _ n0).trans h0, (far _ n1).trans h1, (far _ n2).trans h2, (far _ n3).trans h3, slot_of g4, slot_of g5, (far _ n6).trans h6, (far _ n7).trans h7, ?_, ?_, (hw.setCell hB _).setCell (by rw [e5]; exact hB) _⟩
  · simp [f4]
  · simp [f5]

set_option maxHeartbeats 4000000 in
theorem refmul_raw (a b c d x y : Int) (ok : Bool) (a1 : -9223372036854775808 ≤ a) (a2 : a ≤ 9223372036854775807) (b1 : -9223372036854775808 ≤ b) (b2 : b ≤ 9223372036854775807) (k1 : -9223372036854775808 ≤ c) (k2 : c ≤ 9223372036854775807) (d1 : -9223372036854775808 ≤ d) (d2 : d ≤ 9223372036854775807)
    (T : ∀ w, Calls Tryz.prog 63 #[.agg #[.int .u64 (high64 (mulA a b c d)), .int .u64 (low64 (mulA a b c d))], .agg #[.int .u64 (high64 (mulB a b c d)), .int .u64 (low64 (mulB a b c d))]] w fun e w' => e = .returned (.tuple #[.agg #[.int .i64 x, .int .i64 y], .bool ok]) ∧ Below w.heap.size w w') (w : World) :
    Calls Tryz.prog 35 #[.agg #[.int .i64 a, .int .i64 b], .agg #[.int .i64 c, .int .i64 d]] w fun e w' => e = .returned (.tuple #[.agg #[.int .i64 x, .int .i64 y], .bool ok]) ∧ Below w.heap.size w w' := by
  have TD : Hid (∀ w, Calls Tryz.prog 63 #[.agg #[.int .u64 (high64 (a * c + -(b * d))), .int .u64 (low64 (a * c + -(b * d)))], .agg #[.int .u64 (high64 (a * d + b * c + b * d)), .int .u64 (low64 (a * d + b * c + b * d))]] w fun e w' => e = .returned (.tuple #[.agg #[.int .i64 x, .int .i64 y], .bool ok]) ∧ Below w.heap.size w w') := T
  clear T
  go_enter Tryz.func35, Tryz.ntmps35
  go_wp2_with fail
  refine (times_any b d b1 b2 d1 d2 _).mono ?_
  rintro e w1 ⟨rfl, c1⟩
  obtain ⟨hc, hf⟩ := bcell c1
  have z1 : w.heap.size + 1 + 1 < w1.heap.size := by have := c1.size; simp at this; omega
  have hbw : Below w.heap.size w (w1.alloc (.cells #[.int .u64 (high64 (b * d)), .int .u64 (low64 (b * d))] 108)).drew :=
    ((((((Below.refl _ _).alloc (Nat.le_refl _) _).alloc (by simp) _).alloc (by simp; omega) _).trans (c1.mono (by simp; omega))).alloc (by omega) _).drew
  have hx : Below w1.heap.size w1 (w1.alloc (.cells #[.int .u64 (high64 (b * d)), .int .u64 (low64 (b * d))] 108)).drew := ((Below.refl _ _).alloc (Nat.le_refl _) _).drew
  have k0' : w1.cell? ⟨w.heap.size, 0, none⟩ = some (.int .i64 a) := by rw [hc _ _ (by simp; try omega)]; go_simp
  have s0 : (w1.alloc (.cells #[.int .u64 (high64 (b * d)), .int .u64 (low64 (b * d))] 108)).drew.cell? ⟨w.heap.size, 0, none⟩ = some (.int .i64 a) := keepCell hx k0'
  have k1' : w1.cell? ⟨w.heap.size, 1, none⟩ = some (.int .i64 b) := by rw [hc _ _ (by simp; try omega)]; go_simp
  have s1 : (w1.alloc (.cells #[.int .u64 (high64 (b * d)), .int .u64 (low64 (b * d))] 108)).drew.cell? ⟨w.heap.size, 1, none⟩ = some (.int .i64 b) := keepCell hx k1'
  have k2' : w1.cell? ⟨w.heap.size + 1, 0, none⟩ = some (.int .i64 c) := by rw [hc _ _ (by simp; try omega)]; go_simp
  have s2 : (w1.alloc (.cells #[.int .u64 (high64 (b * d)), .int .u64 (low64 (b * d))] 108)).drew.cell? ⟨w.heap.size + 1, 0, none⟩ = some (.int .i64 c) := keepCell hx k2'
  have k3' : w1.cell? ⟨w.heap.size + 1, 1, none⟩ = some (.int .i64 d) := by rw [hc _ _ (by simp; try omega)]; go_simp
  have s3 : (w1.alloc (.cells #[.int .u64 (high64 (b * d)), .int .u64 (low64 (b * d))] 108)).drew.cell? ⟨w.heap.size + 1, 1, none⟩ = some (.int .i64 d) := keepCell hx k3'
  have k4' : w1.cell? ⟨w.heap.size + 1 + 1, 0, none⟩ = some (.int .i64 0) := by rw [hc _ _ (by simp; try omega)]; go_simp
  have s4 : (w1.alloc (.cells #[.int .u64 (high64 (b * d)), .int .u64 (low64 (b * d))] 108)).drew.cell? ⟨w.heap.size + 1 + 1, 0, none⟩ = some (.int .i64 0) := keepCell hx k4'
  have k5' : w1.cell? ⟨w.heap.size + 1 + 1, 1, none⟩ = some (.int .i64 0) := by rw [hc _ _ (by simp; try omega)]; go_simp
  have s5 : (w1.alloc (.cells #[.int .u64 (high64 (b * d)), .int .u64 (low64 (b * d))] 108)).drew.cell? ⟨w.heap.size + 1 + 1, 1, none⟩ = some (.int .i64 0) := keepCell hx k5'
  have f4' : w1.frozen? ⟨w.heap.size + 1 + 1, 0, none⟩ = false := by rw [hf _ _ (by simp; try omega)]; go_simp
  have f4 : (w1.alloc (.cells #[.int .u64 (high64 (b * d)), .int .u64 (low64 (b * d))] 108)).drew.frozen? ⟨w.heap.size + 1 + 1, 0, none⟩ = false := keepFrozen hx k4' f4'
  have f5' : w1.frozen? ⟨w.heap.size + 1 + 1, 1, none⟩ = false := by rw [hf _ _ (by simp; try omega)]; go_simp
  have f5 : (w1.alloc (.cells #[.int .u64 (high64 (b * d)), .int .u64 (low64 (b * d))] 108)).drew.frozen? ⟨w.heap.size + 1 + 1, 1, none⟩ = false := keepFrozen hx k5' f5'
  have s6 : (w1.alloc (.cells #[.int .u64 (high64 (b * d)), .int .u64 (low64 (b * d))] 108)).drew.cell? ⟨w1.heap.size, 0, none⟩ = some (.int .u64 (high64 (b * d))) := by go_simp
  have s7 : (w1.alloc (.cells #[.int .u64 (high64 (b * d)), .int .u64 (low64 (b * d))] 108)).drew.cell? ⟨w1.heap.size, 1, none⟩ = some (.int .u64 (low64 (b * d))) := by go_simp
  clear k0' k1' k2' k3' k4' k5' f4' f5' hc hf hx
  go_wp2_with fail
  go_region_held3 (fun w' => w'.cell? ⟨w.heap.size, 0, none⟩ = some (.int .i64 a) ∧ w'.cell? ⟨w.heap.size, 1, none⟩ = some (.int .i64 b) ∧ w'.cell? ⟨w.heap.size + 1, 0, none⟩ = some (.int .i64 c) ∧ w'.cell? ⟨w.heap.size + 1, 1, none⟩ = some (.int .i64 d) ∧ w'.cell? ⟨w.heap.size + 1 + 1, 0, none⟩ = some (.int .i64 (slotInt w' ⟨w.heap.size + 1 + 1, 0, none⟩)) ∧ w'.cell? ⟨w.heap.size + 1 + 1, 1, none⟩ = some (.int .i64 (slotInt w' ⟨w.heap.size + 1 + 1, 1, none⟩)) ∧ w'.cell? ⟨w1.heap.size, 0, none⟩ = some (.int .u64 (high64 (b * d))) ∧ w'.cell? ⟨w1.heap.size, 1, none⟩ = some (.int .u64 (low64 (b * d))) ∧ w'.frozen? ⟨w.heap.size + 1 + 1, 0, none⟩ = false ∧ w'.frozen? ⟨w.heap.size + 1 + 1, 1, none⟩ = false ∧ Below w.heap.size w w') (first | exact ⟨s0, s1, s2, s3, slot_of s4, slot_of s5, s6, s7, f4, f5, hbw⟩ | exact keepHeld hb (by assumption) | exact keepStore (by simp; try omega) (by simp; try omega) (by simp; try omega) (by simp; try omega) (by simp; try omega) (by simp; try omega) rfl (by simp) (by simp; try omega) (by assumption))
    (first | (go_at_call 65; refine (turned_any (b * d) _).mono ?_; rintro e w' ⟨rfl, hb⟩) | (go_at_call 63; refine (TD.out _).mono ?_; rintro e w' ⟨rfl, hb⟩) | (go_at_call 62; refine (times_any _ _ (by assumption) (by assumption) (by assumption) (by assumption) _).mono ?_; rintro e w' ⟨rfl, hb⟩) | (go_at_call 64; refine (plus_any _ _ _).mono ?_; rintro e w' ⟨rfl, hb⟩))
  go_wp2
  rename_i wA bA wB bB wC bC wD bD wE bE wF bF wG bG hS
  obtain ⟨g0, g1⟩ := two_stores (u := .int .i64 x) (v := .int .i64 y) (keepCell hb (keepCell bG (keepCell bF (keepCell bE (keepCell bD (keepCell bC (keepCell bB (keepCell bA s4)))))))) (keepCell hb (keepCell bG (keepCell bF (keepCell bE (keepCell bD (keepCell bC (keepCell bB (keepCell bA s5))))))))
  exact bodyPost_ret (v := .tuple #[.agg #[.int .i64 x, .int .i64 y], .bool ok]) (by simp [results, Tryz.results35, go_sem, g0, g1]) rfl ⟨rfl, hS.2.2.2.2.2.2.2.2.2.2⟩

theorem mulA_box (a b c d : Int) (a1 : -9223372036854775808 ≤ a) (a2 : a ≤ 9223372036854775807) (b1 : -9223372036854775808 ≤ b) (b2 : b ≤ 9223372036854775807) (k1 : -9223372036854775808 ≤ c) (k2 : c ≤ 9223372036854775807) (d1 : -9223372036854775808 ≤ d) (d2 : d ≤ 9223372036854775807) :
    In127 (mulA a b c d) ∧ In127 (mulB a b c d) := by
  have h1 := prod_box a c a1 a2 k1 k2
  have h2 := prod_box b d b1 b2 d1 d2
  have h3 := prod_box a d a1 a2 d1 d2
  have h4 := prod_box b c b1 b2 k1 k2
  unfold In127 mulA mulB
  omega

/-- MUL on the lattice, as the document's own answer has it. -/
theorem refmul_yes (a b c d : Int) (a1 : -9223372036854775808 ≤ a) (a2 : a ≤ 9223372036854775807) (b1 : -9223372036854775808 ≤ b) (b2 : b ≤ 9223372036854775807) (k1 : -9223372036854775808 ≤ c) (k2 : c ≤ 9223372036854775807) (d1 : -9223372036854775808 ≤ d) (d2 : d ≤ 9223372036854775807)
    (hx : fits (mulA a b c d) = true) (hy : fits (mulB a b c d) = true) (w : World) :
    Calls Tryz.prog 35 #[.agg #[.int .i64 a, .int .i64 b], .agg #[.int .i64 c, .int .i64 d]] w fun e w' => e = .returned (.tuple #[.agg #[.int .i64 (mulA a b c d), .int .i64 (mulB a b c d)], .bool true]) ∧ Below w.heap.size w w' :=
  refmul_raw a b c d _ _ _ a1 a2 b1 b2 k1 k2 d1 d2 (two_yes _ _ hx hy) w
theorem refmul_no (a b c d : Int) (a1 : -9223372036854775808 ≤ a) (a2 : a ≤ 9223372036854775807) (b1 : -9223372036854775808 ≤ b) (b2 : b ≤ 9223372036854775807) (k1 : -9223372036854775808 ≤ c) (k2 : c ≤ 9223372036854775807) (d1 : -9223372036854775808 ≤ d) (d2 : d ≤ 9223372036854775807)
    (h : fits (mulA a b c d) = false ∨ fits (mulB a b c d) = false) (w : World) :
    Calls Tryz.prog 35 #[.agg #[.int .i64 a, .int .i64 b], .agg #[.int .i64 c, .int .i64 d]] w fun e w' => e = .returned (.tuple #[.agg #[.int .i64 0, .int .i64 0], .bool false]) ∧ Below w.heap.size w w' :=
  have hb := mulA_box a b c d a1 a2 b1 b2 k1 k2 d1 d2
  refmul_raw a b c d _ _ _ a1 a2 b1 b2 k1 k2 d1 d2 (two_no _ _ hb.1 hb.2 h) w
end Go.Proofs.YtlipbdiijjfheaaGreatDoor
