/-
  What the document's own Norm and Steps on the lattice tell, for any numbers of 64 bits, in whatever memory.
-/
import Derived.Test.YtpncnpmikhbmnaaDoorRefMul
import Derived.Test.YtpncnpmikhbmnaaDoorRefSize
namespace Go.Proofs.YtpncnpmikhbmnaaDoor
open Go.RowKit

/-- The number in a cell without a sign. -/
def slotU (w : World) (p : Addr) : Int := match w.cell? p with | some (.int .u64 n) => n | _ => 0
theorem slotU_of {w : World} {p : Addr} {n : Int} (h : w.cell? p = some (.int .u64 n)) : w.cell? p = some (.int .u64 (slotU w p)) := by
  have e : slotU w p = n := by unfold slotU; rw [h]
  rw [e]; exact h
theorem keepNorm {w0 a b : World} {p0 p1 p4 p5 : Addr} {v0 v1 : Value} (hb : Below a.heap.size a b)
    (h : a.cell? p0 = some v0 ∧ a.cell? p1 = some v1 ∧ a.cell? p4 = some (.int .u64 (slotU a p4)) ∧ a.cell? p5 = some (.int .u64 (slotU a p5)) ∧ a.frozen? p4 = false ∧ a.frozen? p5 = false ∧ Below w0.heap.size w0 a) :
    b.cell? p0 = some v0 ∧ b.cell? p1 = some v1 ∧ b.cell? p4 = some (.int .u64 (slotU b p4)) ∧ b.cell? p5 = some (.int .u64 (slotU b p5)) ∧ b.frozen? p4 = false ∧ b.frozen? p5 = false ∧ Below w0.heap.size w0 b := by
  obtain ⟨h0, h1, h4, h5, f4, f5, hw⟩ := h
  exact ⟨keepCell hb h0, keepCell hb h1, slotU_of (keepCell hb h4), slotU_of (keepCell hb h5), keepFrozen hb h4 f4, keepFrozen hb h5 f5, belowT hw hb⟩

theorem keepNormStore {w0 a : World} {p0 p1 p4 p5 : Addr} {v0 v1 : Value} {x y : Int} (n0 : p0.block ≠ p4.block) (n1 : p1.block ≠ p4.block) (e5 : p5.block = p4.block) (ne : p4 ≠ p5) (hB : w0.heap.size ≤ p4.block)
    (h : a.cell? p0 = some v0 ∧ a.cell? p1 = some v1 ∧ a.cell? p4 = some (.int .u64 (slotU a p4)) ∧ a.cell? p5 = some (.int .u64 (slotU a p5)) ∧ a.frozen? p4 = false ∧ a.frozen? p5 = false ∧ Below w0.heap.size w0 a) :
    ((a.setCell p4 (.int .u64 x)).setCell p5 (.int .u64 y)).cell? p0 = some v0 ∧ ((a.setCell p4 (.int .u64 x)).setCell p5 (.int .u64 y)).cell? p1 = some v1 ∧ ((a.setCell p4 (.int .u64 x)).setCell p5 (.int .u64 y)).cell? p4 = some (.int .u64 (slotU ((a.setCell p4 (.int .u64 x)).setCell p5 (.int .u64 y)) p4)) ∧ ((a.setCell p4 (.int .u64 x)).setCell p5 (.int .u64 y)).cell? p5 = some (.int .u64 (slotU ((a.setCell p4 (.int .u64 x)).setCell p5 (.int .u64 y)) p5)) ∧ ((a.setCell p4 (.int .u64 x)).setCell p5 (.int .u64 y)).frozen? p4 = false ∧ ((a.setCell p4 (.int .u64 x)).setCell p5 (.int .u64 y)).frozen? p5 = false ∧ Below w0.heap.size w0 ((a.setCell p4 (.int .u64 x)).setCell p5 (.int .u64 y)) := by
  obtain ⟨h0, h1, h4, h5, f4, f5, hw⟩ := h
  have far : ∀ p : Addr, p.block ≠ p4.block → ((a.setCell p4 (.int .u64 x)).setCell p5 (.int .u64 y)).cell? p = a.cell? p := by
    intro p hp
    rw [World.cell?_setCell_other _ _ _ _ (by intro e; subst e; exact hp e5), World.cell?_setCell_other _ _ _ _ (by intro e; subst e; exact hp rfl)]
  have s5 : (a.setCell p4 (.int .u64 x)).cell? p5 = some (.int .u64 (slotU a p5)) := (World.cell?_setCell_other _ _ _ _ ne).trans h5
  have g4 : ((a.setCell p4 (.int .u64 x)).setCell p5 (.int .u64 y)).cell? p4 = some (.int .u64 x) := (World.cell?_setCell_other _ _ _ _ (Ne.symm ne)).trans (World.cell?_setCell_same _ _ _ h4)
  have g5 : ((a.setCell p4 (.int .u64 x)).setCell p5 (.int .u64 y)).cell? p5 = some (.int .u64 y) := World.cell?_setCell_same _ _ _ s5
  refine ⟨(far _ n0).trans h0, (far _ n1).trans h1, slotU_of g4, slotU_of g5, ?_, ?_, (hw.setCell hB _).setCell (by rw [e5]; exact hB) _⟩
  · simp [f4]
  · simp [f5]

set_option maxHeartbeats 4000000 in
theorem refnorm_any (a b : Int) (a1 : -9223372036854775808 ≤ a) (a2 : a ≤ 9223372036854775807) (b1 : -9223372036854775808 ≤ b) (b2 : b ≤ 9223372036854775807) (w : World) :
    Calls Tryd.prog 26 #[.agg #[.int .i64 a, .int .i64 b]] w fun e w' => e = .returned (.agg #[.int .u64 (high64 (a * a + a * b + b * b)), .int .u64 (low64 (a * a + a * b + b * b))]) ∧ Below w.heap.size w w' := by
  have s0 : ((w.alloc (.cells #[.int .i64 a, .int .i64 b] 23)).alloc (.cells #[.int .u64 0, .int .u64 0] 41)).drew.cell? ⟨w.heap.size, 0, none⟩ = some (.int .i64 a) := by go_simp
  have s1 : ((w.alloc (.cells #[.int .i64 a, .int .i64 b] 23)).alloc (.cells #[.int .u64 0, .int .u64 0] 41)).drew.cell? ⟨w.heap.size, 1, none⟩ = some (.int .i64 b) := by go_simp
  have s4 : ((w.alloc (.cells #[.int .i64 a, .int .i64 b] 23)).alloc (.cells #[.int .u64 0, .int .u64 0] 41)).drew.cell? ⟨w.heap.size + 1, 0, none⟩ = some (.int .u64 0) := by go_simp
  have s5 : ((w.alloc (.cells #[.int .i64 a, .int .i64 b] 23)).alloc (.cells #[.int .u64 0, .int .u64 0] 41)).drew.cell? ⟨w.heap.size + 1, 1, none⟩ = some (.int .u64 0) := by go_simp
  have f4 : ((w.alloc (.cells #[.int .i64 a, .int .i64 b] 23)).alloc (.cells #[.int .u64 0, .int .u64 0] 41)).drew.frozen? ⟨w.heap.size + 1, 0, none⟩ = false := by go_simp
  have f5 : ((w.alloc (.cells #[.int .i64 a, .int .i64 b] 23)).alloc (.cells #[.int .u64 0, .int .u64 0] 41)).drew.frozen? ⟨w.heap.size + 1, 1, none⟩ = false := by go_simp
  have hbw : Below w.heap.size w ((w.alloc (.cells #[.int .i64 a, .int .i64 b] 23)).alloc (.cells #[.int .u64 0, .int .u64 0] 41)).drew := (((Below.refl _ _).alloc (Nat.le_refl _) _).alloc (by simp) _).drew
  go_enter Tryd.func26, Tryd.ntmps26
  go_wp2_with fail
  go_region_held3 (fun w' => w'.cell? ⟨w.heap.size, 0, none⟩ = some (.int .i64 a) ∧ w'.cell? ⟨w.heap.size, 1, none⟩ = some (.int .i64 b) ∧ w'.cell? ⟨w.heap.size + 1, 0, none⟩ = some (.int .u64 (slotU w' ⟨w.heap.size + 1, 0, none⟩)) ∧ w'.cell? ⟨w.heap.size + 1, 1, none⟩ = some (.int .u64 (slotU w' ⟨w.heap.size + 1, 1, none⟩)) ∧ w'.frozen? ⟨w.heap.size + 1, 0, none⟩ = false ∧ w'.frozen? ⟨w.heap.size + 1, 1, none⟩ = false ∧ Below w.heap.size w w') (first | exact ⟨s0, s1, slotU_of s4, slotU_of s5, f4, f5, hbw⟩ | exact keepNorm hb (by assumption) | exact keepNormStore (by simp) (by simp) rfl (by simp) (by simp) (by assumption))
    (first | (go_at_call 43; refine (times_any _ _ (by assumption) (by assumption) (by assumption) (by assumption) _).mono ?_; rintro e w' ⟨rfl, hb⟩) | (go_at_call 22; refine (plus_any _ _ _).mono ?_; rintro e w' ⟨rfl, hb⟩))
  go_wp2
  rename_i wA bA wB bB wC bC wD bD hS
  obtain ⟨g0, g1⟩ := two_stores (u := .int .u64 (high64 (a * a + a * b + b * b))) (v := .int .u64 (low64 (a * a + a * b + b * b))) (keepCell hb (keepCell bD (keepCell bC (keepCell bB (keepCell bA s4))))) (keepCell hb (keepCell bD (keepCell bC (keepCell bB (keepCell bA s5)))))
  exact bodyPost_ret (v := .agg #[.int .u64 (high64 (a * a + a * b + b * b)), .int .u64 (low64 (a * a + a * b + b * b))]) (by simp [results, Tryd.results26, go_sem, g0, g1]) rfl ⟨rfl, hS.2.2.2.2.2.2⟩

theorem ret_pair {a b : Int} {c : Bool} (h : a = b) : Ending.returned (.tuple #[.int .i64 a, .bool c]) = .returned (.tuple #[.int .i64 b, .bool c]) := by rw [h]

set_option maxHeartbeats 1000000 in
theorem refsteps_yes (a b : Int) (a1 : -9223372036854775808 < a) (a2 : a ≤ 9223372036854775807) (b1 : -9223372036854775808 < b) (b2 : b ≤ 9223372036854775807) (c1 : -9223372036854775808 < a + b) (c2 : a + b ≤ 9223372036854775807) (w : World) :
    Calls Tryd.prog 29 #[.agg #[.int .i64 a, .int .i64 b]] w fun e w' => e = .returned (.tuple #[.int .i64 (max (max (a.natAbs : Int) b.natAbs) (a + b).natAbs), .bool true]) ∧ Below w.heap.size w w' := by
  have e2 := kept_mk (n := a + b) (fits_mk ⟨by omega, by omega⟩)
  have e3 := fits_mk (n := a + b) ⟨by omega, by omega⟩
  have SM : Hid (∀ w, Calls Tryd.prog 27 #[.agg #[.int .u64 (high64 (a + b)), .int .u64 (low64 (a + b))]] w fun e w' => e = .returned (.tuple #[.int .i64 (a + b), .bool true]) ∧ Below w.heap.size w w') := by
    intro w
    have := small_any (a + b) (by omega) (by omega) w
    rw [e2, e3] at this
    exact this
  have b1' : -9223372036854775808 ≤ b := by omega
  have a1' : -9223372036854775808 ≤ a := by omega
  have t1 : (a == -9223372036854775808) = false := by simpa using (show a ≠ -9223372036854775808 by omega)
  have t2 : (b == -9223372036854775808) = false := by simpa using (show b ≠ -9223372036854775808 by omega)
  have t3 : (a + b == -9223372036854775808) = false := by simpa using (show a + b ≠ -9223372036854775808 by omega)
  clear e2 e3
  have s0 : (w.alloc (.cells #[.int .i64 a, .int .i64 b] 23)).drew.cell? ⟨w.heap.size, 0, none⟩ = some (.int .i64 a) := by go_simp
  have s1 : (w.alloc (.cells #[.int .i64 a, .int .i64 b] 23)).drew.cell? ⟨w.heap.size, 1, none⟩ = some (.int .i64 b) := by go_simp
  have hbw : Below w.heap.size w (w.alloc (.cells #[.int .i64 a, .int .i64 b] 23)).drew := ((Below.refl _ _).alloc (Nat.le_refl _) _).drew
  go_enter Tryd.func29, Tryd.ntmps29
  go_wp2_with fail
  go_region_held3 (fun w' => w'.cell? ⟨w.heap.size, 0, none⟩ = some (.int .i64 a) ∧ w'.cell? ⟨w.heap.size, 1, none⟩ = some (.int .i64 b) ∧ Below w.heap.size w w') (first | exact ⟨s0, s1, hbw⟩ | (exact And.intro (keepCell hb (And.left (by assumption))) (And.intro (keepCell hb (And.left (And.right (by assumption)))) (belowT (And.right (And.right (by assumption))) hb))))
    (first | (go_at_call 21; refine (wide_any _ (by assumption) (by assumption) _).mono ?_; rintro e w' ⟨rfl, hb⟩) | (go_at_call 22; refine (plus_any _ _ _).mono ?_; rintro e w' ⟨rfl, hb⟩) | (go_at_call 27; refine (SM.out _).mono ?_; rintro e w' ⟨rfl, hb⟩))
  go_wp2_with fail
  go_quiet ((go_at_call 48; exact Calls.quiet_of_same (size_any _ (by omega) (by omega) _)))
  go_wp2
  all_goals
    have hS : Below w.heap.size w w' := (‹w'.cell? ⟨w.heap.size, 0, none⟩ = some (.int .i64 a) ∧ w'.cell? ⟨w.heap.size, 1, none⟩ = some (.int .i64 b) ∧ Below w.heap.size w w'›).2.2
    go_ret2
    exact ⟨ret_pair (by omega), belowN hS _⟩
end Go.Proofs.YtpncnpmikhbmnaaDoor
