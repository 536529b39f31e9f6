/-
  What the document's own reckoning on the lattice tells (Two, Mul, Norm, Unit, Steps), for any numbers of 64 bits, in whatever memory.
-/
import Derived.Test.YtlipbdiijjfheaaGreatDoorTimes
import Derived.Test.YtlipbdiijjfheaaGreatDoorLattice
namespace Go.Proofs.YtlipbdiijjfheaaGreatDoor
open Go.RowKit

set_option maxHeartbeats 400000 in
theorem two_raw_yes (hx lx hy ly x y : Int) 
    (S1 : ∀ w, Calls Tryz.prog 92 #[.agg #[.int .u64 hx, .int .u64 lx]] w fun e w' => e = .returned (.tuple #[.int .i64 x, .bool true]) ∧ Below w.heap.size w w')
    (S2 : ∀ w, Calls Tryz.prog 92 #[.agg #[.int .u64 hy, .int .u64 ly]] w fun e w' => e = .returned (.tuple #[.int .i64 y, .bool true]) ∧ Below w.heap.size w w') (w : World) :
    Calls Tryz.prog 63 #[.agg #[.int .u64 hx, .int .u64 lx], .agg #[.int .u64 hy, .int .u64 ly]] w fun e w' => e = .returned (.tuple #[.agg #[.int .i64 x, .int .i64 y], .bool true]) ∧ Below w.heap.size w w' := by
  replace S1 : Hid _ := S1
  replace S2 : Hid _ := S2
  go_enter Tryz.func63, Tryz.ntmps63
  go_wp2_with fail
  refine (S1.out _).mono ?_
  rintro e w1 ⟨rfl, c1⟩
  obtain ⟨hc1, hf1⟩ := bcell c1
  have z1 : w.heap.size + 1 + 1 < w1.heap.size := by have := c1.size; simp at this; omega
  go_wp2_with fail
  refine (S2.out _).mono ?_
  rintro e w2 ⟨rfl, c2⟩
  obtain ⟨hc2, hf2⟩ := bcell c2
  have z2 : w.heap.size + 1 + 1 < w2.heap.size := by have := c2.size; omega
  have e0 : w2.cell? ⟨w.heap.size + 1 + 1, 0, none⟩ = some (.int .i64 0) := by rw [hc2 _ _ z1, hc1 _ _ (by simp)]; go_simp
  have e1 : w2.cell? ⟨w.heap.size + 1 + 1, 1, none⟩ = some (.int .i64 0) := by rw [hc2 _ _ z1, hc1 _ _ (by simp)]; go_simp
  obtain ⟨g0, g1⟩ := two_stores (u := .int .i64 x) (v := .int .i64 y) e0 e1
  go_wp2
  have hb : Below w.heap.size w w2 := ((((Below.refl _ _).alloc (Nat.le_refl _) _).alloc (by simp) _).alloc (by simp; omega) _).trans ((c1.mono (by simp; omega)).trans (c2.mono (by omega)))
  exact bodyPost_ret (v := .tuple #[.agg #[.int .i64 x, .int .i64 y], .bool true]) (by simp [results, Tryz.results63, go_sem, g0, g1]) rfl
    ⟨rfl, (hb.setCell (by simp; omega) _).setCell (by simp; omega) _⟩

set_option maxHeartbeats 400000 in
theorem two_raw_first (hx lx hy ly x y : Int) (yo : Bool)
    (S1 : ∀ w, Calls Tryz.prog 92 #[.agg #[.int .u64 hx, .int .u64 lx]] w fun e w' => e = .returned (.tuple #[.int .i64 x, .bool false]) ∧ Below w.heap.size w w')
    (S2 : ∀ w, Calls Tryz.prog 92 #[.agg #[.int .u64 hy, .int .u64 ly]] w fun e w' => e = .returned (.tuple #[.int .i64 y, .bool yo]) ∧ Below w.heap.size w w') (w : World) :
    Calls Tryz.prog 63 #[.agg #[.int .u64 hx, .int .u64 lx], .agg #[.int .u64 hy, .int .u64 ly]] w fun e w' => e = .returned (.tuple #[.agg #[.int .i64 0, .int .i64 0], .bool false]) ∧ Below w.heap.size w w' := by
  replace S1 : Hid _ := S1
  replace S2 : Hid _ := S2
  go_enter Tryz.func63, Tryz.ntmps63
  go_wp2_with fail
  refine (S1.out _).mono ?_
  rintro e w1 ⟨rfl, c1⟩
  obtain ⟨hc1, hf1⟩ := bcell c1
  have z1 : w.heap.size + 1 + 1 < w1.heap.size := by have := c1.size; simp at this; omega
  go_wp2_with fail
  refine (S2.out _).mono ?_
  rintro e w2 ⟨rfl, c2⟩
  obtain ⟨hc2, hf2⟩ := bcell c2
  have z2 : w.heap.size + 1 + 1 < w2.heap.size := by have := c2.size; omega
  have e0 : w2.cell? ⟨w.heap.size + 1 + 1, 0, none⟩ = some (.int .i64 0) := by rw [hc2 _ _ z1, hc1 _ _ (by simp)]; go_simp
  have e1 : w2.cell? ⟨w.heap.size + 1 + 1, 1, none⟩ = some (.int .i64 0) := by rw [hc2 _ _ z1, hc1 _ _ (by simp)]; go_simp
  obtain ⟨g0, g1⟩ := two_stores (u := .int .i64 0) (v := .int .i64 0) e0 e1
  go_wp2
  have hb : Below w.heap.size w w2 := ((((Below.refl _ _).alloc (Nat.le_refl _) _).alloc (by simp) _).alloc (by simp; omega) _).trans ((c1.mono (by simp; omega)).trans (c2.mono (by omega)))
  exact bodyPost_ret (v := .tuple #[.agg #[.int .i64 0, .int .i64 0], .bool false]) (by simp [results, Tryz.results63, go_sem, g0, g1]) rfl
    ⟨rfl, (hb.setCell (by simp; omega) _).setCell (by simp; omega) _⟩

set_option maxHeartbeats 400000 in
theorem two_raw_other (hx lx hy ly x y : Int) 
    (S1 : ∀ w, Calls Tryz.prog 92 #[.agg #[.int .u64 hx, .int .u64 lx]] w fun e w' => e = .returned (.tuple #[.int .i64 x, .bool true]) ∧ Below w.heap.size w w')
    (S2 : ∀ w, Calls Tryz.prog 92 #[.agg #[.int .u64 hy, .int .u64 ly]] w fun e w' => e = .returned (.tuple #[.int .i64 y, .bool false]) ∧ Below w.heap.size w w') (w : World) :
    Calls Tryz.prog 63 #[.agg #[.int .u64 hx, .int .u64 lx], .agg #[.int .u64 hy, .int .u64 ly]] w fun e w' => e = .returned (.tuple #[.agg #[.int .i64 0, .int .i64 0], .bool false]) ∧ Below w.heap.size w w' := by
  replace S1 : Hid _ := S1
  replace S2 : Hid _ := S2
  go_enter Tryz.func63, Tryz.ntmps63
  go_wp2_with fail
  refine (S1.out _).mono ?_
  rintro e w1 ⟨rfl, c1⟩
  obtain ⟨hc1, hf1⟩ := bcell c1
  have z1 : w.heap.size + 1 + 1 < w1.heap.size := by have := c1.size; simp at this; omega
  go_wp2_with fail
  refine (S2.out _).mono ?_
  rintro e w2 ⟨rfl, c2⟩
  obtain ⟨hc2, hf2⟩ := bcell c2
  have z2 : w.heap.size + 1 + 1 < w2.heap.size := by have := c2.size; omega
  have e0 : w2.cell? ⟨w.heap.size + 1 + 1, 0, none⟩ = some (.int .i64 0) := by rw [hc2 _ _ z1, hc1 _ _ (by simp)]; go_simp
  have e1 : w2.cell? ⟨w.heap.size + 1 + 1, 1, none⟩ = some (.int .i64 0) := by rw [hc2 _ _ z1, hc1 _ _ (by simp)]; go_simp
  obtain ⟨g0, g1⟩ := two_stores (u := .int .i64 0) (v := .int .i64 0) e0 e1
  go_wp2
  have hb : Below w.heap.size w w2 := ((((Below.refl _ _).alloc (Nat.le_refl _) _).alloc (by simp) _).alloc (by simp; omega) _).trans ((c1.mono (by simp; omega)).trans (c2.mono (by omega)))
  exact bodyPost_ret (v := .tuple #[.agg #[.int .i64 0, .int .i64 0], .bool false]) (by simp [results, Tryz.results63, go_sem, g0, g1]) rfl
    ⟨rfl, (hb.setCell (by simp; omega) _).setCell (by simp; omega) _⟩

/-- The two bounds within which a wide number is told rightly. -/
def In127 (x : Int) : Prop := -255211775190703847597530955573826158592 ≤ x ∧ x ≤ 255211775190703847597530955573826158592

theorem two_yes (x y : Int) (hx : fits x = true) (hy : fits y = true) (w : World) :
    Calls Tryz.prog 63 #[.agg #[.int .u64 (high64 x), .int .u64 (low64 x)], .agg #[.int .u64 (high64 y), .int .u64 (low64 y)]] w fun e w' => e = .returned (.tuple #[.agg #[.int .i64 x, .int .i64 y], .bool true]) ∧ Below w.heap.size w w' := by
  have bx := fits_of hx
  have hb := fits_of hy
  refine two_raw_yes _ _ _ _ x y (fun w => ?_) (fun w => ?_) w
  · have := small_any x (by omega) (by omega) w
    rw [kept_mk hx, hx] at this
    exact this
  · have := small_any y (by omega) (by omega) w
    rw [kept_mk hy, hy] at this
    exact this
theorem two_no (x y : Int) (bx : In127 x) (hb : In127 y) (h : fits x = false ∨ fits y = false) (w : World) :
    Calls Tryz.prog 63 #[.agg #[.int .u64 (high64 x), .int .u64 (low64 x)], .agg #[.int .u64 (high64 y), .int .u64 (low64 y)]] w fun e w' => e = .returned (.tuple #[.agg #[.int .i64 0, .int .i64 0], .bool false]) ∧ Below w.heap.size w w' := by
  by_cases hx : fits x = false
  · refine two_raw_first _ _ _ _ (kept x) (kept y) (fits y) (fun w => ?_) (small_any y hb.1 hb.2) w
    have := small_any x bx.1 bx.2 w
    rw [hx] at this
    exact this
  · have hy : fits y = false := by rcases h with h | h; exact absurd h hx; exact h
    have hx' : fits x = true := by simpa using hx
    refine two_raw_other _ _ _ _ (kept x) (kept y) (fun w => ?_) (fun w => ?_) w
    · have := small_any x bx.1 bx.2 w
      rw [hx'] at this
      exact this
    · have := small_any y hb.1 hb.2 w
      rw [hy] at this
      exact this

set_option maxHeartbeats 400000 in
theorem refunit_0 (k r : Int) (hr : k.tmod 6 = r) (r1 : -5 ≤ r) (r2 : r ≤ 5) (hj : (r + 6) % 6 = 0) (w : World) :
    Calls Tryz.prog 36 #[.int .i64 k] w fun e w' => e = .returned (.agg #[.int .i64 (1), .int .i64 (0)]) ∧ Below w.heap.size w w' := by
  go_enter Tryz.func36, Tryz.ntmps36
  go_wp2
  go_returns
  exact ⟨rfl, by go_grown⟩

set_option maxHeartbeats 400000 in
theorem refunit_1 (k r : Int) (hr : k.tmod 6 = r) (r1 : -5 ≤ r) (r2 : r ≤ 5) (hj : (r + 6) % 6 = 1) (w : World) :
    Calls Tryz.prog 36 #[.int .i64 k] w fun e w' => e = .returned (.agg #[.int .i64 (0), .int .i64 (1)]) ∧ Below w.heap.size w w' := by
  go_enter Tryz.func36, Tryz.ntmps36
  go_wp2
  go_returns
  exact ⟨rfl, by go_grown⟩

set_option maxHeartbeats 400000 in
theorem refunit_2 (k r : Int) (hr : k.tmod 6 = r) (r1 : -5 ≤ r) (r2 : r ≤ 5) (hj : (r + 6) % 6 = 2) (w : World) :
    Calls Tryz.prog 36 #[.int .i64 k] w fun e w' => e = .returned (.agg #[.int .i64 (-1), .int .i64 (1)]) ∧ Below w.heap.size w w' := by
  go_enter Tryz.func36, Tryz.ntmps36
  go_wp2
  go_returns
  exact ⟨rfl, by go_grown⟩

set_option maxHeartbeats 400000 in
theorem refunit_3 (k r : Int) (hr : k.tmod 6 = r) (r1 : -5 ≤ r) (r2 : r ≤ 5) (hj : (r + 6) % 6 = 3) (w : World) :
    Calls Tryz.prog 36 #[.int .i64 k] w fun e w' => e = .returned (.agg #[.int .i64 (-1), .int .i64 (0)]) ∧ Below w.heap.size w w' := by
  go_enter Tryz.func36, Tryz.ntmps36
  go_wp2
  go_returns
  exact ⟨rfl, by go_grown⟩

set_option maxHeartbeats 400000 in
theorem refunit_4 (k r : Int) (hr : k.tmod 6 = r) (r1 : -5 ≤ r) (r2 : r ≤ 5) (hj : (r + 6) % 6 = 4) (w : World) :
    Calls Tryz.prog 36 #[.int .i64 k] w fun e w' => e = .returned (.agg #[.int .i64 (0), .int .i64 (-1)]) ∧ Below w.heap.size w w' := by
  go_enter Tryz.func36, Tryz.ntmps36
  go_wp2
  go_returns
  exact ⟨rfl, by go_grown⟩

set_option maxHeartbeats 400000 in
theorem refunit_5 (k r : Int) (hr : k.tmod 6 = r) (r1 : -5 ≤ r) (r2 : r ≤ 5) (hj : (r + 6) % 6 = 5) (w : World) :
    Calls Tryz.prog 36 #[.int .i64 k] w fun e w' => e = .returned (.agg #[.int .i64 (1), .int .i64 (-1)]) ∧ Below w.heap.size w w' := by
  go_enter Tryz.func36, Tryz.ntmps36
  go_wp2
  go_returns
  exact ⟨rfl, by go_grown⟩
end Go.Proofs.YtlipbdiijjfheaaGreatDoor
