/-
  The law EisenReckons answers true for every two numbers of the lattice, in whatever memory where the package's table of Units holds what its text lays: sums, differences, products, mirrors, Norms and steps are the document's own, or refused alike.
-/
import Derived.Test.YtpncnpmikhbmnaaDoorAwakeE
import Derived.Test.YtpncnpmikhbmnaaDoorRefNo
import Derived.Test.YtpncnpmikhbmnaaDoorESteps
import Derived.Test.YtpncnpmikhbmnaaDoorSix
import Derived.Deep.RegionWith
import Derived.Deep.Cut
import Derived.Deep.RegionHeld3
namespace Go.Proofs.YtpncnpmikhbmnaaDoor
open Go.RowKit

/-- The document's own Two tells what the program's pair of parts tells. -/
theorem two_any (x y : Int) (bx : In127 x) (hb : In127 y) (w : World) :
    Calls Tryd.prog 20 #[.agg #[.int .u64 (high64 x), .int .u64 (low64 x)], .agg #[.int .u64 (high64 y), .int .u64 (low64 y)]] w fun e w' => e = .returned (.tuple #[.agg #[.int .i64 (keptA x y), .int .i64 (keptB x y)], .bool (both x y)]) ∧ Below w.heap.size w w' := by
  cases hx : fits x with
  | false =>
    have h : both x y = false := by unfold both; rw [hx]; rfl
    rw [h, keptA_no h, keptB_no h]; exact two_no x y bx hb (Or.inl hx) w
  | true =>
    cases hy : fits y with
    | false =>
      have h : both x y = false := by unfold both; rw [hx, hy]; rfl
      rw [h, keptA_no h, keptB_no h]; exact two_no x y bx hb (Or.inr hy) w
    | true =>
      have h := both_mk hx hy
      rw [h, keptA_mk h, keptB_mk h]; exact two_yes x y hx hy w

theorem refmul_any (a b c d : Int) (a1 : -9223372036854775808 ≤ a) (a2 : a ≤ 9223372036854775807) (b1 : -9223372036854775808 ≤ b) (b2 : b ≤ 9223372036854775807) (k1 : -9223372036854775808 ≤ c) (k2 : c ≤ 9223372036854775807) (d1 : -9223372036854775808 ≤ d) (d2 : d ≤ 9223372036854775807) (w : World) :
    Calls Tryd.prog 24 #[.agg #[.int .i64 a, .int .i64 b], .agg #[.int .i64 c, .int .i64 d]] w fun e w' => e = .returned (.tuple #[.agg #[.int .i64 (keptA (a * c - b * d) (a * d + b * c + b * d)), .int .i64 (keptB (a * c - b * d) (a * d + b * c + b * d))], .bool (both (a * c - b * d) (a * d + b * c + b * d))]) ∧ Below w.heap.size w w' :=
  have hb := mulA_box a b c d a1 a2 b1 b2 k1 k2 d1 d2
  refmul_raw a b c d _ _ _ a1 a2 b1 b2 k1 k2 d1 d2 (two_any _ _ hb.1 hb.2) w

/-- Steps told alike: one ending of both. -/
theorem refsteps_see (a b : Int) (a1 : -9223372036854775808 ≤ a) (a2 : a ≤ 9223372036854775807) (b1 : -9223372036854775808 ≤ b) (b2 : b ≤ 9223372036854775807) (w : World) :
    Calls Tryd.prog 29 #[.agg #[.int .i64 a, .int .i64 b]] w fun e w' => StepsSay a b e ∧ Below w.heap.size w w' := by
  by_cases h : SidesFit a b 3
  · have h0 := h 0 (by omega)
    have h1 := h 1 (by omega)
    have h2 := h 2 (by omega)
    refine (refsteps_yes a b h0.1 h0.2 h1.1 h1.2 h2.1 h2.2 w).mono fun e w' ⟨he, hb⟩ => ⟨Or.inl ⟨h, ?_⟩, hb⟩
    rw [he]
    have e3 : mostN a b 3 = max (max (max 0 (a.natAbs : Int)) (b.natAbs : Int)) ((a + b).natAbs : Int) := rfl
    rw [e3]
    congr 4
  · have hn : fits (a + b) = false ∨ fits (a + b) = true ∧ (a = -9223372036854775808 ∨ a ≠ -9223372036854775808 ∧ (b = -9223372036854775808 ∨ b ≠ -9223372036854775808 ∧ a + b = -9223372036854775808)) := by
      cases hf : fits (a + b) with
      | false => exact Or.inl rfl
      | true =>
        refine Or.inr ⟨rfl, ?_⟩
        have := fits_of hf
        by_cases ha : a = -9223372036854775808
        · exact Or.inl ha
        · refine Or.inr ⟨ha, ?_⟩
          by_cases hb : b = -9223372036854775808
          · exact Or.inl hb
          · refine Or.inr ⟨hb, ?_⟩
            by_cases hc : a + b = -9223372036854775808
            · exact hc
            · exfalso
              refine h fun j hj => ?_
              have cj : j = 0 ∨ j = 1 ∨ j = 2 := by omega
              rcases cj with rfl | rfl | rfl
              · show _ < a ∧ a ≤ _; omega
              · show _ < b ∧ b ≤ _; omega
              · show _ < a + b ∧ a + b ≤ _; omega
    have key : Calls Tryd.prog 29 #[.agg #[.int .i64 a, .int .i64 b]] w fun e w' => e = .returned (.tuple #[.int .i64 0, .bool false]) ∧ Below w.heap.size w w' := by
      rcases hn with hn | ⟨hf, hn | ⟨ha, hn | ⟨hb, hn⟩⟩⟩
      · exact refsteps_over a b a1 a2 b1 b2 hn w
      · exact refsteps_lowA a b a1 a2 b1 b2 hf (by simpa using hn) w
      · exact refsteps_lowB a b a1 a2 b1 b2 hf (by simpa using ha) (by simpa using hn) w
      · exact refsteps_lowC a b a1 a2 b1 b2 hf (by simpa using ha) (by simpa using hb) (by simpa using hn) w
    exact key.mono fun e w' ⟨he, hb⟩ => ⟨Or.inr ⟨h, he⟩, hb⟩
theorem steps_pair (a b : Int) (a1 : -9223372036854775808 ≤ a) (a2 : a ≤ 9223372036854775807) (b1 : -9223372036854775808 ≤ b) (b2 : b ≤ 9223372036854775807) :
    ∃ (n : Int) (v : Bool), (∀ w, Calls Tryd.prog 28 #[.agg #[.int .i64 a, .int .i64 b]] w fun e w' => e = .returned (.tuple #[.int .i64 n, .bool v]) ∧ Below w.heap.size w w') ∧
      (∀ w, Calls Tryd.prog 29 #[.agg #[.int .i64 a, .int .i64 b]] w fun e w' => e = .returned (.tuple #[.int .i64 n, .bool v]) ∧ Below w.heap.size w w') := by
  by_cases h : SidesFit a b 3
  · have key : ∀ e, StepsSay a b e → e = .returned (.tuple #[.int .i64 (mostN a b 3), .bool true]) := fun e he => by
      rcases he with ⟨_, he⟩ | ⟨hn, _⟩
      · exact he
      · exact absurd h hn
    exact ⟨_, _, fun w => (esteps_see a b a1 a2 b1 b2 w).mono fun e w' ⟨he, hb⟩ => ⟨key e he, hb⟩, fun w => (refsteps_see a b a1 a2 b1 b2 w).mono fun e w' ⟨he, hb⟩ => ⟨key e he, hb⟩⟩
  · have key : ∀ e, StepsSay a b e → e = .returned (.tuple #[.int .i64 0, .bool false]) := fun e he => by
      rcases he with ⟨hp, _⟩ | ⟨_, he⟩
      · exact absurd hp h
      · exact he
    exact ⟨_, _, fun w => (esteps_see a b a1 a2 b1 b2 w).mono fun e w' ⟨he, hb⟩ => ⟨key e he, hb⟩, fun w => (refsteps_see a b a1 a2 b1 b2 w).mono fun e w' ⟨he, hb⟩ => ⟨key e he, hb⟩⟩

set_option maxHeartbeats 400000000 in
set_option maxRecDepth 20000 in
theorem eisenReckons_walk (a b c d : Int) (a1 : -9223372036854775808 ≤ a) (a2 : a ≤ 9223372036854775807) (b1 : -9223372036854775808 ≤ b) (b2 : b ≤ 9223372036854775807) (k1 : -9223372036854775808 ≤ c) (k2 : c ≤ 9223372036854775807) (d1 : -9223372036854775808 ≤ d) (d2 : d ≤ 9223372036854775807) (w : World) (hU : Uni w) :
    Calls Tryd.prog 7 #[.agg #[.int .i64 a, .int .i64 b], .agg #[.int .i64 c, .int .i64 d]] w fun e w' => e = .returned (.bool true) ∧ Below w.heap.size w w' := by
  have TA : Hid (∀ w, Calls Tryd.prog 20 #[.agg #[.int .u64 (high64 (a + c)), .int .u64 (low64 (a + c))], .agg #[.int .u64 (high64 (b + d)), .int .u64 (low64 (b + d))]] w fun e w' => e = .returned (.tuple #[.agg #[.int .i64 (keptA (a + c) (b + d)), .int .i64 (keptB (a + c) (b + d))], .bool (both (a + c) (b + d))]) ∧ Below w.heap.size w w') := two_any _ _ (by unfold In127; omega) (by unfold In127; omega)
  have TB : Hid (∀ w, Calls Tryd.prog 20 #[.agg #[.int .u64 (high64 (a + -c)), .int .u64 (low64 (a + -c))], .agg #[.int .u64 (high64 (b + -d)), .int .u64 (low64 (b + -d))]] w fun e w' => e = .returned (.tuple #[.agg #[.int .i64 (keptA (a + -c) (b + -d)), .int .i64 (keptB (a + -c) (b + -d))], .bool (both (a + -c) (b + -d))]) ∧ Below w.heap.size w w') := two_any _ _ (by unfold In127; omega) (by unfold In127; omega)
  have TC : Hid (∀ w, Calls Tryd.prog 20 #[.agg #[.int .u64 (high64 (a + b)), .int .u64 (low64 (a + b))], .agg #[.int .u64 (high64 (-b)), .int .u64 (low64 (-b))]] w fun e w' => e = .returned (.tuple #[.agg #[.int .i64 (keptA (a + b) (-b)), .int .i64 (keptB (a + b) (-b))], .bool (both (a + b) (-b))]) ∧ Below w.heap.size w w') := two_any _ _ (by unfold In127; omega) (by unfold In127; omega)
  have ES : Hid (∀ w, Calls Tryd.prog 13 #[.agg #[.int .i64 a, .int .i64 b], .agg #[.int .i64 c, .int .i64 d]] w fun e w' => e = .returned (.tuple #[.agg #[.int .i64 (keptA (a + -c) (b + -d)), .int .i64 (keptB (a + -c) (b + -d))], .bool (both (a + -c) (b + -d))]) ∧ Below w.heap.size w w') := esub_any a b c d a1 a2 b1 b2 k1 k2 d1 d2
  have SM : Hid (∀ w, Calls Tryd.prog 27 #[.agg #[.int .u64 (high64 (a * a + a * b + b * b)), .int .u64 (low64 (a * a + a * b + b * b))]] w fun e w' => e = .returned (.tuple #[.int .i64 (kept (a * a + a * b + b * b)), .bool (fits (a * a + a * b + b * b))]) ∧ Below w.heap.size w w') := by
    have q1 := prod126 a1 a2 a1 a2
    have q2 := prod126 a1 a2 b1 b2
    have q3 := prod126 b1 b2 b1 b2
    exact small_any _ (by omega) (by omega)
  obtain ⟨sn, sv, G1, G2⟩ := steps_pair a b a1 a2 b1 b2
  replace G1 : Hid _ := G1
  replace G2 : Hid _ := G2
  go_enter Tryd.func7, Tryd.ntmps7
  go_wp2_with fail
  refine (eadd_any a b c d a1 a2 b1 b2 k1 k2 d1 d2 _).mono ?_
  rintro e w1 ⟨rfl, d1⟩
  have c1 : Below w.heap.size w w1 := Below.trans (by go_grown) (d1.mono (by simp; try omega))
  have p0 : w1.cell? ⟨w.heap.size, 0, none⟩ = some (.int .i64 a) := keepCell d1 (by go_simp)
  have qp0 := World.block_lt_of_cell? _ _ p0
  have p1 : w1.cell? ⟨w.heap.size, 1, none⟩ = some (.int .i64 b) := keepCell d1 (by go_simp)
  have p2 : w1.cell? ⟨w.heap.size + 1, 0, none⟩ = some (.int .i64 c) := keepCell d1 (by go_simp)
  have qp2 := World.block_lt_of_cell? _ _ p2
  have p3 : w1.cell? ⟨w.heap.size + 1, 1, none⟩ = some (.int .i64 d) := keepCell d1 (by go_simp)
  have hB := c1
  clear c1 d1
  go_wp2_with fail
  have hal : Below w1.heap.size w1 (w1.alloc (.cells #[.int .i64 (keptA (a + c) (b + d)), .int .i64 (keptB (a + c) (b + d))] 23)).drew := (allocB _ _).drew
  have r0 := keepCell hal p0
  have r1 := keepCell hal p1
  have r2 := keepCell hal p2
  have r3 := keepCell hal p3
  have r4 : (w1.alloc (.cells #[.int .i64 (keptA (a + c) (b + d)), .int .i64 (keptB (a + c) (b + d))] 23)).drew.cell? ⟨w1.heap.size, 0, none⟩ = some (.int .i64 (keptA (a + c) (b + d))) := by go_simp
  have r5 : (w1.alloc (.cells #[.int .i64 (keptA (a + c) (b + d)), .int .i64 (keptB (a + c) (b + d))] 23)).drew.cell? ⟨w1.heap.size, 1, none⟩ = some (.int .i64 (keptB (a + c) (b + d))) := by go_simp
  go_cut [7, 8] from 29 (fun v7 v8 wx => ∃ B : Nat, v7 = .pointer (some ⟨B, 0, none⟩) ∧ v8 = .bool (both (a + c) (b + d)) ∧ wx.cell? ⟨B, 0, none⟩ = some (.int .i64 (keptA (a + c) (b + d))) ∧ wx.cell? ⟨B, 1, none⟩ = some (.int .i64 (keptB (a + c) (b + d))) ∧ wx.cell? ⟨w.heap.size, 0, none⟩ = some (.int .i64 a) ∧ wx.cell? ⟨w.heap.size, 1, none⟩ = some (.int .i64 b) ∧ wx.cell? ⟨w.heap.size + 1, 0, none⟩ = some (.int .i64 c) ∧ wx.cell? ⟨w.heap.size + 1, 1, none⟩ = some (.int .i64 d) ∧ wx.cell? ⟨w1.heap.size, 0, none⟩ = some (.int .i64 (keptA (a + c) (b + d))) ∧ wx.cell? ⟨w1.heap.size, 1, none⟩ = some (.int .i64 (keptB (a + c) (b + d))) ∧ Below w1.heap.size w1 wx)
  case first =>
    as_aux_lemma =>
      go_region_held3 (fun w' => w'.cell? ⟨w.heap.size, 0, none⟩ = some (.int .i64 a) ∧ w'.cell? ⟨w.heap.size, 1, none⟩ = some (.int .i64 b) ∧ w'.cell? ⟨w.heap.size + 1, 0, none⟩ = some (.int .i64 c) ∧ w'.cell? ⟨w.heap.size + 1, 1, none⟩ = some (.int .i64 d) ∧ w'.cell? ⟨w1.heap.size, 0, none⟩ = some (.int .i64 (keptA (a + c) (b + d))) ∧ w'.cell? ⟨w1.heap.size, 1, none⟩ = some (.int .i64 (keptB (a + c) (b + d))) ∧ Below w1.heap.size w1 w') (first | exact ⟨r0, r1, r2, r3, r4, r5, hal⟩ | exact keepSix hb (by assumption) | exact keepSix (allocB _ _) (by assumption) | exact keepSixSwap (by first | omega | (simp; omega) | simp) (by first | omega | (simp; omega) | simp) (by first | omega | (simp; omega) | simp) (by first | omega | (simp; omega) | simp) (by first | omega | (simp; omega) | simp) (by first | omega | (simp; omega) | simp) (by first | omega | (simp; omega) | simp) (by assumption) | exact keepSixStore (by first | omega | (simp; omega) | simp) (by first | omega | (simp; omega) | simp) (by first | omega | (simp; omega) | simp) (by first | omega | (simp; omega) | simp) (by first | omega | (simp; omega) | simp) (by first | omega | (simp; omega) | simp) (by first | omega | (simp; omega) | simp) (by assumption))
        (first | (go_at_call 21; refine (wide_any _ (by assumption) (by assumption) _).mono ?_; rintro e w' ⟨rfl, hb⟩; (try (have nw := keepNew hb (by first | assumption | exact new_second _ _ | exact new_second' _ _ | exact new_alloc _ | exact new_drew _); have nw0 := nw.1; have nw1 := nw.2.1; have nw2 := nw.2.2.1; have nw3 := nw.2.2.2)); have hz := hb.size; (try simp at hz)) | (go_at_call 22; refine (plus_any _ _ _).mono ?_; rintro e w' ⟨rfl, hb⟩; (try (have nw := keepNew hb (by first | assumption | exact new_second _ _ | exact new_second' _ _ | exact new_alloc _ | exact new_drew _); have nw0 := nw.1; have nw1 := nw.2.1; have nw2 := nw.2.2.1; have nw3 := nw.2.2.2)); have hz := hb.size; (try simp at hz)) | (go_at_call 23; refine (turned_any _ _).mono ?_; rintro e w' ⟨rfl, hb⟩; (try (have nw := keepNew hb (by first | assumption | exact new_second _ _ | exact new_second' _ _ | exact new_alloc _ | exact new_drew _); have nw0 := nw.1; have nw1 := nw.2.1; have nw2 := nw.2.2.1; have nw3 := nw.2.2.2)); have hz := hb.size; (try simp at hz)) | (go_at_call 20; refine (TA.out _).mono ?_; rintro e w' ⟨rfl, hb⟩; (try (have nw := keepNew hb (by first | assumption | exact new_second _ _ | exact new_second' _ _ | exact new_alloc _ | exact new_drew _); have nw0 := nw.1; have nw1 := nw.2.1; have nw2 := nw.2.2.1; have nw3 := nw.2.2.2)); have hz := hb.size; (try simp at hz)))
      all_goals
        rename_i hS
        go_wp2_with fail
        go_meet
        exact ⟨_, rfl, rfl, (by first | exact store_keep (store_new nw0) (by simp) | go_simp), (by first | exact store_new (store_keep nw1 (by simp)) | go_simp), hS⟩
  case rest =>
    obtain ⟨Bsb, rfl, rfl, sb0, sb1, hS⟩ := hcut
    obtain ⟨p0, p1, p2, p3, x0, x1, hw⟩ := hS
    replace hB := belowT hB hw
    clear hw hal r0 r1 r2 r3 r4 r5 TA
    have qp0 := World.block_lt_of_cell? _ _ p0
    have qp2 := World.block_lt_of_cell? _ _ p2
    have qx0 := World.block_lt_of_cell? _ _ x0
    have qsb0 := World.block_lt_of_cell? _ _ sb0
    go_wp2_with fail
    refine (ES.out _).mono ?_
    rintro e m1 ⟨rfl, d1⟩
    have c1 : Below wc.heap.size wc m1 := Below.trans (by go_grown) (d1.mono (by simp; try omega))
    replace p0 := keepCell c1 p0
    replace qp0 := World.block_lt_of_cell? _ _ p0
    replace p1 := keepCell c1 p1
    replace p2 := keepCell c1 p2
    replace qp2 := World.block_lt_of_cell? _ _ p2
    replace p3 := keepCell c1 p3
    replace x0 := keepCell c1 x0
    replace qx0 := World.block_lt_of_cell? _ _ x0
    replace x1 := keepCell c1 x1
    replace sb0 := keepCell c1 sb0
    replace qsb0 := World.block_lt_of_cell? _ _ sb0
    replace sb1 := keepCell c1 sb1
    replace hB := belowT hB c1
    clear c1 d1
    go_wp2_with fail
    have hal : Below m1.heap.size m1 (m1.alloc (.cells #[.int .i64 (keptA (a + -c) (b + -d)), .int .i64 (keptB (a + -c) (b + -d))] 23)).drew := (allocB _ _).drew
    have r0 := keepCell hal p0
    have r1 := keepCell hal p1
    have r2 := keepCell hal p2
    have r3 := keepCell hal p3
    have r4 : (m1.alloc (.cells #[.int .i64 (keptA (a + -c) (b + -d)), .int .i64 (keptB (a + -c) (b + -d))] 23)).drew.cell? ⟨m1.heap.size, 0, none⟩ = some (.int .i64 (keptA (a + -c) (b + -d))) := by go_simp
    have r5 : (m1.alloc (.cells #[.int .i64 (keptA (a + -c) (b + -d)), .int .i64 (keptB (a + -c) (b + -d))] 23)).drew.cell? ⟨m1.heap.size, 1, none⟩ = some (.int .i64 (keptB (a + -c) (b + -d))) := by go_simp
    go_cut [11, 12] from 29 (fun v7 v8 wx => ∃ B : Nat, v7 = .pointer (some ⟨B, 0, none⟩) ∧ v8 = .bool (both (a + -c) (b + -d)) ∧ wx.cell? ⟨B, 0, none⟩ = some (.int .i64 (keptA (a + -c) (b + -d))) ∧ wx.cell? ⟨B, 1, none⟩ = some (.int .i64 (keptB (a + -c) (b + -d))) ∧ wx.cell? ⟨w.heap.size, 0, none⟩ = some (.int .i64 a) ∧ wx.cell? ⟨w.heap.size, 1, none⟩ = some (.int .i64 b) ∧ wx.cell? ⟨w.heap.size + 1, 0, none⟩ = some (.int .i64 c) ∧ wx.cell? ⟨w.heap.size + 1, 1, none⟩ = some (.int .i64 d) ∧ wx.cell? ⟨m1.heap.size, 0, none⟩ = some (.int .i64 (keptA (a + -c) (b + -d))) ∧ wx.cell? ⟨m1.heap.size, 1, none⟩ = some (.int .i64 (keptB (a + -c) (b + -d))) ∧ Below m1.heap.size m1 wx)
    case first =>
      as_aux_lemma =>
        go_region_held3 (fun w' => w'.cell? ⟨w.heap.size, 0, none⟩ = some (.int .i64 a) ∧ w'.cell? ⟨w.heap.size, 1, none⟩ = some (.int .i64 b) ∧ w'.cell? ⟨w.heap.size + 1, 0, none⟩ = some (.int .i64 c) ∧ w'.cell? ⟨w.heap.size + 1, 1, none⟩ = some (.int .i64 d) ∧ w'.cell? ⟨m1.heap.size, 0, none⟩ = some (.int .i64 (keptA (a + -c) (b + -d))) ∧ w'.cell? ⟨m1.heap.size, 1, none⟩ = some (.int .i64 (keptB (a + -c) (b + -d))) ∧ Below m1.heap.size m1 w') (first | exact ⟨r0, r1, r2, r3, r4, r5, hal⟩ | exact keepSix hb (by assumption) | exact keepSix (allocB _ _) (by assumption) | exact keepSixSwap (by first | omega | (simp; omega) | simp) (by first | omega | (simp; omega) | simp) (by first | omega | (simp; omega) | simp) (by first | omega | (simp; omega) | simp) (by first | omega | (simp; omega) | simp) (by first | omega | (simp; omega) | simp) (by first | omega | (simp; omega) | simp) (by assumption) | exact keepSixStore (by first | omega | (simp; omega) | simp) (by first | omega | (simp; omega) | simp) (by first | omega | (simp; omega) | simp) (by first | omega | (simp; omega) | simp) (by first | omega | (simp; omega) | simp) (by first | omega | (simp; omega) | simp) (by first | omega | (simp; omega) | simp) (by assumption))
          (first | (go_at_call 21; refine (wide_any _ (by assumption) (by assumption) _).mono ?_; rintro e w' ⟨rfl, hb⟩; (try (have nw := keepNew hb (by first | assumption | exact new_second _ _ | exact new_second' _ _ | exact new_alloc _ | exact new_drew _); have nw0 := nw.1; have nw1 := nw.2.1; have nw2 := nw.2.2.1; have nw3 := nw.2.2.2)); have hz := hb.size; (try simp at hz)) | (go_at_call 22; refine (plus_any _ _ _).mono ?_; rintro e w' ⟨rfl, hb⟩; (try (have nw := keepNew hb (by first | assumption | exact new_second _ _ | exact new_second' _ _ | exact new_alloc _ | exact new_drew _); have nw0 := nw.1; have nw1 := nw.2.1; have nw2 := nw.2.2.1; have nw3 := nw.2.2.2)); have hz := hb.size; (try simp at hz)) | (go_at_call 23; refine (turned_any _ _).mono ?_; rintro e w' ⟨rfl, hb⟩; (try (have nw := keepNew hb (by first | assumption | exact new_second _ _ | exact new_second' _ _ | exact new_alloc _ | exact new_drew _); have nw0 := nw.1; have nw1 := nw.2.1; have nw2 := nw.2.2.1; have nw3 := nw.2.2.2)); have hz := hb.size; (try simp at hz)) | (go_at_call 20; refine (TB.out _).mono ?_; rintro e w' ⟨rfl, hb⟩; (try (have nw := keepNew hb (by first | assumption | exact new_second _ _ | exact new_second' _ _ | exact new_alloc _ | exact new_drew _); have nw0 := nw.1; have nw1 := nw.2.1; have nw2 := nw.2.2.1; have nw3 := nw.2.2.2)); have hz := hb.size; (try simp at hz)))
        all_goals
          rename_i hS
          go_wp2_with fail
          go_meet
          exact ⟨_, rfl, rfl, (by first | exact store_keep (store_new nw0) (by simp) | go_simp), (by first | exact store_new (store_keep nw1 (by simp)) | go_simp), hS⟩
    case rest =>
      obtain ⟨Bdb, rfl, rfl, db0, db1, hS⟩ := hcut
      obtain ⟨p0, p1, p2, p3, y0, y1, hw⟩ := hS
      replace x0 := keepCell hw x0
      replace x1 := keepCell hw x1
      replace sb0 := keepCell hw sb0
      replace sb1 := keepCell hw sb1
      replace hB := belowT hB hw
      clear hw hal r0 r1 r2 r3 r4 r5 TB
      have qp0 := World.block_lt_of_cell? _ _ p0
      have qp2 := World.block_lt_of_cell? _ _ p2
      have qx0 := World.block_lt_of_cell? _ _ x0
      have qsb0 := World.block_lt_of_cell? _ _ sb0
      have qy0 := World.block_lt_of_cell? _ _ y0
      have qdb0 := World.block_lt_of_cell? _ _ db0
      go_wp2_with fail
      refine (emul_any a b c d a1 a2 b1 b2 k1 k2 d1 d2 _).mono ?_
      rintro e n1 ⟨rfl, d1⟩
      have c1 : Below wc.heap.size wc n1 := Below.trans (by go_grown) (d1.mono (by simp; try omega))
      replace p0 := keepCell c1 p0
      replace qp0 := World.block_lt_of_cell? _ _ p0
      replace p1 := keepCell c1 p1
      replace p2 := keepCell c1 p2
      replace qp2 := World.block_lt_of_cell? _ _ p2
      replace p3 := keepCell c1 p3
      replace x0 := keepCell c1 x0
      replace qx0 := World.block_lt_of_cell? _ _ x0
      replace x1 := keepCell c1 x1
      replace sb0 := keepCell c1 sb0
      replace qsb0 := World.block_lt_of_cell? _ _ sb0
      replace sb1 := keepCell c1 sb1
      replace y0 := keepCell c1 y0
      replace qy0 := World.block_lt_of_cell? _ _ y0
      replace y1 := keepCell c1 y1
      replace db0 := keepCell c1 db0
      replace qdb0 := World.block_lt_of_cell? _ _ db0
      replace db1 := keepCell c1 db1
      replace hB := belowT hB c1
      clear c1 d1
      go_wp2_with fail
      refine (refmul_any a b c d a1 a2 b1 b2 k1 k2 d1 d2 _).mono ?_
      rintro e n2 ⟨rfl, d2⟩
      have c2 : Below n1.heap.size n1 n2 := Below.trans (by go_grown) (d2.mono (by simp; try omega))
      replace p0 := keepCell c2 p0
      replace qp0 := World.block_lt_of_cell? _ _ p0
      replace p1 := keepCell c2 p1
      replace p2 := keepCell c2 p2
      replace qp2 := World.block_lt_of_cell? _ _ p2
      replace p3 := keepCell c2 p3
      replace x0 := keepCell c2 x0
      replace qx0 := World.block_lt_of_cell? _ _ x0
      replace x1 := keepCell c2 x1
      replace sb0 := keepCell c2 sb0
      replace qsb0 := World.block_lt_of_cell? _ _ sb0
      replace sb1 := keepCell c2 sb1
      replace y0 := keepCell c2 y0
      replace qy0 := World.block_lt_of_cell? _ _ y0
      replace y1 := keepCell c2 y1
      replace db0 := keepCell c2 db0
      replace qdb0 := World.block_lt_of_cell? _ _ db0
      replace db1 := keepCell c2 db1
      have z0 : n2.cell? ⟨n1.heap.size, 0, none⟩ = some (.int .i64 (keptA (a * c - b * d) (a * d + b * c + b * d))) := keepCell d2 (by go_simp)
      have qz0 := World.block_lt_of_cell? _ _ z0
      have z1 : n2.cell? ⟨n1.heap.size, 1, none⟩ = some (.int .i64 (keptB (a * c - b * d) (a * d + b * c + b * d))) := keepCell d2 (by go_simp)
      replace hB := belowT hB c2
      clear c2 d2
      go_wp2_with fail
      refine (econj_any a b a1 a2 b1 b2 _).mono ?_
      rintro e n3 ⟨rfl, d3⟩
      have c3 : Below n2.heap.size n2 n3 := Below.trans (by go_grown) (d3.mono (by simp; try omega))
      replace p0 := keepCell c3 p0
      replace qp0 := World.block_lt_of_cell? _ _ p0
      replace p1 := keepCell c3 p1
      replace p2 := keepCell c3 p2
      replace qp2 := World.block_lt_of_cell? _ _ p2
      replace p3 := keepCell c3 p3
      replace x0 := keepCell c3 x0
      replace qx0 := World.block_lt_of_cell? _ _ x0
      replace x1 := keepCell c3 x1
      replace sb0 := keepCell c3 sb0
      replace qsb0 := World.block_lt_of_cell? _ _ sb0
      replace sb1 := keepCell c3 sb1
      replace y0 := keepCell c3 y0
      replace qy0 := World.block_lt_of_cell? _ _ y0
      replace y1 := keepCell c3 y1
      replace db0 := keepCell c3 db0
      replace qdb0 := World.block_lt_of_cell? _ _ db0
      replace db1 := keepCell c3 db1
      replace z0 := keepCell c3 z0
      replace qz0 := World.block_lt_of_cell? _ _ z0
      replace z1 := keepCell c3 z1
      have pp0 : n3.cell? ⟨n2.heap.size, 0, none⟩ = some (.int .i64 (keptA (a * c - b * d) (a * d + b * c + b * d))) := keepCell d3 (by go_simp)
      have qpp0 := World.block_lt_of_cell? _ _ pp0
      have pp1 : n3.cell? ⟨n2.heap.size, 1, none⟩ = some (.int .i64 (keptB (a * c - b * d) (a * d + b * c + b * d))) := keepCell d3 (by go_simp)
      replace hB := belowT hB c3
      clear c3 d3
      go_wp2_with fail
      have hal : Below n3.heap.size n3 (n3.alloc (.cells #[.int .i64 (keptA (a + b) (-b)), .int .i64 (keptB (a + b) (-b))] 23)).drew := (allocB _ _).drew
      have r0 := keepCell hal p0
      have r1 := keepCell hal p1
      have r2 := keepCell hal p2
      have r3 := keepCell hal p3
      have r4 : (n3.alloc (.cells #[.int .i64 (keptA (a + b) (-b)), .int .i64 (keptB (a + b) (-b))] 23)).drew.cell? ⟨n3.heap.size, 0, none⟩ = some (.int .i64 (keptA (a + b) (-b))) := by go_simp
      have r5 : (n3.alloc (.cells #[.int .i64 (keptA (a + b) (-b)), .int .i64 (keptB (a + b) (-b))] 23)).drew.cell? ⟨n3.heap.size, 1, none⟩ = some (.int .i64 (keptB (a + b) (-b))) := by go_simp
      go_cut [19, 20] from 29 (fun v7 v8 wx => ∃ B : Nat, v7 = .pointer (some ⟨B, 0, none⟩) ∧ v8 = .bool (both (a + b) (-b)) ∧ wx.cell? ⟨B, 0, none⟩ = some (.int .i64 (keptA (a + b) (-b))) ∧ wx.cell? ⟨B, 1, none⟩ = some (.int .i64 (keptB (a + b) (-b))) ∧ wx.cell? ⟨w.heap.size, 0, none⟩ = some (.int .i64 a) ∧ wx.cell? ⟨w.heap.size, 1, none⟩ = some (.int .i64 b) ∧ wx.cell? ⟨w.heap.size + 1, 0, none⟩ = some (.int .i64 c) ∧ wx.cell? ⟨w.heap.size + 1, 1, none⟩ = some (.int .i64 d) ∧ wx.cell? ⟨n3.heap.size, 0, none⟩ = some (.int .i64 (keptA (a + b) (-b))) ∧ wx.cell? ⟨n3.heap.size, 1, none⟩ = some (.int .i64 (keptB (a + b) (-b))) ∧ Below n3.heap.size n3 wx)
      case first =>
        as_aux_lemma =>
          go_region_held3 (fun w' => w'.cell? ⟨w.heap.size, 0, none⟩ = some (.int .i64 a) ∧ w'.cell? ⟨w.heap.size, 1, none⟩ = some (.int .i64 b) ∧ w'.cell? ⟨w.heap.size + 1, 0, none⟩ = some (.int .i64 c) ∧ w'.cell? ⟨w.heap.size + 1, 1, none⟩ = some (.int .i64 d) ∧ w'.cell? ⟨n3.heap.size, 0, none⟩ = some (.int .i64 (keptA (a + b) (-b))) ∧ w'.cell? ⟨n3.heap.size, 1, none⟩ = some (.int .i64 (keptB (a + b) (-b))) ∧ Below n3.heap.size n3 w') (first | exact ⟨r0, r1, r2, r3, r4, r5, hal⟩ | exact keepSix hb (by assumption) | exact keepSix (allocB _ _) (by assumption) | exact keepSixSwap (by first | omega | (simp; omega) | simp) (by first | omega | (simp; omega) | simp) (by first | omega | (simp; omega) | simp) (by first | omega | (simp; omega) | simp) (by first | omega | (simp; omega) | simp) (by first | omega | (simp; omega) | simp) (by first | omega | (simp; omega) | simp) (by assumption) | exact keepSixStore (by first | omega | (simp; omega) | simp) (by first | omega | (simp; omega) | simp) (by first | omega | (simp; omega) | simp) (by first | omega | (simp; omega) | simp) (by first | omega | (simp; omega) | simp) (by first | omega | (simp; omega) | simp) (by first | omega | (simp; omega) | simp) (by assumption))
            (first | (go_at_call 21; refine (wide_any _ (by assumption) (by assumption) _).mono ?_; rintro e w' ⟨rfl, hb⟩; (try (have nw := keepNew hb (by first | assumption | exact new_second _ _ | exact new_second' _ _ | exact new_alloc _ | exact new_drew _); have nw0 := nw.1; have nw1 := nw.2.1; have nw2 := nw.2.2.1; have nw3 := nw.2.2.2)); have hz := hb.size; (try simp at hz)) | (go_at_call 22; refine (plus_any _ _ _).mono ?_; rintro e w' ⟨rfl, hb⟩; (try (have nw := keepNew hb (by first | assumption | exact new_second _ _ | exact new_second' _ _ | exact new_alloc _ | exact new_drew _); have nw0 := nw.1; have nw1 := nw.2.1; have nw2 := nw.2.2.1; have nw3 := nw.2.2.2)); have hz := hb.size; (try simp at hz)) | (go_at_call 23; refine (turned_any _ _).mono ?_; rintro e w' ⟨rfl, hb⟩; (try (have nw := keepNew hb (by first | assumption | exact new_second _ _ | exact new_second' _ _ | exact new_alloc _ | exact new_drew _); have nw0 := nw.1; have nw1 := nw.2.1; have nw2 := nw.2.2.1; have nw3 := nw.2.2.2)); have hz := hb.size; (try simp at hz)) | (go_at_call 20; refine (TC.out _).mono ?_; rintro e w' ⟨rfl, hb⟩; (try (have nw := keepNew hb (by first | assumption | exact new_second _ _ | exact new_second' _ _ | exact new_alloc _ | exact new_drew _); have nw0 := nw.1; have nw1 := nw.2.1; have nw2 := nw.2.2.1; have nw3 := nw.2.2.2)); have hz := hb.size; (try simp at hz)))
          all_goals
            rename_i hS
            go_wp2_with fail
            go_meet
            exact ⟨_, rfl, rfl, (by first | exact store_keep (store_new nw0) (by simp) | go_simp), (by first | exact store_new (store_keep nw1 (by simp)) | go_simp), hS⟩
      case rest =>
        obtain ⟨Beb, rfl, rfl, eb0, eb1, hS⟩ := hcut
        obtain ⟨p0, p1, p2, p3, cc0, cc1, hw⟩ := hS
        replace x0 := keepCell hw x0
        replace x1 := keepCell hw x1
        replace sb0 := keepCell hw sb0
        replace sb1 := keepCell hw sb1
        replace y0 := keepCell hw y0
        replace y1 := keepCell hw y1
        replace db0 := keepCell hw db0
        replace db1 := keepCell hw db1
        replace z0 := keepCell hw z0
        replace z1 := keepCell hw z1
        replace pp0 := keepCell hw pp0
        replace pp1 := keepCell hw pp1
        replace hB := belowT hB hw
        clear hw hal r0 r1 r2 r3 r4 r5 TC
        have qp0 := World.block_lt_of_cell? _ _ p0
        have qp2 := World.block_lt_of_cell? _ _ p2
        have qx0 := World.block_lt_of_cell? _ _ x0
        have qsb0 := World.block_lt_of_cell? _ _ sb0
        have qy0 := World.block_lt_of_cell? _ _ y0
        have qdb0 := World.block_lt_of_cell? _ _ db0
        have qz0 := World.block_lt_of_cell? _ _ z0
        have qpp0 := World.block_lt_of_cell? _ _ pp0
        have qcc0 := World.block_lt_of_cell? _ _ cc0
        have qeb0 := World.block_lt_of_cell? _ _ eb0
        go_wp2_with fail
        refine (enorm_any a b a1 a2 b1 b2 _).mono ?_
        rintro e o1 ⟨rfl, d1⟩
        have c1 : Below wc.heap.size wc o1 := Below.trans (by go_grown) (d1.mono (by simp; try omega))
        replace p0 := keepCell c1 p0
        replace qp0 := World.block_lt_of_cell? _ _ p0
        replace p1 := keepCell c1 p1
        replace p2 := keepCell c1 p2
        replace qp2 := World.block_lt_of_cell? _ _ p2
        replace p3 := keepCell c1 p3
        replace x0 := keepCell c1 x0
        replace qx0 := World.block_lt_of_cell? _ _ x0
        replace x1 := keepCell c1 x1
        replace sb0 := keepCell c1 sb0
        replace qsb0 := World.block_lt_of_cell? _ _ sb0
        replace sb1 := keepCell c1 sb1
        replace y0 := keepCell c1 y0
        replace qy0 := World.block_lt_of_cell? _ _ y0
        replace y1 := keepCell c1 y1
        replace db0 := keepCell c1 db0
        replace qdb0 := World.block_lt_of_cell? _ _ db0
        replace db1 := keepCell c1 db1
        replace z0 := keepCell c1 z0
        replace qz0 := World.block_lt_of_cell? _ _ z0
        replace z1 := keepCell c1 z1
        replace pp0 := keepCell c1 pp0
        replace qpp0 := World.block_lt_of_cell? _ _ pp0
        replace pp1 := keepCell c1 pp1
        replace cc0 := keepCell c1 cc0
        replace qcc0 := World.block_lt_of_cell? _ _ cc0
        replace cc1 := keepCell c1 cc1
        replace eb0 := keepCell c1 eb0
        replace qeb0 := World.block_lt_of_cell? _ _ eb0
        replace eb1 := keepCell c1 eb1
        replace hB := belowT hB c1
        clear c1 d1
        go_wp2_with fail
        refine (refnorm_any a b a1 a2 b1 b2 _).mono ?_
        rintro e o2 ⟨rfl, d2⟩
        have c2 : Below o1.heap.size o1 o2 := Below.trans (by go_grown) (d2.mono (by simp; try omega))
        replace p0 := keepCell c2 p0
        replace qp0 := World.block_lt_of_cell? _ _ p0
        replace p1 := keepCell c2 p1
        replace p2 := keepCell c2 p2
        replace qp2 := World.block_lt_of_cell? _ _ p2
        replace p3 := keepCell c2 p3
        replace x0 := keepCell c2 x0
        replace qx0 := World.block_lt_of_cell? _ _ x0
        replace x1 := keepCell c2 x1
        replace sb0 := keepCell c2 sb0
        replace qsb0 := World.block_lt_of_cell? _ _ sb0
        replace sb1 := keepCell c2 sb1
        replace y0 := keepCell c2 y0
        replace qy0 := World.block_lt_of_cell? _ _ y0
        replace y1 := keepCell c2 y1
        replace db0 := keepCell c2 db0
        replace qdb0 := World.block_lt_of_cell? _ _ db0
        replace db1 := keepCell c2 db1
        replace z0 := keepCell c2 z0
        replace qz0 := World.block_lt_of_cell? _ _ z0
        replace z1 := keepCell c2 z1
        replace pp0 := keepCell c2 pp0
        replace qpp0 := World.block_lt_of_cell? _ _ pp0
        replace pp1 := keepCell c2 pp1
        replace cc0 := keepCell c2 cc0
        replace qcc0 := World.block_lt_of_cell? _ _ cc0
        replace cc1 := keepCell c2 cc1
        replace eb0 := keepCell c2 eb0
        replace qeb0 := World.block_lt_of_cell? _ _ eb0
        replace eb1 := keepCell c2 eb1
        replace hB := belowT hB c2
        clear c2 d2
        go_wp2_with fail
        refine (SM.out _).mono ?_
        rintro e o3 ⟨rfl, d3⟩
        have c3 : Below o2.heap.size o2 o3 := Below.trans (by go_grown) (d3.mono (by simp; try omega))
        replace p0 := keepCell c3 p0
        replace qp0 := World.block_lt_of_cell? _ _ p0
        replace p1 := keepCell c3 p1
        replace p2 := keepCell c3 p2
        replace qp2 := World.block_lt_of_cell? _ _ p2
        replace p3 := keepCell c3 p3
        replace x0 := keepCell c3 x0
        replace qx0 := World.block_lt_of_cell? _ _ x0
        replace x1 := keepCell c3 x1
        replace sb0 := keepCell c3 sb0
        replace qsb0 := World.block_lt_of_cell? _ _ sb0
        replace sb1 := keepCell c3 sb1
        replace y0 := keepCell c3 y0
        replace qy0 := World.block_lt_of_cell? _ _ y0
        replace y1 := keepCell c3 y1
        replace db0 := keepCell c3 db0
        replace qdb0 := World.block_lt_of_cell? _ _ db0
        replace db1 := keepCell c3 db1
        replace z0 := keepCell c3 z0
        replace qz0 := World.block_lt_of_cell? _ _ z0
        replace z1 := keepCell c3 z1
        replace pp0 := keepCell c3 pp0
        replace qpp0 := World.block_lt_of_cell? _ _ pp0
        replace pp1 := keepCell c3 pp1
        replace cc0 := keepCell c3 cc0
        replace qcc0 := World.block_lt_of_cell? _ _ cc0
        replace cc1 := keepCell c3 cc1
        replace eb0 := keepCell c3 eb0
        replace qeb0 := World.block_lt_of_cell? _ _ eb0
        replace eb1 := keepCell c3 eb1
        replace hB := belowT hB c3
        clear c3 d3
        go_wp2_with fail
        refine (G1.out _).mono ?_
        rintro e o4 ⟨rfl, d4⟩
        have c4 : Below o3.heap.size o3 o4 := Below.trans (by go_grown) (d4.mono (by simp; try omega))
        replace p0 := keepCell c4 p0
        replace qp0 := World.block_lt_of_cell? _ _ p0
        replace p1 := keepCell c4 p1
        replace p2 := keepCell c4 p2
        replace qp2 := World.block_lt_of_cell? _ _ p2
        replace p3 := keepCell c4 p3
        replace x0 := keepCell c4 x0
        replace qx0 := World.block_lt_of_cell? _ _ x0
        replace x1 := keepCell c4 x1
        replace sb0 := keepCell c4 sb0
        replace qsb0 := World.block_lt_of_cell? _ _ sb0
        replace sb1 := keepCell c4 sb1
        replace y0 := keepCell c4 y0
        replace qy0 := World.block_lt_of_cell? _ _ y0
        replace y1 := keepCell c4 y1
        replace db0 := keepCell c4 db0
        replace qdb0 := World.block_lt_of_cell? _ _ db0
        replace db1 := keepCell c4 db1
        replace z0 := keepCell c4 z0
        replace qz0 := World.block_lt_of_cell? _ _ z0
        replace z1 := keepCell c4 z1
        replace pp0 := keepCell c4 pp0
        replace qpp0 := World.block_lt_of_cell? _ _ pp0
        replace pp1 := keepCell c4 pp1
        replace cc0 := keepCell c4 cc0
        replace qcc0 := World.block_lt_of_cell? _ _ cc0
        replace cc1 := keepCell c4 cc1
        replace eb0 := keepCell c4 eb0
        replace qeb0 := World.block_lt_of_cell? _ _ eb0
        replace eb1 := keepCell c4 eb1
        replace hB := belowT hB c4
        clear c4 d4
        go_wp2_with fail
        refine (G2.out _).mono ?_
        rintro e o5 ⟨rfl, d5⟩
        have c5 : Below o4.heap.size o4 o5 := Below.trans (by go_grown) (d5.mono (by simp; try omega))
        replace p0 := keepCell c5 p0
        replace qp0 := World.block_lt_of_cell? _ _ p0
        replace p1 := keepCell c5 p1
        replace p2 := keepCell c5 p2
        replace qp2 := World.block_lt_of_cell? _ _ p2
        replace p3 := keepCell c5 p3
        replace x0 := keepCell c5 x0
        replace qx0 := World.block_lt_of_cell? _ _ x0
        replace x1 := keepCell c5 x1
        replace sb0 := keepCell c5 sb0
        replace qsb0 := World.block_lt_of_cell? _ _ sb0
        replace sb1 := keepCell c5 sb1
        replace y0 := keepCell c5 y0
        replace qy0 := World.block_lt_of_cell? _ _ y0
        replace y1 := keepCell c5 y1
        replace db0 := keepCell c5 db0
        replace qdb0 := World.block_lt_of_cell? _ _ db0
        replace db1 := keepCell c5 db1
        replace z0 := keepCell c5 z0
        replace qz0 := World.block_lt_of_cell? _ _ z0
        replace z1 := keepCell c5 z1
        replace pp0 := keepCell c5 pp0
        replace qpp0 := World.block_lt_of_cell? _ _ pp0
        replace pp1 := keepCell c5 pp1
        replace cc0 := keepCell c5 cc0
        replace qcc0 := World.block_lt_of_cell? _ _ cc0
        replace cc1 := keepCell c5 cc1
        replace eb0 := keepCell c5 eb0
        replace qeb0 := World.block_lt_of_cell? _ _ eb0
        replace eb1 := keepCell c5 eb1
        replace hB := belowT hB c5
        clear c5 d5
        go_wp2_with fail
        refine (awake _ ?_).mono ?_
        · exact hU.below (belowT hB (by go_grown))
        rintro e o6 ⟨rfl, d6⟩
        have c6 : Below o5.heap.size o5 o6 := Below.trans (by go_grown) (d6.mono (by simp; try omega))
        replace p0 := keepCell c6 p0
        replace qp0 := World.block_lt_of_cell? _ _ p0
        replace p1 := keepCell c6 p1
        replace p2 := keepCell c6 p2
        replace qp2 := World.block_lt_of_cell? _ _ p2
        replace p3 := keepCell c6 p3
        replace x0 := keepCell c6 x0
        replace qx0 := World.block_lt_of_cell? _ _ x0
        replace x1 := keepCell c6 x1
        replace sb0 := keepCell c6 sb0
        replace qsb0 := World.block_lt_of_cell? _ _ sb0
        replace sb1 := keepCell c6 sb1
        replace y0 := keepCell c6 y0
        replace qy0 := World.block_lt_of_cell? _ _ y0
        replace y1 := keepCell c6 y1
        replace db0 := keepCell c6 db0
        replace qdb0 := World.block_lt_of_cell? _ _ db0
        replace db1 := keepCell c6 db1
        replace z0 := keepCell c6 z0
        replace qz0 := World.block_lt_of_cell? _ _ z0
        replace z1 := keepCell c6 z1
        replace pp0 := keepCell c6 pp0
        replace qpp0 := World.block_lt_of_cell? _ _ pp0
        replace pp1 := keepCell c6 pp1
        replace cc0 := keepCell c6 cc0
        replace qcc0 := World.block_lt_of_cell? _ _ cc0
        replace cc1 := keepCell c6 cc1
        replace eb0 := keepCell c6 eb0
        replace qeb0 := World.block_lt_of_cell? _ _ eb0
        replace eb1 := keepCell c6 eb1
        replace hB := belowT hB c6
        clear c6 d6
        go_wp2
        go_ret
        exact ⟨rfl, hB⟩
end Go.Proofs.YtpncnpmikhbmnaaDoor
