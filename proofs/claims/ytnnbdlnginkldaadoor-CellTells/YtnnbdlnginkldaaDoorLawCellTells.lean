/-
  The law CellTells answers true for every cell, three numbers and a size, in whatever memory where the tables of Units and of digits hold what their texts lay: which cells may be, their parents, children, digits and bases are told as the document's own answer has them, or refused alike.
-/
import Derived.Test.YtnnbdlnginkldaaDoorCSome
import Derived.Test.YtnnbdlnginkldaaDoorCAwake
namespace Go.Proofs.YtnnbdlnginkldaaDoor
open Go.RowKit

theorem keepTells {w0 a b : World} {p0 p1 p2 p3 p4 p5 p6 p7 p8 p9 p10 p11 p12 p13 p14 p15 p16 p17 p18 p19 p20 : Addr} {v0 v1 v2 v3 v4 v5 v6 v7 v8 v9 v10 v11 v12 v13 v14 v15 v16 v17 v18 v19 v20 : Value} (hb : Below a.heap.size a b) (h : a.cell? p0 = some v0 ∧ a.cell? p1 = some v1 ∧ a.cell? p2 = some v2 ∧ a.cell? p3 = some v3 ∧ a.cell? p4 = some v4 ∧ a.cell? p5 = some v5 ∧ a.cell? p6 = some v6 ∧ a.cell? p7 = some v7 ∧ a.cell? p8 = some v8 ∧ a.cell? p9 = some v9 ∧ a.cell? p10 = some v10 ∧ a.cell? p11 = some v11 ∧ a.cell? p12 = some v12 ∧ a.cell? p13 = some v13 ∧ a.cell? p14 = some v14 ∧ a.cell? p15 = some v15 ∧ a.cell? p16 = some v16 ∧ a.cell? p17 = some v17 ∧ a.cell? p18 = some v18 ∧ a.cell? p19 = some v19 ∧ a.cell? p20 = some v20 ∧ Below w0.heap.size w0 a) : b.cell? p0 = some v0 ∧ b.cell? p1 = some v1 ∧ b.cell? p2 = some v2 ∧ b.cell? p3 = some v3 ∧ b.cell? p4 = some v4 ∧ b.cell? p5 = some v5 ∧ b.cell? p6 = some v6 ∧ b.cell? p7 = some v7 ∧ b.cell? p8 = some v8 ∧ b.cell? p9 = some v9 ∧ b.cell? p10 = some v10 ∧ b.cell? p11 = some v11 ∧ b.cell? p12 = some v12 ∧ b.cell? p13 = some v13 ∧ b.cell? p14 = some v14 ∧ b.cell? p15 = some v15 ∧ b.cell? p16 = some v16 ∧ b.cell? p17 = some v17 ∧ b.cell? p18 = some v18 ∧ b.cell? p19 = some v19 ∧ b.cell? p20 = some v20 ∧ Below w0.heap.size w0 b := by
  obtain ⟨h0, h1, h2, h3, h4, h5, h6, h7, h8, h9, h10, h11, h12, h13, h14, h15, h16, h17, h18, h19, h20, hw⟩ := h
  exact ⟨keepCell hb h0, keepCell hb h1, keepCell hb h2, keepCell hb h3, keepCell hb h4, keepCell hb h5, keepCell hb h6, keepCell hb h7, keepCell hb h8, keepCell hb h9, keepCell hb h10, keepCell hb h11, keepCell hb h12, keepCell hb h13, keepCell hb h14, keepCell hb h15, keepCell hb h16, keepCell hb h17, keepCell hb h18, keepCell hb h19, keepCell hb h20, belowT hw hb⟩

/-- Both answers are the same, of whatever numbers. -/
theorem parent_both (R A B : Int) : ∃ X Y Z E : Int, (∀ w, Tabs w → Calls Tryd.prog 18 #[.agg #[.int .i64 R, .int .i64 A, .int .i64 B]] w fun e w' => e = .returned (.tuple #[.agg #[.int .i64 X, .int .i64 Y, .int .i64 Z], .int .i64 E]) ∧ Below w.heap.size w w')
    ∧ ∀ w, Calls Tryd.prog 19 #[.agg #[.int .i64 R, .int .i64 A, .int .i64 B]] w fun e w' => e = .returned (.tuple #[.agg #[.int .i64 X, .int .i64 Y, .int .i64 Z], .int .i64 E]) ∧ Below w.heap.size w w' := by
  by_cases h : Ok4 R A B
  · by_cases h0 : 0 < R
    · exact ⟨_, _, _, _, cparent_yes R A B h h0, rparent4_yes R A B h h0⟩
    · have hr : (R == 0) = true := by have := h.1; simp; omega
      exact ⟨_, _, _, _, cparent_top R A B h hr, rparent4_top R A B h hr⟩
  · exact ⟨_, _, _, _, cparent_bad R A B h, rparent4_bad R A B h⟩
theorem up_both (R A B t : Int) : ∃ X Y Z E : Int, (∀ w, Tabs w → Calls Tryd.prog 10 #[.agg #[.int .i64 R, .int .i64 A, .int .i64 B], .int .i64 t] w fun e w' => e = .returned (.tuple #[.agg #[.int .i64 X, .int .i64 Y, .int .i64 Z], .int .i64 E]) ∧ Below w.heap.size w w')
    ∧ ∀ w, Calls Tryd.prog 21 #[.agg #[.int .i64 R, .int .i64 A, .int .i64 B], .int .i64 t] w fun e w' => e = .returned (.tuple #[.agg #[.int .i64 X, .int .i64 Y, .int .i64 Z], .int .i64 E]) ∧ Below w.heap.size w w' := by
  by_cases h : Ok4 R A B
  · by_cases h0 : 0 ≤ t ∧ t ≤ R
    · exact ⟨_, _, _, _, fun w hT => cupto_yes R A B t (R - t).toNat (by omega) h h0.1 w hT, fun w => rup_yes R A B t (R - t).toNat (by omega) h h0.1 w⟩
    · exact ⟨_, _, _, _, cupto_arg R A B t h h0, rup_arg R A B t h h0⟩
  · exact ⟨_, _, _, _, cupto_bad R A B t h, rup_bad R A B t h⟩
theorem digit_both (R A B : Int) : ∃ D : Int, (∀ w, Tabs w → Calls Tryd.prog 15 #[.agg #[.int .i64 R, .int .i64 A, .int .i64 B]] w fun e w' => e = .returned (.int .i64 D) ∧ Below w.heap.size w w')
    ∧ ∀ w, Calls Tryd.prog 23 #[.agg #[.int .i64 R, .int .i64 A, .int .i64 B]] w fun e w' => e = .returned (.int .i64 D) ∧ Below w.heap.size w w' := by
  by_cases h : Ok4 R A B
  · by_cases h0 : 0 < R
    · exact ⟨_, cdigit_yes R A B h h0, rdigit_yes R A B h h0⟩
    · have hr : (R == 0) = true := by have := h.1; simp; omega
      exact ⟨_, cdigit_top R A B h hr, rdigit_top R A B h hr⟩
  · exact ⟨_, cdigit_bad R A B h, rdigit_bad R A B h⟩
theorem kids_both (R A B : Int) : (∃ E : Int, (∀ w, Tabs w → Calls Tryd.prog 14 #[.agg #[.int .i64 R, .int .i64 A, .int .i64 B]] w fun e w' => e = .returned (.tuple #[.slice none 0 0, .int .i64 E]) ∧ Below w.heap.size w w')
      ∧ ∀ w, Calls Tryd.prog 20 #[.agg #[.int .i64 R, .int .i64 A, .int .i64 B]] w fun e w' => e = .returned (.tuple #[.slice none 0 0, .int .i64 E]) ∧ Below w.heap.size w w')
    ∨ ∃ G : Nat → Int, (∀ w, Tabs w → Calls Tryd.prog 14 #[.agg #[.int .i64 R, .int .i64 A, .int .i64 B]] w fun e w' => TellsK w G 0 e w' ∧ Below w.heap.size w w')
      ∧ ∀ w, Calls Tryd.prog 20 #[.agg #[.int .i64 R, .int .i64 A, .int .i64 B]] w fun e w' => TellsC G e w' ∧ Below w.heap.size w w' := by
  by_cases h : Ok4 R A B
  · by_cases h0 : R < 12
    · exact .inr ⟨_, ckids_yes R A B h h0, rkids_yes R A B h h0⟩
    · have hr : (R == 12) = true := by have := h.2.1; simp; omega
      exact .inl ⟨_, ckids_fine R A B h hr, rkids_fine R A B h hr⟩
  · exact .inl ⟨_, ckids_bad R A B h, rkids_bad R A B h⟩

set_option maxHeartbeats 40000000 in
set_option maxRecDepth 20000 in
theorem cellTells_walk (R0 A0 B0 x y r t : Int) (w : World) (hT : Tabs w) :
    Calls Tryd.prog 6 #[.agg #[.int .i64 R0, .int .i64 A0, .int .i64 B0], .int .i64 x, .int .i64 y, .int .i64 r, .int .i64 t] w fun e w' => e = .returned (.bool true) ∧ Below w.heap.size w w' := by
  obtain ⟨s, s0', s12, SO⟩ := csome_any x y r
  replace SO : Hid _ := SO
  have hT0 : Hid (Tabs w) := hT
  clear hT s0' s12
  go_enter Tryd.func6, Tryd.ntmps6
  go_wp2_with fail
  go_loopw [11] (fun v11 wr => ∃ (k : Nat) (R A B : Int), k ≤ 2 ∧ v11 = .int .i64 (k : Int) ∧ wr.cell? ⟨w.heap.size, 0, none⟩ = some (.int .i64 R) ∧ wr.cell? ⟨w.heap.size, 1, none⟩ = some (.int .i64 A) ∧ wr.cell? ⟨w.heap.size, 2, none⟩ = some (.int .i64 B) ∧ wr.frozen? ⟨w.heap.size, 0, none⟩ = false ∧ wr.frozen? ⟨w.heap.size, 1, none⟩ = false ∧ wr.frozen? ⟨w.heap.size, 2, none⟩ = false ∧ Below w.heap.size w wr) (fun v11 _ => 2 - (intOf v11).toNat)
  case atStart => exact ⟨0, R0, A0, B0, by omega, rfl, by go_simp, by go_simp, by go_simp, by go_simp, by go_simp, by go_simp, by go_grown⟩
  case round =>
    obtain ⟨k, R, A, B, hk, rfl, z0, z1, z2, fz0, fz1, fz2, hB⟩ := hrel
    by_cases hlt : k < 2
    · obtain ⟨X, Y, Z, E, PA, RP⟩ := parent_both R A B
      obtain ⟨X2, Y2, Z2, E2, UP, RU⟩ := up_both R A B t
      obtain ⟨X3, Y3, Z3, E3, U0, RB⟩ := up_both R A B 0
      obtain ⟨D, DI, RD⟩ := digit_both R A B
      have BA : Hid _ := cbase_core R A B X3 Y3 Z3 E3 U0
      have KO : Hid _ := cok_any R A B
      have RO : Hid _ := rok_any R A B
      have KK := kids_both R A B
      replace PA : Hid _ := PA
      replace RP : Hid _ := RP
      replace UP : Hid _ := UP
      replace RU : Hid _ := RU
      replace RB : Hid _ := RB
      replace DI : Hid _ := DI
      replace RD : Hid _ := RD
      have hTr : Hid (Tabs wr) := hT0.out.below hB
      clear U0 hT0
      generalize ok4B R A B = v at KO RO
      rcases KK with ⟨E4, CH, RC⟩ | ⟨G, CH, RC⟩
      · replace CH : Hid _ := CH
        replace RC : Hid _ := RC
        have hB0 := hB
        clear hB
        have hB : Below wr.heap.size wr wr := Below.refl _ _
        have qz0 := World.block_lt_of_cell? _ _ z0
        go_wp2_with fail
        refine (PA.out _ ?_).mono ?_
        · exact hTr.out.below hB
        rintro e v1 ⟨rfl, d1⟩
        have c1 : Below wr.heap.size wr v1 := Below.trans (by go_grown) (d1.mono (by simp; try omega))
        replace fz0 := keepFrozen c1 z0 fz0
        replace z0 := keepCell c1 z0
        replace qz0 := World.block_lt_of_cell? _ _ z0
        replace fz1 := keepFrozen c1 z1 fz1
        replace z1 := keepCell c1 z1
        replace fz2 := keepFrozen c1 z2 fz2
        replace z2 := keepCell c1 z2
        replace hB := belowT hB c1
        clear c1 d1
        go_wp2_with fail
        refine (RP.out _).mono ?_
        rintro e v2 ⟨rfl, d2⟩
        have c2 : Below v1.heap.size v1 v2 := Below.trans (by go_grown) (d2.mono (by simp; try omega))
        replace fz0 := keepFrozen c2 z0 fz0
        replace z0 := keepCell c2 z0
        replace qz0 := World.block_lt_of_cell? _ _ z0
        replace fz1 := keepFrozen c2 z1 fz1
        replace z1 := keepCell c2 z1
        replace fz2 := keepFrozen c2 z2 fz2
        replace z2 := keepCell c2 z2
        have p0 : v2.cell? ⟨v1.heap.size, 0, none⟩ = some (.int .i64 X) := keepCell d2 (by go_simp)
        have qp0 := World.block_lt_of_cell? _ _ p0
        have p1 : v2.cell? ⟨v1.heap.size, 1, none⟩ = some (.int .i64 Y) := keepCell d2 (by go_simp)
        have p2 : v2.cell? ⟨v1.heap.size, 2, none⟩ = some (.int .i64 Z) := keepCell d2 (by go_simp)
        replace hB := belowT hB c2
        clear c2 d2
        go_wp2_with fail
        refine (CH.out _ ?_).mono ?_
        · exact hTr.out.below (belowT hB (by go_grown))
        rintro e v3 ⟨rfl, d3⟩
        have c3 : Below v2.heap.size v2 v3 := Below.trans (by go_grown) (d3.mono (by simp; try omega))
        replace fz0 := keepFrozen c3 z0 fz0
        replace z0 := keepCell c3 z0
        replace qz0 := World.block_lt_of_cell? _ _ z0
        replace fz1 := keepFrozen c3 z1 fz1
        replace z1 := keepCell c3 z1
        replace fz2 := keepFrozen c3 z2 fz2
        replace z2 := keepCell c3 z2
        replace p0 := keepCell c3 p0
        replace qp0 := World.block_lt_of_cell? _ _ p0
        replace p1 := keepCell c3 p1
        replace p2 := keepCell c3 p2
        have q0 : v3.cell? ⟨v2.heap.size, 0, none⟩ = some (.int .i64 X) := keepCell d3 (by go_simp)
        have qq0 := World.block_lt_of_cell? _ _ q0
        have q1 : v3.cell? ⟨v2.heap.size, 1, none⟩ = some (.int .i64 Y) := keepCell d3 (by go_simp)
        have q2 : v3.cell? ⟨v2.heap.size, 2, none⟩ = some (.int .i64 Z) := keepCell d3 (by go_simp)
        replace hB := belowT hB c3
        clear c3 d3
        go_wp2_with fail
        refine (RC.out _).mono ?_
        rintro e v4 ⟨rfl, d4⟩
        have c4 : Below v3.heap.size v3 v4 := Below.trans (by go_grown) (d4.mono (by simp; try omega))
        replace fz0 := keepFrozen c4 z0 fz0
        replace z0 := keepCell c4 z0
        replace qz0 := World.block_lt_of_cell? _ _ z0
        replace fz1 := keepFrozen c4 z1 fz1
        replace z1 := keepCell c4 z1
        replace fz2 := keepFrozen c4 z2 fz2
        replace z2 := keepCell c4 z2
        replace p0 := keepCell c4 p0
        replace qp0 := World.block_lt_of_cell? _ _ p0
        replace p1 := keepCell c4 p1
        replace p2 := keepCell c4 p2
        replace q0 := keepCell c4 q0
        replace qq0 := World.block_lt_of_cell? _ _ q0
        replace q1 := keepCell c4 q1
        replace q2 := keepCell c4 q2
        replace hB := belowT hB c4
        clear c4 d4
        go_wp2_with fail
        refine (UP.out _ ?_).mono ?_
        · exact hTr.out.below hB
        rintro e v5 ⟨rfl, d5⟩
        have c5 : Below v4.heap.size v4 v5 := Below.trans (by go_grown) (d5.mono (by simp; try omega))
        replace fz0 := keepFrozen c5 z0 fz0
        replace z0 := keepCell c5 z0
        replace qz0 := World.block_lt_of_cell? _ _ z0
        replace fz1 := keepFrozen c5 z1 fz1
        replace z1 := keepCell c5 z1
        replace fz2 := keepFrozen c5 z2 fz2
        replace z2 := keepCell c5 z2
        replace p0 := keepCell c5 p0
        replace qp0 := World.block_lt_of_cell? _ _ p0
        replace p1 := keepCell c5 p1
        replace p2 := keepCell c5 p2
        replace q0 := keepCell c5 q0
        replace qq0 := World.block_lt_of_cell? _ _ q0
        replace q1 := keepCell c5 q1
        replace q2 := keepCell c5 q2
        replace hB := belowT hB c5
        clear c5 d5
        go_wp2_with fail
        refine (RU.out _).mono ?_
        rintro e v6 ⟨rfl, d6⟩
        have c6 : Below v5.heap.size v5 v6 := Below.trans (by go_grown) (d6.mono (by simp; try omega))
        replace fz0 := keepFrozen c6 z0 fz0
        replace z0 := keepCell c6 z0
        replace qz0 := World.block_lt_of_cell? _ _ z0
        replace fz1 := keepFrozen c6 z1 fz1
        replace z1 := keepCell c6 z1
        replace fz2 := keepFrozen c6 z2 fz2
        replace z2 := keepCell c6 z2
        replace p0 := keepCell c6 p0
        replace qp0 := World.block_lt_of_cell? _ _ p0
        replace p1 := keepCell c6 p1
        replace p2 := keepCell c6 p2
        replace q0 := keepCell c6 q0
        replace qq0 := World.block_lt_of_cell? _ _ q0
        replace q1 := keepCell c6 q1
        replace q2 := keepCell c6 q2
        have u0 : v6.cell? ⟨v5.heap.size, 0, none⟩ = some (.int .i64 X2) := keepCell d6 (by go_simp)
        have qu0 := World.block_lt_of_cell? _ _ u0
        have u1 : v6.cell? ⟨v5.heap.size, 1, none⟩ = some (.int .i64 Y2) := keepCell d6 (by go_simp)
        have u2 : v6.cell? ⟨v5.heap.size, 2, none⟩ = some (.int .i64 Z2) := keepCell d6 (by go_simp)
        replace hB := belowT hB c6
        clear c6 d6
        go_wp2_with fail
        refine (BA.out _ ?_).mono ?_
        · exact hTr.out.below (belowT hB (by go_grown))
        rintro e v7 ⟨rfl, d7⟩
        have c7 : Below v6.heap.size v6 v7 := Below.trans (by go_grown) (d7.mono (by simp; try omega))
        replace fz0 := keepFrozen c7 z0 fz0
        replace z0 := keepCell c7 z0
        replace qz0 := World.block_lt_of_cell? _ _ z0
        replace fz1 := keepFrozen c7 z1 fz1
        replace z1 := keepCell c7 z1
        replace fz2 := keepFrozen c7 z2 fz2
        replace z2 := keepCell c7 z2
        replace p0 := keepCell c7 p0
        replace qp0 := World.block_lt_of_cell? _ _ p0
        replace p1 := keepCell c7 p1
        replace p2 := keepCell c7 p2
        replace q0 := keepCell c7 q0
        replace qq0 := World.block_lt_of_cell? _ _ q0
        replace q1 := keepCell c7 q1
        replace q2 := keepCell c7 q2
        replace u0 := keepCell c7 u0
        replace qu0 := World.block_lt_of_cell? _ _ u0
        replace u1 := keepCell c7 u1
        replace u2 := keepCell c7 u2
        have s0 : v7.cell? ⟨v6.heap.size, 0, none⟩ = some (.int .i64 X2) := keepCell d7 (by go_simp)
        have qs0 := World.block_lt_of_cell? _ _ s0
        have s1 : v7.cell? ⟨v6.heap.size, 1, none⟩ = some (.int .i64 Y2) := keepCell d7 (by go_simp)
        have s2 : v7.cell? ⟨v6.heap.size, 2, none⟩ = some (.int .i64 Z2) := keepCell d7 (by go_simp)
        replace hB := belowT hB c7
        clear c7 d7
        go_wp2_with fail
        refine (RB.out _).mono ?_
        rintro e v8 ⟨rfl, d8⟩
        have c8 : Below v7.heap.size v7 v8 := Below.trans (by go_grown) (d8.mono (by simp; try omega))
        replace fz0 := keepFrozen c8 z0 fz0
        replace z0 := keepCell c8 z0
        replace qz0 := World.block_lt_of_cell? _ _ z0
        replace fz1 := keepFrozen c8 z1 fz1
        replace z1 := keepCell c8 z1
        replace fz2 := keepFrozen c8 z2 fz2
        replace z2 := keepCell c8 z2
        replace p0 := keepCell c8 p0
        replace qp0 := World.block_lt_of_cell? _ _ p0
        replace p1 := keepCell c8 p1
        replace p2 := keepCell c8 p2
        replace q0 := keepCell c8 q0
        replace qq0 := World.block_lt_of_cell? _ _ q0
        replace q1 := keepCell c8 q1
        replace q2 := keepCell c8 q2
        replace u0 := keepCell c8 u0
        replace qu0 := World.block_lt_of_cell? _ _ u0
        replace u1 := keepCell c8 u1
        replace u2 := keepCell c8 u2
        replace s0 := keepCell c8 s0
        replace qs0 := World.block_lt_of_cell? _ _ s0
        replace s1 := keepCell c8 s1
        replace s2 := keepCell c8 s2
        have b0 : v8.cell? ⟨v7.heap.size, 0, none⟩ = some (.int .i64 X3) := keepCell d8 (by go_simp)
        have qb0 := World.block_lt_of_cell? _ _ b0
        have b1 : v8.cell? ⟨v7.heap.size, 1, none⟩ = some (.int .i64 Y3) := keepCell d8 (by go_simp)
        have b2 : v8.cell? ⟨v7.heap.size, 2, none⟩ = some (.int .i64 Z3) := keepCell d8 (by go_simp)
        replace hB := belowT hB c8
        clear c8 d8
        have hal := (allocB v8 (.cells #[.int .i64 X3, .int .i64 Y3, .int .i64 Z3] 25)).drew
        have d0 : (v8.alloc (.cells #[.int .i64 X3, .int .i64 Y3, .int .i64 Z3] 25)).drew.cell? ⟨v8.heap.size, 0, none⟩ = some (.int .i64 X3) := by go_simp
        have d1 : (v8.alloc (.cells #[.int .i64 X3, .int .i64 Y3, .int .i64 Z3] 25)).drew.cell? ⟨v8.heap.size, 1, none⟩ = some (.int .i64 Y3) := by go_simp
        have d2 : (v8.alloc (.cells #[.int .i64 X3, .int .i64 Y3, .int .i64 Z3] 25)).drew.cell? ⟨v8.heap.size, 2, none⟩ = some (.int .i64 Z3) := by go_simp
        have hS0 : (v8.alloc (.cells #[.int .i64 X3, .int .i64 Y3, .int .i64 Z3] 25)).drew.cell? ⟨w.heap.size, 0, none⟩ = some (.int .i64 R) ∧ (v8.alloc (.cells #[.int .i64 X3, .int .i64 Y3, .int .i64 Z3] 25)).drew.cell? ⟨w.heap.size, 1, none⟩ = some (.int .i64 A) ∧ (v8.alloc (.cells #[.int .i64 X3, .int .i64 Y3, .int .i64 Z3] 25)).drew.cell? ⟨w.heap.size, 2, none⟩ = some (.int .i64 B) ∧ (v8.alloc (.cells #[.int .i64 X3, .int .i64 Y3, .int .i64 Z3] 25)).drew.cell? ⟨v1.heap.size, 0, none⟩ = some (.int .i64 X) ∧ (v8.alloc (.cells #[.int .i64 X3, .int .i64 Y3, .int .i64 Z3] 25)).drew.cell? ⟨v1.heap.size, 1, none⟩ = some (.int .i64 Y) ∧ (v8.alloc (.cells #[.int .i64 X3, .int .i64 Y3, .int .i64 Z3] 25)).drew.cell? ⟨v1.heap.size, 2, none⟩ = some (.int .i64 Z) ∧ (v8.alloc (.cells #[.int .i64 X3, .int .i64 Y3, .int .i64 Z3] 25)).drew.cell? ⟨v2.heap.size, 0, none⟩ = some (.int .i64 X) ∧ (v8.alloc (.cells #[.int .i64 X3, .int .i64 Y3, .int .i64 Z3] 25)).drew.cell? ⟨v2.heap.size, 1, none⟩ = some (.int .i64 Y) ∧ (v8.alloc (.cells #[.int .i64 X3, .int .i64 Y3, .int .i64 Z3] 25)).drew.cell? ⟨v2.heap.size, 2, none⟩ = some (.int .i64 Z) ∧ (v8.alloc (.cells #[.int .i64 X3, .int .i64 Y3, .int .i64 Z3] 25)).drew.cell? ⟨v5.heap.size, 0, none⟩ = some (.int .i64 X2) ∧ (v8.alloc (.cells #[.int .i64 X3, .int .i64 Y3, .int .i64 Z3] 25)).drew.cell? ⟨v5.heap.size, 1, none⟩ = some (.int .i64 Y2) ∧ (v8.alloc (.cells #[.int .i64 X3, .int .i64 Y3, .int .i64 Z3] 25)).drew.cell? ⟨v5.heap.size, 2, none⟩ = some (.int .i64 Z2) ∧ (v8.alloc (.cells #[.int .i64 X3, .int .i64 Y3, .int .i64 Z3] 25)).drew.cell? ⟨v6.heap.size, 0, none⟩ = some (.int .i64 X2) ∧ (v8.alloc (.cells #[.int .i64 X3, .int .i64 Y3, .int .i64 Z3] 25)).drew.cell? ⟨v6.heap.size, 1, none⟩ = some (.int .i64 Y2) ∧ (v8.alloc (.cells #[.int .i64 X3, .int .i64 Y3, .int .i64 Z3] 25)).drew.cell? ⟨v6.heap.size, 2, none⟩ = some (.int .i64 Z2) ∧ (v8.alloc (.cells #[.int .i64 X3, .int .i64 Y3, .int .i64 Z3] 25)).drew.cell? ⟨v7.heap.size, 0, none⟩ = some (.int .i64 X3) ∧ (v8.alloc (.cells #[.int .i64 X3, .int .i64 Y3, .int .i64 Z3] 25)).drew.cell? ⟨v7.heap.size, 1, none⟩ = some (.int .i64 Y3) ∧ (v8.alloc (.cells #[.int .i64 X3, .int .i64 Y3, .int .i64 Z3] 25)).drew.cell? ⟨v7.heap.size, 2, none⟩ = some (.int .i64 Z3) ∧ (v8.alloc (.cells #[.int .i64 X3, .int .i64 Y3, .int .i64 Z3] 25)).drew.cell? ⟨v8.heap.size, 0, none⟩ = some (.int .i64 X3) ∧ (v8.alloc (.cells #[.int .i64 X3, .int .i64 Y3, .int .i64 Z3] 25)).drew.cell? ⟨v8.heap.size, 1, none⟩ = some (.int .i64 Y3) ∧ (v8.alloc (.cells #[.int .i64 X3, .int .i64 Y3, .int .i64 Z3] 25)).drew.cell? ⟨v8.heap.size, 2, none⟩ = some (.int .i64 Z3) ∧ Below v8.heap.size v8 (v8.alloc (.cells #[.int .i64 X3, .int .i64 Y3, .int .i64 Z3] 25)).drew := ⟨keepCell hal z0, keepCell hal z1, keepCell hal z2, keepCell hal p0, keepCell hal p1, keepCell hal p2, keepCell hal q0, keepCell hal q1, keepCell hal q2, keepCell hal u0, keepCell hal u1, keepCell hal u2, keepCell hal s0, keepCell hal s1, keepCell hal s2, keepCell hal b0, keepCell hal b1, keepCell hal b2, d0, d1, d2, hal⟩
        have hTS : Hid (∀ wx, (wx.cell? ⟨w.heap.size, 0, none⟩ = some (.int .i64 R) ∧ wx.cell? ⟨w.heap.size, 1, none⟩ = some (.int .i64 A) ∧ wx.cell? ⟨w.heap.size, 2, none⟩ = some (.int .i64 B) ∧ wx.cell? ⟨v1.heap.size, 0, none⟩ = some (.int .i64 X) ∧ wx.cell? ⟨v1.heap.size, 1, none⟩ = some (.int .i64 Y) ∧ wx.cell? ⟨v1.heap.size, 2, none⟩ = some (.int .i64 Z) ∧ wx.cell? ⟨v2.heap.size, 0, none⟩ = some (.int .i64 X) ∧ wx.cell? ⟨v2.heap.size, 1, none⟩ = some (.int .i64 Y) ∧ wx.cell? ⟨v2.heap.size, 2, none⟩ = some (.int .i64 Z) ∧ wx.cell? ⟨v5.heap.size, 0, none⟩ = some (.int .i64 X2) ∧ wx.cell? ⟨v5.heap.size, 1, none⟩ = some (.int .i64 Y2) ∧ wx.cell? ⟨v5.heap.size, 2, none⟩ = some (.int .i64 Z2) ∧ wx.cell? ⟨v6.heap.size, 0, none⟩ = some (.int .i64 X2) ∧ wx.cell? ⟨v6.heap.size, 1, none⟩ = some (.int .i64 Y2) ∧ wx.cell? ⟨v6.heap.size, 2, none⟩ = some (.int .i64 Z2) ∧ wx.cell? ⟨v7.heap.size, 0, none⟩ = some (.int .i64 X3) ∧ wx.cell? ⟨v7.heap.size, 1, none⟩ = some (.int .i64 Y3) ∧ wx.cell? ⟨v7.heap.size, 2, none⟩ = some (.int .i64 Z3) ∧ wx.cell? ⟨v8.heap.size, 0, none⟩ = some (.int .i64 X3) ∧ wx.cell? ⟨v8.heap.size, 1, none⟩ = some (.int .i64 Y3) ∧ wx.cell? ⟨v8.heap.size, 2, none⟩ = some (.int .i64 Z3) ∧ Below v8.heap.size v8 wx) → Tabs wx) := fun wx h => (hTr.out.below hB).below (h.2.2.2.2.2.2.2.2.2.2.2.2.2.2.2.2.2.2.2.2.2)
        go_wp2_with fail
        go_region_held3 (fun w' => w'.cell? ⟨w.heap.size, 0, none⟩ = some (.int .i64 R) ∧ w'.cell? ⟨w.heap.size, 1, none⟩ = some (.int .i64 A) ∧ w'.cell? ⟨w.heap.size, 2, none⟩ = some (.int .i64 B) ∧ w'.cell? ⟨v1.heap.size, 0, none⟩ = some (.int .i64 X) ∧ w'.cell? ⟨v1.heap.size, 1, none⟩ = some (.int .i64 Y) ∧ w'.cell? ⟨v1.heap.size, 2, none⟩ = some (.int .i64 Z) ∧ w'.cell? ⟨v2.heap.size, 0, none⟩ = some (.int .i64 X) ∧ w'.cell? ⟨v2.heap.size, 1, none⟩ = some (.int .i64 Y) ∧ w'.cell? ⟨v2.heap.size, 2, none⟩ = some (.int .i64 Z) ∧ w'.cell? ⟨v5.heap.size, 0, none⟩ = some (.int .i64 X2) ∧ w'.cell? ⟨v5.heap.size, 1, none⟩ = some (.int .i64 Y2) ∧ w'.cell? ⟨v5.heap.size, 2, none⟩ = some (.int .i64 Z2) ∧ w'.cell? ⟨v6.heap.size, 0, none⟩ = some (.int .i64 X2) ∧ w'.cell? ⟨v6.heap.size, 1, none⟩ = some (.int .i64 Y2) ∧ w'.cell? ⟨v6.heap.size, 2, none⟩ = some (.int .i64 Z2) ∧ w'.cell? ⟨v7.heap.size, 0, none⟩ = some (.int .i64 X3) ∧ w'.cell? ⟨v7.heap.size, 1, none⟩ = some (.int .i64 Y3) ∧ w'.cell? ⟨v7.heap.size, 2, none⟩ = some (.int .i64 Z3) ∧ w'.cell? ⟨v8.heap.size, 0, none⟩ = some (.int .i64 X3) ∧ w'.cell? ⟨v8.heap.size, 1, none⟩ = some (.int .i64 Y3) ∧ w'.cell? ⟨v8.heap.size, 2, none⟩ = some (.int .i64 Z3) ∧ Below v8.heap.size v8 w') (first | exact hS0 | exact keepTells hb (by assumption))
          (first | (go_at_call 13; refine (KO.out _ (hTS.out _ (by assumption))).mono ?_; rintro e w' ⟨rfl, hb⟩) | (go_at_call 22; refine (RO.out _).mono ?_; rintro e w' ⟨rfl, hb⟩) | (go_at_call 15; refine (DI.out _ (hTS.out _ (by assumption))).mono ?_; rintro e w' ⟨rfl, hb⟩) | (go_at_call 23; refine (RD.out _).mono ?_; rintro e w' ⟨rfl, hb⟩))
        rename_i hS
        have hW : Below v8.heap.size v8 _ := hS.2.2.2.2.2.2.2.2.2.2.2.2.2.2.2.2.2.2.2.2.2
        clear hS0 hTS hS KO RO DI RD PA RP UP RU BA RB CH RC p0 p1 p2 q0 q1 q2 u0 u1 u2 s0 s1 s2 b0 b1 b2 d0 d1 d2 hal qp0 qq0 qu0 qs0 qb0 qz0
        go_wp2_with fail
        go_loopw [28] (fun v28 wx => v28 = .int .i64 0 ∧ Below v8.heap.size v8 wx) (fun _ _ => 0)
        case atStart => exact ⟨rfl, hW⟩
        case round =>
          clear hW
          obtain ⟨rfl, hY⟩ := hrel
          · skip
            replace fz0 := keepFrozen hY z0 fz0
            replace fz1 := keepFrozen hY z1 fz1
            replace fz2 := keepFrozen hY z2 fz2
            replace z0 := keepCell hY z0
            replace z1 := keepCell hY z1
            replace z2 := keepCell hY z2
            replace hB := belowT hB0 (belowT hB hY)
            clear hY hB0
            have qz0 := World.block_lt_of_cell? _ _ z0
            go_wp2_with fail
            refine (SO.out _).mono ?_
            rintro e y1 ⟨⟨P, Q, rfl, hO⟩, d1⟩
            have c1 : Below wr.heap.size wr y1 := Below.trans (by go_grown) (d1.mono (by simp; try omega))
            replace fz0 := keepFrozen c1 z0 fz0
            replace z0 := keepCell c1 z0
            replace qz0 := World.block_lt_of_cell? _ _ z0
            replace fz1 := keepFrozen c1 z1 fz1
            replace z1 := keepCell c1 z1
            replace fz2 := keepFrozen c1 z2 fz2
            replace z2 := keepCell c1 z2
            replace hB := belowT hB c1
            clear c1 d1
            obtain ⟨g0, g1, g2⟩ := three_stores (u0 := .int .i64 s) (u1 := .int .i64 P) (u2 := .int .i64 Q) z0 z1 z2
            go_wp2
            go_roundw
            case rel => exact ⟨k + 1, s, P, Q, by omega, by go_num, g0, g1, g2, by simp [fz0], by simp [fz1], by simp [fz2], ((hB.setCell (by simp) _).setCell (by simp) _).setCell (by simp) _⟩
            case measure => simp [intOf]; omega
      · replace CH : Hid _ := CH
        replace RC : Hid _ := RC
        have hB0 := hB
        clear hB
        have hB : Below wr.heap.size wr wr := Below.refl _ _
        have qz0 := World.block_lt_of_cell? _ _ z0
        go_wp2_with fail
        refine (PA.out _ ?_).mono ?_
        · exact hTr.out.below hB
        rintro e v1 ⟨rfl, d1⟩
        have c1 : Below wr.heap.size wr v1 := Below.trans (by go_grown) (d1.mono (by simp; try omega))
        replace fz0 := keepFrozen c1 z0 fz0
        replace z0 := keepCell c1 z0
        replace qz0 := World.block_lt_of_cell? _ _ z0
        replace fz1 := keepFrozen c1 z1 fz1
        replace z1 := keepCell c1 z1
        replace fz2 := keepFrozen c1 z2 fz2
        replace z2 := keepCell c1 z2
        replace hB := belowT hB c1
        clear c1 d1
        go_wp2_with fail
        refine (RP.out _).mono ?_
        rintro e v2 ⟨rfl, d2⟩
        have c2 : Below v1.heap.size v1 v2 := Below.trans (by go_grown) (d2.mono (by simp; try omega))
        replace fz0 := keepFrozen c2 z0 fz0
        replace z0 := keepCell c2 z0
        replace qz0 := World.block_lt_of_cell? _ _ z0
        replace fz1 := keepFrozen c2 z1 fz1
        replace z1 := keepCell c2 z1
        replace fz2 := keepFrozen c2 z2 fz2
        replace z2 := keepCell c2 z2
        have p0 : v2.cell? ⟨v1.heap.size, 0, none⟩ = some (.int .i64 X) := keepCell d2 (by go_simp)
        have qp0 := World.block_lt_of_cell? _ _ p0
        have p1 : v2.cell? ⟨v1.heap.size, 1, none⟩ = some (.int .i64 Y) := keepCell d2 (by go_simp)
        have p2 : v2.cell? ⟨v1.heap.size, 2, none⟩ = some (.int .i64 Z) := keepCell d2 (by go_simp)
        replace hB := belowT hB c2
        clear c2 d2
        go_wp2_with fail
        refine (CH.out _ ?_).mono ?_
        · exact hTr.out.below (belowT hB (by go_grown))
        rintro e v3 ⟨⟨Bk, hk1, rfl, hR1⟩, d3⟩
        have c3 : Below v2.heap.size v2 v3 := Below.trans (by go_grown) (d3.mono (by simp; try omega))
        replace fz0 := keepFrozen c3 z0 fz0
        replace z0 := keepCell c3 z0
        replace qz0 := World.block_lt_of_cell? _ _ z0
        replace fz1 := keepFrozen c3 z1 fz1
        replace z1 := keepCell c3 z1
        replace fz2 := keepFrozen c3 z2 fz2
        replace z2 := keepCell c3 z2
        replace p0 := keepCell c3 p0
        replace qp0 := World.block_lt_of_cell? _ _ p0
        replace p1 := keepCell c3 p1
        replace p2 := keepCell c3 p2
        have q0 : v3.cell? ⟨v2.heap.size, 0, none⟩ = some (.int .i64 X) := keepCell d3 (by go_simp)
        have qq0 := World.block_lt_of_cell? _ _ q0
        have q1 : v3.cell? ⟨v2.heap.size, 1, none⟩ = some (.int .i64 Y) := keepCell d3 (by go_simp)
        have q2 : v3.cell? ⟨v2.heap.size, 2, none⟩ = some (.int .i64 Z) := keepCell d3 (by go_simp)
        replace hB := belowT hB c3
        clear c3 d3
        replace hR1 : Hid (KidRel Bk G 7 v3) := hR1
        have hE3 : Below v3.heap.size v3 v3 := Below.refl _ _
        go_wp2_with fail
        refine (RC.out _).mono ?_
        rintro e v4 ⟨⟨g, cap, rfl, hG1⟩, d4⟩
        have c4 : Below v3.heap.size v3 v4 := Below.trans (by go_grown) (d4.mono (by simp; try omega))
        replace fz0 := keepFrozen c4 z0 fz0
        replace z0 := keepCell c4 z0
        replace qz0 := World.block_lt_of_cell? _ _ z0
        replace fz1 := keepFrozen c4 z1 fz1
        replace z1 := keepCell c4 z1
        replace fz2 := keepFrozen c4 z2 fz2
        replace z2 := keepCell c4 z2
        replace p0 := keepCell c4 p0
        replace qp0 := World.block_lt_of_cell? _ _ p0
        replace p1 := keepCell c4 p1
        replace p2 := keepCell c4 p2
        replace q0 := keepCell c4 q0
        replace qq0 := World.block_lt_of_cell? _ _ q0
        replace q1 := keepCell c4 q1
        replace q2 := keepCell c4 q2
        replace hB := belowT hB c4
        replace hE3 := belowT hE3 c4
        clear c4 d4
        replace hG1 : Hid (∀ o < 21, v4.cell? ⟨g, o, none⟩ = some (.int .i64 (G o))) := hG1
        have hE4 : Below v4.heap.size v4 v4 := Below.refl _ _
        go_wp2_with fail
        refine (UP.out _ ?_).mono ?_
        · exact hTr.out.below hB
        rintro e v5 ⟨rfl, d5⟩
        have c5 : Below v4.heap.size v4 v5 := Below.trans (by go_grown) (d5.mono (by simp; try omega))
        replace fz0 := keepFrozen c5 z0 fz0
        replace z0 := keepCell c5 z0
        replace qz0 := World.block_lt_of_cell? _ _ z0
        replace fz1 := keepFrozen c5 z1 fz1
        replace z1 := keepCell c5 z1
        replace fz2 := keepFrozen c5 z2 fz2
        replace z2 := keepCell c5 z2
        replace p0 := keepCell c5 p0
        replace qp0 := World.block_lt_of_cell? _ _ p0
        replace p1 := keepCell c5 p1
        replace p2 := keepCell c5 p2
        replace q0 := keepCell c5 q0
        replace qq0 := World.block_lt_of_cell? _ _ q0
        replace q1 := keepCell c5 q1
        replace q2 := keepCell c5 q2
        replace hB := belowT hB c5
        replace hE3 := belowT hE3 c5
        replace hE4 := belowT hE4 c5
        clear c5 d5
        go_wp2_with fail
        refine (RU.out _).mono ?_
        rintro e v6 ⟨rfl, d6⟩
        have c6 : Below v5.heap.size v5 v6 := Below.trans (by go_grown) (d6.mono (by simp; try omega))
        replace fz0 := keepFrozen c6 z0 fz0
        replace z0 := keepCell c6 z0
        replace qz0 := World.block_lt_of_cell? _ _ z0
        replace fz1 := keepFrozen c6 z1 fz1
        replace z1 := keepCell c6 z1
        replace fz2 := keepFrozen c6 z2 fz2
        replace z2 := keepCell c6 z2
        replace p0 := keepCell c6 p0
        replace qp0 := World.block_lt_of_cell? _ _ p0
        replace p1 := keepCell c6 p1
        replace p2 := keepCell c6 p2
        replace q0 := keepCell c6 q0
        replace qq0 := World.block_lt_of_cell? _ _ q0
        replace q1 := keepCell c6 q1
        replace q2 := keepCell c6 q2
        have u0 : v6.cell? ⟨v5.heap.size, 0, none⟩ = some (.int .i64 X2) := keepCell d6 (by go_simp)
        have qu0 := World.block_lt_of_cell? _ _ u0
        have u1 : v6.cell? ⟨v5.heap.size, 1, none⟩ = some (.int .i64 Y2) := keepCell d6 (by go_simp)
        have u2 : v6.cell? ⟨v5.heap.size, 2, none⟩ = some (.int .i64 Z2) := keepCell d6 (by go_simp)
        replace hB := belowT hB c6
        replace hE3 := belowT hE3 c6
        replace hE4 := belowT hE4 c6
        clear c6 d6
        go_wp2_with fail
        refine (BA.out _ ?_).mono ?_
        · exact hTr.out.below (belowT hB (by go_grown))
        rintro e v7 ⟨rfl, d7⟩
        have c7 : Below v6.heap.size v6 v7 := Below.trans (by go_grown) (d7.mono (by simp; try omega))
        replace fz0 := keepFrozen c7 z0 fz0
        replace z0 := keepCell c7 z0
        replace qz0 := World.block_lt_of_cell? _ _ z0
        replace fz1 := keepFrozen c7 z1 fz1
        replace z1 := keepCell c7 z1
        replace fz2 := keepFrozen c7 z2 fz2
        replace z2 := keepCell c7 z2
        replace p0 := keepCell c7 p0
        replace qp0 := World.block_lt_of_cell? _ _ p0
        replace p1 := keepCell c7 p1
        replace p2 := keepCell c7 p2
        replace q0 := keepCell c7 q0
        replace qq0 := World.block_lt_of_cell? _ _ q0
        replace q1 := keepCell c7 q1
        replace q2 := keepCell c7 q2
        replace u0 := keepCell c7 u0
        replace qu0 := World.block_lt_of_cell? _ _ u0
        replace u1 := keepCell c7 u1
        replace u2 := keepCell c7 u2
        have s0 : v7.cell? ⟨v6.heap.size, 0, none⟩ = some (.int .i64 X2) := keepCell d7 (by go_simp)
        have qs0 := World.block_lt_of_cell? _ _ s0
        have s1 : v7.cell? ⟨v6.heap.size, 1, none⟩ = some (.int .i64 Y2) := keepCell d7 (by go_simp)
        have s2 : v7.cell? ⟨v6.heap.size, 2, none⟩ = some (.int .i64 Z2) := keepCell d7 (by go_simp)
        replace hB := belowT hB c7
        replace hE3 := belowT hE3 c7
        replace hE4 := belowT hE4 c7
        clear c7 d7
        go_wp2_with fail
        refine (RB.out _).mono ?_
        rintro e v8 ⟨rfl, d8⟩
        have c8 : Below v7.heap.size v7 v8 := Below.trans (by go_grown) (d8.mono (by simp; try omega))
        replace fz0 := keepFrozen c8 z0 fz0
        replace z0 := keepCell c8 z0
        replace qz0 := World.block_lt_of_cell? _ _ z0
        replace fz1 := keepFrozen c8 z1 fz1
        replace z1 := keepCell c8 z1
        replace fz2 := keepFrozen c8 z2 fz2
        replace z2 := keepCell c8 z2
        replace p0 := keepCell c8 p0
        replace qp0 := World.block_lt_of_cell? _ _ p0
        replace p1 := keepCell c8 p1
        replace p2 := keepCell c8 p2
        replace q0 := keepCell c8 q0
        replace qq0 := World.block_lt_of_cell? _ _ q0
        replace q1 := keepCell c8 q1
        replace q2 := keepCell c8 q2
        replace u0 := keepCell c8 u0
        replace qu0 := World.block_lt_of_cell? _ _ u0
        replace u1 := keepCell c8 u1
        replace u2 := keepCell c8 u2
        replace s0 := keepCell c8 s0
        replace qs0 := World.block_lt_of_cell? _ _ s0
        replace s1 := keepCell c8 s1
        replace s2 := keepCell c8 s2
        have b0 : v8.cell? ⟨v7.heap.size, 0, none⟩ = some (.int .i64 X3) := keepCell d8 (by go_simp)
        have qb0 := World.block_lt_of_cell? _ _ b0
        have b1 : v8.cell? ⟨v7.heap.size, 1, none⟩ = some (.int .i64 Y3) := keepCell d8 (by go_simp)
        have b2 : v8.cell? ⟨v7.heap.size, 2, none⟩ = some (.int .i64 Z3) := keepCell d8 (by go_simp)
        replace hB := belowT hB c8
        replace hE3 := belowT hE3 c8
        replace hE4 := belowT hE4 c8
        clear c8 d8
        have hal := (allocB v8 (.cells #[.int .i64 X3, .int .i64 Y3, .int .i64 Z3] 25)).drew
        have d0 : (v8.alloc (.cells #[.int .i64 X3, .int .i64 Y3, .int .i64 Z3] 25)).drew.cell? ⟨v8.heap.size, 0, none⟩ = some (.int .i64 X3) := by go_simp
        have d1 : (v8.alloc (.cells #[.int .i64 X3, .int .i64 Y3, .int .i64 Z3] 25)).drew.cell? ⟨v8.heap.size, 1, none⟩ = some (.int .i64 Y3) := by go_simp
        have d2 : (v8.alloc (.cells #[.int .i64 X3, .int .i64 Y3, .int .i64 Z3] 25)).drew.cell? ⟨v8.heap.size, 2, none⟩ = some (.int .i64 Z3) := by go_simp
        have hS0 : (v8.alloc (.cells #[.int .i64 X3, .int .i64 Y3, .int .i64 Z3] 25)).drew.cell? ⟨w.heap.size, 0, none⟩ = some (.int .i64 R) ∧ (v8.alloc (.cells #[.int .i64 X3, .int .i64 Y3, .int .i64 Z3] 25)).drew.cell? ⟨w.heap.size, 1, none⟩ = some (.int .i64 A) ∧ (v8.alloc (.cells #[.int .i64 X3, .int .i64 Y3, .int .i64 Z3] 25)).drew.cell? ⟨w.heap.size, 2, none⟩ = some (.int .i64 B) ∧ (v8.alloc (.cells #[.int .i64 X3, .int .i64 Y3, .int .i64 Z3] 25)).drew.cell? ⟨v1.heap.size, 0, none⟩ = some (.int .i64 X) ∧ (v8.alloc (.cells #[.int .i64 X3, .int .i64 Y3, .int .i64 Z3] 25)).drew.cell? ⟨v1.heap.size, 1, none⟩ = some (.int .i64 Y) ∧ (v8.alloc (.cells #[.int .i64 X3, .int .i64 Y3, .int .i64 Z3] 25)).drew.cell? ⟨v1.heap.size, 2, none⟩ = some (.int .i64 Z) ∧ (v8.alloc (.cells #[.int .i64 X3, .int .i64 Y3, .int .i64 Z3] 25)).drew.cell? ⟨v2.heap.size, 0, none⟩ = some (.int .i64 X) ∧ (v8.alloc (.cells #[.int .i64 X3, .int .i64 Y3, .int .i64 Z3] 25)).drew.cell? ⟨v2.heap.size, 1, none⟩ = some (.int .i64 Y) ∧ (v8.alloc (.cells #[.int .i64 X3, .int .i64 Y3, .int .i64 Z3] 25)).drew.cell? ⟨v2.heap.size, 2, none⟩ = some (.int .i64 Z) ∧ (v8.alloc (.cells #[.int .i64 X3, .int .i64 Y3, .int .i64 Z3] 25)).drew.cell? ⟨v5.heap.size, 0, none⟩ = some (.int .i64 X2) ∧ (v8.alloc (.cells #[.int .i64 X3, .int .i64 Y3, .int .i64 Z3] 25)).drew.cell? ⟨v5.heap.size, 1, none⟩ = some (.int .i64 Y2) ∧ (v8.alloc (.cells #[.int .i64 X3, .int .i64 Y3, .int .i64 Z3] 25)).drew.cell? ⟨v5.heap.size, 2, none⟩ = some (.int .i64 Z2) ∧ (v8.alloc (.cells #[.int .i64 X3, .int .i64 Y3, .int .i64 Z3] 25)).drew.cell? ⟨v6.heap.size, 0, none⟩ = some (.int .i64 X2) ∧ (v8.alloc (.cells #[.int .i64 X3, .int .i64 Y3, .int .i64 Z3] 25)).drew.cell? ⟨v6.heap.size, 1, none⟩ = some (.int .i64 Y2) ∧ (v8.alloc (.cells #[.int .i64 X3, .int .i64 Y3, .int .i64 Z3] 25)).drew.cell? ⟨v6.heap.size, 2, none⟩ = some (.int .i64 Z2) ∧ (v8.alloc (.cells #[.int .i64 X3, .int .i64 Y3, .int .i64 Z3] 25)).drew.cell? ⟨v7.heap.size, 0, none⟩ = some (.int .i64 X3) ∧ (v8.alloc (.cells #[.int .i64 X3, .int .i64 Y3, .int .i64 Z3] 25)).drew.cell? ⟨v7.heap.size, 1, none⟩ = some (.int .i64 Y3) ∧ (v8.alloc (.cells #[.int .i64 X3, .int .i64 Y3, .int .i64 Z3] 25)).drew.cell? ⟨v7.heap.size, 2, none⟩ = some (.int .i64 Z3) ∧ (v8.alloc (.cells #[.int .i64 X3, .int .i64 Y3, .int .i64 Z3] 25)).drew.cell? ⟨v8.heap.size, 0, none⟩ = some (.int .i64 X3) ∧ (v8.alloc (.cells #[.int .i64 X3, .int .i64 Y3, .int .i64 Z3] 25)).drew.cell? ⟨v8.heap.size, 1, none⟩ = some (.int .i64 Y3) ∧ (v8.alloc (.cells #[.int .i64 X3, .int .i64 Y3, .int .i64 Z3] 25)).drew.cell? ⟨v8.heap.size, 2, none⟩ = some (.int .i64 Z3) ∧ Below v8.heap.size v8 (v8.alloc (.cells #[.int .i64 X3, .int .i64 Y3, .int .i64 Z3] 25)).drew := ⟨keepCell hal z0, keepCell hal z1, keepCell hal z2, keepCell hal p0, keepCell hal p1, keepCell hal p2, keepCell hal q0, keepCell hal q1, keepCell hal q2, keepCell hal u0, keepCell hal u1, keepCell hal u2, keepCell hal s0, keepCell hal s1, keepCell hal s2, keepCell hal b0, keepCell hal b1, keepCell hal b2, d0, d1, d2, hal⟩
        have hTS : Hid (∀ wx, (wx.cell? ⟨w.heap.size, 0, none⟩ = some (.int .i64 R) ∧ wx.cell? ⟨w.heap.size, 1, none⟩ = some (.int .i64 A) ∧ wx.cell? ⟨w.heap.size, 2, none⟩ = some (.int .i64 B) ∧ wx.cell? ⟨v1.heap.size, 0, none⟩ = some (.int .i64 X) ∧ wx.cell? ⟨v1.heap.size, 1, none⟩ = some (.int .i64 Y) ∧ wx.cell? ⟨v1.heap.size, 2, none⟩ = some (.int .i64 Z) ∧ wx.cell? ⟨v2.heap.size, 0, none⟩ = some (.int .i64 X) ∧ wx.cell? ⟨v2.heap.size, 1, none⟩ = some (.int .i64 Y) ∧ wx.cell? ⟨v2.heap.size, 2, none⟩ = some (.int .i64 Z) ∧ wx.cell? ⟨v5.heap.size, 0, none⟩ = some (.int .i64 X2) ∧ wx.cell? ⟨v5.heap.size, 1, none⟩ = some (.int .i64 Y2) ∧ wx.cell? ⟨v5.heap.size, 2, none⟩ = some (.int .i64 Z2) ∧ wx.cell? ⟨v6.heap.size, 0, none⟩ = some (.int .i64 X2) ∧ wx.cell? ⟨v6.heap.size, 1, none⟩ = some (.int .i64 Y2) ∧ wx.cell? ⟨v6.heap.size, 2, none⟩ = some (.int .i64 Z2) ∧ wx.cell? ⟨v7.heap.size, 0, none⟩ = some (.int .i64 X3) ∧ wx.cell? ⟨v7.heap.size, 1, none⟩ = some (.int .i64 Y3) ∧ wx.cell? ⟨v7.heap.size, 2, none⟩ = some (.int .i64 Z3) ∧ wx.cell? ⟨v8.heap.size, 0, none⟩ = some (.int .i64 X3) ∧ wx.cell? ⟨v8.heap.size, 1, none⟩ = some (.int .i64 Y3) ∧ wx.cell? ⟨v8.heap.size, 2, none⟩ = some (.int .i64 Z3) ∧ Below v8.heap.size v8 wx) → Tabs wx) := fun wx h => (hTr.out.below hB).below (h.2.2.2.2.2.2.2.2.2.2.2.2.2.2.2.2.2.2.2.2.2)
        go_wp2_with fail
        go_region_held3 (fun w' => w'.cell? ⟨w.heap.size, 0, none⟩ = some (.int .i64 R) ∧ w'.cell? ⟨w.heap.size, 1, none⟩ = some (.int .i64 A) ∧ w'.cell? ⟨w.heap.size, 2, none⟩ = some (.int .i64 B) ∧ w'.cell? ⟨v1.heap.size, 0, none⟩ = some (.int .i64 X) ∧ w'.cell? ⟨v1.heap.size, 1, none⟩ = some (.int .i64 Y) ∧ w'.cell? ⟨v1.heap.size, 2, none⟩ = some (.int .i64 Z) ∧ w'.cell? ⟨v2.heap.size, 0, none⟩ = some (.int .i64 X) ∧ w'.cell? ⟨v2.heap.size, 1, none⟩ = some (.int .i64 Y) ∧ w'.cell? ⟨v2.heap.size, 2, none⟩ = some (.int .i64 Z) ∧ w'.cell? ⟨v5.heap.size, 0, none⟩ = some (.int .i64 X2) ∧ w'.cell? ⟨v5.heap.size, 1, none⟩ = some (.int .i64 Y2) ∧ w'.cell? ⟨v5.heap.size, 2, none⟩ = some (.int .i64 Z2) ∧ w'.cell? ⟨v6.heap.size, 0, none⟩ = some (.int .i64 X2) ∧ w'.cell? ⟨v6.heap.size, 1, none⟩ = some (.int .i64 Y2) ∧ w'.cell? ⟨v6.heap.size, 2, none⟩ = some (.int .i64 Z2) ∧ w'.cell? ⟨v7.heap.size, 0, none⟩ = some (.int .i64 X3) ∧ w'.cell? ⟨v7.heap.size, 1, none⟩ = some (.int .i64 Y3) ∧ w'.cell? ⟨v7.heap.size, 2, none⟩ = some (.int .i64 Z3) ∧ w'.cell? ⟨v8.heap.size, 0, none⟩ = some (.int .i64 X3) ∧ w'.cell? ⟨v8.heap.size, 1, none⟩ = some (.int .i64 Y3) ∧ w'.cell? ⟨v8.heap.size, 2, none⟩ = some (.int .i64 Z3) ∧ Below v8.heap.size v8 w') (first | exact hS0 | exact keepTells hb (by assumption))
          (first | (go_at_call 13; refine (KO.out _ (hTS.out _ (by assumption))).mono ?_; rintro e w' ⟨rfl, hb⟩) | (go_at_call 22; refine (RO.out _).mono ?_; rintro e w' ⟨rfl, hb⟩) | (go_at_call 15; refine (DI.out _ (hTS.out _ (by assumption))).mono ?_; rintro e w' ⟨rfl, hb⟩) | (go_at_call 23; refine (RD.out _).mono ?_; rintro e w' ⟨rfl, hb⟩))
        rename_i hS
        have hW : Below v8.heap.size v8 _ := hS.2.2.2.2.2.2.2.2.2.2.2.2.2.2.2.2.2.2.2.2.2
        clear hS0 hTS hS KO RO DI RD PA RP UP RU BA RB CH RC p0 p1 p2 q0 q1 q2 u0 u1 u2 s0 s1 s2 b0 b1 b2 d0 d1 d2 hal qp0 qq0 qu0 qs0 qb0 qz0
        have hR8 : Hid (KidRel Bk G 7 v8) := kid_keep hE3 hR1.out
        have hG8 : Hid (∀ o < 21, v8.cell? ⟨g, o, none⟩ = some (.int .i64 (G o))) := fun o ho => keepCell hE4 (hG1.out o ho)
        clear hR1 hG1 hE3 hE4
        go_wp2_with fail
        go_loopw [28] (fun v28 wx => ∃ j : Nat, j ≤ 7 ∧ v28 = .int .i64 (j : Int) ∧ Below v8.heap.size v8 wx) (fun v28 _ => 7 - (intOf v28).toNat)
        case atStart => exact ⟨0, by omega, rfl, hW⟩
        case round =>
          clear hW
          obtain ⟨j, hj, rfl, hY⟩ := hrel
          by_cases hjl : j < 7
          · have e0 := keepCell hY (hR8.out (j * 3) (by omega)).1
            have e1 := keepCell hY (hR8.out (j * 3 + 1) (by omega)).1
            have e2 := keepCell hY (hR8.out (j * 3 + 2) (by omega)).1
            have f0 := keepCell hY (hG8.out (j * 3) (by omega))
            have f1 := keepCell hY (hG8.out (j * 3 + 1) (by omega))
            have f2 := keepCell hY (hG8.out (j * 3 + 2) (by omega))
            rw [kidAt_all _ _ (by omega)] at e0 e1 e2
            generalize G (j * 3) = g0 at e0 f0
            generalize G (j * 3 + 1) = g1 at e1 f1
            generalize G (j * 3 + 2) = g2 at e2 f2
            clear hR8 hG8
            go_wp2_with fail
            go_quiet (fail)
            go_wp2
            go_roundw
            case rel => exact ⟨j + 1, by omega, by go_num, belowN hY _⟩
            case measure => simp [intOf]; omega
          · obtain rfl : j = 7 := by omega
            clear hR8 hG8
            replace fz0 := keepFrozen hY z0 fz0
            replace fz1 := keepFrozen hY z1 fz1
            replace fz2 := keepFrozen hY z2 fz2
            replace z0 := keepCell hY z0
            replace z1 := keepCell hY z1
            replace z2 := keepCell hY z2
            replace hB := belowT hB0 (belowT hB hY)
            clear hY hB0
            have qz0 := World.block_lt_of_cell? _ _ z0
            go_wp2_with fail
            refine (SO.out _).mono ?_
            rintro e y1 ⟨⟨P, Q, rfl, hO⟩, d1⟩
            have c1 : Below wr.heap.size wr y1 := Below.trans (by go_grown) (d1.mono (by simp; try omega))
            replace fz0 := keepFrozen c1 z0 fz0
            replace z0 := keepCell c1 z0
            replace qz0 := World.block_lt_of_cell? _ _ z0
            replace fz1 := keepFrozen c1 z1 fz1
            replace z1 := keepCell c1 z1
            replace fz2 := keepFrozen c1 z2 fz2
            replace z2 := keepCell c1 z2
            replace hB := belowT hB c1
            clear c1 d1
            obtain ⟨g0, g1, g2⟩ := three_stores (u0 := .int .i64 s) (u1 := .int .i64 P) (u2 := .int .i64 Q) z0 z1 z2
            go_wp2
            go_roundw
            case rel => exact ⟨k + 1, s, P, Q, by omega, by go_num, g0, g1, g2, by simp [fz0], by simp [fz1], by simp [fz2], ((hB.setCell (by simp) _).setCell (by simp) _).setCell (by simp) _⟩
            case measure => simp [intOf]; omega
    · obtain rfl : k = 2 := by omega
      go_wp2_with fail
      refine (cawake _ ?_).mono ?_
      · exact hT0.out.below hB
      rintro e t1 ⟨rfl, d1⟩
      have c1 : Below wr.heap.size wr t1 := Below.trans (by go_grown) (d1.mono (by simp; try omega))
      replace hB := belowT hB c1
      clear c1 d1
      go_wp2
      go_ret
      exact ⟨rfl, hB⟩
end Go.Proofs.YtnnbdlnginkldaaDoor
