/-
  The law CellWithin answers true for every three numbers, every cell and every size up, in whatever memory where the tables of Units and of digits hold what their texts lay: a cell is within itself, its parents, and nothing else of their sizes.
-/
import Derived.Test.YtnnbdlnginkldabDoorCSome
import Derived.Test.YtnnbdlnginkldabDoorCAwake
import Derived.Test.YtnnbdlnginkldabDoorCWithin
namespace Go.Proofs.YtnnbdlnginkldabDoor
open Go.RowKit

/-- A number made of eight bits, by truncation: from nought to below a divisor. -/
theorem eight_up (n d : Int) (hd : 1 ≤ d) : ∃ m, (bits .and .i64 n 255).tmod d = m ∧ 0 ≤ m ∧ m < d := by
  have h := i64_mask n 8 (by omega)
  have h' : bits .and .i64 n 255 = n % 256 := by simpa using h
  refine ⟨_, rfl, ?_, ?_⟩
  · rw [h', Int.tmod_eq_emod_of_nonneg (by omega)]; exact Int.emod_nonneg _ (by omega)
  · rw [h', Int.tmod_eq_emod_of_nonneg (by omega)]; exact Int.emod_lt_of_pos _ (by omega)
theorem mask8 (n : Int) : bits .and .i64 n 255 = n % 256 := by
  have := i64_mask n 8 (by omega)
  simpa using this

set_option maxHeartbeats 16000000 in
set_option maxRecDepth 20000 in
theorem cellWithin_same (x y r0 t p q u0 s a : Int) (ha : (bits .and .i64 u0 255).tmod (s + 1) = a) (s0 : 0 ≤ s) (s12 : s ≤ 12) (hlast : (a == s) = true)
    (SO : ∀ w, Calls Tryd.prog 6 #[.int .i64 x, .int .i64 y, .int .i64 r0] w fun e w' => TellsS s e ∧ Below w.heap.size w w')
    (KK : ∀ P Q, Ok4 s P Q → ∃ (A1 A2 C1 C2 : Int) (b1 b2 : Bool), (-400000000 ≤ A1 ∧ A1 ≤ 400000000)
      ∧ (∀ w, Tabs w → Calls Tryd.prog 7 #[.agg #[.int .i64 s, .int .i64 P, .int .i64 Q], .agg #[.int .i64 t, .int .i64 p, .int .i64 q]] w fun e w' => e = .returned (.bool b1) ∧ Below w.heap.size w w')
      ∧ (∀ w, Calls Tryd.prog 8 #[.agg #[.int .i64 s, .int .i64 P, .int .i64 Q], .agg #[.int .i64 t, .int .i64 p, .int .i64 q]] w fun e w' => e = .returned (.bool b1) ∧ Below w.heap.size w w')
      ∧ (∀ w, Tabs w → Calls Tryd.prog 7 #[.agg #[.int .i64 t, .int .i64 p, .int .i64 q], .agg #[.int .i64 s, .int .i64 P, .int .i64 Q]] w fun e w' => e = .returned (.bool b2) ∧ Below w.heap.size w w')
      ∧ (∀ w, Calls Tryd.prog 8 #[.agg #[.int .i64 t, .int .i64 p, .int .i64 q], .agg #[.int .i64 s, .int .i64 P, .int .i64 Q]] w fun e w' => e = .returned (.bool b2) ∧ Below w.heap.size w w')
      ∧ (∀ w, Tabs w → Calls Tryd.prog 7 #[.agg #[.int .i64 s, .int .i64 P, .int .i64 Q], .agg #[.int .i64 a, .int .i64 A1, .int .i64 A2]] w fun e w' => e = .returned (.bool true) ∧ Below w.heap.size w w')
      ∧ (∀ w, Tabs w → Calls Tryd.prog 7 #[.agg #[.int .i64 s, .int .i64 P, .int .i64 Q], .agg #[.int .i64 s, .int .i64 P, .int .i64 Q]] w fun e w' => e = .returned (.bool true) ∧ Below w.heap.size w w')
      ∧ (∀ w, Tabs w → Calls Tryd.prog 7 #[.agg #[.int .i64 a, .int .i64 A1, .int .i64 A2], .agg #[.int .i64 0, .int .i64 C1, .int .i64 C2]] w fun e w' => e = .returned (.bool true) ∧ Below w.heap.size w w')
      ∧ (∀ w, Tabs w → Calls Tryd.prog 7 #[.agg #[.int .i64 s, .int .i64 P, .int .i64 Q], .agg #[.int .i64 0, .int .i64 C1, .int .i64 C2]] w fun e w' => e = .returned (.bool true) ∧ Below w.heap.size w w')
      ∧ (∀ w, Tabs w → Calls Tryd.prog 7 #[.agg #[.int .i64 s, .int .i64 P, .int .i64 Q], .agg #[.int .i64 a, .int .i64 (A1 + 1), .int .i64 A2]] w fun e w' => e = .returned (.bool false) ∧ Below w.heap.size w w')
      ∧ (∀ w, Tabs w → Calls Tryd.prog 9 #[.agg #[.int .i64 s, .int .i64 P, .int .i64 Q], .int .i64 a] w fun e w' => e = .returned (.tuple #[.agg #[.int .i64 a, .int .i64 A1, .int .i64 A2], .int .i64 0]) ∧ Below w.heap.size w w')
      ∧ (∀ w, Tabs w → Calls Tryd.prog 9 #[.agg #[.int .i64 a, .int .i64 A1, .int .i64 A2], .int .i64 0] w fun e w' => e = .returned (.tuple #[.agg #[.int .i64 0, .int .i64 C1, .int .i64 C2], .int .i64 0]) ∧ Below w.heap.size w w'))
    (w : World) (hT : Tabs w) :
    Calls Tryd.prog 3 #[.int .i64 x, .int .i64 y, .int .i64 r0, .agg #[.int .i64 t, .int .i64 p, .int .i64 q], .int .i64 u0] w fun e w' => e = .returned (.bool true) ∧ Below w.heap.size w w' := by
  replace SO : Hid _ := SO
  replace KK : Hid _ := KK
  have hT0 : Hid (Tabs w) := hT
  clear hT
  go_enter Tryd.func3, Tryd.ntmps3
  go_wp2_with fail
  refine (SO.out _).mono ?_
  rintro e w1 ⟨⟨P, Q, rfl, hO⟩, d1⟩
  have c1 : Below w.heap.size w w1 := Below.trans (by go_grown) (d1.mono (by simp; try omega))
  have m0 : w1.cell? ⟨w.heap.size, 0, none⟩ = some (.int .i64 t) := keepCell d1 (by go_simp)
  have qm0 := World.block_lt_of_cell? _ _ m0
  have m1 : w1.cell? ⟨w.heap.size, 1, none⟩ = some (.int .i64 p) := keepCell d1 (by go_simp)
  have m2 : w1.cell? ⟨w.heap.size, 2, none⟩ = some (.int .i64 q) := keepCell d1 (by go_simp)
  have hB := c1
  clear c1 d1
  obtain ⟨A1, A2, C1, C2, b1, b2, ⟨hA1, hA2⟩, W1, R1, W2, R2, V1, V2, V3, V4, V5, U1, U2⟩ := KK.out P Q hO
  replace W1 : Hid _ := W1
  replace R1 : Hid _ := R1
  replace W2 : Hid _ := W2
  replace R2 : Hid _ := R2
  replace V1 : Hid _ := V1
  replace V2 : Hid _ := V2
  replace V3 : Hid _ := V3
  replace V4 : Hid _ := V4
  replace V5 : Hid _ := V5
  replace U1 : Hid _ := U1
  replace U2 : Hid _ := U2
  clear hO KK
  have hal := (allocB w1 (.cells #[.int .i64 s, .int .i64 P, .int .i64 Q] 25)).drew
  have hS0 : (w1.alloc (.cells #[.int .i64 s, .int .i64 P, .int .i64 Q] 25)).drew.cell? ⟨w1.heap.size, 0, none⟩ = some (.int .i64 s) ∧ (w1.alloc (.cells #[.int .i64 s, .int .i64 P, .int .i64 Q] 25)).drew.cell? ⟨w1.heap.size, 1, none⟩ = some (.int .i64 P) ∧ (w1.alloc (.cells #[.int .i64 s, .int .i64 P, .int .i64 Q] 25)).drew.cell? ⟨w1.heap.size, 2, none⟩ = some (.int .i64 Q) ∧ (w1.alloc (.cells #[.int .i64 s, .int .i64 P, .int .i64 Q] 25)).drew.cell? ⟨w.heap.size, 0, none⟩ = some (.int .i64 t) ∧ (w1.alloc (.cells #[.int .i64 s, .int .i64 P, .int .i64 Q] 25)).drew.cell? ⟨w.heap.size, 1, none⟩ = some (.int .i64 p) ∧ (w1.alloc (.cells #[.int .i64 s, .int .i64 P, .int .i64 Q] 25)).drew.cell? ⟨w.heap.size, 2, none⟩ = some (.int .i64 q) ∧ Below w1.heap.size w1 (w1.alloc (.cells #[.int .i64 s, .int .i64 P, .int .i64 Q] 25)).drew := ⟨by go_simp, by go_simp, by go_simp, keepCell hal m0, keepCell hal m1, keepCell hal m2, hal⟩
  have hTS : Hid (∀ wx, (wx.cell? ⟨w1.heap.size, 0, none⟩ = some (.int .i64 s) ∧ wx.cell? ⟨w1.heap.size, 1, none⟩ = some (.int .i64 P) ∧ wx.cell? ⟨w1.heap.size, 2, none⟩ = some (.int .i64 Q) ∧ wx.cell? ⟨w.heap.size, 0, none⟩ = some (.int .i64 t) ∧ wx.cell? ⟨w.heap.size, 1, none⟩ = some (.int .i64 p) ∧ wx.cell? ⟨w.heap.size, 2, none⟩ = some (.int .i64 q) ∧ Below w1.heap.size w1 wx) → Tabs wx) := fun wx h => (hT0.out.below hB).below h.2.2.2.2.2.2
  go_wp2_with fail
  go_region_held3 (fun w' => w'.cell? ⟨w1.heap.size, 0, none⟩ = some (.int .i64 s) ∧ w'.cell? ⟨w1.heap.size, 1, none⟩ = some (.int .i64 P) ∧ w'.cell? ⟨w1.heap.size, 2, none⟩ = some (.int .i64 Q) ∧ w'.cell? ⟨w.heap.size, 0, none⟩ = some (.int .i64 t) ∧ w'.cell? ⟨w.heap.size, 1, none⟩ = some (.int .i64 p) ∧ w'.cell? ⟨w.heap.size, 2, none⟩ = some (.int .i64 q) ∧ Below w1.heap.size w1 w') (first | exact hS0 | exact keepSix3 hb (by assumption))
    (first | (go_at_call 7; (first | with_reducible refine (W1.out _ (hTS.out _ (by assumption))).mono ?_ | with_reducible refine (W2.out _ (hTS.out _ (by assumption))).mono ?_); rintro e w' ⟨rfl, hb⟩) | (go_at_call 8; (first | with_reducible refine (R1.out _).mono ?_ | with_reducible refine (R2.out _).mono ?_); rintro e w' ⟨rfl, hb⟩))
  rename_i hS
  obtain ⟨k0, k1, k2, -, -, -, hW⟩ := hS
  replace hB := belowT hB hW
  clear hS0 hTS hal m0 m1 m2 qm0 hW W1 W2 R1 R2 SO hb
  have qk0 := World.block_lt_of_cell? _ _ k0
  go_wp2_with fail
  refine (U1.out _ ?_).mono ?_
  · exact hT0.out.below hB
  rintro e v1 ⟨rfl, d1⟩
  have c1 : Below w'.heap.size w' v1 := Below.trans (by go_grown) (d1.mono (by simp; try omega))
  replace k0 := keepCell c1 k0
  replace qk0 := World.block_lt_of_cell? _ _ k0
  replace k1 := keepCell c1 k1
  replace k2 := keepCell c1 k2
  replace hB := belowT hB c1
  clear c1 d1
  go_wp2_with fail
  refine (U2.out _ ?_).mono ?_
  · exact hT0.out.below (belowT hB (by go_grown))
  rintro e v2 ⟨rfl, d2⟩
  have c2 : Below v1.heap.size v1 v2 := Below.trans (by go_grown) (d2.mono (by simp; try omega))
  replace k0 := keepCell c2 k0
  replace qk0 := World.block_lt_of_cell? _ _ k0
  replace k1 := keepCell c2 k1
  replace k2 := keepCell c2 k2
  have p0 : v2.cell? ⟨v1.heap.size, 0, none⟩ = some (.int .i64 a) := keepCell d2 (by go_simp)
  have qp0 := World.block_lt_of_cell? _ _ p0
  have p1 : v2.cell? ⟨v1.heap.size, 1, none⟩ = some (.int .i64 A1) := keepCell d2 (by go_simp)
  have p2 : v2.cell? ⟨v1.heap.size, 2, none⟩ = some (.int .i64 A2) := keepCell d2 (by go_simp)
  replace hB := belowT hB c2
  clear c2 d2
  go_wp2_with fail
  refine (V1.out _ ?_).mono ?_
  · exact hT0.out.below (belowT hB (by go_grown))
  rintro e v3 ⟨rfl, d3⟩
  have c3 : Below v2.heap.size v2 v3 := Below.trans (by go_grown) (d3.mono (by simp; try omega))
  replace k0 := keepCell c3 k0
  replace qk0 := World.block_lt_of_cell? _ _ k0
  replace k1 := keepCell c3 k1
  replace k2 := keepCell c3 k2
  replace p0 := keepCell c3 p0
  replace qp0 := World.block_lt_of_cell? _ _ p0
  replace p1 := keepCell c3 p1
  replace p2 := keepCell c3 p2
  have q0 : v3.cell? ⟨v2.heap.size, 0, none⟩ = some (.int .i64 0) := keepCell d3 (by go_simp)
  have qq0 := World.block_lt_of_cell? _ _ q0
  have q1 : v3.cell? ⟨v2.heap.size, 1, none⟩ = some (.int .i64 C1) := keepCell d3 (by go_simp)
  have q2 : v3.cell? ⟨v2.heap.size, 2, none⟩ = some (.int .i64 C2) := keepCell d3 (by go_simp)
  have o0 : v3.cell? ⟨v2.heap.size + 1, 0, none⟩ = some (.int .i64 a) := keepCell d3 (by go_simp)
  have qo0 := World.block_lt_of_cell? _ _ o0
  have o1 : v3.cell? ⟨v2.heap.size + 1, 1, none⟩ = some (.int .i64 (A1 + 1)) := keepCell d3 (by go_simp)
  have o2 : v3.cell? ⟨v2.heap.size + 1, 2, none⟩ = some (.int .i64 A2) := keepCell d3 (by go_simp)
  replace hB := belowT hB c3
  clear c3 d3
  go_wp2_with fail
  refine (V2.out _ ?_).mono ?_
  · exact hT0.out.below hB
  rintro e v4 ⟨rfl, d4⟩
  have c4 : Below v3.heap.size v3 v4 := Below.trans (by go_grown) (d4.mono (by simp; try omega))
  replace k0 := keepCell c4 k0
  replace qk0 := World.block_lt_of_cell? _ _ k0
  replace k1 := keepCell c4 k1
  replace k2 := keepCell c4 k2
  replace p0 := keepCell c4 p0
  replace qp0 := World.block_lt_of_cell? _ _ p0
  replace p1 := keepCell c4 p1
  replace p2 := keepCell c4 p2
  replace q0 := keepCell c4 q0
  replace qq0 := World.block_lt_of_cell? _ _ q0
  replace q1 := keepCell c4 q1
  replace q2 := keepCell c4 q2
  replace o0 := keepCell c4 o0
  replace qo0 := World.block_lt_of_cell? _ _ o0
  replace o1 := keepCell c4 o1
  replace o2 := keepCell c4 o2
  replace hB := belowT hB c4
  clear c4 d4
  go_wp2_with fail
  refine (V3.out _ ?_).mono ?_
  · exact hT0.out.below hB
  rintro e v5 ⟨rfl, d5⟩
  have c5 : Below v4.heap.size v4 v5 := Below.trans (by go_grown) (d5.mono (by simp; try omega))
  replace k0 := keepCell c5 k0
  replace qk0 := World.block_lt_of_cell? _ _ k0
  replace k1 := keepCell c5 k1
  replace k2 := keepCell c5 k2
  replace p0 := keepCell c5 p0
  replace qp0 := World.block_lt_of_cell? _ _ p0
  replace p1 := keepCell c5 p1
  replace p2 := keepCell c5 p2
  replace q0 := keepCell c5 q0
  replace qq0 := World.block_lt_of_cell? _ _ q0
  replace q1 := keepCell c5 q1
  replace q2 := keepCell c5 q2
  replace o0 := keepCell c5 o0
  replace qo0 := World.block_lt_of_cell? _ _ o0
  replace o1 := keepCell c5 o1
  replace o2 := keepCell c5 o2
  replace hB := belowT hB c5
  clear c5 d5
  go_wp2_with fail
  refine (V4.out _ ?_).mono ?_
  · exact hT0.out.below hB
  rintro e v6 ⟨rfl, d6⟩
  have c6 : Below v5.heap.size v5 v6 := Below.trans (by go_grown) (d6.mono (by simp; try omega))
  replace k0 := keepCell c6 k0
  replace qk0 := World.block_lt_of_cell? _ _ k0
  replace k1 := keepCell c6 k1
  replace k2 := keepCell c6 k2
  replace p0 := keepCell c6 p0
  replace qp0 := World.block_lt_of_cell? _ _ p0
  replace p1 := keepCell c6 p1
  replace p2 := keepCell c6 p2
  replace q0 := keepCell c6 q0
  replace qq0 := World.block_lt_of_cell? _ _ q0
  replace q1 := keepCell c6 q1
  replace q2 := keepCell c6 q2
  replace o0 := keepCell c6 o0
  replace qo0 := World.block_lt_of_cell? _ _ o0
  replace o1 := keepCell c6 o1
  replace o2 := keepCell c6 o2
  replace hB := belowT hB c6
  clear c6 d6
  go_wp2_with fail
  refine (V5.out _ ?_).mono ?_
  · exact hT0.out.below hB
  rintro e v7 ⟨rfl, d7⟩
  have c7 : Below v6.heap.size v6 v7 := Below.trans (by go_grown) (d7.mono (by simp; try omega))
  replace k0 := keepCell c7 k0
  replace qk0 := World.block_lt_of_cell? _ _ k0
  replace k1 := keepCell c7 k1
  replace k2 := keepCell c7 k2
  replace p0 := keepCell c7 p0
  replace qp0 := World.block_lt_of_cell? _ _ p0
  replace p1 := keepCell c7 p1
  replace p2 := keepCell c7 p2
  replace q0 := keepCell c7 q0
  replace qq0 := World.block_lt_of_cell? _ _ q0
  replace q1 := keepCell c7 q1
  replace q2 := keepCell c7 q2
  replace o0 := keepCell c7 o0
  replace qo0 := World.block_lt_of_cell? _ _ o0
  replace o1 := keepCell c7 o1
  replace o2 := keepCell c7 o2
  replace hB := belowT hB c7
  clear c7 d7
  go_wp2_with fail
  refine (cawake _ ?_).mono ?_
  · exact hT0.out.below hB
  rintro e v8 ⟨rfl, d8⟩
  have c8 : Below v7.heap.size v7 v8 := Below.trans (by go_grown) (d8.mono (by simp; try omega))
  replace k0 := keepCell c8 k0
  replace qk0 := World.block_lt_of_cell? _ _ k0
  replace k1 := keepCell c8 k1
  replace k2 := keepCell c8 k2
  replace p0 := keepCell c8 p0
  replace qp0 := World.block_lt_of_cell? _ _ p0
  replace p1 := keepCell c8 p1
  replace p2 := keepCell c8 p2
  replace q0 := keepCell c8 q0
  replace qq0 := World.block_lt_of_cell? _ _ q0
  replace q1 := keepCell c8 q1
  replace q2 := keepCell c8 q2
  replace o0 := keepCell c8 o0
  replace qo0 := World.block_lt_of_cell? _ _ o0
  replace o1 := keepCell c8 o1
  replace o2 := keepCell c8 o2
  replace hB := belowT hB c8
  clear c8 d8
  go_wp2
  go_ret
  exact ⟨rfl, hB⟩

set_option maxHeartbeats 16000000 in
set_option maxRecDepth 20000 in
theorem cellWithin_up (x y r0 t p q u0 s a : Int) (ha : (bits .and .i64 u0 255).tmod (s + 1) = a) (s0 : 0 ≤ s) (s12 : s ≤ 12) (hlast : (a == s) = false)
    (SO : ∀ w, Calls Tryd.prog 6 #[.int .i64 x, .int .i64 y, .int .i64 r0] w fun e w' => TellsS s e ∧ Below w.heap.size w w')
    (KK : ∀ P Q, Ok4 s P Q → ∃ (A1 A2 C1 C2 : Int) (b1 b2 : Bool), (-400000000 ≤ A1 ∧ A1 ≤ 400000000)
      ∧ (∀ w, Tabs w → Calls Tryd.prog 7 #[.agg #[.int .i64 s, .int .i64 P, .int .i64 Q], .agg #[.int .i64 t, .int .i64 p, .int .i64 q]] w fun e w' => e = .returned (.bool b1) ∧ Below w.heap.size w w')
      ∧ (∀ w, Calls Tryd.prog 8 #[.agg #[.int .i64 s, .int .i64 P, .int .i64 Q], .agg #[.int .i64 t, .int .i64 p, .int .i64 q]] w fun e w' => e = .returned (.bool b1) ∧ Below w.heap.size w w')
      ∧ (∀ w, Tabs w → Calls Tryd.prog 7 #[.agg #[.int .i64 t, .int .i64 p, .int .i64 q], .agg #[.int .i64 s, .int .i64 P, .int .i64 Q]] w fun e w' => e = .returned (.bool b2) ∧ Below w.heap.size w w')
      ∧ (∀ w, Calls Tryd.prog 8 #[.agg #[.int .i64 t, .int .i64 p, .int .i64 q], .agg #[.int .i64 s, .int .i64 P, .int .i64 Q]] w fun e w' => e = .returned (.bool b2) ∧ Below w.heap.size w w')
      ∧ (∀ w, Tabs w → Calls Tryd.prog 7 #[.agg #[.int .i64 s, .int .i64 P, .int .i64 Q], .agg #[.int .i64 a, .int .i64 A1, .int .i64 A2]] w fun e w' => e = .returned (.bool true) ∧ Below w.heap.size w w')
      ∧ (∀ w, Tabs w → Calls Tryd.prog 7 #[.agg #[.int .i64 s, .int .i64 P, .int .i64 Q], .agg #[.int .i64 s, .int .i64 P, .int .i64 Q]] w fun e w' => e = .returned (.bool true) ∧ Below w.heap.size w w')
      ∧ (∀ w, Tabs w → Calls Tryd.prog 7 #[.agg #[.int .i64 a, .int .i64 A1, .int .i64 A2], .agg #[.int .i64 0, .int .i64 C1, .int .i64 C2]] w fun e w' => e = .returned (.bool true) ∧ Below w.heap.size w w')
      ∧ (∀ w, Tabs w → Calls Tryd.prog 7 #[.agg #[.int .i64 s, .int .i64 P, .int .i64 Q], .agg #[.int .i64 0, .int .i64 C1, .int .i64 C2]] w fun e w' => e = .returned (.bool true) ∧ Below w.heap.size w w')
      ∧ (∀ w, Tabs w → Calls Tryd.prog 7 #[.agg #[.int .i64 s, .int .i64 P, .int .i64 Q], .agg #[.int .i64 a, .int .i64 (A1 + 1), .int .i64 A2]] w fun e w' => e = .returned (.bool false) ∧ Below w.heap.size w w')
      ∧ (∀ w, Tabs w → Calls Tryd.prog 7 #[.agg #[.int .i64 a, .int .i64 A1, .int .i64 A2], .agg #[.int .i64 s, .int .i64 P, .int .i64 Q]] w fun e w' => e = .returned (.bool false) ∧ Below w.heap.size w w')
      ∧ (∀ w, Tabs w → Calls Tryd.prog 9 #[.agg #[.int .i64 s, .int .i64 P, .int .i64 Q], .int .i64 a] w fun e w' => e = .returned (.tuple #[.agg #[.int .i64 a, .int .i64 A1, .int .i64 A2], .int .i64 0]) ∧ Below w.heap.size w w')
      ∧ (∀ w, Tabs w → Calls Tryd.prog 9 #[.agg #[.int .i64 a, .int .i64 A1, .int .i64 A2], .int .i64 0] w fun e w' => e = .returned (.tuple #[.agg #[.int .i64 0, .int .i64 C1, .int .i64 C2], .int .i64 0]) ∧ Below w.heap.size w w'))
    (w : World) (hT : Tabs w) :
    Calls Tryd.prog 3 #[.int .i64 x, .int .i64 y, .int .i64 r0, .agg #[.int .i64 t, .int .i64 p, .int .i64 q], .int .i64 u0] w fun e w' => e = .returned (.bool true) ∧ Below w.heap.size w w' := by
  replace SO : Hid _ := SO
  replace KK : Hid _ := KK
  have hT0 : Hid (Tabs w) := hT
  clear hT
  go_enter Tryd.func3, Tryd.ntmps3
  go_wp2_with fail
  refine (SO.out _).mono ?_
  rintro e w1 ⟨⟨P, Q, rfl, hO⟩, d1⟩
  have c1 : Below w.heap.size w w1 := Below.trans (by go_grown) (d1.mono (by simp; try omega))
  have m0 : w1.cell? ⟨w.heap.size, 0, none⟩ = some (.int .i64 t) := keepCell d1 (by go_simp)
  have qm0 := World.block_lt_of_cell? _ _ m0
  have m1 : w1.cell? ⟨w.heap.size, 1, none⟩ = some (.int .i64 p) := keepCell d1 (by go_simp)
  have m2 : w1.cell? ⟨w.heap.size, 2, none⟩ = some (.int .i64 q) := keepCell d1 (by go_simp)
  have hB := c1
  clear c1 d1
  obtain ⟨A1, A2, C1, C2, b1, b2, ⟨hA1, hA2⟩, W1, R1, W2, R2, V1, V2, V3, V4, V5, V6, U1, U2⟩ := KK.out P Q hO
  replace W1 : Hid _ := W1
  replace R1 : Hid _ := R1
  replace W2 : Hid _ := W2
  replace R2 : Hid _ := R2
  replace V1 : Hid _ := V1
  replace V2 : Hid _ := V2
  replace V3 : Hid _ := V3
  replace V4 : Hid _ := V4
  replace V5 : Hid _ := V5
  replace V6 : Hid _ := V6
  replace U1 : Hid _ := U1
  replace U2 : Hid _ := U2
  clear hO KK
  have hal := (allocB w1 (.cells #[.int .i64 s, .int .i64 P, .int .i64 Q] 25)).drew
  have hS0 : (w1.alloc (.cells #[.int .i64 s, .int .i64 P, .int .i64 Q] 25)).drew.cell? ⟨w1.heap.size, 0, none⟩ = some (.int .i64 s) ∧ (w1.alloc (.cells #[.int .i64 s, .int .i64 P, .int .i64 Q] 25)).drew.cell? ⟨w1.heap.size, 1, none⟩ = some (.int .i64 P) ∧ (w1.alloc (.cells #[.int .i64 s, .int .i64 P, .int .i64 Q] 25)).drew.cell? ⟨w1.heap.size, 2, none⟩ = some (.int .i64 Q) ∧ (w1.alloc (.cells #[.int .i64 s, .int .i64 P, .int .i64 Q] 25)).drew.cell? ⟨w.heap.size, 0, none⟩ = some (.int .i64 t) ∧ (w1.alloc (.cells #[.int .i64 s, .int .i64 P, .int .i64 Q] 25)).drew.cell? ⟨w.heap.size, 1, none⟩ = some (.int .i64 p) ∧ (w1.alloc (.cells #[.int .i64 s, .int .i64 P, .int .i64 Q] 25)).drew.cell? ⟨w.heap.size, 2, none⟩ = some (.int .i64 q) ∧ Below w1.heap.size w1 (w1.alloc (.cells #[.int .i64 s, .int .i64 P, .int .i64 Q] 25)).drew := ⟨by go_simp, by go_simp, by go_simp, keepCell hal m0, keepCell hal m1, keepCell hal m2, hal⟩
  have hTS : Hid (∀ wx, (wx.cell? ⟨w1.heap.size, 0, none⟩ = some (.int .i64 s) ∧ wx.cell? ⟨w1.heap.size, 1, none⟩ = some (.int .i64 P) ∧ wx.cell? ⟨w1.heap.size, 2, none⟩ = some (.int .i64 Q) ∧ wx.cell? ⟨w.heap.size, 0, none⟩ = some (.int .i64 t) ∧ wx.cell? ⟨w.heap.size, 1, none⟩ = some (.int .i64 p) ∧ wx.cell? ⟨w.heap.size, 2, none⟩ = some (.int .i64 q) ∧ Below w1.heap.size w1 wx) → Tabs wx) := fun wx h => (hT0.out.below hB).below h.2.2.2.2.2.2
  go_wp2_with fail
  go_region_held3 (fun w' => w'.cell? ⟨w1.heap.size, 0, none⟩ = some (.int .i64 s) ∧ w'.cell? ⟨w1.heap.size, 1, none⟩ = some (.int .i64 P) ∧ w'.cell? ⟨w1.heap.size, 2, none⟩ = some (.int .i64 Q) ∧ w'.cell? ⟨w.heap.size, 0, none⟩ = some (.int .i64 t) ∧ w'.cell? ⟨w.heap.size, 1, none⟩ = some (.int .i64 p) ∧ w'.cell? ⟨w.heap.size, 2, none⟩ = some (.int .i64 q) ∧ Below w1.heap.size w1 w') (first | exact hS0 | exact keepSix3 hb (by assumption))
    (first | (go_at_call 7; (first | with_reducible refine (W1.out _ (hTS.out _ (by assumption))).mono ?_ | with_reducible refine (W2.out _ (hTS.out _ (by assumption))).mono ?_); rintro e w' ⟨rfl, hb⟩) | (go_at_call 8; (first | with_reducible refine (R1.out _).mono ?_ | with_reducible refine (R2.out _).mono ?_); rintro e w' ⟨rfl, hb⟩))
  rename_i hS
  obtain ⟨k0, k1, k2, -, -, -, hW⟩ := hS
  replace hB := belowT hB hW
  clear hS0 hTS hal m0 m1 m2 qm0 hW W1 W2 R1 R2 SO hb
  have qk0 := World.block_lt_of_cell? _ _ k0
  go_wp2_with fail
  refine (U1.out _ ?_).mono ?_
  · exact hT0.out.below hB
  rintro e v1 ⟨rfl, d1⟩
  have c1 : Below w'.heap.size w' v1 := Below.trans (by go_grown) (d1.mono (by simp; try omega))
  replace k0 := keepCell c1 k0
  replace qk0 := World.block_lt_of_cell? _ _ k0
  replace k1 := keepCell c1 k1
  replace k2 := keepCell c1 k2
  replace hB := belowT hB c1
  clear c1 d1
  go_wp2_with fail
  refine (U2.out _ ?_).mono ?_
  · exact hT0.out.below (belowT hB (by go_grown))
  rintro e v2 ⟨rfl, d2⟩
  have c2 : Below v1.heap.size v1 v2 := Below.trans (by go_grown) (d2.mono (by simp; try omega))
  replace k0 := keepCell c2 k0
  replace qk0 := World.block_lt_of_cell? _ _ k0
  replace k1 := keepCell c2 k1
  replace k2 := keepCell c2 k2
  have p0 : v2.cell? ⟨v1.heap.size, 0, none⟩ = some (.int .i64 a) := keepCell d2 (by go_simp)
  have qp0 := World.block_lt_of_cell? _ _ p0
  have p1 : v2.cell? ⟨v1.heap.size, 1, none⟩ = some (.int .i64 A1) := keepCell d2 (by go_simp)
  have p2 : v2.cell? ⟨v1.heap.size, 2, none⟩ = some (.int .i64 A2) := keepCell d2 (by go_simp)
  replace hB := belowT hB c2
  clear c2 d2
  go_wp2_with fail
  refine (V1.out _ ?_).mono ?_
  · exact hT0.out.below (belowT hB (by go_grown))
  rintro e v3 ⟨rfl, d3⟩
  have c3 : Below v2.heap.size v2 v3 := Below.trans (by go_grown) (d3.mono (by simp; try omega))
  replace k0 := keepCell c3 k0
  replace qk0 := World.block_lt_of_cell? _ _ k0
  replace k1 := keepCell c3 k1
  replace k2 := keepCell c3 k2
  replace p0 := keepCell c3 p0
  replace qp0 := World.block_lt_of_cell? _ _ p0
  replace p1 := keepCell c3 p1
  replace p2 := keepCell c3 p2
  have q0 : v3.cell? ⟨v2.heap.size, 0, none⟩ = some (.int .i64 0) := keepCell d3 (by go_simp)
  have qq0 := World.block_lt_of_cell? _ _ q0
  have q1 : v3.cell? ⟨v2.heap.size, 1, none⟩ = some (.int .i64 C1) := keepCell d3 (by go_simp)
  have q2 : v3.cell? ⟨v2.heap.size, 2, none⟩ = some (.int .i64 C2) := keepCell d3 (by go_simp)
  have o0 : v3.cell? ⟨v2.heap.size + 1, 0, none⟩ = some (.int .i64 a) := keepCell d3 (by go_simp)
  have qo0 := World.block_lt_of_cell? _ _ o0
  have o1 : v3.cell? ⟨v2.heap.size + 1, 1, none⟩ = some (.int .i64 (A1 + 1)) := keepCell d3 (by go_simp)
  have o2 : v3.cell? ⟨v2.heap.size + 1, 2, none⟩ = some (.int .i64 A2) := keepCell d3 (by go_simp)
  replace hB := belowT hB c3
  clear c3 d3
  go_wp2_with fail
  refine (V2.out _ ?_).mono ?_
  · exact hT0.out.below hB
  rintro e v4 ⟨rfl, d4⟩
  have c4 : Below v3.heap.size v3 v4 := Below.trans (by go_grown) (d4.mono (by simp; try omega))
  replace k0 := keepCell c4 k0
  replace qk0 := World.block_lt_of_cell? _ _ k0
  replace k1 := keepCell c4 k1
  replace k2 := keepCell c4 k2
  replace p0 := keepCell c4 p0
  replace qp0 := World.block_lt_of_cell? _ _ p0
  replace p1 := keepCell c4 p1
  replace p2 := keepCell c4 p2
  replace q0 := keepCell c4 q0
  replace qq0 := World.block_lt_of_cell? _ _ q0
  replace q1 := keepCell c4 q1
  replace q2 := keepCell c4 q2
  replace o0 := keepCell c4 o0
  replace qo0 := World.block_lt_of_cell? _ _ o0
  replace o1 := keepCell c4 o1
  replace o2 := keepCell c4 o2
  replace hB := belowT hB c4
  clear c4 d4
  go_wp2_with fail
  refine (V3.out _ ?_).mono ?_
  · exact hT0.out.below hB
  rintro e v5 ⟨rfl, d5⟩
  have c5 : Below v4.heap.size v4 v5 := Below.trans (by go_grown) (d5.mono (by simp; try omega))
  replace k0 := keepCell c5 k0
  replace qk0 := World.block_lt_of_cell? _ _ k0
  replace k1 := keepCell c5 k1
  replace k2 := keepCell c5 k2
  replace p0 := keepCell c5 p0
  replace qp0 := World.block_lt_of_cell? _ _ p0
  replace p1 := keepCell c5 p1
  replace p2 := keepCell c5 p2
  replace q0 := keepCell c5 q0
  replace qq0 := World.block_lt_of_cell? _ _ q0
  replace q1 := keepCell c5 q1
  replace q2 := keepCell c5 q2
  replace o0 := keepCell c5 o0
  replace qo0 := World.block_lt_of_cell? _ _ o0
  replace o1 := keepCell c5 o1
  replace o2 := keepCell c5 o2
  replace hB := belowT hB c5
  clear c5 d5
  go_wp2_with fail
  refine (V4.out _ ?_).mono ?_
  · exact hT0.out.below hB
  rintro e v6 ⟨rfl, d6⟩
  have c6 : Below v5.heap.size v5 v6 := Below.trans (by go_grown) (d6.mono (by simp; try omega))
  replace k0 := keepCell c6 k0
  replace qk0 := World.block_lt_of_cell? _ _ k0
  replace k1 := keepCell c6 k1
  replace k2 := keepCell c6 k2
  replace p0 := keepCell c6 p0
  replace qp0 := World.block_lt_of_cell? _ _ p0
  replace p1 := keepCell c6 p1
  replace p2 := keepCell c6 p2
  replace q0 := keepCell c6 q0
  replace qq0 := World.block_lt_of_cell? _ _ q0
  replace q1 := keepCell c6 q1
  replace q2 := keepCell c6 q2
  replace o0 := keepCell c6 o0
  replace qo0 := World.block_lt_of_cell? _ _ o0
  replace o1 := keepCell c6 o1
  replace o2 := keepCell c6 o2
  replace hB := belowT hB c6
  clear c6 d6
  go_wp2_with fail
  refine (V5.out _ ?_).mono ?_
  · exact hT0.out.below hB
  rintro e v7 ⟨rfl, d7⟩
  have c7 : Below v6.heap.size v6 v7 := Below.trans (by go_grown) (d7.mono (by simp; try omega))
  replace k0 := keepCell c7 k0
  replace qk0 := World.block_lt_of_cell? _ _ k0
  replace k1 := keepCell c7 k1
  replace k2 := keepCell c7 k2
  replace p0 := keepCell c7 p0
  replace qp0 := World.block_lt_of_cell? _ _ p0
  replace p1 := keepCell c7 p1
  replace p2 := keepCell c7 p2
  replace q0 := keepCell c7 q0
  replace qq0 := World.block_lt_of_cell? _ _ q0
  replace q1 := keepCell c7 q1
  replace q2 := keepCell c7 q2
  replace o0 := keepCell c7 o0
  replace qo0 := World.block_lt_of_cell? _ _ o0
  replace o1 := keepCell c7 o1
  replace o2 := keepCell c7 o2
  replace hB := belowT hB c7
  clear c7 d7
  go_wp2_with fail
  refine (V6.out _ ?_).mono ?_
  · exact hT0.out.below hB
  rintro e v8 ⟨rfl, d8⟩
  have c8 : Below v7.heap.size v7 v8 := Below.trans (by go_grown) (d8.mono (by simp; try omega))
  replace k0 := keepCell c8 k0
  replace qk0 := World.block_lt_of_cell? _ _ k0
  replace k1 := keepCell c8 k1
  replace k2 := keepCell c8 k2
  replace p0 := keepCell c8 p0
  replace qp0 := World.block_lt_of_cell? _ _ p0
  replace p1 := keepCell c8 p1
  replace p2 := keepCell c8 p2
  replace q0 := keepCell c8 q0
  replace qq0 := World.block_lt_of_cell? _ _ q0
  replace q1 := keepCell c8 q1
  replace q2 := keepCell c8 q2
  replace o0 := keepCell c8 o0
  replace qo0 := World.block_lt_of_cell? _ _ o0
  replace o1 := keepCell c8 o1
  replace o2 := keepCell c8 o2
  replace hB := belowT hB c8
  clear c8 d8
  go_wp2_with fail
  refine (cawake _ ?_).mono ?_
  · exact hT0.out.below hB
  rintro e v9 ⟨rfl, d9⟩
  have c9 : Below v8.heap.size v8 v9 := Below.trans (by go_grown) (d9.mono (by simp; try omega))
  replace k0 := keepCell c9 k0
  replace qk0 := World.block_lt_of_cell? _ _ k0
  replace k1 := keepCell c9 k1
  replace k2 := keepCell c9 k2
  replace p0 := keepCell c9 p0
  replace qp0 := World.block_lt_of_cell? _ _ p0
  replace p1 := keepCell c9 p1
  replace p2 := keepCell c9 p2
  replace q0 := keepCell c9 q0
  replace qq0 := World.block_lt_of_cell? _ _ q0
  replace q1 := keepCell c9 q1
  replace q2 := keepCell c9 q2
  replace o0 := keepCell c9 o0
  replace qo0 := World.block_lt_of_cell? _ _ o0
  replace o1 := keepCell c9 o1
  replace o2 := keepCell c9 o2
  replace hB := belowT hB c9
  clear c9 d9
  go_wp2
  go_ret
  exact ⟨rfl, hB⟩

theorem cellWithin_walk (x y r0 t p q u0 : Int) (w : World) (hT : Tabs w) :
    Calls Tryd.prog 3 #[.int .i64 x, .int .i64 y, .int .i64 r0, .agg #[.int .i64 t, .int .i64 p, .int .i64 q], .int .i64 u0] w fun e w' => e = .returned (.bool true) ∧ Below w.heap.size w w' := by
  obtain ⟨s, s0, s12, SO⟩ := csome_any x y r0
  obtain ⟨a, ha, a1, a2⟩ := eight_up u0 (s + 1) (by omega)
  have yes : ∀ r a b t p q, Within4 r a b t p q → ∀ w, Tabs w → Calls Tryd.prog 7 #[.agg #[.int .i64 r, .int .i64 a, .int .i64 b], .agg #[.int .i64 t, .int .i64 p, .int .i64 q]] w fun e w' => e = .returned (.bool true) ∧ Below w.heap.size w w' := fun r a b t p q h w hT => by
    have := cwithin_any r a b t p q w hT
    rwa [withB_mk h] at this
  have no : ∀ r a b t p q, ¬ Within4 r a b t p q → ∀ w, Tabs w → Calls Tryd.prog 7 #[.agg #[.int .i64 r, .int .i64 a, .int .i64 b], .agg #[.int .i64 t, .int .i64 p, .int .i64 q]] w fun e w' => e = .returned (.bool false) ∧ Below w.heap.size w w' := fun r a b t p q h w hT => by
    have := cwithin_any r a b t p q w hT
    rwa [withB_no h] at this
  have h0 : ∀ P Q, Ok4 s P Q → Ok4 a (ups (s - a).toNat P Q).1 (ups (s - a).toNat P Q).2 := fun P Q hO => by
    have := ok4_ups hO (s - a).toNat (by omega)
    rwa [show s - ((s - a).toNat : Int) = a by omega] at this
  have h1 : ∀ P Q, Ok4 s P Q → Ok4 0 (ups s.toNat P Q).1 (ups s.toNat P Q).2 := fun P Q hO => by
    have := ok4_ups hO s.toNat (by omega)
    rwa [show s - (s.toNat : Int) = 0 by omega] at this
  have e1 : ∀ P Q, ups a.toNat (ups (s - a).toNat P Q).1 (ups (s - a).toNat P Q).2 = ups s.toNat P Q := fun P Q => by rw [← ups_add, show (s - a).toNat + a.toNat = s.toNat by omega]
  have U1 := fun P Q (hO : Ok4 s P Q) w hT => cupto_yes s P Q a (s - a).toNat (by omega) hO a1 w hT
  have U2 : ∀ P Q, Ok4 s P Q → ∀ w, Tabs w → Calls Tryd.prog 9 #[.agg #[.int .i64 a, .int .i64 (ups (s - a).toNat P Q).1, .int .i64 (ups (s - a).toNat P Q).2], .int .i64 0] w fun e w' => e = .returned (.tuple #[.agg #[.int .i64 0, .int .i64 (ups s.toNat P Q).1, .int .i64 (ups s.toNat P Q).2], .int .i64 0]) ∧ Below w.heap.size w w' := fun P Q hO w hT => by
    have := cupto_yes a _ _ 0 a.toNat (by omega) (h0 P Q hO) (by omega) w hT
    rwa [e1] at this
  have V1 := fun P Q (hO : Ok4 s P Q) => yes _ _ _ _ _ _ (show Within4 s P Q a (ups (s - a).toNat P Q).1 (ups (s - a).toNat P Q).2 from ⟨hO, h0 P Q hO, by omega, rfl, rfl⟩)
  have V2 := fun P Q (hO : Ok4 s P Q) => yes _ _ _ _ _ _ (show Within4 s P Q s P Q from ⟨hO, hO, by omega, by rw [show (s - s).toNat = 0 by omega]; rfl, by rw [show (s - s).toNat = 0 by omega]; rfl⟩)
  have V3 := fun P Q (hO : Ok4 s P Q) => yes _ _ _ _ _ _ (show Within4 a (ups (s - a).toNat P Q).1 (ups (s - a).toNat P Q).2 0 (ups s.toNat P Q).1 (ups s.toNat P Q).2 from ⟨h0 P Q hO, h1 P Q hO, by omega, by rw [show (a - 0).toNat = a.toNat by omega, e1], by rw [show (a - 0).toNat = a.toNat by omega, e1]⟩)
  have V4 := fun P Q (hO : Ok4 s P Q) => yes _ _ _ _ _ _ (show Within4 s P Q 0 (ups s.toNat P Q).1 (ups s.toNat P Q).2 from ⟨hO, h1 P Q hO, by omega, by rw [show (s - 0).toNat = s.toNat by omega], by rw [show (s - 0).toNat = s.toNat by omega]⟩)
  have V5 := fun P Q => no _ _ _ _ _ _ (show ¬ Within4 s P Q a ((ups (s - a).toNat P Q).1 + 1) (ups (s - a).toNat P Q).2 from fun h => by have := h.2.2.2.1; omega)
  by_cases hl : a = s
  · refine cellWithin_same x y r0 t p q u0 s a ha s0 s12 (by simpa using hl) SO (fun P Q hO => ⟨_, _, _, _, withB s P Q t p q, withB t p q s P Q, (ok4_part (h0 P Q hO)).1, cwithin_any s P Q t p q, rwithin_any s P Q t p q, cwithin_any t p q s P Q, rwithin_any t p q s P Q, V1 P Q hO, V2 P Q hO, V3 P Q hO, V4 P Q hO, V5 P Q, U1 P Q hO, U2 P Q hO⟩) w hT
  · have V6 := fun P Q => no _ _ _ _ _ _ (show ¬ Within4 a (ups (s - a).toNat P Q).1 (ups (s - a).toNat P Q).2 s P Q from fun h => by have := h.2.2.1; omega)
    refine cellWithin_up x y r0 t p q u0 s a ha s0 s12 (by simpa using hl) SO (fun P Q hO => ⟨_, _, _, _, withB s P Q t p q, withB t p q s P Q, (ok4_part (h0 P Q hO)).1, cwithin_any s P Q t p q, rwithin_any s P Q t p q, cwithin_any t p q s P Q, rwithin_any t p q s P Q, V1 P Q hO, V2 P Q hO, V3 P Q hO, V4 P Q hO, V5 P Q, V6 P Q, U1 P Q hO, U2 P Q hO⟩) w hT

end Go.Proofs.YtnnbdlnginkldabDoor
