/-
  The law PlaneHolds answers true for every point and every size, in whatever memory where the package's table of ways holds what its text lays: a point lies in the closed hexagon of what is nearest to it.
-/
import Derived.Test.YtchcidhcefblpabDoorPWidth
import Derived.Test.YtchcidhcefblpabDoorPHex
import Derived.Test.YtchcidhcefblpabDoorPPoint
import Derived.Test.YtchcidhcefblpabDoorRefLess
import Derived.BigRegion
import Derived.Deep.CutRange
namespace Go.Proofs.YtchcidhcefblpabDoor
open Go.RowKit

theorem hex_full {B : Nat} {G : Nat → Int} {w : World} (h : HexRel B G 6 w) (o : Nat) (ho : o < 12) : w.cell? ⟨B, o, none⟩ = some (.int .i64 (G o)) := by
  have h0 := (h o ho).1
  have e : hexAt G 6 o = G o := if_pos (by omega)
  rwa [e] at h0
/-- Twelve cells that hold the numbers of G. -/
def Hex12 (B : Nat) (G : Nat → Int) (w : World) : Prop := ∀ o < 12, w.cell? ⟨B, o, none⟩ = some (.int .i64 (G o))
theorem Hex12.keep {a b : World} {B : Nat} {G : Nat → Int} (hb : Below a.heap.size a b) (h : Hex12 B G a) : Hex12 B G b := fun o ho => keepCell hb (h o ho)

set_option maxHeartbeats 8000000 in
set_option maxRecDepth 20000 in
theorem holds_core (x0 y0 r0 x y a b t r p q : Int) (G sg : Nat → Int) (ht : r0.tmod 13 = t) (hr : (t + 13).tmod 13 = r) (t1 : -13 < t) (t2 : t < 13) (x1 : 0 ≤ x) (x2 : x < 1073741824) (y1 : 0 ≤ y) (y2 : y < 1073741824)
    (p1 : -288230376151711744 ≤ p) (p2 : p ≤ 288230376151711744) (q1 : -288230376151711744 ≤ q) (q2 : q ≤ 288230376151711744) (hsg : ∀ j < 6, sg j = 0 ∨ sg j = 1)
    (PT : ∀ w, Calls Tryd.prog 5 #[.int .i64 x0, .int .i64 y0] w fun e w' => e = .returned (.tuple #[.int .i64 x, .int .i64 y]) ∧ Below w.heap.size w w')
    (N1 : ∀ w, Calls Tryd.prog 6 #[.int .i64 x, .int .i64 y, .int .i64 r] w fun e w' => e = .returned (.tuple #[.agg #[.int .i64 a, .int .i64 b], .bool true]) ∧ Below w.heap.size w w')
    (H1 : ∀ w, Ways w → Calls Tryd.prog 7 #[.agg #[.int .i64 a, .int .i64 b], .int .i64 r] w fun e w' => TellsH w G e w' ∧ Below w.heap.size w w')
    (C1 : ∀ w, Calls Tryd.prog 8 #[.agg #[.int .i64 a, .int .i64 b], .int .i64 r] w fun e w' => e = .returned (.tuple #[.int .i64 p, .int .i64 q, .bool true]) ∧ Below w.heap.size w w')
    (SS : ∀ j < 6, ∀ w, Calls Tryd.prog 9 #[.agg #[.int .i64 (G (2 * j)), .int .i64 (G (2 * j + 1))], .agg #[.int .i64 (G (2 * ((j + 1) % 6))), .int .i64 (G (2 * ((j + 1) % 6) + 1))], .int .i64 (3 * x), .int .i64 (3 * y)] w fun e w' => e = .returned (.int .i64 (sg j)) ∧ Below w.heap.size w w')
    (ST : ∀ j < 6, ∀ w, Calls Tryd.prog 9 #[.agg #[.int .i64 (G (2 * j)), .int .i64 (G (2 * j + 1))], .agg #[.int .i64 (G (2 * ((j + 1) % 6))), .int .i64 (G (2 * ((j + 1) % 6) + 1))], .int .i64 (3 * p), .int .i64 (3 * q)] w fun e w' => e = .returned (.int .i64 1) ∧ Below w.heap.size w w')
    (w : World) (hW : Ways w) :
    Calls Tryd.prog 3 #[.int .i64 x0, .int .i64 y0, .int .i64 r0] w fun e w' => e = .returned (.bool true) ∧ Below w.heap.size w w' := by
  replace PT : Hid _ := PT
  replace N1 : Hid _ := N1
  replace H1 : Hid _ := H1
  replace C1 : Hid _ := C1
  replace SS : Hid _ := SS
  replace ST : Hid _ := ST
  have hW0 : Hid (Ways w) := hW
  clear hW
  go_enter Tryd.func3, Tryd.ntmps3
  go_wp2_with fail
  refine (PT.out _).mono ?_
  rintro e w1 ⟨rfl, d1⟩
  have c1 : Below w.heap.size w w1 := Below.trans (by go_grown) (d1.mono (by simp; try omega))
  have hB := c1
  clear c1 d1
  go_wp2_with fail
  refine (N1.out _).mono ?_
  rintro e w2 ⟨rfl, d2⟩
  have c2 : Below w1.heap.size w1 w2 := Below.trans (by go_grown) (d2.mono (by simp; try omega))
  replace hB := belowT hB c2
  clear c2 d2
  go_wp2_with fail
  refine (H1.out _ ?_).mono ?_
  · exact hW0.out.below (belowT hB (by go_grown))
  rintro e w3 ⟨⟨Bk, hk, rfl, hR⟩, d3⟩
  have c3 : Below w2.heap.size w2 w3 := Below.trans (by go_grown) (d3.mono (by simp; try omega))
  have z0 : w3.cell? ⟨w2.heap.size, 0, none⟩ = some (.int .i64 a) := keepCell d3 (by go_simp)
  have qz0 := World.block_lt_of_cell? _ _ z0
  have z1 : w3.cell? ⟨w2.heap.size, 1, none⟩ = some (.int .i64 b) := keepCell d3 (by go_simp)
  replace hB := belowT hB c3
  clear c3 d3
  have hH : Hid (Hex12 Bk G w3) := hex_full hR
  clear hR hk
  go_wp2_with fail
  refine (C1.out _).mono ?_
  rintro e w4 ⟨rfl, d4⟩
  have c4 : Below w3.heap.size w3 w4 := Below.trans (by go_grown) (d4.mono (by simp))
  replace hB := belowT hB c4
  replace hH : Hid (Hex12 Bk G w4) := hH.out.keep c4
  clear c4 d4 z0 z1 qz0 PT N1 H1 C1 hW0
  go_wp2_with fail
  go_loopw [14] (fun v14 wr => ∃ i : Nat, i ≤ 6 ∧ v14 = .int .i64 (i : Int) ∧ Hid (Hex12 Bk G wr) ∧ Below w.heap.size w wr) (fun v14 _ => 6 - (intOf v14).toNat)
  case atStart => exact ⟨0, by omega, rfl, hH, hB⟩
  case round =>
    clear hH hB
    obtain ⟨i, hi, rfl, hH, hB⟩ := hrel
    have ci : i = 0 ∨ i = 1 ∨ i = 2 ∨ i = 3 ∨ i = 4 ∨ i = 5 ∨ i = 6 := by omega
    rcases ci with rfl | rfl | rfl | rfl | rfl | rfl | rfl
    · have f0 := hH.out 0 (by omega)
      have f1 := hH.out 1 (by omega)
      have f2 := hH.out 2 (by omega)
      have f3 := hH.out 3 (by omega)
      have A1 : Hid (∀ w, Calls Tryd.prog 9 #[.agg #[.int .i64 (G 0), .int .i64 (G 1)], .agg #[.int .i64 (G 2), .int .i64 (G 3)], .int .i64 (3 * x), .int .i64 (3 * y)] w fun e w' => e = .returned (.int .i64 (sg 0)) ∧ Below w.heap.size w w') := SS.out 0 (by omega)
      have A2 : Hid (∀ w, Calls Tryd.prog 9 #[.agg #[.int .i64 (G 0), .int .i64 (G 1)], .agg #[.int .i64 (G 2), .int .i64 (G 3)], .int .i64 (3 * p), .int .i64 (3 * q)] w fun e w' => e = .returned (.int .i64 1) ∧ Below w.heap.size w w') := ST.out 0 (by omega)
      have hl : Bk < wr.heap.size := World.block_lt_of_cell? _ _ f0
      have hs := hsg 0 (by omega)
      generalize sg 0 = s at A1 hs
      generalize G 0 = g0 at f0 A1 A2
      generalize G 1 = g1 at f1 A1 A2
      generalize G 2 = g2 at f2 A1 A2
      generalize G 3 = g3 at f3 A1 A2
      clear SS ST
      go_wp2
      go_cut [15, 16] from 64 to 102 (fun v15 v16 wx => ∃ P Q : Nat, v15 = .pointer (some ⟨P, 0, none⟩) ∧ v16 = .pointer (some ⟨Q, 0, none⟩) ∧ wx.cell? ⟨P, 0, none⟩ = some (.int .i64 g0) ∧ wx.cell? ⟨P, 1, none⟩ = some (.int .i64 g1) ∧ wx.cell? ⟨Q, 0, none⟩ = some (.int .i64 g2) ∧ wx.cell? ⟨Q, 1, none⟩ = some (.int .i64 g3) ∧ Below wr.heap.size wr wx)
      case first =>
        go_big_region
        all_goals
          go_wp2
          go_meet
          first
            | exact ⟨wr.heap.size, wr.heap.size + 1, rfl, rfl, by go_simp, by go_simp, by go_simp, by go_simp, by go_grown⟩
            | exact ⟨wr.heap.size + 1, wr.heap.size, rfl, rfl, by go_simp, by go_simp, by go_simp, by go_simp, by go_grown⟩
      case rest =>
        clear f0 f1 f2 f3 hl
        obtain ⟨P, Q, rfl, rfl, m0, m1, n0, n1, hX⟩ := hcut
        replace hH : Hid (Hex12 Bk G wc) := hH.out.keep hX
        replace hB := belowT hB hX
        clear hX
        rcases hs with rfl | rfl
        all_goals
          go_wp2_with fail
          refine (A1.out _).mono ?_
          rintro e u1 ⟨rfl, d1⟩
          replace m0 := keepCell d1 m0
          replace m1 := keepCell d1 m1
          replace n0 := keepCell d1 n0
          replace n1 := keepCell d1 n1
          replace hH : Hid (Hex12 Bk G u1) := hH.out.keep d1
          replace hB := belowT hB d1
          clear d1
          go_wp2_with fail
          refine (A2.out _).mono ?_
          rintro e u2 ⟨rfl, d2⟩
          replace hH : Hid (Hex12 Bk G u2) := hH.out.keep d2
          replace hB := belowT hB d2
          clear d2 m0 m1 n0 n1
          go_wp2
          go_roundw
          case rel => exact ⟨1, by omega, by go_num, hH, hB⟩
          case measure => simp [intOf]
    · have f0 := hH.out 2 (by omega)
      have f1 := hH.out 3 (by omega)
      have f2 := hH.out 4 (by omega)
      have f3 := hH.out 5 (by omega)
      have A1 : Hid (∀ w, Calls Tryd.prog 9 #[.agg #[.int .i64 (G 2), .int .i64 (G 3)], .agg #[.int .i64 (G 4), .int .i64 (G 5)], .int .i64 (3 * x), .int .i64 (3 * y)] w fun e w' => e = .returned (.int .i64 (sg 1)) ∧ Below w.heap.size w w') := SS.out 1 (by omega)
      have A2 : Hid (∀ w, Calls Tryd.prog 9 #[.agg #[.int .i64 (G 2), .int .i64 (G 3)], .agg #[.int .i64 (G 4), .int .i64 (G 5)], .int .i64 (3 * p), .int .i64 (3 * q)] w fun e w' => e = .returned (.int .i64 1) ∧ Below w.heap.size w w') := ST.out 1 (by omega)
      have hl : Bk < wr.heap.size := World.block_lt_of_cell? _ _ f0
      have hs := hsg 1 (by omega)
      generalize sg 1 = s at A1 hs
      generalize G 2 = g0 at f0 A1 A2
      generalize G 3 = g1 at f1 A1 A2
      generalize G 4 = g2 at f2 A1 A2
      generalize G 5 = g3 at f3 A1 A2
      clear SS ST
      go_wp2
      go_cut [15, 16] from 64 to 102 (fun v15 v16 wx => ∃ P Q : Nat, v15 = .pointer (some ⟨P, 0, none⟩) ∧ v16 = .pointer (some ⟨Q, 0, none⟩) ∧ wx.cell? ⟨P, 0, none⟩ = some (.int .i64 g0) ∧ wx.cell? ⟨P, 1, none⟩ = some (.int .i64 g1) ∧ wx.cell? ⟨Q, 0, none⟩ = some (.int .i64 g2) ∧ wx.cell? ⟨Q, 1, none⟩ = some (.int .i64 g3) ∧ Below wr.heap.size wr wx)
      case first =>
        go_big_region
        all_goals
          go_wp2
          go_meet
          first
            | exact ⟨wr.heap.size, wr.heap.size + 1, rfl, rfl, by go_simp, by go_simp, by go_simp, by go_simp, by go_grown⟩
            | exact ⟨wr.heap.size + 1, wr.heap.size, rfl, rfl, by go_simp, by go_simp, by go_simp, by go_simp, by go_grown⟩
      case rest =>
        clear f0 f1 f2 f3 hl
        obtain ⟨P, Q, rfl, rfl, m0, m1, n0, n1, hX⟩ := hcut
        replace hH : Hid (Hex12 Bk G wc) := hH.out.keep hX
        replace hB := belowT hB hX
        clear hX
        rcases hs with rfl | rfl
        all_goals
          go_wp2_with fail
          refine (A1.out _).mono ?_
          rintro e u1 ⟨rfl, d1⟩
          replace m0 := keepCell d1 m0
          replace m1 := keepCell d1 m1
          replace n0 := keepCell d1 n0
          replace n1 := keepCell d1 n1
          replace hH : Hid (Hex12 Bk G u1) := hH.out.keep d1
          replace hB := belowT hB d1
          clear d1
          go_wp2_with fail
          refine (A2.out _).mono ?_
          rintro e u2 ⟨rfl, d2⟩
          replace hH : Hid (Hex12 Bk G u2) := hH.out.keep d2
          replace hB := belowT hB d2
          clear d2 m0 m1 n0 n1
          go_wp2
          go_roundw
          case rel => exact ⟨2, by omega, by go_num, hH, hB⟩
          case measure => simp [intOf]
    · have f0 := hH.out 4 (by omega)
      have f1 := hH.out 5 (by omega)
      have f2 := hH.out 6 (by omega)
      have f3 := hH.out 7 (by omega)
      have A1 : Hid (∀ w, Calls Tryd.prog 9 #[.agg #[.int .i64 (G 4), .int .i64 (G 5)], .agg #[.int .i64 (G 6), .int .i64 (G 7)], .int .i64 (3 * x), .int .i64 (3 * y)] w fun e w' => e = .returned (.int .i64 (sg 2)) ∧ Below w.heap.size w w') := SS.out 2 (by omega)
      have A2 : Hid (∀ w, Calls Tryd.prog 9 #[.agg #[.int .i64 (G 4), .int .i64 (G 5)], .agg #[.int .i64 (G 6), .int .i64 (G 7)], .int .i64 (3 * p), .int .i64 (3 * q)] w fun e w' => e = .returned (.int .i64 1) ∧ Below w.heap.size w w') := ST.out 2 (by omega)
      have hl : Bk < wr.heap.size := World.block_lt_of_cell? _ _ f0
      have hs := hsg 2 (by omega)
      generalize sg 2 = s at A1 hs
      generalize G 4 = g0 at f0 A1 A2
      generalize G 5 = g1 at f1 A1 A2
      generalize G 6 = g2 at f2 A1 A2
      generalize G 7 = g3 at f3 A1 A2
      clear SS ST
      go_wp2
      go_cut [15, 16] from 64 to 102 (fun v15 v16 wx => ∃ P Q : Nat, v15 = .pointer (some ⟨P, 0, none⟩) ∧ v16 = .pointer (some ⟨Q, 0, none⟩) ∧ wx.cell? ⟨P, 0, none⟩ = some (.int .i64 g0) ∧ wx.cell? ⟨P, 1, none⟩ = some (.int .i64 g1) ∧ wx.cell? ⟨Q, 0, none⟩ = some (.int .i64 g2) ∧ wx.cell? ⟨Q, 1, none⟩ = some (.int .i64 g3) ∧ Below wr.heap.size wr wx)
      case first =>
        go_big_region
        all_goals
          go_wp2
          go_meet
          first
            | exact ⟨wr.heap.size, wr.heap.size + 1, rfl, rfl, by go_simp, by go_simp, by go_simp, by go_simp, by go_grown⟩
            | exact ⟨wr.heap.size + 1, wr.heap.size, rfl, rfl, by go_simp, by go_simp, by go_simp, by go_simp, by go_grown⟩
      case rest =>
        clear f0 f1 f2 f3 hl
        obtain ⟨P, Q, rfl, rfl, m0, m1, n0, n1, hX⟩ := hcut
        replace hH : Hid (Hex12 Bk G wc) := hH.out.keep hX
        replace hB := belowT hB hX
        clear hX
        rcases hs with rfl | rfl
        all_goals
          go_wp2_with fail
          refine (A1.out _).mono ?_
          rintro e u1 ⟨rfl, d1⟩
          replace m0 := keepCell d1 m0
          replace m1 := keepCell d1 m1
          replace n0 := keepCell d1 n0
          replace n1 := keepCell d1 n1
          replace hH : Hid (Hex12 Bk G u1) := hH.out.keep d1
          replace hB := belowT hB d1
          clear d1
          go_wp2_with fail
          refine (A2.out _).mono ?_
          rintro e u2 ⟨rfl, d2⟩
          replace hH : Hid (Hex12 Bk G u2) := hH.out.keep d2
          replace hB := belowT hB d2
          clear d2 m0 m1 n0 n1
          go_wp2
          go_roundw
          case rel => exact ⟨3, by omega, by go_num, hH, hB⟩
          case measure => simp [intOf]
    · have f0 := hH.out 6 (by omega)
      have f1 := hH.out 7 (by omega)
      have f2 := hH.out 8 (by omega)
      have f3 := hH.out 9 (by omega)
      have A1 : Hid (∀ w, Calls Tryd.prog 9 #[.agg #[.int .i64 (G 6), .int .i64 (G 7)], .agg #[.int .i64 (G 8), .int .i64 (G 9)], .int .i64 (3 * x), .int .i64 (3 * y)] w fun e w' => e = .returned (.int .i64 (sg 3)) ∧ Below w.heap.size w w') := SS.out 3 (by omega)
      have A2 : Hid (∀ w, Calls Tryd.prog 9 #[.agg #[.int .i64 (G 6), .int .i64 (G 7)], .agg #[.int .i64 (G 8), .int .i64 (G 9)], .int .i64 (3 * p), .int .i64 (3 * q)] w fun e w' => e = .returned (.int .i64 1) ∧ Below w.heap.size w w') := ST.out 3 (by omega)
      have hl : Bk < wr.heap.size := World.block_lt_of_cell? _ _ f0
      have hs := hsg 3 (by omega)
      generalize sg 3 = s at A1 hs
      generalize G 6 = g0 at f0 A1 A2
      generalize G 7 = g1 at f1 A1 A2
      generalize G 8 = g2 at f2 A1 A2
      generalize G 9 = g3 at f3 A1 A2
      clear SS ST
      go_wp2
      go_cut [15, 16] from 64 to 102 (fun v15 v16 wx => ∃ P Q : Nat, v15 = .pointer (some ⟨P, 0, none⟩) ∧ v16 = .pointer (some ⟨Q, 0, none⟩) ∧ wx.cell? ⟨P, 0, none⟩ = some (.int .i64 g0) ∧ wx.cell? ⟨P, 1, none⟩ = some (.int .i64 g1) ∧ wx.cell? ⟨Q, 0, none⟩ = some (.int .i64 g2) ∧ wx.cell? ⟨Q, 1, none⟩ = some (.int .i64 g3) ∧ Below wr.heap.size wr wx)
      case first =>
        go_big_region
        all_goals
          go_wp2
          go_meet
          first
            | exact ⟨wr.heap.size, wr.heap.size + 1, rfl, rfl, by go_simp, by go_simp, by go_simp, by go_simp, by go_grown⟩
            | exact ⟨wr.heap.size + 1, wr.heap.size, rfl, rfl, by go_simp, by go_simp, by go_simp, by go_simp, by go_grown⟩
      case rest =>
        clear f0 f1 f2 f3 hl
        obtain ⟨P, Q, rfl, rfl, m0, m1, n0, n1, hX⟩ := hcut
        replace hH : Hid (Hex12 Bk G wc) := hH.out.keep hX
        replace hB := belowT hB hX
        clear hX
        rcases hs with rfl | rfl
        all_goals
          go_wp2_with fail
          refine (A1.out _).mono ?_
          rintro e u1 ⟨rfl, d1⟩
          replace m0 := keepCell d1 m0
          replace m1 := keepCell d1 m1
          replace n0 := keepCell d1 n0
          replace n1 := keepCell d1 n1
          replace hH : Hid (Hex12 Bk G u1) := hH.out.keep d1
          replace hB := belowT hB d1
          clear d1
          go_wp2_with fail
          refine (A2.out _).mono ?_
          rintro e u2 ⟨rfl, d2⟩
          replace hH : Hid (Hex12 Bk G u2) := hH.out.keep d2
          replace hB := belowT hB d2
          clear d2 m0 m1 n0 n1
          go_wp2
          go_roundw
          case rel => exact ⟨4, by omega, by go_num, hH, hB⟩
          case measure => simp [intOf]
    · have f0 := hH.out 8 (by omega)
      have f1 := hH.out 9 (by omega)
      have f2 := hH.out 10 (by omega)
      have f3 := hH.out 11 (by omega)
      have A1 : Hid (∀ w, Calls Tryd.prog 9 #[.agg #[.int .i64 (G 8), .int .i64 (G 9)], .agg #[.int .i64 (G 10), .int .i64 (G 11)], .int .i64 (3 * x), .int .i64 (3 * y)] w fun e w' => e = .returned (.int .i64 (sg 4)) ∧ Below w.heap.size w w') := SS.out 4 (by omega)
      have A2 : Hid (∀ w, Calls Tryd.prog 9 #[.agg #[.int .i64 (G 8), .int .i64 (G 9)], .agg #[.int .i64 (G 10), .int .i64 (G 11)], .int .i64 (3 * p), .int .i64 (3 * q)] w fun e w' => e = .returned (.int .i64 1) ∧ Below w.heap.size w w') := ST.out 4 (by omega)
      have hl : Bk < wr.heap.size := World.block_lt_of_cell? _ _ f0
      have hs := hsg 4 (by omega)
      generalize sg 4 = s at A1 hs
      generalize G 8 = g0 at f0 A1 A2
      generalize G 9 = g1 at f1 A1 A2
      generalize G 10 = g2 at f2 A1 A2
      generalize G 11 = g3 at f3 A1 A2
      clear SS ST
      go_wp2
      go_cut [15, 16] from 64 to 102 (fun v15 v16 wx => ∃ P Q : Nat, v15 = .pointer (some ⟨P, 0, none⟩) ∧ v16 = .pointer (some ⟨Q, 0, none⟩) ∧ wx.cell? ⟨P, 0, none⟩ = some (.int .i64 g0) ∧ wx.cell? ⟨P, 1, none⟩ = some (.int .i64 g1) ∧ wx.cell? ⟨Q, 0, none⟩ = some (.int .i64 g2) ∧ wx.cell? ⟨Q, 1, none⟩ = some (.int .i64 g3) ∧ Below wr.heap.size wr wx)
      case first =>
        go_big_region
        all_goals
          go_wp2
          go_meet
          first
            | exact ⟨wr.heap.size, wr.heap.size + 1, rfl, rfl, by go_simp, by go_simp, by go_simp, by go_simp, by go_grown⟩
            | exact ⟨wr.heap.size + 1, wr.heap.size, rfl, rfl, by go_simp, by go_simp, by go_simp, by go_simp, by go_grown⟩
      case rest =>
        clear f0 f1 f2 f3 hl
        obtain ⟨P, Q, rfl, rfl, m0, m1, n0, n1, hX⟩ := hcut
        replace hH : Hid (Hex12 Bk G wc) := hH.out.keep hX
        replace hB := belowT hB hX
        clear hX
        rcases hs with rfl | rfl
        all_goals
          go_wp2_with fail
          refine (A1.out _).mono ?_
          rintro e u1 ⟨rfl, d1⟩
          replace m0 := keepCell d1 m0
          replace m1 := keepCell d1 m1
          replace n0 := keepCell d1 n0
          replace n1 := keepCell d1 n1
          replace hH : Hid (Hex12 Bk G u1) := hH.out.keep d1
          replace hB := belowT hB d1
          clear d1
          go_wp2_with fail
          refine (A2.out _).mono ?_
          rintro e u2 ⟨rfl, d2⟩
          replace hH : Hid (Hex12 Bk G u2) := hH.out.keep d2
          replace hB := belowT hB d2
          clear d2 m0 m1 n0 n1
          go_wp2
          go_roundw
          case rel => exact ⟨5, by omega, by go_num, hH, hB⟩
          case measure => simp [intOf]
    · have f0 := hH.out 10 (by omega)
      have f1 := hH.out 11 (by omega)
      have f2 := hH.out 0 (by omega)
      have f3 := hH.out 1 (by omega)
      have A1 : Hid (∀ w, Calls Tryd.prog 9 #[.agg #[.int .i64 (G 10), .int .i64 (G 11)], .agg #[.int .i64 (G 0), .int .i64 (G 1)], .int .i64 (3 * x), .int .i64 (3 * y)] w fun e w' => e = .returned (.int .i64 (sg 5)) ∧ Below w.heap.size w w') := SS.out 5 (by omega)
      have A2 : Hid (∀ w, Calls Tryd.prog 9 #[.agg #[.int .i64 (G 10), .int .i64 (G 11)], .agg #[.int .i64 (G 0), .int .i64 (G 1)], .int .i64 (3 * p), .int .i64 (3 * q)] w fun e w' => e = .returned (.int .i64 1) ∧ Below w.heap.size w w') := ST.out 5 (by omega)
      have hl : Bk < wr.heap.size := World.block_lt_of_cell? _ _ f0
      have hs := hsg 5 (by omega)
      generalize sg 5 = s at A1 hs
      generalize G 10 = g0 at f0 A1 A2
      generalize G 11 = g1 at f1 A1 A2
      generalize G 0 = g2 at f2 A1 A2
      generalize G 1 = g3 at f3 A1 A2
      clear SS ST
      go_wp2
      go_cut [15, 16] from 64 to 102 (fun v15 v16 wx => ∃ P Q : Nat, v15 = .pointer (some ⟨P, 0, none⟩) ∧ v16 = .pointer (some ⟨Q, 0, none⟩) ∧ wx.cell? ⟨P, 0, none⟩ = some (.int .i64 g0) ∧ wx.cell? ⟨P, 1, none⟩ = some (.int .i64 g1) ∧ wx.cell? ⟨Q, 0, none⟩ = some (.int .i64 g2) ∧ wx.cell? ⟨Q, 1, none⟩ = some (.int .i64 g3) ∧ Below wr.heap.size wr wx)
      case first =>
        go_big_region
        all_goals
          go_wp2
          go_meet
          first
            | exact ⟨wr.heap.size, wr.heap.size + 1, rfl, rfl, by go_simp, by go_simp, by go_simp, by go_simp, by go_grown⟩
            | exact ⟨wr.heap.size + 1, wr.heap.size, rfl, rfl, by go_simp, by go_simp, by go_simp, by go_simp, by go_grown⟩
      case rest =>
        clear f0 f1 f2 f3 hl
        obtain ⟨P, Q, rfl, rfl, m0, m1, n0, n1, hX⟩ := hcut
        replace hH : Hid (Hex12 Bk G wc) := hH.out.keep hX
        replace hB := belowT hB hX
        clear hX
        rcases hs with rfl | rfl
        all_goals
          go_wp2_with fail
          refine (A1.out _).mono ?_
          rintro e u1 ⟨rfl, d1⟩
          replace m0 := keepCell d1 m0
          replace m1 := keepCell d1 m1
          replace n0 := keepCell d1 n0
          replace n1 := keepCell d1 n1
          replace hH : Hid (Hex12 Bk G u1) := hH.out.keep d1
          replace hB := belowT hB d1
          clear d1
          go_wp2_with fail
          refine (A2.out _).mono ?_
          rintro e u2 ⟨rfl, d2⟩
          replace hH : Hid (Hex12 Bk G u2) := hH.out.keep d2
          replace hB := belowT hB d2
          clear d2 m0 m1 n0 n1
          go_wp2
          go_roundw
          case rel => exact ⟨6, by omega, by go_num, hH, hB⟩
          case measure => simp [intOf]
    · clear SS ST hsg hH
      go_wp2_with fail
      refine (awake3 _).mono ?_
      rintro e v1 ⟨rfl, d1⟩
      have c1 : Below wr.heap.size wr v1 := Below.trans (by go_grown) (d1.mono (by simp; try omega))
      replace hB := belowT hB c1
      clear c1 d1
      go_wp2
      go_ret
      exact ⟨rfl, hB⟩

theorem co_box {K : Nat} {a b p q : Int} (hK : K ≤ 12) (ha : In30 a) (hb : In30 b) (p1 : -2 ≤ p) (p2 : p ≤ 2) (q1 : -2 ≤ q) (q2 : q ≤ 2) : -288230376151711744 ≤ coX K a b p q ∧ coX K a b p q ≤ 288230376151711744 ∧ -288230376151711744 ≤ coY K a b p q ∧ coY K a b p q ≤ 288230376151711744 := by
  obtain ⟨a1, a2⟩ := ha
  obtain ⟨b1, b2⟩ := hb
  have hc := ct_box (a := 3 * a + p) (b := 3 * b + q) hK (by omega) (by omega)
  unfold coX coY poX poY
  omega
/-- What side_eq tells is nowhere below nought in the hexagon, and three times the divisor at its centre. -/
theorem hold_ge {d s t : Int} (h : Hex d s t) (j : Nat) (hj : j < 6) : 0 ≤ (wayA ((j + 1) % 6) - wayA j) * (3 * t - d * wayB j) - (wayB ((j + 1) % 6) - wayB j) * (3 * s - d * wayA j) := by
  unfold Hex at h
  have c : j = 0 ∨ j = 1 ∨ j = 2 ∨ j = 3 ∨ j = 4 ∨ j = 5 := by omega
  rcases c with rfl | rfl | rfl | rfl | rfl | rfl <;> simp [wayA, wayB] <;> omega
theorem hold_mid (d : Int) (j : Nat) (hj : j < 6) : (wayA ((j + 1) % 6) - wayA j) * (3 * 0 - d * wayB j) - (wayB ((j + 1) % 6) - wayB j) * (3 * 0 - d * wayA j) = 3 * d := by
  have c : j = 0 ∨ j = 1 ∨ j = 2 ∨ j = 3 ∨ j = 4 ∨ j = 5 := by omega
  rcases c with rfl | rfl | rfl | rfl | rfl | rfl <;> simp [wayA, wayB] <;> omega
theorem nu_self (K : Nat) (a b : Int) : nuA K (poX K a b) (poY K a b) = a * dvK K ∧ nuB K (poX K a b) (poY K a b) = b * dvK K := by
  constructor
  · unfold nuA dvK sev normE poX poY ctA ctB cjA cjB; grind
  · unfold nuB dvK sev normE poX poY ctA ctB cjA cjB; grind

/-- Either side of the way from a corner to the next. -/
def lftP (K : Nat) (a b y : Int) (j : Nat) : Int := (coX K a b (wayA ((j + 1) % 6)) (wayB ((j + 1) % 6)) - coX K a b (wayA j) (wayB j)) * (3 * y - coY K a b (wayA j) (wayB j))
def rgtP (K : Nat) (a b x : Int) (j : Nat) : Int := (coY K a b (wayA ((j + 1) % 6)) (wayB ((j + 1) % 6)) - coY K a b (wayA j) (wayB j)) * (3 * x - coX K a b (wayA j) (wayB j))
theorem lft_rgt (K : Nat) (a b x y : Int) (j : Nat) : lftP K a b y j - rgtP K a b x j = (wayA ((j + 1) % 6) - wayA j) * (3 * (nuB K x y - b * dvK K) - dvK K * wayB j) - (wayB ((j + 1) % 6) - wayB j) * (3 * (nuA K x y - a * dvK K) - dvK K * wayA j) := side_eq K a b x y _ _ _ _
theorem side_at {K : Nat} {a b : Int} (hK : K ≤ 12) (ha : In30 a) (hb : In30 b) (x y n : Int) (x1 : -288230376151711744 ≤ x) (x2 : x ≤ 288230376151711744) (y1 : -288230376151711744 ≤ y) (y2 : y ≤ 288230376151711744) (j : Nat) (hj : j < 6)
    (hn : n = if decide (lftP K a b y j < rgtP K a b x j) = true then -1 else if decide (rgtP K a b x j < lftP K a b y j) = true then 1 else 0) (w : World) :
    Calls Tryd.prog 9 #[.agg #[.int .i64 (hexG K a b (2 * j)), .int .i64 (hexG K a b (2 * j + 1))], .agg #[.int .i64 (hexG K a b (2 * ((j + 1) % 6))), .int .i64 (hexG K a b (2 * ((j + 1) % 6) + 1))], .int .i64 (3 * x), .int .i64 (3 * y)] w fun e w' => e = .returned (.int .i64 n) ∧ Below w.heap.size w w' := by
  have w1 := way_box j hj
  have w2 := way_box ((j + 1) % 6) (by omega)
  have c1 := co_box hK ha hb w1.1 w1.2.1 w1.2.2.1 w1.2.2.2
  have c2 := co_box hK ha hb w2.1 w2.2.1 w2.2.2.1 w2.2.2.2
  rw [hexG_even, hexG_odd, hexG_even, hexG_odd]
  exact side_any _ _ _ _ _ _ n hn (by omega) (by omega) (by omega) (by omega) (by omega) (by omega) (by omega) (by omega) (by omega) (by omega) (by omega) (by omega) w

theorem planeHolds_walk (x0 y0 r0 : Int) (w : World) (hW : Ways w) :
    Calls Tryd.prog 3 #[.int .i64 x0, .int .i64 y0, .int .i64 r0] w fun e w' => e = .returned (.bool true) ∧ Below w.heap.size w w' := by
  obtain ⟨t, r, K, ht, hr, t1, t2, hK, hs⟩ := size13 r0
  obtain ⟨x, y, hw, PT⟩ := point_any x0 y0
  obtain ⟨a, b, hn⟩ := nearest_some (dvK_box hK).1 (nuA K x y) (nuB K x y)
  have hb := near_tame hK hw hn
  have ha : In30 a := ⟨by omega, by omega⟩
  have hb : In30 b := ⟨by omega, by omega⟩
  have hd := (dvK_box hK).1
  obtain ⟨x1, x2, y1, y2⟩ := id hw
  have hc := ct_box (a := a) (b := b) hK (by have := ha.1; have := ha.2; omega) (by have := hb.1; have := hb.2; omega)
  have hp : -288230376151711744 ≤ poX K a b ∧ poX K a b ≤ 288230376151711744 ∧ -288230376151711744 ≤ poY K a b ∧ poY K a b ≤ 288230376151711744 := by unfold poX poY; omega
  have hge : ∀ j < 6, ¬ lftP K a b y j < rgtP K a b x j := fun j hj => by
    have e := lft_rgt K a b x y j
    have g := hold_ge hn.1 j hj
    omega
  have hmid : ∀ j < 6, rgtP K a b (poX K a b) j < lftP K a b (poY K a b) j := fun j hj => by
    have e := lft_rgt K a b (poX K a b) (poY K a b) j
    have g := hold_mid (dvK K) j hj
    have z := nu_self K a b
    rw [z.1, z.2, Int.sub_self, Int.sub_self, g] at e
    omega
  refine holds_core x0 y0 r0 x y a b t r (poX K a b) (poY K a b) (hexG K a b) (fun j => if decide (rgtP K a b x j < lftP K a b y j) = true then 1 else 0) ht hr t1 t2 x1 x2 y1 y2 hp.1 hp.2.1 hp.2.2.1 hp.2.2.2 (fun j _ => ?_) PT
    (pnear_at x y r K hK hs hw a b hn) (fun w hW => phex_yes _ _ r K hK hs ha hb w hW) (pcentre_yes _ _ r K hK hs ha hb) (fun j hj w => ?_) (fun j hj w => ?_) w hW
  · split
    · exact Or.inr rfl
    · exact Or.inl rfl
  · refine side_at hK ha hb x y _ (by omega) (by omega) (by omega) (by omega) j hj ?_ w
    rw [df (hge j hj)]
    rfl
  · refine side_at hK ha hb _ _ 1 hp.1 hp.2.1 hp.2.2.1 hp.2.2.2 j hj ?_ w
    have h := hmid j hj
    rw [df (show ¬ lftP K a b (poY K a b) j < rgtP K a b (poX K a b) j by omega), decide_eq_true h]
    rfl

end Go.Proofs.YtchcidhcefblpabDoor
