/-
  The law CellCentres answers true for every three numbers, in whatever memory where the tables of Units and of digits hold what their texts lay: a cell's centre is its first child's, of each size down.
-/
import Derived.Test.YtnnbdlnginkldabDoorCSome
import Derived.Test.YtnnbdlnginkldabDoorCAwake
import Derived.Test.YtnnbdlnginkldabDoorPCentre
namespace Go.Proofs.YtnnbdlnginkldabDoor
open Go.RowKit

theorem po_down (K : Nat) (a b : Int) : poX (K + 1) a b = poX K (chA 0 a b) (chB 0 a b) ∧ poY (K + 1) a b = poY K (chA 0 a b) (chB 0 a b) := by
  have h := ct_down K a b
  have e1 : chA 0 a b = mulA a b 2 1 := by unfold chA mulA; show 2 * a - b + 0 = _; omega
  have e2 : chB 0 a b = mulB a b 2 1 := by unfold chB mulB; show a + 3 * b + 0 = _; omega
  unfold poX poY
  rw [h.1, h.2, e1, e2]
  exact ⟨rfl, rfl⟩
theorem ok4_in {r a b : Int} (h : Ok4 r a b) : In30 a ∧ In30 b := by
  have := ok4_part h
  unfold In30
  omega

set_option maxHeartbeats 8000000 in
set_option maxRecDepth 20000 in
theorem cellCentres_walk (x y r : Int) (w : World) (hT : Tabs w) :
    Calls Tryd.prog 4 #[.int .i64 x, .int .i64 y, .int .i64 r] w fun e w' => e = .returned (.bool true) ∧ Below w.heap.size w w' := by
  obtain ⟨s, s0, s12, SO⟩ := csome_any x y r
  replace SO : Hid _ := SO
  have hT0 : Hid (Tabs w) := hT
  clear hT
  go_enter Tryd.func4, Tryd.ntmps4
  go_wp2_with fail
  refine (SO.out _).mono ?_
  rintro e w1 ⟨⟨P, Q, rfl, hO⟩, d1⟩
  have c1 : Below w.heap.size w w1 := Below.trans (by go_grown) (d1.mono (by simp; try omega))
  have hB := c1
  clear c1 d1
  have hle0 : w.heap.size ≤ w1.heap.size := hB.size
  obtain ⟨u, hu⟩ : ∃ u, poX (12 - s).toNat P Q = u := ⟨_, rfl⟩
  obtain ⟨v, hv⟩ : ∃ v, poY (12 - s).toNat P Q = v := ⟨_, rfl⟩
  have CE : Hid (∀ w, Calls Tryd.prog 11 #[.agg #[.int .i64 P, .int .i64 Q], .int .i64 s] w fun e w' => e = .returned (.tuple #[.int .i64 u, .int .i64 v, .bool true]) ∧ Below w.heap.size w w') := by
    rw [← hu, ← hv]
    exact pcentre_yes P Q s (12 - s).toNat (by omega) (by omega) (ok4_in hO).1 (ok4_in hO).2
  have hO' : Hid (Ok4 s P Q ∧ poX (12 - s).toNat P Q = u ∧ poY (12 - s).toNat P Q = v) := ⟨hO, hu, hv⟩
  clear hu hv hO
  go_wp2_with fail
  refine (CE.out _).mono ?_
  rintro e w2 ⟨rfl, d2⟩
  have c2 : Below w1.heap.size w1 w2 := Below.trans (by go_grown) (d2.mono (by simp; try omega))
  have k0 : w2.cell? ⟨w1.heap.size, 0, none⟩ = some (.int .i64 s) := keepCell d2 (by go_simp)
  have fk0 : w2.frozen? ⟨w1.heap.size, 0, none⟩ = false := keepFrozen (v := .int .i64 s) d2 (by go_simp) (by go_simp)
  have qk0 := World.block_lt_of_cell? _ _ k0
  have k1 : w2.cell? ⟨w1.heap.size, 1, none⟩ = some (.int .i64 P) := keepCell d2 (by go_simp)
  have fk1 : w2.frozen? ⟨w1.heap.size, 1, none⟩ = false := keepFrozen (v := .int .i64 P) d2 (by go_simp) (by go_simp)
  have k2 : w2.cell? ⟨w1.heap.size, 2, none⟩ = some (.int .i64 Q) := keepCell d2 (by go_simp)
  have fk2 : w2.frozen? ⟨w1.heap.size, 2, none⟩ = false := keepFrozen (v := .int .i64 Q) d2 (by go_simp) (by go_simp)
  replace hB := belowT hB c2
  clear c2 d2
  go_wp2_with fail
  go_loopw [] (fun wr => ∃ (K : Nat) (R A B : Int), K ≤ 12 ∧ 12 - R = (K : Int) ∧ Hid (Ok4 R A B ∧ poX K A B = u ∧ poY K A B = v) ∧ wr.cell? ⟨w1.heap.size, 0, none⟩ = some (.int .i64 R) ∧ wr.cell? ⟨w1.heap.size, 1, none⟩ = some (.int .i64 A) ∧ wr.cell? ⟨w1.heap.size, 2, none⟩ = some (.int .i64 B) ∧ wr.frozen? ⟨w1.heap.size, 0, none⟩ = false ∧ wr.frozen? ⟨w1.heap.size, 1, none⟩ = false ∧ wr.frozen? ⟨w1.heap.size, 2, none⟩ = false ∧ w.heap.size ≤ w1.heap.size ∧ Below w.heap.size w wr) (fun wr => (12 - slotInt wr ⟨w1.heap.size, 0, none⟩).toNat)
  case atStart => exact ⟨(12 - s).toNat, s, P, Q, by omega, by omega, by show _ ∧ _; exact hO'.out, k0, k1, k2, fk0, fk1, fk2, hle0, hB⟩
  case round =>
    clear k0 k1 k2 fk0 fk1 fk2 hB CE SO hO'
    obtain ⟨K, R, A, B, hK, hR, hO, z0, z1, z2, fz0, fz1, fz2, hle, hB⟩ := hrel
    have hM := slotInt_of z0
    by_cases hlt : R < 12
    · obtain ⟨J, rfl⟩ : ∃ J, K = J + 1 := ⟨K - 1, by omega⟩
      obtain ⟨hO1, hpx, hpy⟩ := hO.out
      have hd := po_down J A B
      rw [hpx, hpy] at hd
      have hOc : Ok4 (R + 1) (chA 0 A B) (chB 0 A B) := ok4_child hO1 hlt (by omega) (by omega)
      have CH : Hid _ := fun w hT => ckids_yes R A B hO1 hlt w hT
      have CE : Hid (∀ w, Calls Tryd.prog 11 #[.agg #[.int .i64 (chA 0 A B), .int .i64 (chB 0 A B)], .int .i64 (R + 1)] w fun e w' => e = .returned (.tuple #[.int .i64 u, .int .i64 v, .bool true]) ∧ Below w.heap.size w w') := by
        rw [hd.1, hd.2]
        exact pcentre_yes _ _ (R + 1) J (by omega) (by omega) (ok4_in hOc).1 (ok4_in hOc).2
      have DI : Hid (∀ w, Tabs w → Calls Tryd.prog 13 #[.agg #[.int .i64 (R + 1), .int .i64 (chA 0 A B), .int .i64 (chB 0 A B)]] w fun e w' => e = .returned (.int .i64 0) ∧ Below w.heap.size w w') := fun w hT => by
        have := cdigit_yes (R + 1) _ _ hOc (by have := hO1.1; omega) w hT
        rwa [(par_one (d := 0) (P := A) (Q := B) (by omega) (by omega)).1] at this
      have hO' : Hid (Ok4 (R + 1) (chA 0 A B) (chB 0 A B) ∧ poX J (chA 0 A B) (chB 0 A B) = u ∧ poY J (chA 0 A B) (chB 0 A B) = v) := ⟨hOc, hd.1.symm, hd.2.symm⟩
      have hTr : Hid (Tabs wr) := hT0.out.below hB
      have hRb : 0 ≤ R := hO1.1
      clear hO hO1 hpx hpy hd hOc
      have hB0 := hB
      clear hB
      have hB : Below wr.heap.size wr wr := Below.refl _ _
      have qz0 := World.block_lt_of_cell? _ _ z0
      go_wp2_with fail
      refine (CH.out _ ?_).mono ?_
      · exact hTr.out.below hB
      rintro e v1 ⟨⟨Bk, hk1, rfl, hR1⟩, d1⟩
      have c1 : Below wr.heap.size wr v1 := Below.trans (by go_grown) (d1.mono (by simp; try omega))
      replace fz0 := keepFrozen c1 z0 fz0
      replace z0 := keepCell c1 z0
      replace qz0 := World.block_lt_of_cell? _ _ z0
      replace fz1 := keepFrozen c1 z1 fz1
      replace z1 := keepCell c1 z1
      replace fz2 := keepFrozen c1 z2 fz2
      replace z2 := keepCell c1 z2
      replace hB := belowT hB c1
      clear c1 d1
      have e0 : v1.cell? ⟨Bk, 0, none⟩ = some (.int .i64 (R + 1)) := by rw [(hR1 0 (by omega)).1, kidAt_all _ _ (by omega), show (0 : Nat) = 0 * 3 from rfl, kidG_0]
      have e1 : v1.cell? ⟨Bk, 1, none⟩ = some (.int .i64 (chA 0 A B)) := by rw [(hR1 1 (by omega)).1, kidAt_all _ _ (by omega), show (1 : Nat) = 0 * 3 + 1 from rfl, kidG_1]; rfl
      have e2 : v1.cell? ⟨Bk, 2, none⟩ = some (.int .i64 (chB 0 A B)) := by rw [(hR1 2 (by omega)).1, kidAt_all _ _ (by omega), show (2 : Nat) = 0 * 3 + 2 from rfl, kidG_2]; rfl
      obtain ⟨g0, g1, g2⟩ := three_stores (u0 := .int .i64 (R + 1)) (u1 := .int .i64 (chA 0 A B)) (u2 := .int .i64 (chB 0 A B)) z0 z1 z2
      generalize chA 0 A B = U at *
      generalize chB 0 A B = V at *
      have hX := ((hB0.trans (hB.mono hB0.size)).setCell (p := ⟨w1.heap.size, 0, none⟩) (by exact hle) (.int .i64 (R + 1))).setCell (p := ⟨w1.heap.size, 1, none⟩) (by exact hle) (.int .i64 U) |>.setCell (p := ⟨w1.heap.size, 2, none⟩) (by exact hle) (.int .i64 V)
      have hz0 : (((v1.setCell ⟨w1.heap.size, 0, none⟩ (.int .i64 (R + 1))).setCell ⟨w1.heap.size, 1, none⟩ (.int .i64 U)).setCell ⟨w1.heap.size, 2, none⟩ (.int .i64 V)).frozen? ⟨w1.heap.size, 0, none⟩ = false := by simp [fz0]
      have hz1 : (((v1.setCell ⟨w1.heap.size, 0, none⟩ (.int .i64 (R + 1))).setCell ⟨w1.heap.size, 1, none⟩ (.int .i64 U)).setCell ⟨w1.heap.size, 2, none⟩ (.int .i64 V)).frozen? ⟨w1.heap.size, 1, none⟩ = false := by simp [fz1]
      have hz2 : (((v1.setCell ⟨w1.heap.size, 0, none⟩ (.int .i64 (R + 1))).setCell ⟨w1.heap.size, 1, none⟩ (.int .i64 U)).setCell ⟨w1.heap.size, 2, none⟩ (.int .i64 V)).frozen? ⟨w1.heap.size, 2, none⟩ = false := by simp [fz2]
      clear hR1 hk1 CH hB0 hB
      go_wp2_with fail
      refine (CE.out _).mono ?_
      rintro e x1 ⟨rfl, hb⟩
      replace hz0 := keepFrozen hb g0 hz0
      replace hz1 := keepFrozen hb g1 hz1
      replace hz2 := keepFrozen hb g2 hz2
      replace g0 := keepCell hb g0
      replace g1 := keepCell hb g1
      replace g2 := keepCell hb g2
      replace hX := belowT hX hb
      clear hb e0 e1 e2 z0 z1 z2 fz0 fz1 fz2
      go_wp2_with fail
      refine (DI.out _ (hT0.out.below hX)).mono ?_
      rintro e x2 ⟨rfl, hb⟩
      replace hz0 := keepFrozen hb g0 hz0
      replace hz1 := keepFrozen hb g1 hz1
      replace hz2 := keepFrozen hb g2 hz2
      replace g0 := keepCell hb g0
      replace g1 := keepCell hb g1
      replace g2 := keepCell hb g2
      replace hX := belowT hX hb
      clear hb
      go_wp2
      go_roundw
      case rel => exact ⟨J, R + 1, U, V, by omega, by omega, hO', g0, g1, g2, hz0, hz1, hz2, hle, hX⟩
      case measure => rw [hM, slotInt_of g0]; omega
    · skip
      go_wp2_with fail
      refine (cawake _ ?_).mono ?_
      · exact hT0.out.below hB
      rintro e z1 ⟨rfl, d1⟩
      have c1 : Below wr.heap.size wr z1 := Below.trans (by go_grown) (d1.mono (by simp; try omega))
      replace hB := belowT hB c1
      clear c1 d1
      go_wp2
      go_ret
      exact ⟨rfl, hB⟩
end Go.Proofs.YtnnbdlnginkldabDoor
