/-
  The law EisenTurn answers true for every number of a Unit and every number of the lattice, in whatever memory where the package's table of Units holds what its text lays: six turns lead back, three to below nought, and Units side by side differ by a Unit.
-/
import Derived.Test.YtpncnpmikhbmnaaDoorAwakeE
import Derived.Test.YtpncnpmikhbmnaaDoorESmall
import Derived.Deep.RegionHeld3
import Derived.Deep.RegionWith
import Derived.Deep.CutRange
namespace Go.Proofs.YtpncnpmikhbmnaaDoor
open Go.RowKit

/-- A number, so often turned by a sixth. -/
def turn (a b : Int) : Nat → Int × Int
  | 0 => (a, b)
  | i + 1 => (-(turn a b i).2, (turn a b i).1 + (turn a b i).2)

theorem turn_box {a b x y : Int} (a1 : -16384 < a) (a2 : a < 16384) (b1 : -16384 < b) (b2 : b < 16384) (q : Nat) (hq : q ≤ 6) (h : turn a b q = (x, y)) : (-40000 ≤ x ∧ x ≤ 40000) ∧ (-40000 ≤ y ∧ y ≤ 40000) := by
  have c : q = 0 ∨ q = 1 ∨ q = 2 ∨ q = 3 ∨ q = 4 ∨ q = 5 ∨ q = 6 := by omega
  rcases c with rfl | rfl | rfl | rfl | rfl | rfl | rfl <;> simp [turn] at h <;> omega
theorem turn_three {a b x y : Int} (h : turn a b 3 = (x, y)) : x = -a ∧ y = -b := by simp [turn] at h; omega
theorem turn_six {a b x y : Int} (h : turn a b 6 = (x, y)) : x = a ∧ y = b := by simp [turn] at h; omega
theorem turn_norm (x y : Int) : normE (-y) (x + y) = normE x y := by unfold normE; grind

set_option maxHeartbeats 20000000 in
set_option maxRecDepth 20000 in
theorem turn_core (k0 a0 b0 k a b : Int) (hk : bits .and .i64 k0 65535 = k) (k1 : 0 ≤ k) (k2 : k < 65536) (a1 : -16384 < a) (a2 : a < 16384) (b1 : -16384 < b) (b2 : b < 16384)
    (A0 B0 A1 B1 : Int) (b01 : -1 ≤ A0) (b02 : A0 ≤ 1) (b03 : -1 ≤ B0) (b04 : B0 ≤ 1) (b11 : -1 ≤ A1) (b12 : A1 ≤ 1) (b13 : -1 ≤ B1) (b14 : B1 ≤ 1) (hN1 : normE (A1 - A0) (B1 - B0) = 1)
    (UK : ∀ w, Uni w → Calls Tryd.prog 11 #[.int .i64 k] w fun e w' => e = .returned (.agg #[.int .i64 A0, .int .i64 B0]) ∧ Below w.heap.size w w')
    (UL : ∀ w, Uni w → Calls Tryd.prog 11 #[.int .i64 (k + 1)] w fun e w' => e = .returned (.agg #[.int .i64 A1, .int .i64 B1]) ∧ Below w.heap.size w w')
    (UP : ∀ w, Uni w → Calls Tryd.prog 11 #[.int .i64 (k + 6)] w fun e w' => e = .returned (.agg #[.int .i64 A0, .int .i64 B0]) ∧ Below w.heap.size w w')
    (UM : ∀ w, Uni w → Calls Tryd.prog 11 #[.int .i64 (k - 6)] w fun e w' => e = .returned (.agg #[.int .i64 A0, .int .i64 B0]) ∧ Below w.heap.size w w')
    (T1 : ∀ w, Calls Tryd.prog 9 #[.agg #[.int .i64 a0, .int .i64 b0]] w fun e w' => e = .returned (.agg #[.int .i64 a, .int .i64 b]) ∧ Below w.heap.size w w')
    (w : World) (hU : Uni w) :
    Calls Tryd.prog 3 #[.int .i64 k0, .agg #[.int .i64 a0, .int .i64 b0]] w fun e w' => e = .returned (.bool true) ∧ Below w.heap.size w w' := by
  have SB := esub_small A1 B1 A0 B0 (A1 - A0) (B1 - B0) rfl rfl (by omega) (by omega) (by omega) (by omega) (by omega) (by omega) (by omega) (by omega)
  have NB := enorm_small (A1 - A0) (B1 - B0) 1 hN1 (by omega) (by omega) (by omega) (by omega) (by omega)
  clear hN1
  replace SB : Hid _ := SB
  replace NB : Hid _ := NB
  replace UK : Hid _ := UK
  replace UL : Hid _ := UL
  replace UP : Hid _ := UP
  replace UM : Hid _ := UM
  replace T1 : Hid _ := T1
  go_enter Tryd.func3, Tryd.ntmps3
  go_wp2_with fail
  refine (T1.out _).mono ?_
  rintro e w1 ⟨rfl, d1⟩
  have c1 : Below w.heap.size w w1 := Below.trans (by go_grown) (d1.mono (by simp; try omega))
  have p0 : w1.cell? ⟨w.heap.size, 0, none⟩ = some (.int .i64 a0) := keepCell d1 (by go_simp)
  have fp0 : w1.frozen? ⟨w.heap.size, 0, none⟩ = false := keepFrozen (v := .int .i64 a0) d1 (by go_simp) (by go_simp)
  have qp0 := World.block_lt_of_cell? _ _ p0
  have p1 : w1.cell? ⟨w.heap.size, 1, none⟩ = some (.int .i64 b0) := keepCell d1 (by go_simp)
  have fp1 : w1.frozen? ⟨w.heap.size, 1, none⟩ = false := keepFrozen (v := .int .i64 b0) d1 (by go_simp) (by go_simp)
  have hB := c1
  clear c1 d1
  go_wp2_with fail
  have bg := World.block_lt_of_cell? _ _ p0
  have g0 := store_keep (u := .int .i64 b) (q := ⟨w.heap.size, 1, none⟩) (store_new (u := .int .i64 a) p0) (by simp)
  have g1 := store_new (u := .int .i64 b) (store_keep (u := .int .i64 a) (q := ⟨w.heap.size, 0, none⟩) p1 (by simp))
  replace hB := (hB.setCell (p := ⟨w.heap.size, 0, none⟩) (by simp; try omega) (.int .i64 a)).setCell (p := ⟨w.heap.size, 1, none⟩) (by simp; try omega) (.int .i64 b)
  clear p0 p1 fp0 fp1 qp0
  have hsz : ((w1.setCell ⟨w.heap.size, 0, none⟩ (.int .i64 a)).setCell ⟨w.heap.size, 1, none⟩ (.int .i64 b)).heap.size = w1.heap.size := by simp
  generalize (w1.setCell ⟨w.heap.size, 0, none⟩ (.int .i64 a)).setCell ⟨w.heap.size, 1, none⟩ (.int .i64 b) = ws at g0 g1 hB hsz ⊢
  have hs : Hid (ws.heap.size = w1.heap.size) := hsz
  clear hsz
  have U1 : Hid (∀ w, Uni w → Calls Tryd.prog 11 #[.int .i64 1] w fun e w' => e = .returned (.agg #[.int .i64 0, .int .i64 1]) ∧ Below w.heap.size w w') := fun w hU => eunit_any 1 (by omega) (by omega) w hU
  have hU0 : Hid (Uni w) := hU
  clear hU
  go_loopw [6] (fun vi wr => ∃ (q : Nat) (x y : Int), q ≤ 6 ∧ vi = .int .i64 (q : Int) ∧ Hid (turn a b q = (x, y)) ∧ wr.cell? ⟨w1.heap.size, 0, none⟩ = some (.int .i64 x) ∧ wr.cell? ⟨w1.heap.size, 1, none⟩ = some (.int .i64 y) ∧ wr.frozen? ⟨w1.heap.size, 0, none⟩ = false ∧ wr.frozen? ⟨w1.heap.size, 1, none⟩ = false ∧ wr.cell? ⟨w.heap.size, 0, none⟩ = some (.int .i64 a) ∧ wr.cell? ⟨w.heap.size, 1, none⟩ = some (.int .i64 b) ∧ Below w.heap.size w wr) (fun vi _ => 6 - (intOf vi).toNat)
  case atStart => exact ⟨0, a, b, by omega, rfl, rfl, by rw [← hs.out]; go_simp, by rw [← hs.out]; go_simp, by rw [← hs.out]; go_simp, by rw [← hs.out]; go_simp, keepCell (allocB _ _) g0, keepCell (allocB _ _) g1, belowT hB (allocB _ _)⟩
  case round =>
    clear g0 g1 hB hs
    obtain ⟨q, x, y, hq, rfl, HT, z0, z1, fz0, fz1, g0, g1, hB⟩ := hrel
    obtain ⟨⟨x1, x2⟩, ⟨y1, y2⟩⟩ := turn_box a1 a2 b1 b2 q hq HT.out
    have qz := World.block_lt_of_cell? _ _ z0
    have hUr : Hid (Uni wr) := hU0.out.below hB
    have MU : Hid (∀ w, Calls Tryd.prog 10 #[.agg #[.int .i64 x, .int .i64 y], .agg #[.int .i64 0, .int .i64 1]] w fun e w' => e = .returned (.tuple #[.agg #[.int .i64 (-y), .int .i64 (x + y)], .bool true]) ∧ Below w.heap.size w w') :=
      emul_small x y 0 1 (-y) (x + y) (by omega) (by omega) (by omega) (by omega) (by omega) (by omega) (by omega) (by omega) (by omega) (by omega) (by omega) (by omega) (by omega) (by omega)
    have nb := norm_small (x := x) (y := y) (B := 40000) ⟨x1, x2, y1, y2⟩
    have n0 := norm_pos x y
    have CN1 : Hid (∀ w, Calls Tryd.prog 12 #[.agg #[.int .i64 (-y), .int .i64 (x + y)]] w fun e w' => e = .returned (.tuple #[.int .i64 (normE x y), .bool true]) ∧ Below w.heap.size w w') := enorm_small (-y) (x + y) _ (turn_norm x y) (by omega) (by omega) (by omega) (by omega) (by omega)
    have CN2 : Hid (∀ w, Calls Tryd.prog 12 #[.agg #[.int .i64 x, .int .i64 y]] w fun e w' => e = .returned (.tuple #[.int .i64 (normE x y), .bool true]) ∧ Below w.heap.size w w') := enorm_small x y _ rfl (by omega) (by omega) (by omega) (by omega) (by omega)
    generalize normE x y = N at nb n0 CN1 CN2
    clear nb n0
    by_cases hlt : q < 6
    · by_cases h3 : q = 3
      · subst h3
        have ha3 : -a = x := (turn_three HT.out).1.symm
        have hb3 : -b = y := (turn_three HT.out).2.symm
        go_wp2_with fail
        go_cut [7, 8] from 41 to 46 (fun v7 v8 wx => ∃ B : Nat, v7 = .pointer (some ⟨B, 0, none⟩) ∧ v8 = .bool true ∧ wr.heap.size ≤ B ∧ wx.cell? ⟨B, 0, none⟩ = some (.int .i64 (-y)) ∧ wx.cell? ⟨B, 1, none⟩ = some (.int .i64 (x + y)) ∧ Below wr.heap.size wr wx)
        case first =>
          go_region_held3 (fun w' => w'.cell? ⟨w1.heap.size, 0, none⟩ = some (.int .i64 x) ∧ w'.cell? ⟨w1.heap.size, 1, none⟩ = some (.int .i64 y) ∧ Below wr.heap.size wr w') (first | exact keepTwo (drewB _) ⟨z0, z1, Below.refl _ _⟩ | exact keepTwo hb (by assumption) | exact keepTwo (allocB _ _) (by assumption) | exact keepTwoSwap (by first | omega | (simp; omega) | simp) (by first | omega | (simp; omega) | simp) (by first | omega | (simp; omega) | simp) (by assumption) | exact keepTwoStore (by first | omega | (simp; omega) | simp) (by first | omega | (simp; omega) | simp) (by first | omega | (simp; omega) | simp) (by assumption))
            (first | (go_at_call 11; refine (U1.out _ (hUr.out.below (belowT (And.right (And.right (by assumption))) (by go_grown)))).mono ?_; rintro e w' ⟨rfl, hb⟩; (try (have nw := keepNew hb (by first | assumption | exact new_alloc _); have nw0 := nw.1; have nw1 := nw.2.1; have nw2 := nw.2.2.1; have nw3 := nw.2.2.2)); have hz := hb.size; (try simp at hz)) | (go_at_call 10; refine (MU.out _).mono ?_; rintro e w' ⟨rfl, hb⟩; (try (have nw := keepNew hb (by first | assumption | exact new_alloc _); have nw0 := nw.1; have nw1 := nw.2.1; have nw2 := nw.2.2.1; have nw3 := nw.2.2.2)); have hz := hb.size; (try simp at hz)))
          all_goals
            rename_i hS
            go_wp2_with fail
            go_meet
            exact ⟨_, rfl, rfl, (by first | omega | simp), (by first | exact store_keep (store_new nw0) (by simp) | go_simp), (by first | exact store_new (store_keep nw1 (by simp)) | go_simp), hS.2.2⟩
        case rest =>
          obtain ⟨B, rfl, rfl, hle, v0, v1, hrx⟩ := hcut
          replace fz0 := keepFrozen hrx z0 fz0
          replace fz1 := keepFrozen hrx z1 fz1
          replace z0 := keepCell hrx z0
          replace z1 := keepCell hrx z1
          replace g0 := keepCell hrx g0
          replace g1 := keepCell hrx g1
          replace hB := belowT hB hrx
          clear hrx
          have qv0 := World.block_lt_of_cell? _ _ v0
          have qz0 := World.block_lt_of_cell? _ _ z0
          have qg0 := World.block_lt_of_cell? _ _ g0
          go_wp2_with fail
          refine (CN1.out _).mono ?_
          rintro e w1 ⟨rfl, d1⟩
          have c1 : Below wc.heap.size wc w1 := Below.trans (by go_grown) (d1.mono (by simp; try omega))
          replace v0 := keepCell c1 v0
          replace qv0 := World.block_lt_of_cell? _ _ v0
          replace v1 := keepCell c1 v1
          replace fz0 := keepFrozen c1 z0 fz0
          replace z0 := keepCell c1 z0
          replace qz0 := World.block_lt_of_cell? _ _ z0
          replace fz1 := keepFrozen c1 z1 fz1
          replace z1 := keepCell c1 z1
          replace g0 := keepCell c1 g0
          replace qg0 := World.block_lt_of_cell? _ _ g0
          replace g1 := keepCell c1 g1
          replace hB := belowT hB c1
          clear c1 d1
          go_wp2_with fail
          refine (CN2.out _).mono ?_
          rintro e w2 ⟨rfl, d2⟩
          have c2 : Below w1.heap.size w1 w2 := Below.trans (by go_grown) (d2.mono (by simp; try omega))
          replace v0 := keepCell c2 v0
          replace qv0 := World.block_lt_of_cell? _ _ v0
          replace v1 := keepCell c2 v1
          replace fz0 := keepFrozen c2 z0 fz0
          replace z0 := keepCell c2 z0
          replace qz0 := World.block_lt_of_cell? _ _ z0
          replace fz1 := keepFrozen c2 z1 fz1
          replace z1 := keepCell c2 z1
          replace g0 := keepCell c2 g0
          replace qg0 := World.block_lt_of_cell? _ _ g0
          replace g1 := keepCell c2 g1
          replace hB := belowT hB c2
          clear c2 d2
          go_wp2
          go_roundw
          case rel => exact ⟨3 + 1, -y, x + y, by omega, by go_num, (by show (-(turn a b 3).2, (turn a b 3).1 + (turn a b 3).2) = _; rw [HT.out]), store_keep (store_new z0) (by simp), store_new (store_keep z1 (by simp)), by simp [fz0], by simp [fz1], store_keep (store_keep g0 (by simp; try omega)) (by simp; try omega), store_keep (store_keep g1 (by simp; try omega)) (by simp; try omega), (hB.setCell (by simp; try omega) _).setCell (by simp; try omega) _⟩
          case measure => simp [intOf]; try omega
      · have hq3 : ((q : Int) == 3) = false := by simp; omega
        go_wp2_with fail
        go_cut [7, 8] from 41 to 46 (fun v7 v8 wx => ∃ B : Nat, v7 = .pointer (some ⟨B, 0, none⟩) ∧ v8 = .bool true ∧ wr.heap.size ≤ B ∧ wx.cell? ⟨B, 0, none⟩ = some (.int .i64 (-y)) ∧ wx.cell? ⟨B, 1, none⟩ = some (.int .i64 (x + y)) ∧ Below wr.heap.size wr wx)
        case first =>
          go_region_held3 (fun w' => w'.cell? ⟨w1.heap.size, 0, none⟩ = some (.int .i64 x) ∧ w'.cell? ⟨w1.heap.size, 1, none⟩ = some (.int .i64 y) ∧ Below wr.heap.size wr w') (first | exact keepTwo (drewB _) ⟨z0, z1, Below.refl _ _⟩ | exact keepTwo hb (by assumption) | exact keepTwo (allocB _ _) (by assumption) | exact keepTwoSwap (by first | omega | (simp; omega) | simp) (by first | omega | (simp; omega) | simp) (by first | omega | (simp; omega) | simp) (by assumption) | exact keepTwoStore (by first | omega | (simp; omega) | simp) (by first | omega | (simp; omega) | simp) (by first | omega | (simp; omega) | simp) (by assumption))
            (first | (go_at_call 11; refine (U1.out _ (hUr.out.below (belowT (And.right (And.right (by assumption))) (by go_grown)))).mono ?_; rintro e w' ⟨rfl, hb⟩; (try (have nw := keepNew hb (by first | assumption | exact new_alloc _); have nw0 := nw.1; have nw1 := nw.2.1; have nw2 := nw.2.2.1; have nw3 := nw.2.2.2)); have hz := hb.size; (try simp at hz)) | (go_at_call 10; refine (MU.out _).mono ?_; rintro e w' ⟨rfl, hb⟩; (try (have nw := keepNew hb (by first | assumption | exact new_alloc _); have nw0 := nw.1; have nw1 := nw.2.1; have nw2 := nw.2.2.1; have nw3 := nw.2.2.2)); have hz := hb.size; (try simp at hz)))
          all_goals
            rename_i hS
            go_wp2_with fail
            go_meet
            exact ⟨_, rfl, rfl, (by first | omega | simp), (by first | exact store_keep (store_new nw0) (by simp) | go_simp), (by first | exact store_new (store_keep nw1 (by simp)) | go_simp), hS.2.2⟩
        case rest =>
          obtain ⟨B, rfl, rfl, hle, v0, v1, hrx⟩ := hcut
          replace fz0 := keepFrozen hrx z0 fz0
          replace fz1 := keepFrozen hrx z1 fz1
          replace z0 := keepCell hrx z0
          replace z1 := keepCell hrx z1
          replace g0 := keepCell hrx g0
          replace g1 := keepCell hrx g1
          replace hB := belowT hB hrx
          clear hrx
          have qv0 := World.block_lt_of_cell? _ _ v0
          have qz0 := World.block_lt_of_cell? _ _ z0
          have qg0 := World.block_lt_of_cell? _ _ g0
          go_wp2_with fail
          refine (CN1.out _).mono ?_
          rintro e w1 ⟨rfl, d1⟩
          have c1 : Below wc.heap.size wc w1 := Below.trans (by go_grown) (d1.mono (by simp; try omega))
          replace v0 := keepCell c1 v0
          replace qv0 := World.block_lt_of_cell? _ _ v0
          replace v1 := keepCell c1 v1
          replace fz0 := keepFrozen c1 z0 fz0
          replace z0 := keepCell c1 z0
          replace qz0 := World.block_lt_of_cell? _ _ z0
          replace fz1 := keepFrozen c1 z1 fz1
          replace z1 := keepCell c1 z1
          replace g0 := keepCell c1 g0
          replace qg0 := World.block_lt_of_cell? _ _ g0
          replace g1 := keepCell c1 g1
          replace hB := belowT hB c1
          clear c1 d1
          go_wp2_with fail
          refine (CN2.out _).mono ?_
          rintro e w2 ⟨rfl, d2⟩
          have c2 : Below w1.heap.size w1 w2 := Below.trans (by go_grown) (d2.mono (by simp; try omega))
          replace v0 := keepCell c2 v0
          replace qv0 := World.block_lt_of_cell? _ _ v0
          replace v1 := keepCell c2 v1
          replace fz0 := keepFrozen c2 z0 fz0
          replace z0 := keepCell c2 z0
          replace qz0 := World.block_lt_of_cell? _ _ z0
          replace fz1 := keepFrozen c2 z1 fz1
          replace z1 := keepCell c2 z1
          replace g0 := keepCell c2 g0
          replace qg0 := World.block_lt_of_cell? _ _ g0
          replace g1 := keepCell c2 g1
          replace hB := belowT hB c2
          clear c2 d2
          go_wp2
          go_roundw
          case rel => exact ⟨q + 1, -y, x + y, by omega, by go_num, (by show (-(turn a b q).2, (turn a b q).1 + (turn a b q).2) = _; rw [HT.out]), store_keep (store_new z0) (by simp), store_new (store_keep z1 (by simp)), by simp [fz0], by simp [fz1], store_keep (store_keep g0 (by simp; try omega)) (by simp; try omega), store_keep (store_keep g1 (by simp; try omega)) (by simp; try omega), (hB.setCell (by simp; try omega) _).setCell (by simp; try omega) _⟩
          case measure => simp [intOf]; try omega
    · obtain rfl : q = 6 := by omega
      obtain ⟨rfl, rfl⟩ := turn_six HT.out
      clear MU CN1 CN2 fz0 fz1
      have UPW : Hid (∀ w, Uni w → Calls Tryd.prog 11 #[.int .i64 (IntKind.i64.wrap (k + 6))] w fun e w' => e = .returned (.agg #[.int .i64 A0, .int .i64 B0]) ∧ Below w.heap.size w w') := by
        rw [IntWalk.i64_left, wrap_fits ⟨by omega, by omega⟩]; exact UP.out
      have UMW : Hid (∀ w, Uni w → Calls Tryd.prog 11 #[.int .i64 (IntKind.i64.wrap (k - 6))] w fun e w' => e = .returned (.agg #[.int .i64 A0, .int .i64 B0]) ∧ Below w.heap.size w w') := by
        rw [IntWalk.i64_left, wrap_fits ⟨by omega, by omega⟩]; exact UM.out
      have qz0 := World.block_lt_of_cell? _ _ z0
      have qg0 := World.block_lt_of_cell? _ _ g0
      go_wp2_with fail
      refine (UK.out _ ?_).mono ?_
      · exact hU0.out.below (belowT hB (by go_grown))
      rintro e m1 ⟨rfl, d1⟩
      have c1 : Below wr.heap.size wr m1 := Below.trans (by go_grown) (d1.mono (by simp; try omega))
      replace z0 := keepCell c1 z0
      replace qz0 := World.block_lt_of_cell? _ _ z0
      replace z1 := keepCell c1 z1
      replace g0 := keepCell c1 g0
      replace qg0 := World.block_lt_of_cell? _ _ g0
      replace g1 := keepCell c1 g1
      replace hB := belowT hB c1
      clear c1 d1
      go_wp2_with fail
      refine (UL.out _ ?_).mono ?_
      · exact hU0.out.below (belowT hB (by go_grown))
      rintro e m2 ⟨rfl, d2⟩
      have c2 : Below m1.heap.size m1 m2 := Below.trans (by go_grown) (d2.mono (by simp; try omega))
      replace z0 := keepCell c2 z0
      replace qz0 := World.block_lt_of_cell? _ _ z0
      replace z1 := keepCell c2 z1
      replace g0 := keepCell c2 g0
      replace qg0 := World.block_lt_of_cell? _ _ g0
      replace g1 := keepCell c2 g1
      replace hB := belowT hB c2
      clear c2 d2
      go_wp2_with fail
      refine (SB.out _).mono ?_
      rintro e m3 ⟨rfl, d3⟩
      have c3 : Below m2.heap.size m2 m3 := Below.trans (by go_grown) (d3.mono (by simp; try omega))
      replace z0 := keepCell c3 z0
      replace qz0 := World.block_lt_of_cell? _ _ z0
      replace z1 := keepCell c3 z1
      replace g0 := keepCell c3 g0
      replace qg0 := World.block_lt_of_cell? _ _ g0
      replace g1 := keepCell c3 g1
      have ua0 : m3.cell? ⟨m2.heap.size, 0, none⟩ = some (.int .i64 A0) := keepCell d3 (by go_simp)
      have qua0 := World.block_lt_of_cell? _ _ ua0
      have ua1 : m3.cell? ⟨m2.heap.size, 1, none⟩ = some (.int .i64 B0) := keepCell d3 (by go_simp)
      have va0 : m3.cell? ⟨m2.heap.size + 1, 0, none⟩ = some (.int .i64 A1) := keepCell d3 (by go_simp)
      have qva0 := World.block_lt_of_cell? _ _ va0
      have va1 : m3.cell? ⟨m2.heap.size + 1, 1, none⟩ = some (.int .i64 B1) := keepCell d3 (by go_simp)
      replace hB := belowT hB c3
      clear c3 d3
      go_wp2_with fail
      refine (NB.out _).mono ?_
      rintro e m4 ⟨rfl, d4⟩
      have c4 : Below m3.heap.size m3 m4 := Below.trans (by go_grown) (d4.mono (by simp; try omega))
      replace z0 := keepCell c4 z0
      replace qz0 := World.block_lt_of_cell? _ _ z0
      replace z1 := keepCell c4 z1
      replace g0 := keepCell c4 g0
      replace qg0 := World.block_lt_of_cell? _ _ g0
      replace g1 := keepCell c4 g1
      replace ua0 := keepCell c4 ua0
      replace qua0 := World.block_lt_of_cell? _ _ ua0
      replace ua1 := keepCell c4 ua1
      replace va0 := keepCell c4 va0
      replace qva0 := World.block_lt_of_cell? _ _ va0
      replace va1 := keepCell c4 va1
      replace hB := belowT hB c4
      clear c4 d4
      go_wp2_with fail
      go_region_held3 (fun w' => w'.cell? ⟨w1.heap.size, 0, none⟩ = some (.int .i64 x) ∧ w'.cell? ⟨w1.heap.size, 1, none⟩ = some (.int .i64 y) ∧ w'.cell? ⟨w.heap.size, 0, none⟩ = some (.int .i64 x) ∧ w'.cell? ⟨w.heap.size, 1, none⟩ = some (.int .i64 y) ∧ w'.cell? ⟨m2.heap.size, 0, none⟩ = some (.int .i64 A0) ∧ w'.cell? ⟨m2.heap.size, 1, none⟩ = some (.int .i64 B0) ∧ Below w.heap.size w w') (first | exact keepSix (drewB _) ⟨z0, z1, g0, g1, ua0, ua1, hB⟩ | exact keepSix hb (by assumption))
        (first | (go_at_call 11; (first | (with_reducible refine (UPW.out _ (hU0.out.below (belowT (And.right (And.right (And.right (And.right (And.right (And.right (by assumption))))))) (by go_grown)))).mono ?_) | (with_reducible refine (UMW.out _ (hU0.out.below (belowT (And.right (And.right (And.right (And.right (And.right (And.right (by assumption))))))) (by go_grown)))).mono ?_) | (with_reducible refine (UP.out _ (hU0.out.below (belowT (And.right (And.right (And.right (And.right (And.right (And.right (by assumption))))))) (by go_grown)))).mono ?_) | (with_reducible refine (UM.out _ (hU0.out.below (belowT (And.right (And.right (And.right (And.right (And.right (And.right (by assumption))))))) (by go_grown)))).mono ?_)); rintro e w' ⟨rfl, hb⟩) | (go_at_call 14; refine (awake _ (hU0.out.below (belowT (And.right (And.right (And.right (And.right (And.right (And.right (by assumption))))))) (by go_grown)))).mono ?_; rintro e w' ⟨rfl, hb⟩))
      rename_i hS
      go_wp2
      go_ret
      exact ⟨rfl, hS.2.2.2.2.2.2⟩

theorem unit_next (j : Int) (h0 : 0 ≤ j) (h1 : j < 6) : normE (unitA ((j + 1) % 6) - unitA j) (unitB ((j + 1) % 6) - unitB j) = 1 := by
  have hc : j = 0 ∨ j = 1 ∨ j = 2 ∨ j = 3 ∨ j = 4 ∨ j = 5 := by omega
  rcases hc with rfl | rfl | rfl | rfl | rfl | rfl <;> decide
theorem unit_bd (j : Int) (h0 : 0 ≤ j) (h1 : j < 6) : -1 ≤ unitA j ∧ unitA j ≤ 1 ∧ -1 ≤ unitB j ∧ unitB j ≤ 1 := by
  have hc : j = 0 ∨ j = 1 ∨ j = 2 ∨ j = 3 ∨ j = 4 ∨ j = 5 := by omega
  rcases hc with rfl | rfl | rfl | rfl | rfl | rfl <;> decide
theorem eisenTurn_walk (k0 a0 b0 : Int) (w : World) (hU : Uni w) :
    Calls Tryd.prog 3 #[.int .i64 k0, .agg #[.int .i64 a0, .int .i64 b0]] w fun e w' => e = .returned (.bool true) ∧ Below w.heap.size w w' := by
  have bm : 0 ≤ bits .and .i64 k0 65535 ∧ bits .and .i64 k0 65535 < 65536 := by rw [mask16]; omega
  obtain ⟨k, hk⟩ : ∃ k, bits .and .i64 k0 65535 = k := ⟨_, rfl⟩
  rw [hk] at bm
  have ba := tam_box a0
  have bb := tam_box b0
  have u0 := unit_bd (k % 6) (by omega) (by omega)
  have u1 := unit_bd ((k + 1) % 6) (by omega) (by omega)
  have hn := unit_next (k % 6) (by omega) (by omega)
  have e1 : (k % 6 + 1) % 6 = (k + 1) % 6 := by omega
  rw [e1] at hn
  have e6 : (k + 6) % 6 = k % 6 := by omega
  have e7 : (k - 6) % 6 = k % 6 := by omega
  refine turn_core k0 a0 b0 k _ _ hk bm.1 bm.2 ba.1 ba.2 bb.1 bb.2 _ _ _ _ u0.1 u0.2.1 u0.2.2.1 u0.2.2.2 u1.1 u1.2.1 u1.2.2.1 u1.2.2.2 hn (fun w hU => eunit_any k (by omega) (by omega) w hU) (fun w hU => eunit_any (k + 1) (by omega) (by omega) w hU) (fun w hU => ?_) (fun w hU => ?_) (tame_any a0 b0) w hU
  · have := eunit_any (k + 6) (by omega) (by omega) w hU
    rw [e6] at this
    exact this
  · have := eunit_any (k - 6) (by omega) (by omega) w hU
    rw [e7] at this
    exact this
end Go.Proofs.YtpncnpmikhbmnaaDoor
