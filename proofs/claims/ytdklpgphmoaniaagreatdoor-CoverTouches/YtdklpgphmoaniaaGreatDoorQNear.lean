/-
  Small calls of package cover's sweep: where a centre lies, who is a neighbour; in whatever memory where the table of Units holds what its text lays.
-/
import Derived.Test.YtdklpgphmoaniaaGreatDoorUX
import Derived.Test.YtdklpgphmoaniaaGreatDoorPCentreX
import Derived.Test.YtdklpgphmoaniaaGreatDoorProg
import Derived.Handy
import Derived.Deep.QuietTactic
import Derived.WalkSpells
import Derived.WalkLawsBesides
import Derived.BigQuiet
import Derived.PlainAid
import Derived.Deep.RegionWith
import Derived.Laws.BitsAllLaws
import Derived.Deep.RegionHeld3
import Derived.WalkSmall
import Derived.Deep.CutRange
import Derived.BigRegion
import Derived.OwnWalk
import Derived.Laws.OwnMore
import Derived.OneCell
import Derived.Laws.CopyOwn
import Derived.Sort.Row
namespace Go.Proofs.YtdklpgphmoaniaaGreatDoor
open Go.RowKit

set_option maxHeartbeats 4000000 in
theorem q_centre_core (a b r X Y : Int) (CE : Hid (∀ w, Calls Tryz.prog 71 #[.agg #[.int .i64 a, .int .i64 b], .int .i64 r] w fun e w' => e = .returned (.tuple #[.int .i64 X, .int .i64 Y, .bool true]) ∧ Below w.heap.size w w')) (w : World) :
    Calls Tryz.prog 39 #[.agg #[.int .i64 a, .int .i64 b], .int .i64 r] w fun e w' => e = .returned (.agg #[.int .i64 X, .int .i64 Y]) ∧ Below w.heap.size w w' := by
  go_enter Tryz.func39, Tryz.ntmps39
  go_wp2_with fail
  refine (CE.out _).mono ?_
  rintro e w1 ⟨rfl, d1⟩
  have c1 : Below w.heap.size w w1 := Below.trans (by go_grown) (d1.mono (by simp; try omega))
  have r0 : w1.cell? ⟨w.heap.size + 1, 0, none⟩ = some (.int .i64 0) := keepCell d1 (by go_simp)
  have fr0 : w1.frozen? ⟨w.heap.size + 1, 0, none⟩ = false := keepFrozen (v := .int .i64 0) d1 (by go_simp) (by go_simp)
  have qr0 := World.block_lt_of_cell? _ _ r0
  have r1 : w1.cell? ⟨w.heap.size + 1, 1, none⟩ = some (.int .i64 0) := keepCell d1 (by go_simp)
  have fr1 : w1.frozen? ⟨w.heap.size + 1, 1, none⟩ = false := keepFrozen (v := .int .i64 0) d1 (by go_simp) (by go_simp)
  have hB := c1
  clear c1 d1
  obtain ⟨g0, g1⟩ := two_stores (u := .int .i64 X) (v := .int .i64 Y) r0 r1
  go_wp2_with fail
  exact bodyPost_ret (v := .agg #[.int .i64 X, .int .i64 Y]) (by simp [results, Tryz.results39, go_sem, g0, g1]) rfl ⟨rfl, (hB.setCell (by simp; try omega) _).setCell (by simp; try omega) _⟩

theorem q_centre (a b r : Int) (K : Nat) (hK : K ≤ 12) (hr : 12 - r = (K : Int)) (ha : In30 a) (hb : In30 b) (w : World) :
    Calls Tryz.prog 39 #[.agg #[.int .i64 a, .int .i64 b], .int .i64 r] w fun e w' => e = .returned (.agg #[.int .i64 (poX K a b), .int .i64 (poY K a b)]) ∧ Below w.heap.size w w' :=
  q_centre_core a b r _ _ (hidd fun w => pcentre_yes a b r K hK hr ha hb w) w

theorem unit_u {i : Nat} (hi : i < 6) : unitA ((i : Int) % 6) = uA i ∧ unitB ((i : Int) % 6) = uB i := by
  obtain rfl | rfl | rfl | rfl | rfl | rfl := six_cases hi
  all_goals exact ⟨by decide, by decide⟩

set_option maxHeartbeats 8000000 in
set_option maxRecDepth 20000 in
theorem q_neigh_core (a b i p q X Y : Int) (UN : Hid (∀ w, Uni w → Calls Tryz.prog 103 #[.int .i64 i] w fun e w' => e = .returned (.agg #[.int .i64 p, .int .i64 q]) ∧ Below w.heap.size w w')) (AD : Hid (∀ w, Calls Tryz.prog 111 #[.agg #[.int .i64 a, .int .i64 b], .agg #[.int .i64 p, .int .i64 q]] w fun e w' => e = .returned (.tuple #[.agg #[.int .i64 X, .int .i64 Y], .bool true]) ∧ Below w.heap.size w w')) (w : World) (hU : Uni w) :
    Calls Tryz.prog 106 #[.agg #[.int .i64 a, .int .i64 b], .int .i64 i] w fun e w' => e = .returned (.agg #[.int .i64 X, .int .i64 Y]) ∧ Below w.heap.size w w' := by
  have al0 := allocB w (.cells #[.int .i64 a, .int .i64 b] 23)
  have al1 := allocB (w.alloc (.cells #[.int .i64 a, .int .i64 b] 23)) (.cells #[.int .i64 0, .int .i64 0] 23)
  have hB := belowT al0 al1
  have hU1 := hidd (hU.below hB)
  have z0 : ((w.alloc (.cells #[.int .i64 a, .int .i64 b] 23)).alloc (.cells #[.int .i64 0, .int .i64 0] 23)).cell? ⟨w.heap.size, 0, none⟩ = some (.int .i64 a) := by go_simp
  have z1 : ((w.alloc (.cells #[.int .i64 a, .int .i64 b] 23)).alloc (.cells #[.int .i64 0, .int .i64 0] 23)).cell? ⟨w.heap.size, 1, none⟩ = some (.int .i64 b) := by go_simp
  have r0 : ((w.alloc (.cells #[.int .i64 a, .int .i64 b] 23)).alloc (.cells #[.int .i64 0, .int .i64 0] 23)).cell? ⟨w.heap.size + 1, 0, none⟩ = some (.int .i64 0) := by go_simp
  have r1 : ((w.alloc (.cells #[.int .i64 a, .int .i64 b] 23)).alloc (.cells #[.int .i64 0, .int .i64 0] 23)).cell? ⟨w.heap.size + 1, 1, none⟩ = some (.int .i64 0) := by go_simp
  have fr0 : ((w.alloc (.cells #[.int .i64 a, .int .i64 b] 23)).alloc (.cells #[.int .i64 0, .int .i64 0] 23)).frozen? ⟨w.heap.size + 1, 0, none⟩ = false := by go_simp
  have fr1 : ((w.alloc (.cells #[.int .i64 a, .int .i64 b] 23)).alloc (.cells #[.int .i64 0, .int .i64 0] 23)).frozen? ⟨w.heap.size + 1, 1, none⟩ = false := by go_simp
  clear al0 al1 hU
  go_enter Tryz.func106, Tryz.ntmps106
  go_wp2_with fail
  generalize (w.alloc (.cells #[.int .i64 a, .int .i64 b] 23)).alloc (.cells #[.int .i64 0, .int .i64 0] 23) = w1 at *
  have hT1 : Hid (∀ wx, (wx.cell? ⟨w.heap.size, 0, none⟩ = some (.int .i64 a) ∧ wx.cell? ⟨w.heap.size, 1, none⟩ = some (.int .i64 b) ∧ Below w1.heap.size w1 wx) → Uni wx) := hidd fun wx h => hU1.out.below h.2.2
  have hS0 := keepTwo (drewB w1) ⟨z0, z1, Below.refl _ _⟩
  have qz := World.block_lt_of_cell? _ _ r0
  go_cut [5] from 8 to 13 (fun v5 wx => ∃ p : Nat, v5 = .pointer (some ⟨p, 0, none⟩) ∧ w1.heap.size ≤ p ∧ wx.cell? ⟨p, 0, none⟩ = some (.int .i64 X) ∧ wx.cell? ⟨p, 1, none⟩ = some (.int .i64 Y) ∧ Below w1.heap.size w1 wx)
  case first =>
    go_region_held3 (fun w' => w'.cell? ⟨w.heap.size, 0, none⟩ = some (.int .i64 a) ∧ w'.cell? ⟨w.heap.size, 1, none⟩ = some (.int .i64 b) ∧ Below w1.heap.size w1 w') (first | exact hS0 | exact keepTwo hb (by assumption) | exact keepTwo (allocB _ _) (by assumption) | exact keepTwoSwap (by first | omega | (simp; omega) | simp) (by first | omega | (simp; omega) | simp) (by first | omega | (simp; omega) | simp) (by assumption) | exact keepTwoStore (by first | omega | (simp; omega) | simp) (by first | omega | (simp; omega) | simp) (by first | omega | (simp; omega) | simp) (by assumption))
      (first | (go_at_call 103; refine (UN.out _ (hT1.out _ (by assumption))).mono ?_; rintro e w' ⟨rfl, hb⟩; (try (have nw := keepNew hb (by first | assumption | exact new_alloc _); have nw0 := nw.1; have nw1 := nw.2.1; have nw2 := nw.2.2.1; have nw3 := nw.2.2.2)); have hz := hb.size; (try simp at hz)) | (go_at_call 111; refine (AD.out _).mono ?_; rintro e w' ⟨rfl, hb⟩; (try (have nw := keepNew hb (by first | assumption | exact new_alloc _); have nw0 := nw.1; have nw1 := nw.2.1; have nw2 := nw.2.2.1; have nw3 := nw.2.2.2)); have hz := hb.size; (try simp at hz)))
    all_goals
      rename_i hS
      go_wp2_with fail
      go_meet
      exact ⟨_, rfl, (by first | omega | (simp; omega) | simp), (by first | exact store_keep (store_new nw0) (by simp) | go_simp), (by first | exact store_new (store_keep nw1 (by simp)) | go_simp), hS.2.2⟩
  case rest =>
    obtain ⟨k, rfl, hk, t0, t1, hw⟩ := hcut
    replace fr0 := keepFrozen hw r0 fr0
    replace fr1 := keepFrozen hw r1 fr1
    replace r0 := keepCell hw r0
    replace r1 := keepCell hw r1
    replace hB := belowT hB hw
    obtain ⟨g0, g1⟩ := two_stores (u := .int .i64 X) (v := .int .i64 Y) r0 r1
    go_wp2_with fail
    exact bodyPost_ret (v := .agg #[.int .i64 X, .int .i64 Y]) (by simp [results, Tryz.results106, go_sem, g0, g1]) rfl ⟨rfl, (hB.setCell (by simp; try omega) _).setCell (by simp; try omega) _⟩

theorem q_neigh (a b : Int) (i : Nat) (hi : i < 6) (ha : -1000000000 ≤ a ∧ a ≤ 1000000000) (hb : -1000000000 ≤ b ∧ b ≤ 1000000000) (w : World) (hU : Uni w) :
    Calls Tryz.prog 106 #[.agg #[.int .i64 a, .int .i64 b], .int .i64 (i : Int)] w fun e w' => e = .returned (.agg #[.int .i64 (a + uA i), .int .i64 (b + uB i)]) ∧ Below w.heap.size w w' := by
  have hu : (-1 ≤ uA i ∧ uA i ≤ 1) ∧ (-1 ≤ uB i ∧ uB i ≤ 1) := by
    obtain rfl | rfl | rfl | rfl | rfl | rfl := six_cases hi <;> simp [uA, uB]
  refine q_neigh_core a b i (uA i) (uB i) _ _ (hidd fun w hU => ?_) (hidd fun w => eadd_small a b (uA i) (uB i) _ _ rfl rfl (by omega) (by omega) (by omega) (by omega) (by omega) (by omega) (by omega) (by omega) w) w hU
  have := eunit_any (i : Int) (by omega) (by omega) w hU
  rwa [(unit_u hi).1, (unit_u hi).2] at this

end Go.Proofs.YtdklpgphmoaniaaGreatDoor
