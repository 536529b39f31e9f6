/-
  The outlines of boxes and hexagons, as package cover lists them; in whatever memory where the table of ways holds what its text lays.
-/
import Derived.Test.YtdklpgphmoaniaaGreatDoorPHexX
import Derived.Test.YtdklpgphmoaniaaGreatDoorQHexM
import Derived.Test.YtdklpgphmoaniaaGreatDoorProg
import Derived.Handy
import Derived.Deep.QuietTactic
import Derived.WalkSpells
import Derived.WalkLawsBesides
import Derived.BigQuiet
import Derived.PlainAid
import Derived.Deep.RegionWith
import Derived.Laws.BitsAllLaws
import Derived.Sort.LotA
import Derived.Sort.LotB
import Derived.Deep.RegionHeld3
import Derived.WalkSmall
import Derived.Deep.CutRange
import Derived.BigRegion
import Derived.OwnWalk
import Derived.Laws.OwnMore
import Derived.OneCell
import Derived.Laws.CopyOwn
import Derived.Sort.Row
import Derived.Sort.WalkB3
import Derived.Laws.StructEq
import Derived.Deep.AppendLies
import Derived.Deep.RegionLaw
import Derived.RangeFuncFrom
import Derived.RangeFuncCalls
import Derived.RangeFuncLeaves
import Derived.WalkKit
import Derived.OwnWalkIn
import Derived.TacticsInMore
import Derived.LoopNIn
import Derived.LoopIn
import Derived.RegionIn
import Derived.Stop.RegionWithIn
import Derived.Test.YtdklpgphmoaniaaGreatDoorRows
import Derived.LaidMore
import Derived.Stop.LaidErr
namespace Go.Proofs.YtdklpgphmoaniaaGreatDoor
open Go.RowKit

set_option maxHeartbeats 8000000 in
set_option maxRecDepth 100000 in
theorem q_sides (l1 l2 u1 u2 : Int) (h1 : -2147483648 ≤ l1 ∧ l1 ≤ 2147483648) (h2 : -2147483648 ≤ l2 ∧ l2 ≤ 2147483648) (h3 : -2147483648 ≤ u1 ∧ u1 ≤ 2147483648) (h4 : -2147483648 ≤ u2 ∧ u2 ≤ 2147483648) (w : World) :
    Calls Tryz.prog 46 #[.agg #[.int .i64 l1, .int .i64 l2, .int .i64 u1, .int .i64 u2]] w fun e w' => (∃ v, e = .returned v ∧ RowD w.heap.size v (sdL l1 l2 u1 u2) w') ∧ Below w.heap.size w w' := by
  go_enter Tryz.func46, Tryz.ntmps46
  go_wp2_with fail
  go_quiet (fail)
  have hB := belowT (allocB w (.cells #[.int .i64 l1, .int .i64 l2, .int .i64 u1, .int .i64 u2] 80)) (below_drewN _ nq)
  generalize (w.alloc (.cells #[.int .i64 l1, .int .i64 l2, .int .i64 u1, .int .i64 u2] 80)).drewN nq = w1 at *
  have hs := hB.size
  go_wp2
  go_ret
  refine ⟨⟨_, rfl, ?_⟩, belowT hB (allocB _ _)⟩
  have := World.ownsRow_lit (base := w.heap.size) (e := 130) (size := 4) w1 #[.int .i64 (3 * l1), .int .i64 (3 * l2), .int .i64 1, .int .i64 0, .int .i64 (3 * u1), .int .i64 (3 * l2), .int .i64 0, .int .i64 1, .int .i64 (3 * u1), .int .i64 (3 * u2), .int .i64 (-1), .int .i64 0, .int .i64 (3 * l1), .int .i64 (3 * u2), .int .i64 0, .int .i64 (-1)] 4 hs (by decide) rfl
  simpa [RowD, sdL, edV, edL] using this

theorem infoD : (Tryz.prog.info? 130).map (fun i => (i.zero, i.size, i.bytes)) = some (some (.agg #[.int .i64 0, .int .i64 0, .int .i64 0, .int .i64 0]), 4, 32) := by kernel_rfl

theorem four_lie (w : World) (a b c d : Int) (e : TypeId) : ∀ j u, ([.int .i64 a, .int .i64 b, .int .i64 c, .int .i64 d] : List Value)[j]? = some u → (w.alloc (.cells #[.int .i64 a, .int .i64 b, .int .i64 c, .int .i64 d] e)).cell? ((⟨w.heap.size, 0, none⟩ : Addr).add j) = some u := by
  intro j u hj
  match j, hj with
  | 0, hj => simp at hj; subst hj; simp [Addr.add]
  | 1, hj => simp at hj; subst hj; simp [Addr.add]
  | 2, hj => simp at hj; subst hj; simp [Addr.add]
  | 3, hj => simp at hj; subst hj; simp [Addr.add]

theorem four_one (a b c d : Int) : ∀ u ∈ ([.int .i64 a, .int .i64 b, .int .i64 c, .int .i64 d] : List Value), u.oneCell' = true := by
  intro u hu
  simp at hu
  rcases hu with rfl | rfl | rfl | rfl <;> rfl

theorem nx_tmod (j : Nat) : Int.tmod ((j : Int) + 1) 6 = ((nx j : Nat) : Int) := by
  rw [Int.tmod_eq_emod_of_nonneg (by omega)]
  unfold nx
  omega

theorem hex_pair {Bk : Nat} {K : Nat} {a b : Int} {w : World} (h : HexRel Bk (hexG K a b) 6 w) {j : Nat} (hj : j < 6) : w.cell? ⟨Bk, j * 2, none⟩ = some (.int .i64 (hv K a b j).1) ∧ w.cell? ⟨Bk, j * 2 + 1, none⟩ = some (.int .i64 (hv K a b j).2) := by
  have h0 := (h (2 * j) (by omega)).1
  have h1 := (h (2 * j + 1) (by omega)).1
  have e0 : hexAt (hexG K a b) 6 (2 * j) = (hv K a b j).1 := by unfold hexAt; rw [if_pos (by omega), hexG_even]; rfl
  have e1 : hexAt (hexG K a b) 6 (2 * j + 1) = (hv K a b j).2 := by unfold hexAt; rw [if_pos (by omega), hexG_odd]; rfl
  rw [e0, Nat.mul_comm] at h0
  rw [e1, Nat.mul_comm] at h1
  exact ⟨h0, h1⟩

set_option maxHeartbeats 8000000 in
set_option maxRecDepth 100000 in
theorem q_hexOf (r a b : Int) (K : Nat) (hK : K ≤ 12) (hr : 12 - r = (K : Int)) (ha : In30 a) (hb : In30 b) (hbx : ∀ j, j < 6 → (-34359738368 ≤ (hv K a b j).1 ∧ (hv K a b j).1 ≤ 34359738368) ∧ (-34359738368 ≤ (hv K a b j).2 ∧ (hv K a b j).2 ≤ 34359738368)) (w : World) (hW : Ways w) :
    Calls Tryz.prog 45 #[.agg #[.int .i64 r, .int .i64 a, .int .i64 b]] w fun e w' => (∃ v, e = .returned v ∧ RowD w.heap.size v (exL (hv K a b) 6) w') ∧ Below w.heap.size w w' := by
  have HBX := hidd hbx
  have al := allocB w (.cells #[.int .i64 r, .int .i64 a, .int .i64 b] 25)
  have PH := hidd (phex_yes a b r K hK hr ha hb _ (hW.below al))
  have AL := hidd al
  clear al hbx ha hb hr hK hW
  obtain ⟨i0, hi, hz0, hz1, hz2⟩ := info_partsQ infoD
  go_enter Tryz.func45, Tryz.ntmps45
  go_wp2_with fail
  refine PH.out.mono ?_
  rintro e w1 ⟨⟨Bk, hBk, rfl, hex⟩, b1⟩
  have HX := hidd hex
  have B1 := hidd (belowT AL.out b1)
  have hs1 := B1.out.size
  clear PH AL b1 hex
  go_wp2_with fail
  go_loopw [5, 19] (fun v5 v19 wr => ∃ j : Nat, j ≤ 6 ∧ v19 = .int .i64 (j : Int) ∧ Hid (RowD w1.heap.size v5 (exL (hv K a b) j) wr) ∧ Hid (Below w1.heap.size w1 wr)) (fun _ v19 _ => 6 - (intOf v19).toNat)
  case atStart => exact ⟨0, by omega, rfl, hidd (World.ownsRow_nil _ _ _ _), hidd (Below.refl _ _)⟩
  case round =>
    obtain ⟨j, hj, rfl, OW, B⟩ := hrel
    obtain ⟨vp, vc, rfl⟩ := OW.out.any
    have hl := exL_len (hv K a b) j
    rw [hl]
    by_cases hj6 : j < 6
    · have hj6' : (j : Int) < 6 := by omega
      have XR := hex_keep B.out HX.out
      obtain ⟨z0, z1⟩ := hex_pair XR hj6
      obtain ⟨y0, y1⟩ := hex_pair XR (nx_lt j)
      have hk := nx_lt j
      have bp := HBX.out j hj6
      have bq := HBX.out (nx j) hk
      have hm := nx_tmod j
      have ST := hidd (exL_step (hv K a b) j)
      clear XR
      generalize nx j = k at *
      generalize (hv K a b j).1 = p1 at *
      generalize (hv K a b j).2 = p2 at *
      generalize (hv K a b k).1 = q1 at *
      generalize (hv K a b k).2 = q2 at *
      obtain ⟨⟨bp1, bp2⟩, bp3, bp4⟩ := bp
      obtain ⟨⟨bq1, bq2⟩, bq3, bq4⟩ := bq
      have hk' : (0 : Int) ≤ (k : Int) := by omega
      have hk6 : (k : Int) < 6 := by omega
      have hlt := World.block_lt_of_cell? _ _ z0
      simp only at hlt
      have al1 := allocB wr (.cells #[.int .i64 p1, .int .i64 p2] 38)
      have al2 := allocB (wr.alloc (.cells #[.int .i64 p1, .int .i64 p2] 38)) (.cells #[.int .i64 q1, .int .i64 q2] 38)
      have AL2 := hidd (belowT al1 al2)
      have O3 : Hid (wr.ownsRow w1.heap.size 130 4 (.slice vp j vc) j (edV (exL (hv K a b) j))) := hidd (by have := OW.out; unfold RowD at this; rw [hl] at this; exact this)
      have hsr := B.out.size
      clear al1 al2 OW
      go_wp2_with (at_builtin; refine wpList_append_lies _ rfl (.tmp 32) (.tmp 46) 87 rfl w1.heap.size 130 i0 (.agg #[.int .i64 0, .int .i64 0, .int .i64 0, .int .i64 0]) 4 32 Tryz.underlying87 hi hz0 hz1 hz2 rfl (by decide) (.slice vp j vc) _ _ rfl (own_keep (allocB _ _) (own_keep AL2.out O3.out)) ⟨wr.heap.size + 1 + 1, 0, none⟩ 1 1 [.int .i64 p1, .int .i64 p2, .int .i64 (q1 - p1), .int .i64 (q2 - p2)] rfl rfl (by have := four_lie ((wr.alloc (.cells #[.int .i64 p1, .int .i64 p2] 38)).alloc (.cells #[.int .i64 q1, .int .i64 q2] 38)) p1 p2 (q1 - p1) (q2 - p2) 130; simpa using this) (four_one _ _ _ _) (by decide) (by unfold maxLen; omega) (by omega) (by simp; omega) (wr.heap.size + 1 + 1 + 1) (by simp) ?_; intro g6 q6 w6 hown hgrow hat hlt6)
      have R6 : Hid (RowD w1.heap.size (.slice (some ⟨g6, 0, none⟩) (j + 1) q6) (exL (hv K a b) (j + 1)) w6) := hidd (by
        unfold RowD
        rw [exL_len, ST.out, edV_app, edV_one]
        exact hown)
      have hne : ∀ k, (Value.slice vp j vc).ownBlock = some k → w1.heap.size ≤ k := fun k e => (World.ownsRow.lt O3.out k e).1
      have B6 := hidd ((belowT (belowT B.out AL2.out) (allocB _ _)).grown hgrow (by simp; omega) (fun k e => by have := hne k e; omega))
      clear hown hgrow hat B O3 hne AL2
      go_roundw
      case rel => exact ⟨j + 1, by omega, by go_num, R6, B6⟩
      case measure => simp [intOf]; omega
    · obtain rfl : j = 6 := by omega
      have hj6' : decide (((6 : Nat) : Int) < 6) = false := by decide
      go_wp2
      go_ret
      exact ⟨⟨_, rfl, by have := own_mono OW.out (show w.heap.size ≤ w1.heap.size by omega); rw [hl] at this; exact this⟩, belowT B1.out B.out⟩

end Go.Proofs.YtdklpgphmoaniaaGreatDoor
