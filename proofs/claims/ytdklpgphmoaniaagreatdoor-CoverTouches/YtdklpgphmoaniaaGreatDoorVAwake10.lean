/-
  What layer 10's own look at what the document fixes tells: yes; in whatever memory where the three tables hold what their texts lay. Over the contracts of package cover.
-/
import Derived.Test.YtdklpgphmoaniaaGreatDoorPCov
import Derived.Test.YtdklpgphmoaniaaGreatDoorProg
import Derived.Handy
import Derived.Deep.QuietTactic
import Derived.WalkSpells
import Derived.WalkLawsBesides
import Derived.BigQuiet
import Derived.PlainAid
import Derived.Deep.RegionWith
import Derived.Laws.BitsAllLaws
import Derived.Deep.RegionHeld3
import Derived.WalkSmall
import Derived.WalkKit
import Derived.OwnWalk
import Derived.Laws.OwnMore
import Derived.Deep.CutRange
import Derived.BigRegion
import Derived.OneCell
import Derived.Laws.CopyOwn
import Derived.Sort.Row
import Derived.Deep.LoopGhost
import Derived.RangeFuncFrom
import Derived.RangeFuncCalls
import Derived.RangeFuncLeaves
import Derived.OwnWalkIn
import Derived.TacticsInMore
import Derived.LoopNIn
import Derived.LoopIn
import Derived.RegionIn
import Derived.Stop.RegionWithIn
import Derived.Sort.LotD3
import Derived.Deep.Cut
import Derived.Sort.WalkA6
import Derived.Sort.Walk13a
import Derived.Sort.LotA
import Derived.Sort.LotB
import Derived.Sort.LotD1
import Derived.Deep.Draws
import Derived.BigGuard
import Derived.BigCall
import Derived.CellFam
import Derived.Sort.WalkB3
import Derived.Laws.StructEq
import Derived.Deep.AppendLies
import Derived.Deep.RegionLaw
import Derived.Test.YtdklpgphmoaniaaGreatDoorRows
import Derived.LaidMore
import Derived.Stop.LaidErr
import Derived.OrdersHeld
import Derived.OrdersIn
import Derived.Deep.RegionHeld
import Derived.Sort.WalkB12
import Derived.Deep.OwnRows
namespace Go.Proofs.YtdklpgphmoaniaaGreatDoor
open Go.RowKit

/-- Box at a cell's own centre, where that lies in the world. -/
theorem box_own {K r : Nat} (hK : K ≤ 12) (hr : 12 - (r : Int) = (K : Int)) {a b : Int} (hok : Ok4 (r : Int) a b) (hw : InW (poX K a b) (poY K a b)) (w : World) (hT : Cov3 w) :
    Calls Tryz.prog 14 #[.agg #[.int .i64 (poX K a b), .int .i64 (poY K a b)], .agg #[.int .i64 (poX K a b), .int .i64 (poY K a b)], .int .i64 (r : Int)] w fun e w' => (∃ s, e = .returned (.tuple #[s, .int .i64 0]) ∧ RowAt 0 w' s [wordOf r a b]) ∧ Below w.heap.size w w' := by
  obtain ⟨w1, w2, w3, w4⟩ := hw
  refine (p_box _ _ _ _ r K hK hr (by omega) (by omega) (by omega) (by omega) (Int.le_refl _) (Int.le_refl _) w hT).mono ?_
  rintro e w' ⟨h, hb⟩
  obtain ⟨s, L, rfl, h1, h2, h3, -⟩ := h.row (few_point hK _ _)
  have e := rising_ext h2 (List.pairwise_singleton _ _) fun x => (h3 x).trans (own_centre hK hok x).symm
  rw [e] at h1
  exact ⟨⟨s, rfl, h1⟩, hb⟩

theorem ok_unit : Ok4 ((12 : Nat) : Int) 1 0 := ok4_of (by decide +kernel)

theorem ok_nil : Ok4 ((12 : Nat) : Int) 0 0 := ok4_of (by decide +kernel)

theorem po_unit : poX 0 1 0 = 52 ∧ poY 0 1 0 = 0 := by decide

theorem po_nil : poX 0 0 0 = 0 ∧ poY 0 0 0 = 0 := by decide

set_option maxHeartbeats 4000000 in
set_option maxRecDepth 20000 in
theorem cawake10 (w : World) (hT : Cov3 w) : Calls Tryz.prog 12 #[] w fun e w' => e = .returned (.bool true) ∧ Below w.heap.size w w' := by
  have BX := box_own (K := 0) (by omega) (by omega) ok_unit (by rw [po_unit.1, po_unit.2]; exact ⟨by omega, by omega, by omega, by omega⟩) w hT
  rw [po_unit.1, po_unit.2, show ((12 : Nat) : Int) = 12 from rfl] at BX
  have WE := hidd fun w => rword_yes 12 1 0 ok_unit w
  have BB := hidd fun w => p_box_bad 5 5 4 5 3 1 (.inr (.inr (.inl ⟨by omega, ⟨⟨by omega, by omega, by omega, by omega⟩, by omega, by omega, by omega, by omega⟩, .inl (by omega), rfl⟩))) (by omega) w
  have TC := hidd fun w => p_touch 12 0 0 0 0 0 0 true ⟨fun _ => ⟨ok_nil, by unfold FarT; omega, by unfold FarT; omega, ⟨by omega, by omega⟩, by
    have := tou_at (K := 0) (l1 := 0) (u1 := 0) (l2 := 0) (u2 := 0) (by rw [po_nil.1]; omega) (by rw [po_nil.2]; omega) (near_self (by omega) 0 0).1
    exact this⟩, fun _ => rfl⟩ (fun z hz => by simp at hz; omega) w
  have SM := hidd fun s t w' h1 h2 => rsame 0 0 s t [wordOf 12 1 0] (by simp) w' h1 h2
  replace BX := hidd BX
  have HT := hidd hT
  obtain ⟨W0, eW⟩ : ∃ W0, wordOf 12 1 0 = W0 := ⟨_, rfl⟩
  rw [eW] at BX WE SM
  clear eW hT
  go_enter Tryz.func12, Tryz.ntmps12
  go_wp2_with fail
  refine BX.out.mono ?_
  rintro e w1 ⟨⟨s, rfl, hS⟩, b1⟩
  have S1 := hidd hS
  have H1 := hidd (HT.out.below b1)
  have B1 := hidd b1
  clear BX hS b1 HT
  go_wp2_with fail
  refine (WE.out _).mono ?_
  rintro e w2 ⟨rfl, b2⟩
  have S2 := hidd (S1.out.keep b2)
  have H2 := hidd (H1.out.below b2)
  have B2 := hidd (belowT B1.out b2)
  clear WE S1 H1 B1 b2
  go_wp2_with fail
  refine (BB.out _).mono ?_
  rintro e w3 ⟨⟨p, c, rfl⟩, b3⟩
  have al := allocB w3 (.cells #[.int .u64 W0] 31)
  have S3 := hidd ((S2.out.keep b3).keep al)
  have H3 := hidd ((H2.out.below b3).below al)
  have B3 := hidd (belowT (belowT B2.out b3) al)
  have T3 := hidd (row_own (w := w3.alloc (.cells #[.int .u64 W0] 31)) (x := W0) (g := w3.heap.size) (c := 1) (by go_simp))
  clear BB S2 H2 B2 b3 al
  go_wp2_with fail
  refine (SM.out _ _ _ S3.out T3.out).mono ?_
  rintro e w4 ⟨rfl, b4⟩
  have H4 := hidd (H3.out.below b4)
  have B4 := hidd (belowT B3.out b4)
  clear SM S3 T3 H3 B3 b4
  go_wp2_with fail
  refine (TC.out _ H4.out).mono ?_
  rintro e w5 ⟨rfl, b5⟩
  go_wp2_with fail
  go_ret
  exact ⟨rfl, belowT B4.out b5⟩

end Go.Proofs.YtdklpgphmoaniaaGreatDoor
