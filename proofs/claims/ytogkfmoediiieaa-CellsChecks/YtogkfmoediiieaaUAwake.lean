/-
  What the laws of package cells ask for at their ends: that the document's own examples hold; in whatever memory.
-/
import Derived.Test.YtogkfmoediiieaaUChoose
import Derived.Test.YtogkfmoediiieaaVLook
import Derived.Laws.BitsAllLaws
import Derived.Handy
import Derived.Deep.QuietTactic
import Derived.Test.YtogkfmoediiieaaProg
import Derived.WalkSpells
import Derived.WalkLawsBesides
import Derived.BigQuiet
import Derived.PlainAid
import Derived.Deep.RegionWith
import Derived.Deep.RegionHeld3
import Derived.WalkSmall
import Derived.Deep.CutRange
import Derived.BigRegion
import Derived.OwnWalk
import Derived.Laws.OwnMore
import Derived.OneCell
import Derived.Laws.CopyOwn
import Derived.Sort.Row
import Derived.Deep.Cut
import Derived.Sort.LotD3
import Derived.Deep.LoopGhost
import Derived.Sort.WalkA6
import Derived.Sort.Walk13a
import Derived.Sort.LotA
import Derived.Sort.LotB
import Derived.Sort.LotD1
import Derived.Deep.Draws
import Derived.WalkKit
import Derived.BigGuard
import Derived.BigCall
import Derived.CellFam
import Derived.Sort.WalkB3
import Derived.Sort.WalkB12
import Derived.Deep.OwnRows
import Derived.Deep.RegionLaw
namespace Go.Proofs.Ytogkfmoediiieaa
open Go.RowKit

theorem lst_lit (w : World) (L : List Int) (e : TypeId) : Lst (w.alloc (.cells (vals L).toArray e)) (.slice (some ⟨w.heap.size, 0, none⟩) L.length L.length) L := by
  refine Lst.row (Nat.le_refl _) fun j hj => ?_
  rw [Nat.zero_add, cell_of_row _ w.heap.size j (vals L).toArray e (0, 0) (by show (w.heap.push _)[w.heap.size]? = _; simp)]
  simp [vals, hj]

theorem chosen_12 {K : List Int} (h : Chosen (fun a b => a || b) [2] [1] K) : K = [1, 2] :=
  rising_ext h.1 (by simp [Rising]) fun x => by
    rw [h.2 x]
    simp
    omega

theorem set_13 {L : List Int} (h : Rising L) (hm : ∀ x, x ∈ L ↔ x ∈ [(3 : Int), 1, 3]) : L = [1, 3] :=
  rising_ext h (by simp [Rising]) fun x => by
    rw [hm x]
    simp
    omega

set_option maxHeartbeats 4000000 in
set_option maxRecDepth 20000 in
theorem cawake (w : World) : Calls Try.prog 17 #[] w fun e w' => e = .returned (.bool true) ∧ Below w.heap.size w w' := by
  have l1 : Lst (w.alloc (.cells #[.int .u64 3, .int .u64 1, .int .u64 3] 24)) (.slice (some ⟨w.heap.size, 0, none⟩) 3 3) [3, 1, 3] := lst_lit w [3, 1, 3] _
  have SE := hidd (cset _ [3, 1, 3] (by simp) _ l1)
  clear l1
  go_enter Try.func17, Try.ntmps17
  go_wp2_with fail
  refine SE.out.mono ?_
  rintro e w1 ⟨⟨g, cap, L, rfl, -, hcap, hR, hm, -, hc⟩, b1⟩
  have b1' : Below w.heap.size w w1 := (allocB w _).trans (b1.mono (by simp))
  obtain rfl := set_13 hR hm
  have c0 : w1.cell? ⟨g, 0, none⟩ = some (.int .u64 1) := hc 0 (by simp)
  have c1 : w1.cell? ⟨g, 1, none⟩ = some (.int .u64 3) := hc 1 (by simp)
  clear SE hR hm hc b1 hcap
  have lA : ∀ w : World, Lst ((w.alloc (.cells #[.int .u64 2] 24)).alloc (.cells #[.int .u64 1] 24)) (.slice (some ⟨w.heap.size, 0, none⟩) 1 1) [2] := fun w => (lst_lit w [2] _).keep (allocB _ _)
  have lB : ∀ w : World, Lst ((w.alloc (.cells #[.int .u64 2] 24)).alloc (.cells #[.int .u64 1] 24)) (.slice (some ⟨w.heap.size + 1, 0, none⟩) 1 1) [1] := fun w => by
    have := lst_lit (w.alloc (.cells #[.int .u64 2] 24)) [1] 24
    have e : (w.alloc (.cells #[.int .u64 2] 24)).heap.size = w.heap.size + 1 := by simp
    rw [e] at this
    exact this
  have UN := hidd (cunion _ _ [2] [1] (by simp) (by simp) (fun x hx => by simp at hx; subst hx; constructor <;> omega) (fun x hx => by simp at hx; subst hx; constructor <;> omega) _ (lA w1) (lB w1))
  clear lA lB
  go_wp2_with fail
  refine UN.out.mono ?_
  rintro e w2 ⟨⟨K, hC, hT⟩, b2⟩
  obtain rfl := chosen_12 hC
  rcases hT with ⟨-, v, rfl, hL⟩ | ⟨h, -⟩
  · have b12 : Below w1.heap.size w1 w2 := (belowT (allocB w1 _) (allocB _ _)).trans (b2.mono (by simp; try omega))
    have B2 := belowT b1' b12
    replace c0 := keepCell b12 c0
    replace c1 := keepCell b12 c1
    have SA := hidd (lsame v _ [1, 2] (by simp) _ (hL.keep (allocB w2 (.cells #[.int .u64 1, .int .u64 2] 24))) (lst_lit w2 [1, 2] 24))
    clear UN hC b2 b1' b12 hL
    go_wp2_with fail
    refine SA.out.mono ?_
    rintro e w3 ⟨rfl, b3⟩
    have B3 := belowT B2 ((allocB w2 _).trans (b3.mono (by simp)))
    have HA := hidd (chas _ [3, 1] 1 (by simp) _ (lst_lit w3 [3, 1] 24))
    clear SA b3 B2
    go_wp2_with fail
    refine HA.out.mono ?_
    rintro e w4 ⟨rfl, rfl⟩
    have B4 := belowT B3 (allocB w3 (.cells #[.int .u64 3, .int .u64 1] 24))
    go_wp2
    go_ret
    exact ⟨by simp, B4⟩
  · simp at h

end Go.Proofs.Ytogkfmoediiieaa
