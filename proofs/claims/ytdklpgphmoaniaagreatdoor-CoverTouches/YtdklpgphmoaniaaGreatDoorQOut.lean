/-
  Package cover's outlines: whether one leaves another out; in whatever memory.
-/
import Derived.Test.YtdklpgphmoaniaaGreatDoorQEdge
import Derived.Test.YtdklpgphmoaniaaGreatDoorProg
import Derived.Handy
import Derived.Deep.QuietTactic
import Derived.WalkSpells
import Derived.WalkLawsBesides
import Derived.BigQuiet
import Derived.PlainAid
import Derived.Deep.RegionWith
import Derived.Laws.BitsAllLaws
import Derived.Sort.LotA
import Derived.Sort.LotB
import Derived.Deep.RegionHeld3
import Derived.WalkSmall
import Derived.Deep.CutRange
import Derived.BigRegion
import Derived.OwnWalk
import Derived.Laws.OwnMore
import Derived.OneCell
import Derived.Laws.CopyOwn
import Derived.Sort.Row
import Derived.Sort.WalkB3
import Derived.Laws.StructEq
import Derived.Deep.AppendLies
import Derived.Deep.RegionLaw
import Derived.RangeFuncFrom
import Derived.RangeFuncCalls
import Derived.RangeFuncLeaves
import Derived.WalkKit
import Derived.OwnWalkIn
import Derived.TacticsInMore
import Derived.LoopNIn
import Derived.LoopIn
import Derived.RegionIn
import Derived.Stop.RegionWithIn
import Derived.Test.YtdklpgphmoaniaaGreatDoorRows
import Derived.LaidMore
import Derived.Stop.LaidErr
namespace Go.Proofs.YtdklpgphmoaniaaGreatDoor
open Go.RowKit

/-- Whether an edge keeps a corner of an outline. -/
def hasB (e : Ed) (L : List Ed) : Bool := L.any (kpB e)

/-- Whether an outline leaves another one out. -/
def outB (M L : List Ed) : Bool := M.any fun e => !hasB e L

theorem any_step {α : Type} {f : α → Bool} {L : List α} {j : Nat} (hj : j < L.length) (h : (L.take j).any f = false) : (f L[j] = true → L.any f = true) ∧ (f L[j] = false → (L.take (j + 1)).any f = false) := by
  constructor
  · intro k
    exact List.any_eq_true.2 ⟨_, List.getElem_mem hj, k⟩
  · intro k
    rw [List.take_add_one, List.getElem?_eq_getElem hj, List.any_append, h]
    simpa using k

theorem any_end {α : Type} {f : α → Bool} {L : List α} {j : Nat} (hj : j = L.length) (h : (L.take j).any f = false) : L.any f = false := by rwa [hj, List.take_length] at h

set_option maxHeartbeats 8000000 in
set_option maxRecDepth 20000 in
theorem q_index (e : Ed) (he : EdB e) (base : Nat) (v : Value) (L : List Ed) (hL : ∀ f ∈ L, EdB f) (hn : L.length ≤ 1000) (w : World) (hO : RowD base v L w) :
    Calls Tryz.prog 120 #[v, .func (.func 83) #[.agg #[.int .i64 e.1.1, .int .i64 e.1.2, .int .i64 e.2.1, .int .i64 e.2.2]] #[]] w fun r w' => (∃ n : Int, r = .returned (.int .i64 n) ∧ decide (0 ≤ n) = hasB e L) ∧ Below w.heap.size w w' := by
  have KE := hidd fun f (hf : f ∈ L) w => q_keeps e f he (hL f hf) w
  have HO := hidd hO
  obtain ⟨n, en⟩ : ∃ n, L.length = n := ⟨_, rfl⟩
  obtain ⟨p, c, rfl⟩ := hO.any
  rw [en] at hn HO ⊢
  have EN := hidd en
  clear hO hL en he
  go_enter Tryz.func120, Tryz.ntmps120
  go_wp2
  go_loopw [8] (fun v8 wr => ∃ j : Nat, j ≤ n ∧ v8 = .int .i64 (j : Int) ∧ Hid ((L.take j).any (kpB e) = false) ∧ Hid (Below w.heap.size w wr)) (fun v8 _ => n - (intOf v8).toNat)
  case atStart => exact ⟨0, by omega, rfl, hidd (by simp), hidd (Below.refl _ _)⟩
  case round =>
    obtain ⟨j, hj, rfl, TK, B⟩ := hrel
    by_cases hjn : j < n
    · have hj' : (j : Int) < (n : Int) := by omega
      have hjL : j < L.length := by rw [EN.out]; exact hjn
      have O := RowD.keep HO.out B.out
      rw [← EN.out] at O
      obtain ⟨g, c', e0, y0, y1, y2, y3⟩ := O.at_ j hjL
      simp only [Value.slice.injEq] at e0
      obtain ⟨rfl, -, rfl⟩ := e0
      have K1 := hidd fun w => KE.out L[j] (List.getElem_mem hjL) w
      have ST := hidd (any_step (f := kpB e) hjL TK.out)
      clear O KE
      generalize kpB e L[j] = t at *
      generalize L[j].1.1 = f1 at *
      generalize L[j].1.2 = f2 at *
      generalize L[j].2.1 = f3 at *
      generalize L[j].2.2 = f4 at *
      cases t
      · go_wp2_with fail
        refine (K1.out _).mono ?_
        rintro r w1 ⟨rfl, b1⟩
        have B1 := hidd (belowT B.out b1)
        clear y0 y1 y2 y3 K1 b1
        go_wp2
        go_roundw
        case rel => exact ⟨j + 1, by omega, by go_num, hidd (ST.out.2 (by simp)), B1⟩
        case measure => simp [intOf]; omega
      · go_wp2_with fail
        refine (K1.out _).mono ?_
        rintro r w1 ⟨rfl, b1⟩
        have B1 := hidd (belowT B.out b1)
        clear y0 y1 y2 y3 K1 b1
        go_wp2
        go_ret
        exact ⟨⟨_, rfl, by unfold hasB; rw [ST.out.1 (by simp)]; simp⟩, B1.out⟩
    · obtain rfl : j = n := by omega
      have hj' : decide ((j : Int) < (j : Int)) = false := by simp
      go_wp2
      go_ret
      exact ⟨⟨_, rfl, by unfold hasB; rw [any_end EN.out.symm TK.out]; rfl⟩, B.out⟩

set_option maxHeartbeats 4000000 in
set_option maxRecDepth 20000 in
theorem q_has (e : Ed) (he : EdB e) (base : Nat) (v : Value) (L : List Ed) (hL : ∀ f ∈ L, EdB f) (hn : L.length ≤ 1000) (w : World) (hO : RowD base v L w) :
    Calls Tryz.prog 82 #[v, .func (.func 83) #[.agg #[.int .i64 e.1.1, .int .i64 e.1.2, .int .i64 e.2.1, .int .i64 e.2.2]] #[]] w fun r w' => r = .returned (.bool (hasB e L)) ∧ Below w.heap.size w w' := by
  have QI := hidd (q_index e he base v L hL hn w hO)
  obtain ⟨p, c, rfl⟩ := hO.any
  clear hO hL
  go_enter Tryz.func82, Tryz.ntmps82
  go_wp2_with fail
  refine QI.out.mono ?_
  rintro r w1 ⟨⟨n, rfl, hd⟩, b1⟩
  have HD := hidd hd
  clear hd QI
  go_wp2
  go_ret
  exact ⟨by rw [← HD.out]; rfl, b1⟩

set_option maxHeartbeats 8000000 in
set_option maxRecDepth 20000 in
theorem q_out (base base2 : Nat) (v v2 : Value) (M L : List Ed) (hM : ∀ f ∈ M, EdB f) (hL : ∀ f ∈ L, EdB f) (hm : M.length ≤ 1000) (hn : L.length ≤ 1000) (w : World) (hO : RowD base v M w) (hO2 : RowD base2 v2 L w) :
    Calls Tryz.prog 47 #[v, v2] w fun r w' => r = .returned (.bool (outB M L)) ∧ Below w.heap.size w w' := by
  have HO := hidd hO
  obtain ⟨n, en⟩ : ∃ n, M.length = n := ⟨_, rfl⟩
  obtain ⟨p, c, rfl⟩ := hO.any
  have HQ := hidd fun f (hf : f ∈ M) w (h : RowD base2 v2 L w) => q_has f (hM f hf) base2 v2 L hL hn w h
  have HO2 := hidd hO2
  obtain ⟨p2, c2, rfl⟩ := hO2.any
  rw [en] at hm HO ⊢
  have EN := hidd en
  clear hO hL en hM hO2
  go_enter Tryz.func47, Tryz.ntmps47
  go_wp2
  go_loopw [9] (fun v9 wr => ∃ j : Nat, j ≤ n ∧ v9 = .int .i64 (j : Int) ∧ Hid ((M.take j).any (fun e => !hasB e L) = false) ∧ Hid (Below w.heap.size w wr)) (fun v9 _ => n - (intOf v9).toNat)
  case atStart => exact ⟨0, by omega, rfl, hidd (by simp), hidd (Below.refl _ _)⟩
  case round =>
    obtain ⟨j, hj, rfl, TK, B⟩ := hrel
    by_cases hjn : j < n
    · have hj' : (j : Int) < (n : Int) := by omega
      have hjL : j < M.length := by rw [EN.out]; exact hjn
      have O := RowD.keep HO.out B.out
      rw [← EN.out] at O
      obtain ⟨g, c', e0, y0, y1, y2, y3⟩ := O.at_ j hjL
      simp only [Value.slice.injEq] at e0
      obtain ⟨rfl, -, rfl⟩ := e0
      have B1 := hidd (belowT B.out (allocB wr (.cells #[.int .i64 M[j].1.1, .int .i64 M[j].1.2, .int .i64 M[j].2.1, .int .i64 M[j].2.2] 130)))
      have K1 := hidd (HQ.out M[j] (List.getElem_mem hjL) _ (HO2.out.keep B1.out))
      have ST := hidd (any_step (f := fun e => !hasB e L) hjL TK.out)
      clear O HQ
      generalize hasB M[j] L = t at *
      generalize M[j].1.1 = f1 at *
      generalize M[j].1.2 = f2 at *
      generalize M[j].2.1 = f3 at *
      generalize M[j].2.2 = f4 at *
      cases t
      · go_wp2_with fail
        refine K1.out.mono ?_
        rintro r w1 ⟨rfl, b1⟩
        have B2 := hidd (belowT B1.out b1)
        clear y0 y1 y2 y3 K1 b1
        go_wp2
        go_ret
        exact ⟨by unfold outB; rw [ST.out.1 (by simp)]; rfl, B2.out⟩
      · go_wp2_with fail
        refine K1.out.mono ?_
        rintro r w1 ⟨rfl, b1⟩
        have B2 := hidd (belowT B1.out b1)
        clear y0 y1 y2 y3 K1 b1
        go_wp2
        go_roundw
        case rel => exact ⟨j + 1, by omega, by go_num, hidd (ST.out.2 (by simp)), B2⟩
        case measure => simp [intOf]; omega
    · obtain rfl : j = n := by omega
      have hj' : decide ((j : Int) < (j : Int)) = false := by simp
      go_wp2
      go_ret
      exact ⟨by unfold outB; rw [any_end EN.out.symm TK.out]; rfl, B.out⟩

end Go.Proofs.YtdklpgphmoaniaaGreatDoor
