/-
  The words of numbers of cells, as package cover lists them; in whatever memory where the tables hold what their texts lay.
-/
import Derived.Test.YtdklpgphmoaniaaGreatDoorQAround
import Derived.Test.YtdklpgphmoaniaaGreatDoorUSetX
import Derived.Test.YtdklpgphmoaniaaGreatDoorProg
import Derived.Handy
import Derived.Deep.QuietTactic
import Derived.WalkSpells
import Derived.WalkLawsBesides
import Derived.BigQuiet
import Derived.PlainAid
import Derived.Deep.RegionWith
import Derived.Laws.BitsAllLaws
import Derived.Sort.LotA
import Derived.Sort.LotB
import Derived.Deep.RegionHeld3
import Derived.WalkSmall
import Derived.Deep.CutRange
import Derived.BigRegion
import Derived.OwnWalk
import Derived.Laws.OwnMore
import Derived.OneCell
import Derived.Laws.CopyOwn
import Derived.Sort.Row
import Derived.Sort.WalkB3
import Derived.Laws.StructEq
import Derived.Deep.AppendLies
import Derived.Deep.RegionLaw
import Derived.RangeFuncFrom
import Derived.RangeFuncCalls
import Derived.RangeFuncLeaves
import Derived.WalkKit
import Derived.OwnWalkIn
import Derived.TacticsInMore
import Derived.LoopNIn
import Derived.LoopIn
import Derived.RegionIn
import Derived.Stop.RegionWithIn
import Derived.Sort.LotD3
import Derived.Deep.Cut
import Derived.Deep.LoopGhost
import Derived.Sort.WalkA6
import Derived.Sort.Walk13a
import Derived.Sort.LotD1
import Derived.Deep.Draws
import Derived.BigGuard
import Derived.BigCall
import Derived.CellFam
import Derived.Sort.WalkB12
import Derived.Deep.OwnRows
namespace Go.Proofs.YtdklpgphmoaniaaGreatDoor
open Go.RowKit

theorem lst_ownQ {w : World} {base : Nat} {v : Value} {L : List Int} {n : Nat} (hn : L.length = n) (h : w.ownsRow base 31 1 v n (vals L)) : Lst w v L := by
  subst hn
  rcases h.2 with ⟨e1, e2⟩ | ⟨g, cap, cur, e1, _, _, hl, _⟩
  · exact ⟨none, 0, by rw [e1, e2], by omega, fun j hj => by omega⟩
  · subst e1
    have hc := own_cells h
    exact ⟨some ⟨g, 0, none⟩, cap, rfl, hl, fun j hj => ⟨g, 0, rfl, by rw [Nat.zero_add]; exact hc.2.1 j hj⟩⟩

/-- The words of numbers. -/
def wdL (r : Nat) (S : List (Int × Int)) : List Int := S.map fun p => wordOf r p.1 p.2

theorem wdL_len (r : Nat) (S : List (Int × Int)) : (wdL r S).length = S.length := by simp [wdL]

theorem wdL_step (r : Nat) (S : List (Int × Int)) {j : Nat} (hj : j < S.length) : wdL r (S.take (j + 1)) = wdL r (S.take j) ++ [wordOf r S[j].1 S[j].2] := by
  unfold wdL
  rw [List.take_add_one, List.getElem?_eq_getElem hj, List.map_append]
  rfl

set_option maxHeartbeats 8000000 in
set_option maxRecDepth 100000 in
theorem q_words (r : Nat) (b0 : Nat) (sv : Value) (S0 : List (Int × Int)) (hok : ∀ p ∈ S0, Ok4 (r : Int) p.1 p.2) (hn : S0.length ≤ 50000) (w : World) (hT : Tabs w) (hO : RowE b0 sv S0 w) :
    Calls Tryz.prog 37 #[sv, .int .i64 (r : Int)] w fun e w' => TellsSet w.heap.size (wdL r S0) e w' ∧ Below w.heap.size w w' := by
  have OF := hidd fun p (hp : p ∈ S0) w hT => iof_yes r p.1 p.2 (hok p hp) w hT
  have HT := hidd hT
  have HO := hidd hO
  obtain ⟨sp, sc, rfl⟩ := hO.any
  have NN := hidd hn
  obtain ⟨n, en⟩ : ∃ n, S0.length = n := ⟨_, rfl⟩
  rw [en] at HO hn ⊢
  have EN := hidd en
  clear hT hO hok en
  obtain ⟨i0, hi, hz0, hz1, hz2⟩ := info_partsQ infoU64
  go_enter Tryz.func37, Tryz.ntmps37
  go_wp2
  go_loopw [5, 12] (fun v5 v12 wr => ∃ j : Nat, j ≤ n ∧ v12 = .int .i64 (j : Int) ∧ Hid (wr.ownsRow w.heap.size 31 1 v5 j (vals (wdL r (S0.take j)))) ∧ Hid (Below w.heap.size w wr)) (fun _ v12 _ => n - (intOf v12).toNat)
  case atStart => exact ⟨0, by omega, rfl, hidd (World.ownsRow_nil _ _ _ _), hidd (Below.refl _ _)⟩
  case round =>
    obtain ⟨j, hj, rfl, OW, B⟩ := hrel
    obtain ⟨vp, vc, rfl⟩ := own_any OW.out
    by_cases hjn : j < n
    · have hjn' : (j : Int) < (n : Int) := by omega
      have hjL : j < S0.length := by rw [EN.out]; exact hjn
      have hrow : RowE b0 (.slice sp S0.length sc) S0 wr := RowE.keep (by have := HO.out; rwa [← EN.out] at this) B.out
      obtain ⟨g, c2, e, -, y0, y1⟩ := hrow.at_ j hjL
      rw [EN.out] at e
      simp only [Value.slice.injEq] at e
      obtain ⟨rfl, -, rfl⟩ := e
      have al := allocB wr (.cells #[.int .i64 S0[j].1, .int .i64 S0[j].2] 23)
      have ST := hidd (wdL_step r S0 hjL)
      have B1 := hidd (belowT B.out al)
      have P1 := hidd (OF.out S0[j] (List.getElem_mem hjL) _ (HT.out.below B1.out))
      have O1 := hidd (own_keep al OW.out)
      clear hrow al OW B OF
      generalize wordOf r S0[j].1 S0[j].2 = x at *
      generalize S0[j].1 = a at *
      generalize S0[j].2 = b at *
      go_wp2_with fail
      refine P1.out.mono ?_
      rintro e w3 ⟨rfl, b3⟩
      have B3 := hidd (belowT B1.out b3)
      have O3 := hidd (own_keep b3 O1.out)
      have hs3 := B3.out.size
      clear P1 O1 B1 b3 y0 y1
      go_wp2_with (at_builtin; refine wpList_append_lies _ rfl (.tmp 23) (.tmp 25) 34 rfl w.heap.size 31 i0 (.int .u64 0) 1 8 Tryz.underlying34 hi hz0 hz1 hz2 rfl (by decide) (.slice vp j vc) _ _ rfl (own_keep (allocB _ _) O3.out) ⟨w3.heap.size, 0, none⟩ 1 1 [.int .u64 x] rfl rfl (one_lies _ _ rfl _ _) (one_int _ _) (by decide) (by unfold maxLen; omega) (by omega) (by simp; omega) (w3.heap.size + 1) (by simp) ?_; intro g6 q6 w6 hown hgrow hat hlt6)
      have R6 := hidd (show w6.ownsRow w.heap.size 31 1 (.slice (some ⟨g6, 0, none⟩) (j + 1) q6) (j + 1) (vals (wdL r (S0.take (j + 1)))) by
        rw [ST.out]
        unfold vals at hown ⊢
        rw [List.map_append]
        exact hown)
      have hne : ∀ k, (Value.slice vp j vc).ownBlock = some k → w.heap.size ≤ k := fun k e => (World.ownsRow.lt O3.out k e).1
      have B6 := hidd ((belowT B3.out (allocB _ _)).grown hgrow (by simp; omega) (fun k e => by have := hne k e; omega))
      clear hown hgrow hat B3 O3 hne
      go_roundw
      case rel => exact ⟨j + 1, by omega, by go_num, R6, B6⟩
      case measure => simp [intOf]; omega
    · obtain rfl : j = n := by omega
      have hjn' : decide ((j : Int) < (j : Int)) = false := by simp
      have hX : wdL r (S0.take j) = wdL r S0 := by rw [← EN.out, List.take_length]
      rw [hX] at OW
      have CS := hidd (cset_row _ (wdL r S0) (by rw [wdL_len, EN.out]; omega) _ (lst_ownQ (by rw [wdL_len, EN.out]) OW.out))
      clear hX OW
      go_wp2_with fail
      refine CS.out.mono ?_
      rintro e w3 ⟨h3, b3⟩
      have hsz := B.out.size
      have B3 := hidd (belowT B.out b3)
      have H3 := hidd h3.set
      obtain ⟨g, cap, L, rfl, -⟩ := h3
      clear CS b3
      go_wp2
      go_ret
      refine ⟨?_, B3.out⟩
      obtain ⟨g', cap', L', e', k1, k2, k3, k4, k5, k6⟩ := H3.out
      exact ⟨g', cap', L', e', by omega, k2, k3, k4, k5, k6⟩

end Go.Proofs.YtdklpgphmoaniaaGreatDoor
