/-
  The law PackCovers answers true for every list of numbers, size and two numbers, in whatever memory where the two tables hold what their texts lay.
-/
import Derived.Test.YtlfjfendlohekaaGreatDoorKCov
import Derived.Test.YtlfjfendlohekaaGreatDoorPAwake
import Derived.Test.YtlfjfendlohekaaGreatDoorPWords
import Derived.Test.YtlfjfendlohekaaGreatDoorProg
import Derived.Handy
import Derived.Deep.QuietTactic
import Derived.WalkSpells
import Derived.WalkLawsBesides
import Derived.BigQuiet
import Derived.PlainAid
import Derived.Deep.RegionWith
import Derived.Laws.BitsAllLaws
import Derived.Sort.Walk13a
import Derived.Sort.LotA
import Derived.Sort.LotB
import Derived.Sort.LotD1
import Derived.Deep.Draws
import Derived.WalkKit
import Derived.BigGuard
import Derived.BigCall
import Derived.CellFam
import Derived.Sort.WalkB3
import Derived.BigRegion
import Derived.Sort.WalkA6
import Derived.Deep.RegionHeld3
import Derived.WalkSmall
import Derived.Deep.CutRange
import Derived.OwnWalk
import Derived.Laws.OwnMore
import Derived.OneCell
import Derived.Laws.CopyOwn
import Derived.Sort.Row
import Derived.Laws.AppendOwn
import Derived.Laws.AppendOwnNone
import Derived.BigFrame
import Derived.Deep.AppendLies
import Derived.Deep.RegionLaw
import Derived.RangeFuncFrom
import Derived.RangeFuncCalls
import Derived.RangeFuncLeaves
import Derived.OwnWalkIn
import Derived.TacticsInMore
import Derived.LoopNIn
import Derived.LoopIn
import Derived.RegionIn
import Derived.Stop.RegionWithIn
import Derived.Sort.LotD3
import Derived.Deep.Cut
import Derived.Deep.LoopGhost
import Derived.Sort.WalkB12
import Derived.Deep.OwnRows
import Derived.ChangeSlices
import Derived.OpenShut
namespace Go.Proofs.YtlfjfendlohekaaGreatDoor
open Go.RowKit

theorem not_whole0 : ¬ Whole 0 := fun h => by have := h.1; omega

theorem u64_whole {v : Int} (h : Whole v) : U64 v := by have := whole_box h; exact ⟨by omega, by omega⟩

set_option maxHeartbeats 16000000 in
set_option maxRecDepth 20000 in
theorem packCovers_walk (sX : Value) (X : List Int) (r x y : Int) (w : World) (hT : Tabs w) (hX : LstK .i64 w sX X) (_ : ∀ x ∈ X, -9223372036854775808 ≤ x ∧ x ≤ 9223372036854775807) (_ : -9223372036854775808 ≤ r) (_ : r ≤ 9223372036854775807) (_ : -9223372036854775808 ≤ x) (_ : x ≤ 9223372036854775807) (_ : -9223372036854775808 ≤ y) (_ : y ≤ 9223372036854775807) :
    Calls Tryz.prog 3 #[sX, .int .i64 r, .int .i64 x, .int .i64 y] w fun e w' => e = .returned (.bool true) ∧ Below w.heap.size w w' := by
  have AW := hidd fun w h => pawake w h
  have HT := hidd hT
  clear hT
  by_cases h16 : 16 < X.length
  · obtain ⟨pX, cX, rfl, -, -⟩ := hX
    have A1 := hidd (AW.out w HT.out)
    have h16' : (16 : Int) < (X.length : Int) := by omega
    go_enter Tryz.func3, Tryz.ntmps3
    go_wp2_with fail
    refine A1.out.mono ?_
    rintro e w1 ⟨rfl, b1⟩
    go_wp2_with fail
    go_ret
    exact ⟨rfl, b1⟩
  · obtain ⟨t, n, et, en, t1, t2, n12, -⟩ := sz_walk r
    have szn : szOf (n : Int) = (n : Int) := szOf_box (by omega) (by omega)
    have WS := hidd (words sX X (n : Int) n szn w hX).2
    have WD := hidd fun w => aword_of n n12 x y w
    obtain ⟨pX, cX, rfl, -, -⟩ := hX
    have h16' : decide ((16 : Int) < (X.length : Int)) = false := df (by omega)
    clear szn h16
    go_enter Tryz.func3, Tryz.ntmps3
    go_wp2_with fail
    refine WS.out.mono ?_
    rintro e w1 ⟨⟨sl, L, rfl, hn, hW, hO⟩, b1⟩
    have HW := hidd hW
    have UL : Hid (∀ x ∈ L, U64 x) := hidd fun x hx => u64_whole (hW x hx).1
    have L1 := hidd (Lst.own hO)
    have CM := hidd (p_compact sl L (by omega) UL.out w1 L1.out)
    obtain ⟨c, ec⟩ : ∃ c, L.length = c := ⟨_, rfl⟩
    have EC := hidd ec
    rw [ec] at hO hn
    obtain ⟨pl, cl, rfl, hpl⟩ := own_slice hO
    have O1 := hidd hO
    have B1 := hidd b1
    clear hW ec hO b1 WS
    go_wp2_with fail
    refine CM.out.mono ?_
    rintro e w2 ⟨hc, b2⟩
    obtain ⟨sp, P, rfl, hP, hPn, hPl, -⟩ := cmp_yes (r := n) HW.out (by have := EC.out; omega) hc
    have HP := hidd hP
    have P2 := hidd hPl
    have PN : P.length ≤ 50000 := by have := EC.out; omega
    have O2 := hidd (own_keep b2 O1.out)
    have L2 := hidd (L1.out.keep b2)
    have B2 := hidd (belowT B1.out b2)
    obtain ⟨pp, cp, rfl, -⟩ := hPl
    clear hc hP hPn b2 CM O1 L1 B1
    go_wp2_with fail
    obtain ⟨wq, rfl⟩ : ∃ z, z = w2 := ⟨_, rfl⟩
    go_loopw [12] (fun v12 wr => ∃ i : Nat, i ≤ c ∧ v12 = .int .i64 (i : Int) ∧ Hid (Below wq.heap.size wq wr)) (fun v12 _ => c - (intOf v12).toNat)
    case atStart => exact ⟨0, by omega, rfl, hidd (Below.refl _ _)⟩
    case round =>
      obtain ⟨i, hi, rfl, hX⟩ := hrel
      by_cases hlt : i < c ∧ i < 40
      · obtain ⟨hlt, h40⟩ := hlt
        have hlt' : (i : Int) < (c : Int) := by omega
        have h40' : (i : Int) < 40 := by omega
        obtain ⟨gl, rfl⟩ := own_some hpl (by omega)
        have hiL : i < L.length := by rw [EC.out]; exact hlt
        have c0 := keepCell hX.out ((own_cells O2.out).2.1 i hiL)
        have hmx := List.getElem_mem hiL
        have hwx := HW.out _ hmx
        have CV := hidd (p_covers (.slice pp P.length cp) P L[i] (u64_whole hwx.1) PN true (by simp only [true_iff]; exact ⟨hwx.1, (HP.out.2.2.2.2 _ hwx.1 hwx.2).2 hmx⟩) wr (P2.out.keep hX.out))
        clear hmx hwx
        generalize L[i]'_ = z at *
        go_wp2_with fail
        refine CV.out.mono ?_
        rintro e w3 ⟨rfl, b3⟩
        have hX3 := hidd (belowT hX.out b3)
        go_wp2_with fail
        go_roundw
        case rel => exact ⟨i + 1, by omega, by go_num, hX3⟩
        case measure => simp [intOf]; omega
      · have hpre : ¬ (i < c) ∨ (i < c ∧ ¬ (i < 40)) := by omega
        have B3 := hidd (belowT B2.out hX.out)
        have P3 := hidd (P2.out.keep hX.out)
        have L3 := hidd (L2.out.keep hX.out)
        clear hX hlt B2 P2 L2 O2
        rcases hpre with h1 | ⟨h1, h2⟩
        · have h1' : decide ((i : Int) < (c : Int)) = false := df (by omega)
          go_wp2_with fail
          refine (WD.out _).mono ?_
          rintro e w3 ⟨⟨v, rfl, hv, hvr⟩, b3⟩
          have HV := hidd (And.intro hv hvr)
          have B4 := hidd (belowT B3.out b3)
          have P4 := hidd (P3.out.keep b3)
          have L4 := hidd (L3.out.keep b3)
          have CV := hidd (p_covers (.slice pp P.length cp) P v (u64_whole hv) PN (decide (v ∈ L)) (by simp only [decide_eq_true_eq]; rw [← HP.out.2.2.2.2 v hv hvr]; exact ⟨fun h => ⟨hv, h⟩, fun h => h.2⟩) w3 P4.out)
          clear hv hvr b3 B3 P3 L3 WD
          go_wp2_with fail
          refine CV.out.mono ?_
          rintro e w4 ⟨rfl, b4⟩
          have B5 := hidd (belowT B4.out b4)
          have P5 := hidd (P4.out.keep b4)
          have L5 := hidd (L4.out.keep b4)
          have SE := hidd (lset _ L (by have := EC.out; omega) UL.out w4 L5.out)
          rw [EC.out] at SE
          clear b4 B4 P4 L4 CV L5
          go_wp2_with fail
          refine SE.out.mono ?_
          rintro e w5 ⟨⟨s5, K, rfl, k1, k2, k3, k4⟩, b5⟩
          have B6 := hidd (belowT B5.out b5)
          have P6 := hidd (P5.out.keep b5)
          have HS := hidd (lhas s5 K v (u64_whole HV.out.1) k1 (fun y hy => UL.out y ((k2 y).1 hy)) (by omega) w5 k4)
          have ek : decide (v ∈ K) = decide (v ∈ L) := by rw [decide_eq_decide]; exact k2 v
          rw [ek] at HS
          obtain ⟨p5, c5, rfl, -⟩ := k4
          clear k1 k2 k3 b5 B5 P5 SE ek
          go_wp2_with fail
          refine HS.out.mono ?_
          rintro e w6 ⟨rfl, b6⟩
          have B7 := hidd (belowT B6.out b6)
          have C0 := hidd (p_covers (.slice pp P.length cp) P 0 ⟨by omega, by omega⟩ PN false (by simp [not_whole0]) w6 (P6.out.keep b6))
          clear b6 B6 P6 HS
          go_wp2_with fail
          refine C0.out.mono ?_
          rintro e w7 ⟨rfl, b7⟩
          have B8 := hidd (belowT B7.out b7)
          have A9 := hidd (AW.out w7 (HT.out.below B8.out))
          clear b7 B7 C0
          go_wp2_with fail
          refine A9.out.mono ?_
          rintro e w8 ⟨rfl, b8⟩
          go_wp2_with fail
          go_ret
          exact ⟨rfl, belowT B8.out b8⟩
        · have h1' : (i : Int) < (c : Int) := by omega
          have h2' : decide ((i : Int) < 40) = false := df (by omega)
          go_wp2_with fail
          refine (WD.out _).mono ?_
          rintro e w3 ⟨⟨v, rfl, hv, hvr⟩, b3⟩
          have HV := hidd (And.intro hv hvr)
          have B4 := hidd (belowT B3.out b3)
          have P4 := hidd (P3.out.keep b3)
          have L4 := hidd (L3.out.keep b3)
          have CV := hidd (p_covers (.slice pp P.length cp) P v (u64_whole hv) PN (decide (v ∈ L)) (by simp only [decide_eq_true_eq]; rw [← HP.out.2.2.2.2 v hv hvr]; exact ⟨fun h => ⟨hv, h⟩, fun h => h.2⟩) w3 P4.out)
          clear hv hvr b3 B3 P3 L3 WD
          go_wp2_with fail
          refine CV.out.mono ?_
          rintro e w4 ⟨rfl, b4⟩
          have B5 := hidd (belowT B4.out b4)
          have P5 := hidd (P4.out.keep b4)
          have L5 := hidd (L4.out.keep b4)
          have SE := hidd (lset _ L (by have := EC.out; omega) UL.out w4 L5.out)
          rw [EC.out] at SE
          clear b4 B4 P4 L4 CV L5
          go_wp2_with fail
          refine SE.out.mono ?_
          rintro e w5 ⟨⟨s5, K, rfl, k1, k2, k3, k4⟩, b5⟩
          have B6 := hidd (belowT B5.out b5)
          have P6 := hidd (P5.out.keep b5)
          have HS := hidd (lhas s5 K v (u64_whole HV.out.1) k1 (fun y hy => UL.out y ((k2 y).1 hy)) (by omega) w5 k4)
          have ek : decide (v ∈ K) = decide (v ∈ L) := by rw [decide_eq_decide]; exact k2 v
          rw [ek] at HS
          obtain ⟨p5, c5, rfl, -⟩ := k4
          clear k1 k2 k3 b5 B5 P5 SE ek
          go_wp2_with fail
          refine HS.out.mono ?_
          rintro e w6 ⟨rfl, b6⟩
          have B7 := hidd (belowT B6.out b6)
          have C0 := hidd (p_covers (.slice pp P.length cp) P 0 ⟨by omega, by omega⟩ PN false (by simp [not_whole0]) w6 (P6.out.keep b6))
          clear b6 B6 P6 HS
          go_wp2_with fail
          refine C0.out.mono ?_
          rintro e w7 ⟨rfl, b7⟩
          have B8 := hidd (belowT B7.out b7)
          have A9 := hidd (AW.out w7 (HT.out.below B8.out))
          clear b7 B7 C0
          go_wp2_with fail
          refine A9.out.mono ?_
          rintro e w8 ⟨rfl, b8⟩
          go_wp2_with fail
          go_ret
          exact ⟨rfl, belowT B8.out b8⟩

end Go.Proofs.YtlfjfendlohekaaGreatDoor
