/-
  The law PackOnce answers true for every list of numbers, size and turn, in whatever memory where the two tables hold what their texts lay.
-/
import Derived.Test.YtlfjfendlohekabGreatDoorPWords
import Derived.Test.YtlfjfendlohekabGreatDoorPAwake
import Derived.Test.YtlfjfendlohekabGreatDoorProg
import Derived.Handy
import Derived.Deep.QuietTactic
import Derived.WalkSpells
import Derived.WalkLawsBesides
import Derived.BigQuiet
import Derived.PlainAid
import Derived.Deep.RegionWith
import Derived.Laws.BitsAllLaws
import Derived.Sort.Walk13a
import Derived.Sort.LotA
import Derived.Sort.LotB
import Derived.Sort.LotD1
import Derived.Deep.Draws
import Derived.WalkKit
import Derived.BigGuard
import Derived.BigCall
import Derived.CellFam
import Derived.Sort.WalkB3
import Derived.BigRegion
import Derived.Sort.WalkA6
import Derived.Deep.RegionHeld3
import Derived.WalkSmall
import Derived.Deep.CutRange
import Derived.OwnWalk
import Derived.Laws.OwnMore
import Derived.OneCell
import Derived.Laws.CopyOwn
import Derived.Sort.Row
import Derived.Laws.AppendOwn
import Derived.Laws.AppendOwnNone
import Derived.BigFrame
import Derived.Deep.AppendLies
import Derived.Deep.RegionLaw
import Derived.RangeFuncFrom
import Derived.RangeFuncCalls
import Derived.RangeFuncLeaves
import Derived.OwnWalkIn
import Derived.TacticsInMore
import Derived.LoopNIn
import Derived.LoopIn
import Derived.RegionIn
import Derived.Stop.RegionWithIn
import Derived.Sort.LotD3
import Derived.Deep.Cut
import Derived.Deep.LoopGhost
import Derived.Sort.WalkB12
import Derived.Deep.OwnRows
import Derived.ChangeSlices
import Derived.OpenShut
namespace Go.Proofs.YtlfjfendlohekabGreatDoor
open Go.RowKit

set_option maxHeartbeats 16000000 in
set_option maxRecDepth 20000 in
theorem packOnce_walk (sX : Value) (X : List Int) (r turn : Int) (w : World) (hT : Tabs w) (hX : LstK .i64 w sX X) (_ : ∀ x ∈ X, -9223372036854775808 ≤ x ∧ x ≤ 9223372036854775807) (_ : -9223372036854775808 ≤ r) (_ : r ≤ 9223372036854775807) (_ : -9223372036854775808 ≤ turn) (_ : turn ≤ 9223372036854775807) :
    Calls Tryz.prog 3 #[sX, .int .i64 r, .int .i64 turn] w fun e w' => e = .returned (.bool true) ∧ Below w.heap.size w w' := by
  have AW := hidd fun w h => pawake w h
  have HT := hidd hT
  clear hT
  by_cases h20 : 20 < X.length
  · obtain ⟨pX, cX, rfl, -, -⟩ := hX
    have A1 := hidd (AW.out w HT.out)
    have h20' : (20 : Int) < (X.length : Int) := by omega
    go_enter Tryz.func3, Tryz.ntmps3
    go_wp2_with fail
    refine A1.out.mono ?_
    rintro e w1 ⟨rfl, b1⟩
    go_wp2_with fail
    go_ret
    exact ⟨rfl, b1⟩
  · obtain ⟨t, n, et, en, t1, t2, n12, szn⟩ := sz_walk r
    have WS := hidd (words sX X r n szn w hX).2
    obtain ⟨pX, cX, rfl, -, -⟩ := hX
    have h20' : decide ((20 : Int) < (X.length : Int)) = false := df (by omega)
    obtain ⟨i0, hi, hz0, hz1, hz2⟩ := info_parts infoU64
    have hTn : ∃ T : Nat, bits .and .i64 turn 65535 = (T : Int) ∧ T < 65536 := ⟨(turn % 65536).toNat, by rw [mask16]; omega, by omega⟩
    obtain ⟨T, eT, hT6⟩ := hTn
    clear szn h20 et en t1 t2
    go_enter Tryz.func3, Tryz.ntmps3
    go_wp2_with fail
    refine WS.out.mono ?_
    rintro e w1 ⟨⟨sl, L, rfl, hn, hW, hO⟩, b1⟩
    have HW := hidd hW
    have UL : Hid (∀ x ∈ L, U64 x) := hidd fun x hx => by have := whole_box (hW x hx).1; exact ⟨by omega, by omega⟩
    have L1 := hidd (Lst.own hO)
    obtain ⟨c, ec⟩ : ∃ c, L.length = c := ⟨_, rfl⟩
    have EC := hidd ec
    rw [ec] at hO hn
    obtain ⟨pl, cl, rfl, hpl⟩ := own_slice hO
    have O1 := hidd hO
    have B1 := hidd b1
    clear hW ec hO b1 WS
    go_wp2_with fail
    go_loopw [8, 9] (fun v8 v9 wr => ∃ (i m : Nat) (M : List Int), i ≤ c ∧ m ≤ 2 * i ∧ v9 = .int .i64 (i : Int) ∧ Hid (∀ x ∈ M, x ∈ L) ∧ Hid (wr.ownsRow w1.heap.size 26 1 v8 m (vals M)) ∧ Hid (Below w1.heap.size w1 wr)) (fun _ v9 _ => c - (intOf v9).toNat)
    case atStart => exact ⟨0, 0, [], by omega, by omega, rfl, hidd (fun x hx => by simp at hx), World.ownsRow_nil _ _ _ _, hidd (Below.refl _ _)⟩
    case round =>
      obtain ⟨i, m, M, hi', hm, rfl, hM, hO, hY⟩ := hrel
      by_cases hlt : i < c
      · have hlt' : (i : Int) < (c : Int) := by omega
        obtain ⟨gl, rfl⟩ := own_some hpl (by omega)
        have hj : ∃ j : Nat, j < c ∧ ((i : Int) + (T : Int)).tmod (c : Int) = (j : Int) := by
          rw [Int.tmod_eq_emod_of_nonneg (by omega)]
          have h2 := Int.emod_nonneg ((i : Int) + (T : Int)) (b := (c : Int)) (by omega)
          have h3 := Int.emod_lt_of_pos ((i : Int) + (T : Int)) (b := (c : Int)) (by omega)
          exact ⟨(((i : Int) + (T : Int)) % (c : Int)).toNat, by omega, by omega⟩
        obtain ⟨j, hjc, ej⟩ := hj
        have hjL : j < L.length := by rw [EC.out]; exact hjc
        have c0 := keepCell hY.out ((own_cells O1.out).2.1 j hjL)
        have hjm := hidd (List.getElem_mem hjL)
        have hc0 : ¬ ((c : Int) = 0) := by omega
        have hsY := hY.out.size
        have hpos : c - 1 - i < L.length := by rw [EC.out]; omega
        have C1 := hidd ((own_cells O1.out).2.1 (c - 1 - i) hpos)
        have him := hidd (List.getElem_mem hpos)
        have e3 : (c : Int) - 1 - (i : Int) = ((c - 1 - i : Nat) : Int) := by omega
        generalize L[j]'_ = x at *
        generalize L[c - 1 - i]'_ = y at *
        obtain ⟨q, hq⟩ : ∃ q, c - 1 - i = q := ⟨_, rfl⟩
        rw [hq] at C1 e3
        obtain ⟨p8, c8, rfl, -⟩ := own_slice hO.out
        have hqc : q < c := by omega
        clear hq hpos
        have t3 : (i : Int).tmod 3 = (i : Int) % 3 := Int.tmod_eq_emod_of_nonneg (by omega)
        cases h3 : ((i : Int) % 3 == 0) with
        | true =>
          go_wp2_with (at_builtin; refine wpList_append_own _ rfl (.tmp 28) (.tmp 39) 24 rfl w1.heap.size 26 i0 (.int .u64 0) 1 8 Tryz.underlying24 hi hz0 hz1 hz2 rfl (by decide) _ _ _ rfl (own_keep (allocB _ _) hO.out) ⟨wr.heap.size, 0, none⟩ 1 1 [.int .u64 x] rfl rfl (one_lies _ _ rfl _ _) (one_int _ _) (by unfold maxLen; omega) (by omega) (by have := hY.out.size; simp; omega) ?_)
          intro v5 w5 hown hgrow _
          have Y5 := hidd ((hY.out.alloc hY.out.size (.cells #[.int .u64 x] 26)).grown hgrow (by have := hY.out.size; simp; omega) (own_block hO.out))
          have O5 : Hid (w5.ownsRow w1.heap.size 26 1 v5 (m + 1) (vals (M ++ [x]))) := hidd (by rw [show vals (M ++ [x]) = vals (M) ++ [.int .u64 x] by simp [vals]]; exact hown)
          clear hown hgrow
          have M5 : Hid (∀ z ∈ M ++ [x], z ∈ L) := hidd fun z hz => (List.mem_append.1 hz).elim (hM.out z) (fun h => by rw [List.mem_singleton.1 h]; exact hjm.out)
          have c1 := keepCell Y5.out C1.out
          obtain ⟨p5, c5, rfl, -⟩ := own_slice O5.out
          clear hO hY hM c0 C1
          go_wp2_with (at_builtin; refine wpList_append_own _ rfl (.tmp 44) (.tmp 53) 24 rfl w1.heap.size 26 i0 (.int .u64 0) 1 8 Tryz.underlying24 hi hz0 hz1 hz2 rfl (by decide) _ _ _ rfl (own_keep (allocB _ _) O5.out) ⟨w5.heap.size, 0, none⟩ 1 1 [.int .u64 y] rfl rfl (one_lies _ _ rfl _ _) (one_int _ _) (by unfold maxLen; omega) (by omega) (by have := Y5.out.size; simp; omega) ?_)
          intro v6 w6 hown hgrow _
          have Y6 := hidd ((Y5.out.alloc Y5.out.size (.cells #[.int .u64 y] 26)).grown hgrow (by have := Y5.out.size; simp; omega) (own_block O5.out))
          have O6 : Hid (w6.ownsRow w1.heap.size 26 1 v6 (m + 1 + 1) (vals (M ++ [x] ++ [y]))) := hidd (by rw [show vals (M ++ [x] ++ [y]) = vals (M ++ [x]) ++ [.int .u64 y] by simp [vals]]; exact hown)
          clear hown hgrow
          have M6 : Hid (∀ z ∈ M ++ [x] ++ [y], z ∈ L) := hidd fun z hz => (List.mem_append.1 hz).elim (M5.out z) (fun h => by rw [List.mem_singleton.1 h]; exact him.out)
          clear O5 Y5 M5 c1
          go_wp2_with fail
          go_roundw
          case rel => exact ⟨i + 1, m + 1 + 1, M ++ [x] ++ [y], by omega, by omega, by go_num, M6, O6, Y6⟩
          case measure => simp [intOf]; omega
        | false =>
          go_wp2_with (at_builtin; refine wpList_append_own _ rfl (.tmp 28) (.tmp 39) 24 rfl w1.heap.size 26 i0 (.int .u64 0) 1 8 Tryz.underlying24 hi hz0 hz1 hz2 rfl (by decide) _ _ _ rfl (own_keep (allocB _ _) hO.out) ⟨wr.heap.size, 0, none⟩ 1 1 [.int .u64 x] rfl rfl (one_lies _ _ rfl _ _) (one_int _ _) (by unfold maxLen; omega) (by omega) (by have := hY.out.size; simp; omega) ?_)
          intro v5 w5 hown hgrow _
          have Y5 := hidd ((hY.out.alloc hY.out.size (.cells #[.int .u64 x] 26)).grown hgrow (by have := hY.out.size; simp; omega) (own_block hO.out))
          have O5 : Hid (w5.ownsRow w1.heap.size 26 1 v5 (m + 1) (vals (M ++ [x]))) := hidd (by rw [show vals (M ++ [x]) = vals (M) ++ [.int .u64 x] by simp [vals]]; exact hown)
          clear hown hgrow
          have M5 : Hid (∀ z ∈ M ++ [x], z ∈ L) := hidd fun z hz => (List.mem_append.1 hz).elim (hM.out z) (fun h => by rw [List.mem_singleton.1 h]; exact hjm.out)
          clear hO hY hM c0 C1
          go_wp2_with fail
          go_roundw
          case rel => exact ⟨i + 1, m + 1, M ++ [x], by omega, by omega, by go_num, M5, O5, Y5⟩
          case measure => simp [intOf]; omega
      · obtain rfl : i = c := by omega
        have hlt' : decide ((i : Int) < (i : Int)) = false := by simp
        clear hlt
        go_wp2_with fail
        go_loopw [8, 10] (fun v8 v10 wr => ∃ (j m : Nat) (M : List Int), j ≤ i ∧ m ≤ 2 * i + j ∧ v10 = .int .i64 (j : Int) ∧ Hid ((∀ x ∈ M, x ∈ L) ∧ (∀ x ∈ L.take j, x ∈ M)) ∧ Hid (wr.ownsRow w1.heap.size 26 1 v8 m (vals M)) ∧ Hid (Below w1.heap.size w1 wr)) (fun _ v10 _ => i - (intOf v10).toNat)
        case atStart => exact ⟨0, m, M, by omega, by omega, rfl, hidd ⟨hM.out, fun x hx => by simp at hx⟩, hO, hY⟩
        case round =>
          clear hM hO hY hm
          obtain ⟨j, m, M, hj, hm, rfl, hM, hO, hY⟩ := hrel
          by_cases hlt : j < i
          · have hlt2 : (j : Int) < (i : Int) := by omega
            obtain ⟨gl, rfl⟩ := own_some hpl (by omega)
            have hjL : j < L.length := by rw [EC.out]; exact hlt
            have c0 := keepCell hY.out ((own_cells O1.out).2.1 j hjL)
            have hjm := hidd (List.getElem_mem hjL)
            have hnx := hidd (take_next hjL)
            generalize L[j]'_ = x at *
            obtain ⟨p8, c8, rfl, -⟩ := own_slice hO.out
            go_wp2_with (at_builtin; refine wpList_append_own _ rfl (.tmp 61) (.tmp 66) 24 rfl w1.heap.size 26 i0 (.int .u64 0) 1 8 Tryz.underlying24 hi hz0 hz1 hz2 rfl (by decide) _ _ _ rfl (own_keep (allocB _ _) hO.out) ⟨wr.heap.size, 0, none⟩ 1 1 [.int .u64 x] rfl rfl (one_lies _ _ rfl _ _) (one_int _ _) (by unfold maxLen; omega) (by omega) (by have := hY.out.size; simp; omega) ?_)
            intro v5 w5 hown hgrow _
            have Y5 := hidd ((hY.out.alloc hY.out.size (.cells #[.int .u64 x] 26)).grown hgrow (by have := hY.out.size; simp; omega) (own_block hO.out))
            have O5 : Hid (w5.ownsRow w1.heap.size 26 1 v5 (m + 1) (vals (M ++ [x]))) := hidd (by rw [show vals (M ++ [x]) = vals (M) ++ [.int .u64 x] by simp [vals]]; exact hown)
            clear hown hgrow
            have M5 : Hid ((∀ z ∈ M ++ [x], z ∈ L) ∧ (∀ z ∈ L.take (j + 1), z ∈ M ++ [x])) := hidd ⟨fun z hz => (List.mem_append.1 hz).elim (hM.out.1 z) (fun h => by rw [List.mem_singleton.1 h]; exact hjm.out), fun z hz => by
              rw [hnx.out] at hz
              exact List.mem_append.2 ((List.mem_append.1 hz).imp (hM.out.2 z) id)⟩
            clear hO hY hM c0
            go_wp2_with fail
            go_roundw
            case rel => exact ⟨j + 1, m + 1, M ++ [x], by omega, by omega, by go_num, M5, O5, Y5⟩
            case measure => simp [intOf]; omega
          · obtain rfl : j = i := by omega
            have hall : L.take j = L := List.take_of_length_le (by rw [EC.out]; omega)
            rw [hall] at hM
            have hml : M.length = m := by have := hO.out.1; rw [vals_len] at this; omega
            have EM := hidd hml
            have L2 := hidd (L1.out.keep hY.out)
            have M2 := hidd (Lst.own hO.out)
            have B2 := hidd (belowT B1.out hY.out)
            have CM := hidd (p_compact _ L (by have := EC.out; omega) UL.out wr L2.out)
            obtain ⟨p8, c8, rfl, -⟩ := own_slice hO.out
            have EQ : Hid (∀ x, x ∈ L ↔ x ∈ M) := hidd fun x => ⟨hM.out.2 x, hM.out.1 x⟩
            clear hO hY hM hall hml L1 B1 hlt
            go_wp2_with fail
            refine CM.out.mono ?_
            rintro e w2 ⟨hc, b2⟩
            obtain ⟨s2, P, rfl, hP, hPn, hPl, -, -⟩ := cmp_yes (r := n) HW.out (by have := EC.out; omega) hc
            have HP := hidd hP
            have NP : Hid (P.length ≤ 300) := hidd (by have := EC.out; omega)
            have P2 := hidd hPl
            obtain ⟨pp, cp, rfl, -, -⟩ := hPl
            have B3 := hidd (belowT B2.out b2)
            have CM := hidd (p_compact _ M (by have := EM.out; omega) (fun x hx => UL.out x ((EQ.out x).2 hx)) w2 (M2.out.keep b2))
            clear hc hP hPn b2 B2 M2 L2
            go_wp2_with fail
            refine CM.out.mono ?_
            rintro e w3 ⟨hc, b3⟩
            obtain ⟨s3, Q, rfl, hQ, -, hQl, -, -⟩ := cmp_yes (r := n) (fun x hx => HW.out x ((EQ.out x).2 hx)) (by have := EM.out; omega) hc
            obtain rfl : P = Q := HP.out.one n12 hQ EQ.out
            have SA := hidd (lsame _ s3 P (by have := NP.out; omega) w3 (P2.out.keep b3) hQl)
            have B4 := hidd (belowT B3.out b3)
            obtain ⟨p3, c3, rfl, -, -⟩ := hQl
            clear hc hQ b3 B3 P2 CM
            go_wp2_with fail
            refine SA.out.mono ?_
            rintro e w4 ⟨rfl, b4⟩
            have B5 := hidd (belowT B4.out b4)
            have A9 := hidd (AW.out w4 (HT.out.below B5.out))
            clear b4 B4 SA
            go_wp2_with fail
            refine A9.out.mono ?_
            rintro e w5 ⟨rfl, b5⟩
            go_wp2_with fail
            go_ret
            exact ⟨rfl, belowT B5.out b5⟩

end Go.Proofs.YtlfjfendlohekabGreatDoor
