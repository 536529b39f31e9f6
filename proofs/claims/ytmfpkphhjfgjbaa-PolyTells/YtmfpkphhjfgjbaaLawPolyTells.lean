/-
  The law PolyTells answers true for every list of rings, every list of numbers and every two numbers, in whatever memory.
-/
import Derived.Test.YtmfpkphhjfgjbaaRPIn
import Derived.Test.YtmfpkphhjfgjbaaPBx
import Derived.Test.YtmfpkphhjfgjbaaPMoved
import Derived.Laws.BitsAllLaws
import Derived.Handy
import Derived.Deep.QuietTactic
import Derived.Test.YtmfpkphhjfgjbaaProg
import Derived.WalkSpells
import Derived.WalkLawsBesides
import Derived.BigQuiet
import Derived.PlainAid
import Derived.Deep.RegionWith
import Derived.Deep.RegionHeld3
import Derived.WalkSmall
import Derived.Deep.CutRange
import Derived.BigRegion
import Derived.OwnWalk
import Derived.Laws.OwnMore
import Derived.OneCell
import Derived.Laws.CopyOwn
import Derived.Sort.Row
import Derived.ChangeSlices
import Derived.OpenShut
import Derived.Laws.AppendOwn
import Derived.Laws.AppendOwnNone
import Derived.BigFrame
import Derived.Deep.AppendLies
import Derived.Deep.RegionLaw
import Derived.RangeFuncFrom
import Derived.RangeFuncCalls
import Derived.RangeFuncLeaves
import Derived.WalkKit
import Derived.OwnWalkIn
import Derived.TacticsInMore
import Derived.LoopNIn
import Derived.LoopIn
import Derived.RegionIn
import Derived.Stop.RegionWithIn
import Derived.Deep.LoopGhost
import Derived.Laws.StructEq
namespace Go.Proofs.Ytmfpkphhjfgjbaa
open Go.RowKit

theorem eq_same9 (x y : Int) (w : World) : (Op.equalIn 10000 27 (.agg #[.int .i64 x, .int .i64 y]) (.agg #[.int .i64 x, .int .i64 y])).run Try.prog w = .ok true w := by
  have hs : ∀ w, Sem.run Try.prog (sizeOf 2) w = .ok 1 w := fun _ => by kernel_rfl
  have h0 : ∀ (x y : Int) w, Sem.run Try.prog (Go.part 2 #[.int .i64 x, .int .i64 y] 0) w = .ok (.int .i64 x) w := fun _ _ _ => by kernel_rfl
  have h1 : ∀ (x y : Int) w, Sem.run Try.prog (Go.part 2 #[.int .i64 x, .int .i64 y] 1) w = .ok (.int .i64 y) w := fun _ _ _ => by kernel_rfl
  rw [Op.equalIn]
  simp only [Sem.run_bind, run_underlying Try.underlying27, Result.andThen_ok, hs]
  have hr : List.range' 0 2 1 = [0, 1] := by decide
  simp only [Std.Legacy.Range.forIn_eq_forIn_range', Std.Legacy.Range.size, Nat.sub_zero, Nat.add_sub_cancel, Nat.div_one, hr, List.forIn_cons, List.forIn_nil, Sem.run_bind, Nat.zero_mul, Nat.one_mul, h0, Result.andThen_ok, run_equalIn_int _ _ _ _ _ _ _ Try.underlying2]
  simp [h1, run_equalIn_int _ _ _ _ _ _ _ Try.underlying2]

theorem rings_at {w : World} {g o m cap : Nat} {G : List (List (Int × Int))} (h : RingsL w (.slice (some ⟨g, o, none⟩) m cap) G) {k : Nat} (hk : k < G.length) : RingsL w (.slice (some ⟨g, o + k, none⟩) 1 (cap - k)) [G[k]] := by
  obtain ⟨p, c, e, hc, h⟩ := h
  simp only [Value.slice.injEq] at e
  obtain ⟨rfl, rfl, rfl⟩ := e
  refine ⟨_, _, rfl, by show 1 ≤ _; omega, fun j hj => ?_⟩
  obtain rfl : j = 0 := by
    have : j < 1 := hj
    omega
  obtain ⟨g', o', s, e, h1, h2⟩ := h k hk
  simp only [Option.some.injEq, Addr.mk.injEq, and_true] at e
  obtain ⟨rfl, rfl⟩ := e
  exact ⟨_, _, s, rfl, h1, h2⟩

set_option maxHeartbeats 16000000 in
set_option maxRecDepth 20000 in
theorem polyTells_walk (sR : Value) (RR : List (List (Int × Int))) (sX : Value) (X : List Int) (x y : Int) (w : World) (hR : RingsL w sR RR) (hX : LstK .i64 w sX X) (_ : ∀ x ∈ X, -9223372036854775808 ≤ x ∧ x ≤ 9223372036854775807) (_ : -9223372036854775808 ≤ x) (_ : x ≤ 9223372036854775807) (_ : -9223372036854775808 ≤ y) (_ : y ≤ 9223372036854775807) :
    Calls Try.prog 6 #[sR, sX, .int .i64 x, .int .i64 y] w fun e w' => e = .returned (.bool true) ∧ Below w.heap.size w w' := by
  have AW := hidd fun w => pawake9 w
  have TM := hidd fun w h => tame sX X 40 (by omega) (by omega) w h
  have LX := hidd hX
  have HR := hidd hR
  obtain ⟨pX, cX, rfl, -, -⟩ := hX
  obtain ⟨p, cap, rfl, -, hcR⟩ := hR
  have HCR := hidd hcR
  obtain ⟨m, em⟩ : ∃ m, RR.length = m := ⟨_, rfl⟩
  have EM := hidd em
  rw [em] at HR ⊢
  clear em hcR
  by_cases h0 : 25 < m ∨ 60 < X.length
  · have A9 := hidd (AW.out w)
    have hc : ((25 : Int) < (m : Int)) ∨ (decide ((25 : Int) < (m : Int)) = false ∧ (60 : Int) < (X.length : Int)) := by
      by_cases h : 25 < m
      · exact .inl (by omega)
      · exact .inr ⟨df (by omega), by omega⟩
    clear HR HCR TM LX AW h0
    go_enter Try.func6, Try.ntmps6
    rcases hc with hc | ⟨hc, hd⟩
    all_goals
      go_wp2_with fail
      refine A9.out.mono ?_
      rintro e w4 ⟨rfl, b4⟩
      go_wp2_with fail
      go_ret
      exact ⟨rfl, b4⟩
  · have hm25 : decide ((25 : Int) < (m : Int)) = false := df (by omega)
    have hx60 : decide ((60 : Int) < (X.length : Int)) = false := df (by omega)
    have M25 : m ≤ 25 := by omega
    obtain ⟨U1, u1, m1, m2, m3, m4, m5, m6, m7⟩ := mask_mod x 16 (by omega) 65535 65536 42 (by decide) (by decide) (by omega) (by omega)
    obtain ⟨U2, u2, k1, k2, k3, k4, k5, k6, k7⟩ := mask_mod y 16 (by omega) 65535 65536 42 (by decide) (by decide) (by omega) (by omega)
    clear h0
    go_enter Try.func6, Try.ntmps6
    go_wp2_with fail
    go_loopw [9] (fun v9 wr => ∃ i : Nat, i ≤ m ∧ v9 = .int .i64 (i : Int) ∧ Hid (∀ (j : Nat) (hj : j < RR.length), j < i → RR[j].length ≤ 60) ∧ wr = w) (fun v9 _ => m - (intOf v9).toNat)
    case atStart => exact ⟨0, by omega, rfl, hidd fun j _ h => absurd h (Nat.not_lt_zero _), rfl⟩
    case round =>
      obtain ⟨i, hi, rfl, hI, rfl⟩ := hrel
      by_cases him : i < m
      · have him' : (i : Int) < (m : Int) := by omega
        have hiR : i < RR.length := by rw [EM.out]; exact him
        obtain ⟨g, o, s, rfl, x0, hL⟩ := HCR.out i hiR
        obtain ⟨pL, cL, rfl, -, -⟩ := hL
        by_cases h60 : 60 < RR[i].length
        · have h60' : (60 : Int) < (RR[i].length : Int) := by omega
          have A9 := hidd (AW.out wr)
          clear hI HR HCR TM LX AW
          go_wp2_with fail
          refine A9.out.mono ?_
          rintro e w4 ⟨rfl, b4⟩
          go_wp2_with fail
          go_ret
          exact ⟨rfl, b4⟩
        · have h60' : decide ((60 : Int) < (RR[i].length : Int)) = false := df (by omega)
          have hI2 : Hid (∀ (j : Nat) (hj : j < RR.length), j < i + 1 → RR[j].length ≤ 60) := hidd fun j hj h => by
            rcases Nat.lt_or_ge j i with q | q
            · exact hI.out j hj q
            · obtain rfl : j = i := by omega
              omega
          clear hI
          generalize RR[i].length = l at *
          go_wp2_with fail
          go_roundw
          case rel => exact ⟨i + 1, by omega, by go_num, hI2, by first | rfl | trivial⟩
          case measure => simp [intOf]; omega
      · obtain rfl : i = m := by omega
        have him' : decide ((i : Int) < (i : Int)) = false := by simp
        have LB : Hid (RR.length ≤ 25 ∧ ∀ L ∈ RR, L.length ≤ 60) := hidd ⟨by rw [EM.out]; exact M25, fun L hL => by
          obtain ⟨j, hj, rfl⟩ := List.mem_iff_getElem.1 hL
          exact hI.out j hj (by rw [← EM.out]; exact hj)⟩
        clear hI him HCR
        obtain ⟨w, rfl⟩ : ∃ z, z = wr := ⟨_, rfl⟩
        go_wp2_with fail
        go_loopw [10, 11, 12, 13] (fun v10 v11 v12 v13 wr => ∃ (i : Nat) (G : List (List (Int × Int))) (u v : Int), i ≤ 2 ∧ v13 = .int .i64 (i : Int) ∧ v11 = .int .i64 u ∧ v12 = .int .i64 v ∧ Hid (RingsL wr v10 G) ∧ Hid (G.length ≤ 25 ∧ ∀ L ∈ G, L.length ≤ 60) ∧ Hid (Below w.heap.size w wr)) (fun _ _ _ v13 _ => 2 - (intOf v13).toNat)
        case atStart => exact ⟨0, RR, x, y, by omega, rfl, rfl, rfl, by rw [← EM.out] at HR ⊢; exact HR, LB, hidd (Below.refl _ _)⟩
        case round =>
          clear HR LB
          obtain ⟨j, G, u, v, hj2, rfl, rfl, rfl, hG, hGB, hB⟩ := hrel
          by_cases hj : j < 2
          · have hj' : (j : Int) < 2 := by omega
            obtain ⟨ob, hob⟩ := prop_bool9 (OnT G u v)
            obtain ⟨nb, hnb⟩ := prop_bool9 (InT G u v)
            have hn : G.length ≤ 1000000 := by have := hGB.out.1; omega
            have hl : ∀ L ∈ G, L.length ≤ 1000000 := fun L hL => by have := hGB.out.2 L hL; omega
            have GR := hidd hG.out
            obtain ⟨pG, cG, rfl, -, hcG⟩ := hG.out
            have HCG := hidd hcG
            have CB := hidd fun w h => p_box (.slice pG G.length cG) G hn hl w h
            have RB := hidd fun w h => r_pbox (.slice pG G.length cG) G hn hl w h
            have CK := hidd fun w h => p_check (.slice pG G.length cG) G hn hl w h
            have RK := hidd fun w h => r_pcheck (.slice pG G.length cG) G hn hl w h
            have CO := hidd fun w h => p_on (.slice pG G.length cG) G u v ob hob hn hl w h
            have RO := hidd fun w h => r_on (.slice pG G.length cG) G u v ob hob hn hl w h
            have CI := hidd fun w h => p_inside (.slice pG G.length cG) G u v nb hnb hn hl w h
            have RI := hidd fun w h => r_inside (.slice pG G.length cG) G u v nb hnb hn hl w h
            obtain ⟨n, en⟩ : ∃ n, G.length = n := ⟨_, rfl⟩
            have EN := hidd en
            rw [en] at GR CB RB CK RK CO RO CI RI
            have n25 : n ≤ 25 := by have := hGB.out.1; omega
            have BG := hidd hGB.out.2
            clear hcG hn hl hob hnb hG hGB
            obtain ⟨wl, rfl⟩ : ∃ z, z = wr := ⟨_, rfl⟩
            rw [en]
            clear en
            go_wp2_with fail
            refine (CB.out _ GR.out).mono ?_
            rintro e wa ⟨⟨lo, hi, rfl, hbx⟩, ba⟩
            have BA := hidd ba
            have HBX := hidd hbx
            obtain ⟨lo0, lo1⟩ := lo
            obtain ⟨hi0, hi1⟩ := hi
            clear ba hbx CB
            dsimp only
            go_wp2_with fail
            have BA2 := hidd (belowT (allocB wa (.cells #[.int .i64 lo0, .int .i64 lo1] 27)) (allocB _ (.cells #[.int .i64 hi0, .int .i64 hi1] 27)))
            refine (RB.out _ (GR.out.keep (belowT BA.out BA2.out))).mono ?_
            rintro e wb ⟨⟨lo', hi', rfl, hbx⟩, bb⟩
            obtain ⟨rfl, rfl⟩ := HBX.out.one hbx
            dsimp only
            have y0 := keepCell bb (show ((wa.alloc (.cells #[.int .i64 lo0, .int .i64 lo1] 27)).alloc (.cells #[.int .i64 hi0, .int .i64 hi1] 27)).cell? ⟨wa.heap.size, 0, none⟩ = some (.int .i64 lo0) by go_simp)
            have y1 := keepCell bb (show ((wa.alloc (.cells #[.int .i64 lo0, .int .i64 lo1] 27)).alloc (.cells #[.int .i64 hi0, .int .i64 hi1] 27)).cell? ⟨wa.heap.size, 1, none⟩ = some (.int .i64 lo1) by go_simp)
            have y2 := keepCell bb (show ((wa.alloc (.cells #[.int .i64 lo0, .int .i64 lo1] 27)).alloc (.cells #[.int .i64 hi0, .int .i64 hi1] 27)).cell? ⟨wa.heap.size + 1, 0, none⟩ = some (.int .i64 hi0) by go_simp)
            have y3 := keepCell bb (show ((wa.alloc (.cells #[.int .i64 lo0, .int .i64 lo1] 27)).alloc (.cells #[.int .i64 hi0, .int .i64 hi1] 27)).cell? ⟨wa.heap.size + 1, 1, none⟩ = some (.int .i64 hi1) by go_simp)
            have BBl := hidd (belowT (belowT BA.out BA2.out) bb)
            clear bb hbx HBX BA2 BA RB
            obtain ⟨A0, eA0⟩ : ∃ z, wa.heap.size = z := ⟨_, rfl⟩
            obtain ⟨A1, eA1⟩ : ∃ z, wa.heap.size + 1 = z := ⟨_, rfl⟩
            rw [eA0] at y0 y1
            rw [eA1] at y2 y3
            rw [eA0] at eA1
            rw [eA0, eA1]
            clear eA0 eA1
            go_wp2_with fail
            have q0 := keepCell (belowT (allocB wb (.cells #[.int .i64 lo0, .int .i64 lo1] 27)) (allocB _ (.cells #[.int .i64 hi0, .int .i64 hi1] 27))) y0
            have q1 := keepCell (belowT (allocB wb (.cells #[.int .i64 lo0, .int .i64 lo1] 27)) (allocB _ (.cells #[.int .i64 hi0, .int .i64 hi1] 27))) y1
            have q2 := keepCell (belowT (allocB wb (.cells #[.int .i64 lo0, .int .i64 lo1] 27)) (allocB _ (.cells #[.int .i64 hi0, .int .i64 hi1] 27))) y2
            have q3 := keepCell (belowT (allocB wb (.cells #[.int .i64 lo0, .int .i64 lo1] 27)) (allocB _ (.cells #[.int .i64 hi0, .int .i64 hi1] 27))) y3
            have q4 : ((wb.alloc (.cells #[.int .i64 lo0, .int .i64 lo1] 27)).alloc (.cells #[.int .i64 hi0, .int .i64 hi1] 27)).cell? ⟨wb.heap.size, 0, none⟩ = some (.int .i64 lo0) := by go_simp
            have q5 : ((wb.alloc (.cells #[.int .i64 lo0, .int .i64 lo1] 27)).alloc (.cells #[.int .i64 hi0, .int .i64 hi1] 27)).cell? ⟨wb.heap.size, 1, none⟩ = some (.int .i64 lo1) := by go_simp
            have q6 : ((wb.alloc (.cells #[.int .i64 lo0, .int .i64 lo1] 27)).alloc (.cells #[.int .i64 hi0, .int .i64 hi1] 27)).cell? ⟨wb.heap.size + 1, 0, none⟩ = some (.int .i64 hi0) := by go_simp
            have q7 : ((wb.alloc (.cells #[.int .i64 lo0, .int .i64 lo1] 27)).alloc (.cells #[.int .i64 hi0, .int .i64 hi1] 27)).cell? ⟨wb.heap.size + 1, 1, none⟩ = some (.int .i64 hi1) := by go_simp
            have BC := hidd (belowT BBl.out (belowT (allocB wb (.cells #[.int .i64 lo0, .int .i64 lo1] 27)) (allocB _ (.cells #[.int .i64 hi0, .int .i64 hi1] 27))))
            generalize (wb.alloc (.cells #[.int .i64 lo0, .int .i64 lo1] 27)).alloc (.cells #[.int .i64 hi0, .int .i64 hi1] 27) = wc at *
            obtain ⟨A2, eA2⟩ : ∃ z, wb.heap.size = z := ⟨_, rfl⟩
            obtain ⟨A3, eA3⟩ : ∃ z, wb.heap.size + 1 = z := ⟨_, rfl⟩
            rw [eA2] at q4 q5
            rw [eA3] at q6 q7
            rw [eA2] at eA3
            rw [eA2, eA3]
            clear eA2 eA3 y0 y1 y2 y3 BBl
            have QQ : Hid (∀ w', Below wc.heap.size wc w' → w'.cell? ⟨A0, 0, none⟩ = some (.int .i64 lo0) ∧ w'.cell? ⟨A0, 1, none⟩ = some (.int .i64 lo1) ∧ w'.cell? ⟨A1, 0, none⟩ = some (.int .i64 hi0) ∧ w'.cell? ⟨A1, 1, none⟩ = some (.int .i64 hi1) ∧ w'.cell? ⟨A2, 0, none⟩ = some (.int .i64 lo0) ∧ w'.cell? ⟨A2, 1, none⟩ = some (.int .i64 lo1) ∧ w'.cell? ⟨A3, 0, none⟩ = some (.int .i64 hi0) ∧ w'.cell? ⟨A3, 1, none⟩ = some (.int .i64 hi1)) := hidd fun w' h => ⟨keepCell h q0, keepCell h q1, keepCell h q2, keepCell h q3, keepCell h q4, keepCell h q5, keepCell h q6, keepCell h q7⟩
            clear q0 q1 q2 q3 q4 q5 q6 q7
            refine (CK.out _ (GR.out.keep BC.out)).mono ?_
            rintro e w1 ⟨⟨t, rfl, ht⟩, b⟩
            have Y1 := hidd b
            clear b CK
            go_wp2_with fail
            refine (RK.out _ (GR.out.keep (belowT BC.out Y1.out))).mono ?_
            rintro e w2 ⟨⟨t', rfl, ht'⟩, b⟩
            obtain rfl := ht.one ht'
            have Y2 := hidd (belowT Y1.out b)
            have tt : (t != t) = false := by simp
            clear b Y1 RK ht ht'
            go_wp2_with fail
            refine (CO.out _ (GR.out.keep (belowT BC.out Y2.out))).mono ?_
            rintro e w3 ⟨rfl, b⟩
            have Y3 := hidd (belowT Y2.out b)
            clear b Y2 CO tt
            go_wp2_with fail
            refine (RO.out _ (GR.out.keep (belowT BC.out Y3.out))).mono ?_
            rintro e w4 ⟨rfl, b⟩
            have Y4 := hidd (belowT Y3.out b)
            have tt : (ob != ob) = false := by simp
            clear b Y3 RO
            go_wp2_with fail
            refine (CI.out _ (GR.out.keep (belowT BC.out Y4.out))).mono ?_
            rintro e w5 ⟨rfl, b⟩
            have Y5 := hidd (belowT Y4.out b)
            clear b Y4 CI tt
            go_wp2_with fail
            refine (RI.out _ (GR.out.keep (belowT BC.out Y5.out))).mono ?_
            rintro e w6 ⟨rfl, b⟩
            have Y6 := hidd (belowT Y5.out b)
            have tt : (nb != nb) = false := by simp
            clear b Y5 RI
            obtain ⟨q0, q1, q2, q3, q4, q5, q6, q7⟩ := QQ.out w6 Y6.out
            have HE := eq_same9
            have B6 := hidd (belowT BC.out Y6.out)
            clear BC QQ Y6
            go_wp2_with fail
            clear q0 q1 q2 q3 q4 q5 q6 q7 HE tt
            go_loopw [18] (fun v18 wr => ∃ k : Nat, k ≤ n ∧ v18 = .int .i64 (k : Int) ∧ Hid (Below wl.heap.size wl wr)) (fun v18 _ => n - (intOf v18).toNat)
            case atStart => exact ⟨0, by omega, rfl, B6⟩
            case round =>
              clear B6
              obtain ⟨k, hk, rfl, hZ⟩ := hrel
              by_cases hkn : k < n
              · have hkn' : (k : Int) < (n : Int) := by omega
                have hkG : k < G.length := by rw [EN.out]; exact hkn
                obtain ⟨g, o, s, rfl, x0, hS⟩ := HCG.out k hkG
                have S1 := hidd (rings_at GR.out hkG)
                have S2 := hidd hS
                obtain ⟨pS, cS, rfl, -, -⟩ := hS
                have h60 := BG.out _ (List.getElem_mem hkG)
                have X0 := hidd x0
                obtain ⟨R, eR⟩ : ∃ R, G[k] = R := ⟨_, rfl⟩
                rw [eR] at X0 S1 S2 h60
                have hncG : n ≤ cG := by
                  obtain ⟨_, _, e, hc, -⟩ := GR.out
                  simp only [Value.slice.injEq] at e
                  omega
                have CS := hidd fun w h => p_area2 (.slice pS R.length cS) R (by omega) w h
                have KS := hidd fun w h => r_pcheck (.slice (some ⟨g, o + k, none⟩) 1 (cG - k)) [R] (by simp) (fun L hL => by rw [List.mem_singleton.1 hL]; omega) w h
                obtain ⟨wk, rfl⟩ : ∃ z, z = wr := ⟨_, rfl⟩
                clear x0 eR
                go_wp2_with fail
                refine (KS.out _ (S1.out.keep hZ.out)).mono ?_
                rintro e w1 ⟨⟨t, rfl, ht⟩, b⟩
                have Y1 := hidd (belowT hZ.out b)
                clear b KS
                by_cases hok : Okay [R]
                · obtain rfl := (chk_zero ht).2 hok
                  have x1 := keepCell Y1.out X0.out
                  have RA := hidd fun w h => r_area (.slice pS R.length cS) R (okay_one.1 hok).2.1 (okay_one.1 hok).2.2 w h
                  clear ht
                  go_wp2_with fail
                  refine (RA.out _ (S2.out.keep Y1.out)).mono ?_
                  rintro e w2 ⟨rfl, b⟩
                  have Y2 := hidd (belowT Y1.out b)
                  have x2 := keepCell Y2.out X0.out
                  clear b x1 Y1 RA
                  go_wp2_with fail
                  refine (CS.out _ (S2.out.keep Y2.out)).mono ?_
                  rintro e w3 ⟨⟨z, rfl, hz⟩, b⟩
                  obtain rfl : z = wrap64 (area R) := by
                    rcases hz with ⟨-, h⟩ | ⟨h, -⟩
                    · exact h
                    · exact absurd hok h
                  have Y3 := hidd (belowT Y2.out b)
                  have tt : (wrap64 (area R) != wrap64 (area R)) = false := by simp
                  clear b x2 Y2 CS hz
                  generalize wrap64 (area R) = z at *
                  go_wp2_with fail
                  go_roundw
                  case rel => exact ⟨k + 1, by omega, by go_num, Y3⟩
                  case measure => simp [intOf]; omega
                · have t0 : (t == 0) = false := by
                    simp only [beq_eq_false_iff_ne, ne_eq]
                    rw [chk_zero ht]
                    exact hok
                  have x1 := keepCell Y1.out X0.out
                  clear ht
                  go_wp2_with fail
                  refine (CS.out _ (S2.out.keep Y1.out)).mono ?_
                  rintro e w3 ⟨⟨z, rfl, hz⟩, b⟩
                  obtain rfl : z = 0 := by
                    rcases hz with ⟨h, -⟩ | ⟨-, h⟩
                    · exact absurd h hok
                    · exact h
                  have Y3 := hidd (belowT Y1.out b)
                  clear b x1 Y1 CS hz
                  go_wp2_with fail
                  go_roundw
                  case rel => exact ⟨k + 1, by omega, by go_num, Y3⟩
                  case measure => simp [intOf]; omega
              · obtain rfl : k = n := by omega
                have hkn' : decide ((k : Int) < (k : Int)) = false := by simp
                have BZ := hidd (belowT hB.out hZ.out)
                have LXZ := hidd (LX.out.keep BZ.out)
                clear hkn BG HCG GR hZ hB
                go_wp2_with fail
                refine (TM.out _ LXZ.out).mono ?_
                rintro e w7 ⟨⟨sl, G', S, rfl, hG3, hGood, hRows⟩, b⟩
                have B7 := hidd (belowT BZ.out b)
                have HG' := hidd hRows.rings
                have GB' : Hid (G'.length ≤ 25 ∧ ∀ L ∈ G', L.length ≤ 60) := hidd ⟨by omega, fun L hL => by have := (hGood L hL).2.1; omega⟩
                clear b BZ LXZ hRows hGood
                go_wp2_with fail
                go_roundw
                case rel => exact ⟨j + 1, G', 500000 + u1 - 1, 500000 + u2 - 1, by omega, by go_num, rfl, rfl, HG', GB', B7⟩
                case measure => simp [intOf]; omega
          · obtain rfl : j = 2 := by omega
            have hj' : decide (((2 : Nat) : Int) < 2) = false := by decide
            have A9 := hidd (AW.out wr)
            clear AW TM hG hGB
            go_wp2_with fail
            refine A9.out.mono ?_
            rintro e w4 ⟨rfl, b4⟩
            go_wp2_with fail
            go_ret
            exact ⟨rfl, belowT hB.out b4⟩

end Go.Proofs.Ytmfpkphhjfgjbaa
