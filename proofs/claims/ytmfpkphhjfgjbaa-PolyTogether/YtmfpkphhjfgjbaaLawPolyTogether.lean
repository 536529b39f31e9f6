/-
  The law PolyTogether answers true for every list of numbers and every two numbers, in whatever memory.
-/
import Derived.Test.YtmfpkphhjfgjbaaPMoved
import Derived.Laws.BitsAllLaws
import Derived.Handy
import Derived.Deep.QuietTactic
import Derived.Test.YtmfpkphhjfgjbaaProg
import Derived.WalkSpells
import Derived.WalkLawsBesides
import Derived.BigQuiet
import Derived.PlainAid
import Derived.Deep.RegionWith
import Derived.Deep.RegionHeld3
import Derived.WalkSmall
import Derived.Deep.CutRange
import Derived.BigRegion
import Derived.OwnWalk
import Derived.Laws.OwnMore
import Derived.OneCell
import Derived.Laws.CopyOwn
import Derived.Sort.Row
import Derived.ChangeSlices
import Derived.OpenShut
import Derived.Laws.AppendOwn
import Derived.Laws.AppendOwnNone
import Derived.BigFrame
import Derived.Deep.AppendLies
import Derived.Deep.RegionLaw
import Derived.RangeFuncFrom
import Derived.RangeFuncCalls
import Derived.RangeFuncLeaves
import Derived.WalkKit
import Derived.OwnWalkIn
import Derived.TacticsInMore
import Derived.LoopNIn
import Derived.LoopIn
import Derived.RegionIn
import Derived.Stop.RegionWithIn
import Derived.Deep.LoopGhost
import Derived.Lib.MinMax
namespace Go.Proofs.Ytmfpkphhjfgjbaa
open Go.RowKit

set_option maxHeartbeats 16000000 in
set_option maxRecDepth 20000 in
theorem polyTogether_walk (sX : Value) (X : List Int) (x y : Int) (w : World) (hX : LstK .i64 w sX X) (_ : ∀ x ∈ X, -9223372036854775808 ≤ x ∧ x ≤ 9223372036854775807) (_ : -9223372036854775808 ≤ x) (_ : x ≤ 9223372036854775807) (_ : -9223372036854775808 ≤ y) (_ : y ≤ 9223372036854775807) :
    Calls Try.prog 3 #[sX, .int .i64 x, .int .i64 y] w fun e w' => e = .returned (.bool true) ∧ Below w.heap.size w w' := by
  have AW := hidd fun w => pawake9 w
  have TM := hidd (tame sX X 60 (by omega) (by omega) w hX)
  obtain ⟨pX, cX, rfl, -, -⟩ := hX
  obtain ⟨i0, hi, hp0, hp1, hp2⟩ := info_parts infoP
  obtain ⟨U1, u, m1, m2, m3, m4, m5, m6, m7⟩ := mask_mod x 16 (by omega) 65535 65536 62 (by decide) (by decide) (by omega) (by omega)
  obtain ⟨U2, v, k1, k2, k3, k4, k5, k6, k7⟩ := mask_mod y 16 (by omega) 65535 65536 62 (by decide) (by decide) (by omega) (by omega)
  obtain ⟨P, eP⟩ : ∃ P, 500000 + u - 1 = P := ⟨_, rfl⟩
  obtain ⟨Q, eQ⟩ : ∃ Q, 500000 + v - 1 = Q := ⟨_, rfl⟩
  have P1 : 499999 ≤ P := by omega
  have P2 : P ≤ 500060 := by omega
  have Q1 : 499999 ≤ Q := by omega
  have Q2 : Q ≤ 500060 := by omega
  go_enter Try.func3, Try.ntmps3
  go_wp2_with fail
  refine TM.out.mono ?_
  rintro e w3 ⟨⟨sl, G, S, rfl, hG3, hGood, hRows⟩, b3⟩
  have B4 := hidd b3
  have RG := hidd hRows.rings
  have hRo := hRows.2.1
  obtain ⟨n, hn⟩ : ∃ n, G.length = n := ⟨_, rfl⟩
  rw [hn] at hRo hG3
  have HN := hidd hn
  obtain ⟨pg, cg, rfl, -⟩ := own_slice hRo
  clear b3 TM hRows hRo hn
  by_cases h0 : n = 0 ∨ 60 < X.length
  · have A9 := hidd (AW.out w3)
    have hc : (((n : Int) == 0) = true) ∨ (((n : Int) == 0) = false ∧ (60 : Int) < (X.length : Int)) := by
      by_cases h : n = 0
      · exact .inl (by simp [h])
      · exact .inr ⟨by simp; omega, by omega⟩
    rcases hc with hc | ⟨hc, hd⟩
    all_goals
      go_wp2_with fail
      refine A9.out.mono ?_
      rintro e w4 ⟨rfl, b4⟩
      go_wp2_with fail
      go_ret
      exact ⟨rfl, belowT B4.out b4⟩
  · have hn0 : ((n : Int) == 0) = false := by simp; omega
    have hx60 : decide ((60 : Int) < (X.length : Int)) = false := df (by omega)
    have hn1 : 0 < n := by omega
    have hn1' : (0 : Int) < (n : Int) := by omega
    obtain ⟨pg', cg', eg', -, hcg⟩ := RG.out
    simp only [Value.slice.injEq] at eg'
    obtain ⟨rfl, -, rfl⟩ := eg'
    obtain ⟨g, o, s, rfl, z0, hL0⟩ := hcg 0 (by rw [HN.out]; exact hn1)
    rw [Nat.add_zero] at z0
    have GD := hidd (hGood _ (List.getElem_mem (show 0 < G.length by rw [HN.out]; exact hn1)))
    obtain ⟨L, eL⟩ : ∃ L, G[0]'(by rw [HN.out]; exact hn1) = L := ⟨_, rfl⟩
    rw [eL] at hL0 GD
    have HL := hidd hL0
    obtain ⟨pL, cL, rfl, -, hcL⟩ := hL0
    have HCL := hidd hcL
    obtain ⟨l, el⟩ : ∃ l, L.length = l := ⟨_, rfl⟩
    have EL := hidd el
    rw [el] at z0 HL
    have l3 : 3 ≤ l := by have := GD.out.1; omega
    have l6 : l ≤ 6 := by have := GD.out.2.1; omega
    clear hcg hcL eL el h0 hGood RG
    go_wp2_with fail
    clear z0
    obtain ⟨wq, rfl⟩ : ∃ z, z = w3 := ⟨_, rfl⟩
    go_loopw [9, 10] (fun v9 v10 wr => ∃ i : Nat, i ≤ l ∧ v10 = .int .i64 (i : Int) ∧ Hid (wr.ownsRow wq.heap.size 27 2 v9 i (flat ((L.take i).map (sh 1000 0)))) ∧ Hid (Below wq.heap.size wq wr)) (fun _ v10 _ => l - (intOf v10).toNat)
    case atStart => exact ⟨0, by omega, rfl, hidd (by simpa [flat] using World.ownsRow_nil _ _ _ _), hidd (Below.refl _ _)⟩
    case round =>
      obtain ⟨i, hil, rfl, hO, hX2⟩ := hrel
      obtain ⟨p9, c9, rfl, -⟩ := own_slice hO.out
      have hsX := hX2.out.size
      by_cases hlt : i < l
      · have hlt' : (i : Int) < (l : Int) := by omega
        have hiL : i < L.length := by rw [EL.out]; exact hlt
        obtain ⟨g2, o2, rfl, x0, x1⟩ := HCL.out i hiL
        replace x0 := keepCell hX2.out x0
        replace x1 := keepCell hX2.out x1
        have nr := GD.out.2.2 _ (List.getElem_mem hiL)
        have NX : Hid (flat ((L.take (i + 1)).map (sh 1000 0)) = flat ((L.take i).map (sh 1000 0)) ++ [.int .i64 (L[i].1 + 1000), .int .i64 L[i].2]) := hidd (by
          rw [map_take _ _ hiL]
          have e : sh 1000 0 L[i] = (L[i].1 + 1000, L[i].2) := by unfold sh; rw [Int.add_zero]
          rw [e, flat_snoc])
        generalize L[i].1 = a at *
        generalize L[i].2 = b at *
        obtain ⟨n1, n2, n3, n4⟩ := nr
        have wa : IntKind.i64.wrap (a + 1000) = a + 1000 := by rw [IntKind.wrap_i64]; omega
        have XX := hidd hX2.out
        clear hX2
        go_wp2_with fail
        go_region_law ((refine step_append_lies _ (by rfl) _ _ _ (by rfl) wq.heap.size 27 i0 (.agg #[.int .i64 0, .int .i64 0]) 2 16 Try.underlying26 hi hp0 hp1 hp2 rfl (by decide) _ i (flat ((L.take i).map (sh 1000 0))) (by rfl) (own_keep (belowT (allocB wr _) (drewB _)) hO.out) ⟨wr.heap.size, 0, none⟩ 1 1 [.int .i64 (a + 1000), .int .i64 b] (by rfl) rfl (two_lie9 wr (a + 1000) b 27) (two_one9 _ _) (by decide) (by unfold maxLen; omega) (by omega) (by simp; omega) (wr.heap.size + 1) (by simp) ?_; intro g6 c6 w6 hown hgrow hat hlt6))
        all_goals
          have B6 := hidd (XX.out.trans (((allocB wr (.cells #[.int .i64 (a + 1000), .int .i64 b] 27)).mono hsX)) |>.drew |>.grown hgrow (by simp; omega) (own_block hO.out))
          have O6 : Hid (w6.ownsRow wq.heap.size 27 2 (.slice (some ⟨g6, 0, none⟩) (i + 1) c6) (i + 1) (flat ((L.take (i + 1)).map (sh 1000 0)))) := hidd (by rw [NX.out]; exact hown)
          clear hown hgrow hat hlt6 hO XX x0 x1
          go_wp2_with fail
          go_roundw
          case rel => exact ⟨i + 1, by omega, by go_num, O6, B6⟩
          case measure => simp [intOf]; omega
      · obtain rfl : i = l := by omega
        have hlt' : decide ((i : Int) < (i : Int)) = false := by simp
        have et : L.take i = L := List.take_of_length_le (by rw [EL.out]; omega)
        rw [et] at hO
        have hM := ring_own hO.out (by rw [List.length_map]; exact EL.out)
        have hL2 := HL.out.keep hX2.out
        have L4 := hidd (lit_four wr L (L.map (sh 1000 0)) (.slice pL i cL) (.slice p9 i c9) 26 hL2 hM)
        have B5 := hidd (belowT B4.out (belowT hX2.out L4.out.2.2.2.2))
        have NR := hidd GD.out.2.2
        have WL : Hid (∀ p ∈ L, InWo p) := hidd fun p hp => by have := NR.out p hp; exact ⟨by omega, by omega, by omega, by omega⟩
        have WM : Hid (∀ p ∈ L.map (sh 1000 0), InWo p ∧ 501000 ≤ p.1) := hidd fun p hp => by
          obtain ⟨q, hq, rfl⟩ := List.mem_map.1 hp
          have := NR.out q hq
          unfold sh
          exact ⟨⟨by show 0 ≤ q.1 + 1000; omega, by show q.1 + 1000 < _; omega, by show 0 ≤ q.2 + 0; omega, by show q.2 + 0 < _; omega⟩, by show 501000 ≤ q.1 + 1000; omega⟩
        have h3L : 3 ≤ L.length := by rw [EL.out]; exact l3
        have h3M : 3 ≤ (L.map (sh 1000 0)).length := by rw [List.length_map]; exact h3L
        have h6L : L.length ≤ 6 := by rw [EL.out]; exact l6
        have FACT : Hid (∀ j : Int, (j = 0 ∨ j = 1) → ∀ W, P + 1000 * j = W →
            (InT [L, L.map (sh 1000 0)] W Q ↔ InT [L] W Q ∨ InT [L.map (sh 1000 0)] W Q) ∧ (InT [L, L] W Q ↔ OnT [L] W Q) ∧ (InT [L.map (sh 1000 0)] W Q ↔ InT [L] (W - 1000) Q)) := hidd fun j hj W hW => by
          have fW : ¬ Far W Q := not_far (by omega) (by omega)
          refine ⟨in_both h3L h3M (by rw [List.length_map]; omega) WL.out (fun p hp => (WM.out p hp).1) fW ?_, in_twice h3L (by omega) WL.out fW, ?_⟩
          · rcases hj with rfl | rfl
            · right
              have hb : ∀ p ∈ L.map (sh 1000 0), W < p.1 := fun p hp => by have := (WM.out p hp).2; omega
              exact ⟨onN_beside (.inl hb), crN_left hb⟩
            · left
              have hb : ∀ p ∈ L, p.1 < W := fun p hp => by have := NR.out p hp; omega
              exact ⟨onN_beside (.inr (.inl hb)), by rw [crN_right hb]; rfl⟩
          · have := in_moved (L := L) (x := W - 1000) (y := Q) (dx := 1000) (dy := 0) h3L (by omega) WL.out (fun p hp => (WM.out p hp).1) (not_far (by omega) (by omega)) (not_far (by omega) (by omega))
            rw [show W - 1000 + 1000 = W by omega, Int.add_zero] at this
            exact this
        obtain ⟨M, eM⟩ : ∃ M, L.map (sh 1000 0) = M := ⟨_, rfl⟩
        rw [eM] at L4 FACT
        have lM : Hid (M.length ≤ 1000000) := hidd (by rw [← eM, List.length_map]; omega)
        have lL : Hid (L.length ≤ 1000000) := hidd (by omega)
        clear hlt et hO hM hL2 hX2 HL WL WM h3L h3M h6L eM B4 GD EL NR HCL l3 l6
        go_wp2_with fail
        clear m1 k1
        generalize (((wr.alloc (.cells #[.slice pL i cL] 26)).alloc (.cells #[.slice p9 i c9] 26)).alloc (.cells #[.slice pL i cL, .slice p9 i c9] 26)).alloc (.cells #[.slice pL i cL, .slice pL i cL] 26) = wk at *
        obtain ⟨wr', rfl⟩ : ∃ z, z = wr := ⟨_, rfl⟩
        go_loopw [17] (fun v17 wj => ∃ j : Nat, j ≤ 2 ∧ v17 = .int .i64 (j : Int) ∧ Hid (Below wk.heap.size wk wj)) (fun v17 _ => 2 - (intOf v17).toNat)
        case atStart => exact ⟨0, by omega, rfl, hidd (Below.refl _ _)⟩
        case round =>
          obtain ⟨j, hj, rfl, hY⟩ := hrel
          by_cases hj2 : j < 2
          · have hj2' : (j : Int) < 2 := by omega
            obtain ⟨J, eJ⟩ : ∃ J, 1000 * (j : Int) = J := ⟨_, rfl⟩
            obtain ⟨W, eW⟩ : ∃ W, P + J = W := ⟨_, rfl⟩
            have bJ : J = 0 ∨ J = 1000 := by omega
            have W1 : 499999 ≤ W := by omega
            have W2 : W ≤ 501060 := by omega
            obtain ⟨f1, f2, f3⟩ := FACT.out (j : Int) (by omega) W (by rw [eJ, eW])
            obtain ⟨t1, h1⟩ := prop_bool9 (InT [L] W Q)
            obtain ⟨t2, h2⟩ := prop_bool9 (InT [M] W Q)
            obtain ⟨t9, ho⟩ := prop_bool9 (OnT [L] W Q)
            have len1 : ∀ K ∈ [L], K.length ≤ 1000000 := fun K hK => by rw [List.mem_singleton.1 hK]; exact lL.out
            have len2 : ∀ K ∈ [M], K.length ≤ 1000000 := fun K hK => by rw [List.mem_singleton.1 hK]; exact lM.out
            have len3 : ∀ K ∈ [L, M], K.length ≤ 1000000 := fun K hK => by
              simp only [List.mem_cons, List.not_mem_nil, or_false] at hK
              rcases hK with rfl | rfl
              · exact lL.out
              · exact lM.out
            have len4 : ∀ K ∈ [L, L], K.length ≤ 1000000 := fun K hK => by
              simp only [List.mem_cons, List.not_mem_nil, or_false, or_self] at hK
              rw [hK]; exact lL.out
            have CB := hidd fun w h => p_inside (.slice (some ⟨wr'.heap.size + 1 + 1, 0, none⟩) 2 2) [L, M] W Q (t1 || t2) (by rw [Bool.or_eq_true, f1, h1, h2]) (by simp) len3 w h
            have C1 := hidd fun w h => p_inside (.slice (some ⟨wr'.heap.size, 0, none⟩) 1 1) [L] W Q t1 h1 (by simp) len1 w h
            have C2 := hidd fun w h => p_inside (.slice (some ⟨wr'.heap.size + 1, 0, none⟩) 1 1) [M] W Q t2 h2 (by simp) len2 w h
            have CT := hidd fun w h => p_inside (.slice (some ⟨wr'.heap.size + 1 + 1 + 1, 0, none⟩) 2 2) [L, L] W Q t9 (by rw [f2, ho]) (by simp) len4 w h
            have CO := hidd fun w h => p_on (.slice (some ⟨wr'.heap.size, 0, none⟩) 1 1) [L] W Q t9 ho (by simp) len1 w h
            have CM := hidd fun w h => p_inside (.slice (some ⟨wr'.heap.size, 0, none⟩) 1 1) [L] (W - 1000) Q t2 (by rw [h2, f3]) (by simp) len1 w h
            have R1 := hidd fun w' (h : Below wk.heap.size wk w') => L4.out.1.keep h
            have R2 := hidd fun w' (h : Below wk.heap.size wk w') => L4.out.2.1.keep h
            have RB := hidd fun w' (h : Below wk.heap.size wk w') => L4.out.2.2.1.keep h
            have RT := hidd fun w' (h : Below wk.heap.size wk w') => L4.out.2.2.2.1.keep h
            have q1 : (t9 != t9) = false := by simp
            have q2 : (t2 != t2) = false := by simp
            clear f1 f2 f3 h1 h2 ho len1 len2 len3 len4 FACT lL lM
            cases t1 with
            | true =>
              go_wp2_with fail
              refine (CB.out _ (RB.out _ hY.out)).mono ?_
              rintro e u1 ⟨rfl, b1⟩
              have Y1 := hidd (belowT hY.out b1)
              clear b1
              go_wp2_with fail
              refine (C1.out _ (R1.out _ Y1.out)).mono ?_
              rintro e u2 ⟨rfl, b2⟩
              have Y2 := hidd (belowT Y1.out b2)
              clear b2 Y1
              go_wp2_with fail
              refine (CT.out _ (RT.out _ Y2.out)).mono ?_
              rintro e u3 ⟨rfl, b3⟩
              have Y3 := hidd (belowT Y2.out b3)
              clear b3 Y2
              go_wp2_with fail
              refine (CO.out _ (R1.out _ Y3.out)).mono ?_
              rintro e u4 ⟨rfl, b4⟩
              have Y4 := hidd (belowT Y3.out b4)
              clear b4 Y3
              go_wp2_with fail
              refine (C2.out _ (R2.out _ Y4.out)).mono ?_
              rintro e u5 ⟨rfl, b5⟩
              have Y5 := hidd (belowT Y4.out b5)
              clear b5 Y4
              go_wp2_with fail
              refine (CM.out _ (R1.out _ Y5.out)).mono ?_
              rintro e u6 ⟨rfl, b6⟩
              have Y6 := hidd (belowT Y5.out b6)
              clear b6 Y5
              go_wp2_with fail
              go_roundw
              case rel => exact ⟨j + 1, by omega, by go_num, Y6⟩
              case measure => simp [intOf]; omega
            | false =>
              go_wp2_with fail
              refine (CB.out _ (RB.out _ hY.out)).mono ?_
              rintro e u1 ⟨rfl, b1⟩
              have Y1 := hidd (belowT hY.out b1)
              clear b1
              go_wp2_with fail
              refine (C1.out _ (R1.out _ Y1.out)).mono ?_
              rintro e u2 ⟨rfl, b2⟩
              have Y2 := hidd (belowT Y1.out b2)
              clear b2 Y1
              go_wp2_with fail
              refine (C2.out _ (R2.out _ Y2.out)).mono ?_
              rintro e u3 ⟨rfl, b3⟩
              have Y3 := hidd (belowT Y2.out b3)
              clear b3 Y2
              go_wp2_with fail
              refine (CT.out _ (RT.out _ Y3.out)).mono ?_
              rintro e u4 ⟨rfl, b4⟩
              have Y4 := hidd (belowT Y3.out b4)
              clear b4 Y3
              go_wp2_with fail
              refine (CO.out _ (R1.out _ Y4.out)).mono ?_
              rintro e u5 ⟨rfl, b5⟩
              have Y5 := hidd (belowT Y4.out b5)
              clear b5 Y4
              go_wp2_with fail
              refine (C2.out _ (R2.out _ Y5.out)).mono ?_
              rintro e u6 ⟨rfl, b6⟩
              have Y6 := hidd (belowT Y5.out b6)
              clear b6 Y5
              go_wp2_with fail
              refine (CM.out _ (R1.out _ Y6.out)).mono ?_
              rintro e u7 ⟨rfl, b7⟩
              have Y7 := hidd (belowT Y6.out b7)
              clear b7 Y6
              go_wp2_with fail
              go_roundw
              case rel => exact ⟨j + 1, by omega, by go_num, Y7⟩
              case measure => simp [intOf]; omega
          · obtain rfl : j = 2 := by omega
            have hj2' : decide (((2 : Nat) : Int) < 2) = false := by decide
            have B6 := hidd (belowT B5.out hY.out)
            have A9 := hidd (AW.out wr)
            clear hY hj2
            go_wp2_with fail
            refine A9.out.mono ?_
            rintro e w9 ⟨rfl, b9⟩
            go_wp2_with fail
            go_ret
            exact ⟨rfl, belowT B6.out b9⟩

end Go.Proofs.Ytmfpkphhjfgjbaa
