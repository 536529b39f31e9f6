/-
  Layer 9's law PolyThree, walked: a triangle of any three corners, any point near it.
-/
import Derived.Test.YtmfpkphhjfgjbabPLit
import Derived.Laws.BitsAllLaws
import Derived.Handy
import Derived.Deep.QuietTactic
import Derived.Test.YtmfpkphhjfgjbabProg
import Derived.WalkSpells
import Derived.WalkLawsBesides
import Derived.BigQuiet
import Derived.PlainAid
import Derived.Deep.RegionWith
import Derived.Deep.RegionHeld3
import Derived.WalkSmall
import Derived.Deep.CutRange
import Derived.BigRegion
import Derived.OwnWalk
import Derived.Laws.OwnMore
import Derived.OneCell
import Derived.Laws.CopyOwn
import Derived.Sort.Row
import Derived.ChangeSlices
import Derived.OpenShut
import Derived.Laws.AppendOwn
import Derived.Laws.AppendOwnNone
import Derived.BigFrame
import Derived.Deep.AppendLies
import Derived.Deep.RegionLaw
import Derived.RangeFuncFrom
import Derived.RangeFuncCalls
import Derived.RangeFuncLeaves
import Derived.WalkKit
import Derived.OwnWalkIn
import Derived.TacticsInMore
import Derived.LoopNIn
import Derived.LoopIn
import Derived.RegionIn
import Derived.Stop.RegionWithIn
namespace Go.Proofs.Ytmfpkphhjfgjbab
open Go.RowKit

theorem mask_three (z : Int) (k : Nat) (hk : k ≤ 32) (m n : Int) (hm : (((2 ^ k - 1 : Nat)) : Int) = m) (hn : (((2 ^ k : Nat)) : Int) = n) (h0 : 0 < n) : ∃ A : Int, bits .and .i64 z m = A ∧ 0 ≤ A ∧ A < n := by
  have h := i64_mask z k (by omega)
  rw [hm, hn] at h
  exact ⟨_, h, Int.emod_nonneg _ (by omega), Int.emod_lt_of_pos _ h0⟩

theorem prod_small {a b : Int} (a0 : -64 < a) (a1 : a < 64) (b0 : -200 ≤ b) (b1 : b ≤ 200) : -12800 ≤ a * b ∧ a * b ≤ 12800 := by
  have h : (a * b).natAbs ≤ 64 * 200 := by
    rw [Int.natAbs_mul]
    exact Nat.mul_le_mul (by omega) (by omega)
  omega

/-- On which side of edge k. -/
def triC (L : List (Int × Int)) (U V : Int) (k : Nat) : Int := crs (pt L k) (pt L ((k + 1) % 3)) U V

theorem all_next {P : Nat → Prop} {k n : Nat} (h : n = 0 ↔ ∀ i, i < k → P i) : (P k → (n = 0 ↔ ∀ i, i < k + 1 → P i)) ∧ (¬ P k → (n + 1 = 0 ↔ ∀ i, i < k + 1 → P i)) := by
  refine ⟨fun hp => h.trans ⟨fun h i hi => ?_, fun h i hi => h i (by omega)⟩, fun hp => ⟨fun h => by omega, fun h => absurd (h k (by omega)) hp⟩⟩
  by_cases c : i = k
  · rw [c]; exact hp
  · exact h i (by omega)

theorem prop_bool3 (P : Prop) : ∃ b : Bool, b = true ↔ P := by
  classical
  exact ⟨decide P, by simp⟩

theorem three_area {L : List (Int × Int)} {p q s : Int × Int} (e : [p, q, s] = L) (h : ∀ p ∈ L, 0 ≤ p.1 ∧ p.1 < 64 ∧ 0 ≤ p.2 ∧ p.2 < 64) : -100000 ≤ area L ∧ area L ≤ 100000 := by
  subst e
  have hp := h p (by simp)
  have hq := h q (by simp)
  have hs := h s (by simp)
  have f : ∀ a b : Int × Int, (0 ≤ a.1 ∧ a.1 < 64 ∧ 0 ≤ a.2 ∧ a.2 < 64) → (0 ≤ b.1 ∧ b.1 < 64 ∧ 0 ≤ b.2 ∧ b.2 < 64) → -30000 ≤ ar2 a b ∧ ar2 a b ≤ 30000 := fun a b ha hb => by
    have h1 := prod_small (a := a.1) (b := b.2) (by omega) (by omega) (by omega) (by omega)
    have h2 := prod_small (a := b.1) (b := a.2) (by omega) (by omega) (by omega) (by omega)
    unfold ar2
    omega
  have h1 := f p q hp hq
  have h2 := f q s hq hs
  have h3 := f s p hs hp
  have e : area [p, q, s] = ar2 p q + ar2 q s + ar2 s p := cyc3 ar2 p q s
  omega

theorem three_in {L : List (Int × Int)} {p q s : Int × Int} (e : [p, q, s] = L) (U V : Int) (ha : area L ≠ 0) : (0 < onN L U V ∨ crN L U V % 2 = 1) ↔ (∀ i, i < 3 → 0 ≤ triC L U V i) ∨ (∀ i, i < 3 → triC L U V i ≤ 0) := by
  subst e
  rw [tri_in ha]
  have h0 : triC [p, q, s] U V 0 = crs p q U V := rfl
  have h1 : triC [p, q, s] U V 1 = crs q s U V := rfl
  have h2 : triC [p, q, s] U V 2 = crs s p U V := rfl
  constructor
  · rintro (⟨a, b, c⟩ | ⟨a, b, c⟩)
    · refine .inl fun i hi => ?_
      obtain rfl | rfl | rfl : i = 0 ∨ i = 1 ∨ i = 2 := by omega
      · rw [h0]; exact a
      · rw [h1]; exact b
      · rw [h2]; exact c
    · refine .inr fun i hi => ?_
      obtain rfl | rfl | rfl : i = 0 ∨ i = 1 ∨ i = 2 := by omega
      · rw [h0]; exact a
      · rw [h1]; exact b
      · rw [h2]; exact c
  · rintro (h | h)
    · exact .inl ⟨h0 ▸ h 0 (by omega), h1 ▸ h 1 (by omega), h2 ▸ h 2 (by omega)⟩
    · exact .inr ⟨h0 ▸ h 0 (by omega), h1 ▸ h 1 (by omega), h2 ▸ h 2 (by omega)⟩

theorem three_none {L : List (Int × Int)} {p q s : Int × Int} (e : [p, q, s] = L) (U V : Int) (ha : area L = 0) : (0 < onN L U V ∨ crN L U V % 2 = 1) ↔ 0 < onN L U V := by
  subst e
  exact tri_none ha

set_option maxHeartbeats 16000000 in
set_option maxRecDepth 20000 in
theorem polyThree_walk (p0 p1 q0 q1 s0 s1 x y : Int) (w : World) :
    Calls Try.prog 3 #[.agg #[.int .i64 p0, .int .i64 p1], .agg #[.int .i64 q0, .int .i64 q1], .agg #[.int .i64 s0, .int .i64 s1], .int .i64 x, .int .i64 y] w fun e w' => e = .returned (.bool true) ∧ Below w.heap.size w w' := by
  obtain ⟨P0, eP0, P01, P02⟩ := mask_three p0 6 (by omega) 63 64 rfl rfl (by omega)
  obtain ⟨P1, eP1, P11, P12⟩ := mask_three p1 6 (by omega) 63 64 rfl rfl (by omega)
  obtain ⟨Q0, eQ0, Q01, Q02⟩ := mask_three q0 6 (by omega) 63 64 rfl rfl (by omega)
  obtain ⟨Q1, eQ1, Q11, Q12⟩ := mask_three q1 6 (by omega) 63 64 rfl rfl (by omega)
  obtain ⟨S0, eS0, S01, S02⟩ := mask_three s0 6 (by omega) 63 64 rfl rfl (by omega)
  obtain ⟨S1, eS1, S11, S12⟩ := mask_three s1 6 (by omega) 63 64 rfl rfl (by omega)
  obtain ⟨U0, eU0, U01, U02⟩ := mask_three x 7 (by omega) 127 128 rfl rfl (by omega)
  obtain ⟨V0, eV0, V01, V02⟩ := mask_three y 7 (by omega) 127 128 rfl rfl (by omega)
  go_enter Try.func3, Try.ntmps3
  go_wp2_with fail
  go_cut [5, 6, 7] from 18 (fun v5 v6 v7 wx => v5 = .pointer (some ⟨w.heap.size, 0, none⟩) ∧ v6 = .pointer (some ⟨w.heap.size + 1, 0, none⟩) ∧ v7 = .pointer (some ⟨w.heap.size + 1 + 1, 0, none⟩) ∧
    (wx.cell? ⟨w.heap.size, 0, none⟩ = some (.int .i64 P0) ∧ wx.cell? ⟨w.heap.size, 1, none⟩ = some (.int .i64 P1) ∧ wx.cell? ⟨w.heap.size + 1, 0, none⟩ = some (.int .i64 Q0) ∧ wx.cell? ⟨w.heap.size + 1, 1, none⟩ = some (.int .i64 Q1) ∧ wx.cell? ⟨w.heap.size + 1 + 1, 0, none⟩ = some (.int .i64 S0) ∧ wx.cell? ⟨w.heap.size + 1 + 1, 1, none⟩ = some (.int .i64 S1)) ∧ Below w.heap.size w wx)
  case first =>
    go_big_region
    all_goals
      go_wp2
      go_meet
      exact ⟨rfl, rfl, rfl, ⟨by go_simp, by go_simp, by go_simp, by go_simp, by go_simp, by go_simp⟩, by go_grown⟩
  case rest =>
    obtain ⟨rfl, rfl, rfl, ⟨c0, c1, c2, c3, c4, c5⟩, hB⟩ := hcut
    have HB := hidd hB
    obtain ⟨U, eU⟩ : ∃ U, U0 - 30 = U := ⟨_, rfl⟩
    obtain ⟨V, eV⟩ : ∃ V, V0 - 30 = V := ⟨_, rfl⟩
    have hUV : -30 ≤ U ∧ U ≤ 97 ∧ -30 ≤ V ∧ V ≤ 97 := by omega
    obtain ⟨U1, U2, V1, V2⟩ := hUV
    obtain ⟨L, eL⟩ : ∃ L : List (Int × Int), [(P0, P1), (Q0, Q1), (S0, S1)] = L := ⟨_, rfl⟩
    have HW : Hid (∀ p ∈ L, 0 ≤ p.1 ∧ p.1 < 64 ∧ 0 ≤ p.2 ∧ p.2 < 64) := hidd (by
      rw [← eL]
      intro p hp
      simp only [List.mem_cons, List.not_mem_nil, or_false] at hp
      rcases hp with rfl | rfl | rfl <;> exact ⟨by omega, by omega, by omega, by omega⟩)
    have EL : Hid (L.length = 3) := hidd (by rw [← eL]; rfl)
    have HIW : Hid (∀ p ∈ L, InWo p) := hidd fun p hp => by have := HW.out p hp; unfold InWo; omega
    have HO : Hid (Okay [L]) := hidd (okay_one.2 ⟨by rw [EL.out]; omega, by rw [EL.out]; omega, HIW.out⟩)
    have HF : Hid (¬ Far U V) := hidd (by unfold Far; omega)
    have R1 : Hid (RingL (wc.alloc (.cells #[.int .i64 P0, .int .i64 P1, .int .i64 Q0, .int .i64 Q1, .int .i64 S0, .int .i64 S1] 22)) (.slice (some ⟨wc.heap.size, 0, none⟩) 3 3) L) := hidd (by rw [← eL]; exact lit_ring wc [(P0, P1), (Q0, Q1), (S0, S1)] 22)
    have B1 := hidd (belowT HB.out (allocB wc (.cells #[.int .i64 P0, .int .i64 P1, .int .i64 Q0, .int .i64 Q1, .int .i64 S0, .int .i64 S1] 22)))
    have TA := three_area eL HW.out
    have TI := hidd fun ha => three_in eL U V ha
    have TZ := hidd fun ha => three_none eL U V ha
    obtain ⟨T, eT⟩ : ∃ T, area L = T := ⟨_, rfl⟩
    have AR : Hid (∀ s w, RingL w s L → Calls Try.prog 4 #[s] w fun e w' => e = .returned (.int .i64 T) ∧ Below w.heap.size w w') := hidd fun s w h => (p_area2 s L (by rw [EL.out]; omega) w h).mono fun e w' ⟨⟨z, he, hz⟩, hb⟩ => ⟨by
      rcases hz with ⟨_, hz⟩ | ⟨hz, _⟩
      · rw [he, hz, show wrap64 (area L) = T by rw [eT] at TA ⊢; unfold wrap64; omega]
      · exact absurd HO.out hz, hb⟩
    rw [eT] at TA TI TZ
    obtain ⟨T1, T2⟩ := TA
    obtain ⟨b, hb⟩ := prop_bool3 (InT [L] U V)
    have IN := hidd fun s w h => p_inside s [L] U V b hb (by simp) (fun M hM => by rw [List.mem_singleton.1 hM, EL.out]; omega) w h
    have HBI : Hid (b = true ↔ (0 < onN L U V ∨ crN L U V % 2 = 1)) := hidd (hb.trans ⟨fun h => by have := h.2.2; rwa [onG_one, crG_one] at this, fun h => ⟨HO.out, HF.out, by rwa [onG_one, crG_one]⟩⟩)
    clear hB eP0 eP1 eQ0 eQ1 eS0 eS1 eL eT hb
    go_wp2_with fail
    refine (AR.out _ _ R1.out).mono ?_
    rintro e w2 ⟨rfl, b2⟩
    have R2 := hidd (R1.out.keep b2)
    have B2 := hidd (belowT B1.out b2)
    clear AR R1 B1 b2 c0 c1 c2 c3 c4 c5 HB
    by_cases hT : T = 0
    · have ON := hidd fun s w h => p_on s [L] U V b (HBI.out.trans ((TZ.out hT).trans ⟨fun h => ⟨HO.out, HF.out, by rw [onG_one]; exact h⟩, fun h => by have := h.2.2; rwa [onG_one] at this⟩)) (by simp) (fun M hM => by rw [List.mem_singleton.1 hM, EL.out]; omega) w h
      subst hT
      have G1 := hidd (lit_rings1 w2 L _ 23 R2.out)
      have B3 := hidd (belowT B2.out (allocB w2 (.cells #[.slice (some ⟨wc.heap.size, 0, none⟩) 3 3] 23)))
      have R3 := hidd (R2.out.keep (allocB w2 (.cells #[.slice (some ⟨wc.heap.size, 0, none⟩) 3 3] 23)))
      clear TI TZ HBI
      go_wp2_with fail
      refine (IN.out _ _ G1.out).mono ?_
      rintro e w3 ⟨rfl, b3⟩
      have G2 := hidd (lit_rings1 w3 L _ 23 (R3.out.keep b3))
      have B4 := hidd (belowT (belowT B3.out b3) (allocB w3 (.cells #[.slice (some ⟨wc.heap.size, 0, none⟩) 3 3] 23)))
      clear IN G1 R3 B3 b3 R2 B2
      go_wp2_with fail
      refine (ON.out _ _ G2.out).mono ?_
      rintro e w4 ⟨rfl, b4⟩
      have B5 := hidd (belowT B4.out b4)
      have AW := hidd fun w => pawake9 w
      clear ON G2 B4 b4
      cases b
      all_goals
        go_wp2_with fail
        refine (AW.out _).mono ?_
        rintro e w5 ⟨rfl, b5⟩
        go_wp2_with fail
        go_ret
        exact ⟨rfl, belowT B5.out b5⟩
    · have hT0 : (T == 0) = false := by simpa using hT
      have TI2 := hidd (HBI.out.trans (TI.out hT))
      obtain ⟨pS, cS, eS, -, hcS⟩ := R2.out
      simp only [Value.slice.injEq] at eS
      obtain ⟨rfl, -, rfl⟩ := eS
      have HC := hidd hcS
      clear TI TZ HBI hcS
      go_wp2_with fail
      go_loopw [12, 13, 14] (fun v12 v13 v14 wr => ∃ k n m : Nat, k ≤ 3 ∧ n ≤ k ∧ m ≤ k ∧ v14 = .int .i64 (k : Int) ∧ v12 = .int .i64 (n : Int) ∧ v13 = .int .i64 (m : Int) ∧ Hid (n = 0 ↔ ∀ i, i < k → 0 ≤ triC L U V i) ∧ Hid (m = 0 ↔ ∀ i, i < k → triC L U V i ≤ 0) ∧ Hid (Below w2.heap.size w2 wr)) (fun _ _ v14 _ => 3 - (intOf v14).toNat)
      case atStart => exact ⟨0, 0, 0, by omega, by omega, by omega, rfl, rfl, rfl, hidd ⟨fun _ i hi => absurd hi (Nat.not_lt_zero _), fun _ => rfl⟩, hidd ⟨fun _ i hi => absurd hi (Nat.not_lt_zero _), fun _ => rfl⟩, hidd (Below.refl _ _)⟩
      case round =>
        obtain ⟨k, n, m, hk, hn, hm, rfl, rfl, rfl, hN, hM, hX⟩ := hrel
        by_cases hk3 : k < 3
        · have hk3' : (k : Int) < 3 := by omega
          have hkR : k < L.length := by rw [EL.out]; exact hk3
          obtain ⟨j, ej, hj, ej1, ej2⟩ := next_ix hk3
          have hjR : j < L.length := by rw [EL.out]; exact hj
          have hj' : (j : Int) < 3 := by omega
          replace ej1 : ((k : Int) + 1) % 3 = (j : Int) := ej1
          replace ej2 : ((k : Int) + 1).tmod 3 = (j : Int) := ej2
          obtain ⟨g, o, eg, x0, x1⟩ := HC.out k hkR
          obtain ⟨g', o', e', y0, y1⟩ := HC.out j hjR
          simp only [Option.some.injEq, Addr.mk.injEq, and_true] at e' eg
          obtain ⟨rfl, rfl⟩ := e'
          obtain ⟨rfl, rfl⟩ := eg
          replace x0 := keepCell hX.out x0
          replace x1 := keepCell hX.out x1
          replace y0 := keepCell hX.out y0
          replace y1 := keepCell hX.out y1
          simp only [Nat.zero_add] at x0 x1 y0 y1
          have hg := World.block_lt_of_cell? _ _ x0
          have bk := HW.out _ (List.getElem_mem hkR)
          have bj := HW.out _ (List.getElem_mem hjR)
          have eC : triC L U V k = (L[j].1 - L[k].1) * (V - L[k].2) - (L[j].2 - L[k].2) * (U - L[k].1) := by
            unfold triC crs
            rw [pt_at hkR, ej, pt_at hjR]
          have hA := prod_small (a := L[j].1 - L[k].1) (b := V - L[k].2) (by omega) (by omega) (by omega) (by omega)
          have hBp := prod_small (a := L[j].2 - L[k].2) (b := U - L[k].1) (by omega) (by omega) (by omega) (by omega)
          have NN := hidd (all_next hN.out)
          have MM := hidd (all_next hM.out)
          clear hN hM ej
          generalize L[k].1 = a at *
          generalize L[k].2 = b' at *
          generalize L[j].1 = c at *
          generalize L[j].2 = d at *
          obtain ⟨A, eA⟩ : ∃ A, (c - a) * (V - b') = A := ⟨_, rfl⟩
          obtain ⟨B, eB⟩ : ∃ B, (d - b') * (U - a) = B := ⟨_, rfl⟩
          rw [eA] at hA eC
          rw [eB] at hBp eC
          obtain ⟨A1, A2⟩ := hA
          obtain ⟨B1, B2'⟩ := hBp
          obtain ⟨C, eC2⟩ : ∃ C, A - B = C := ⟨_, rfl⟩
          rw [eC2] at eC
          rw [eC] at NN MM
          obtain ⟨a1, a2, b1, b2'⟩ := bk
          obtain ⟨c1, c2, d1, d2⟩ := bj
          clear eC
          go_wp2_with fail
          go_cut [15, 16] from 66 to 108 (fun v15 v16 wx => ∃ P Q : Nat, v15 = .pointer (some ⟨P, 0, none⟩) ∧ v16 = .pointer (some ⟨Q, 0, none⟩) ∧ wx.cell? ⟨P, 0, none⟩ = some (.int .i64 a) ∧ wx.cell? ⟨P, 1, none⟩ = some (.int .i64 b') ∧ wx.cell? ⟨Q, 0, none⟩ = some (.int .i64 c) ∧ wx.cell? ⟨Q, 1, none⟩ = some (.int .i64 d) ∧ Below wr.heap.size wr wx)
          case first =>
            go_big_region
            all_goals
              go_wp2
              go_meet
              first
                | exact ⟨wr.heap.size, wr.heap.size + 1, rfl, rfl, by go_simp, by go_simp, by go_simp, by go_simp, by go_grown⟩
                | exact ⟨wr.heap.size + 1, wr.heap.size, rfl, rfl, by go_simp, by go_simp, by go_simp, by go_simp, by go_grown⟩
          case rest =>
            clear x0 x1 y0 y1 hg
            obtain ⟨P, Q, rfl, rfl, m0, m1, n0, n1, hX2⟩ := hcut
            have hX3 := hidd (belowT hX.out hX2)
            clear hX hX2
            have hw : (C < 0 ∧ decide (0 < C) = false) ∨ (decide (C < 0) = false ∧ 0 < C) ∨ (decide (C < 0) = false ∧ decide (0 < C) = false) := by
              simp only [decide_eq_false_iff_not]; omega
            rcases hw with ⟨h1, h2⟩ | ⟨h1, h2⟩ | ⟨h1, h2⟩
            · have hN2 := hidd (NN.out.2 (by omega))
              have hM2 := hidd (MM.out.1 (by omega))
              clear NN MM
              go_wp2_with fail
              go_roundw
              case rel => exact ⟨k + 1, n + 1, m, by omega, by omega, by omega, by go_num, by go_num, rfl, hN2, hM2, hX3⟩
              case measure => simp [intOf]; omega
            · have hN2 := hidd (NN.out.1 (by omega))
              have hM2 := hidd (MM.out.2 (by omega))
              clear NN MM
              go_wp2_with fail
              go_roundw
              case rel => exact ⟨k + 1, n, m + 1, by omega, by omega, by omega, by go_num, rfl, by go_num, hN2, hM2, hX3⟩
              case measure => simp [intOf]; omega
            · have hN2 := hidd (NN.out.1 (by simp only [decide_eq_false_iff_not] at h1; omega))
              have hM2 := hidd (MM.out.1 (by simp only [decide_eq_false_iff_not] at h2; omega))
              clear NN MM
              go_wp2_with fail
              go_roundw
              case rel => exact ⟨k + 1, n, m, by omega, by omega, by omega, by go_num, rfl, rfl, hN2, hM2, hX3⟩
              case measure => simp [intOf]; omega
        · obtain rfl : k = 3 := by omega
          have h33 : decide (((3 : Nat) : Int) < 3) = false := by decide
          have HBN : Hid (b = true ↔ n = 0 ∨ m = 0) := hidd (TI2.out.trans (by rw [hN.out, hM.out]))
          have G1 := hidd (lit_rings1 wr L _ 23 (R2.out.keep hX.out))
          have B3 := hidd (belowT (belowT B2.out hX.out) (allocB wr (.cells #[.slice (some ⟨wc.heap.size, 0, none⟩) 3 3] 23)))
          have AW := hidd fun w => pawake9 w
          clear TI2 hN hM HC R2 B2 hX hk3
          have hw : (b = true ∧ ((n : Int) == 0) = true) ∨ (b = true ∧ ((n : Int) == 0) = false ∧ ((m : Int) == 0) = true) ∨ (b = false ∧ ((n : Int) == 0) = false ∧ ((m : Int) == 0) = false) := by
            have h := HBN.out
            simp only [beq_iff_eq, beq_eq_false_iff_ne, ne_eq]
            cases b
            · simp only [Bool.false_eq_true, false_iff] at h
              simp; omega
            · simp only [true_iff] at h
              simp; omega
          rcases hw with ⟨rfl, h1⟩ | ⟨rfl, h1, h2⟩ | ⟨rfl, h1, h2⟩
          all_goals
            clear HBN
            go_wp2_with fail
            refine (IN.out _ _ G1.out).mono ?_
            rintro e w3 ⟨rfl, b3⟩
            have B4 := hidd (belowT B3.out b3)
            go_wp2_with fail
            refine (AW.out _).mono ?_
            rintro e w5 ⟨rfl, b5⟩
            go_wp2_with fail
            go_ret
            exact ⟨rfl, belowT B4.out b5⟩

end Go.Proofs.Ytmfpkphhjfgjbab
