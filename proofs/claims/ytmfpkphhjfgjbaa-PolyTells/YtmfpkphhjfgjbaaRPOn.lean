/-
  What the document's own On tells of any rings and any point; in whatever memory.
-/
import Derived.Test.YtmfpkphhjfgjbaaRCross
import Derived.Test.YtmfpkphhjfgjbaaRPCheck
import Derived.Test.YtmfpkphhjfgjbaaRPArea
import Derived.Laws.BitsAllLaws
import Derived.Handy
import Derived.Deep.QuietTactic
import Derived.Test.YtmfpkphhjfgjbaaProg
import Derived.WalkSpells
import Derived.WalkLawsBesides
import Derived.BigQuiet
import Derived.PlainAid
import Derived.Deep.RegionWith
import Derived.Deep.RegionHeld3
import Derived.WalkSmall
import Derived.Deep.CutRange
import Derived.BigRegion
import Derived.OwnWalk
import Derived.Laws.OwnMore
import Derived.OneCell
import Derived.Laws.CopyOwn
import Derived.Sort.Row
import Derived.Deep.LoopGhost
import Derived.WalkKit
namespace Go.Proofs.Ytmfpkphhjfgjbaa
open Go.RowKit

set_option maxHeartbeats 1000000 in
theorem far_core (x y : Int) (b : Bool) (h : (x < -2147483648 ∧ b = true) ∨ (decide (x < -2147483648) = false ∧ 2147483648 < x ∧ b = true) ∨ (decide (x < -2147483648) = false ∧ decide (2147483648 < x) = false ∧ y < -2147483648 ∧ b = true) ∨ (decide (x < -2147483648) = false ∧ decide (2147483648 < x) = false ∧ decide (y < -2147483648) = false ∧ 2147483648 < y ∧ b = true) ∨ (decide (x < -2147483648) = false ∧ decide (2147483648 < x) = false ∧ decide (y < -2147483648) = false ∧ decide (2147483648 < y) = false ∧ b = false)) (w : World) :
    Calls Try.prog 31 #[.int .i64 x, .int .i64 y] w fun e w' => e = .returned (.bool b) ∧ w' = w := by
  rcases h with ⟨h1, rfl⟩ | ⟨h1, h2, rfl⟩ | ⟨h1, h2, h3, rfl⟩ | ⟨h1, h2, h3, h4, rfl⟩ | ⟨h1, h2, h3, h4, rfl⟩
  all_goals
    go_enter Try.func31, Try.ntmps31
    go_wp2
    go_ret
    exact ⟨rfl, rfl⟩

theorem far_yes {x y : Int} (h : Far x y) (w : World) : Calls Try.prog 31 #[.int .i64 x, .int .i64 y] w fun e w' => e = .returned (.bool true) ∧ w' = w := by
  refine far_core x y true ?_ w
  unfold Far at h
  simp only [decide_eq_false_iff_not, and_true, and_false, or_false, Bool.true_eq_false]
  omega

theorem far_no {x y : Int} (h : ¬ Far x y) (w : World) : Calls Try.prog 31 #[.int .i64 x, .int .i64 y] w fun e w' => e = .returned (.bool false) ∧ w' = w := by
  refine far_core x y false ?_ w
  unfold Far at h
  simp only [decide_eq_false_iff_not, and_true, and_false, false_or, Bool.false_eq_true]
  omega

/-- CROSS, of corners of the world and a point that is not far. -/
theorem cross_at {p q : Int × Int} {x y : Int} (hp : InWo p) (hq : InWo q) (hf : ¬ Far x y) (w : World) :
    Calls Try.prog 32 #[.agg #[.int .i64 p.1, .int .i64 p.2], .agg #[.int .i64 q.1, .int .i64 q.2], .int .i64 x, .int .i64 y] w fun e w' => e = .returned (.int .i64 (sgn (crs p q x y))) ∧ Below w.heap.size w w' := by
  unfold InWo at hp hq
  unfold Far at hf
  exact cross_any p.1 p.2 q.1 q.2 x y _ sgn_eq (by omega) (by omega) (by omega) (by omega) (by omega) (by omega) (by omega) (by omega) (by omega) (by omega) (by omega) (by omega) w

/-- How the document's test of an edge goes: each part's answer, the first that says no ending it. -/
theorem on_ways (c x y p0 p1 q0 q1 : Int) :
    ((c == 0) = false) ∨ ((c == 0) = true ∧ decide (min p0 q0 ≤ x) = false) ∨ ((c == 0) = true ∧ min p0 q0 ≤ x ∧ decide (x ≤ max p0 q0) = false) ∨ ((c == 0) = true ∧ min p0 q0 ≤ x ∧ x ≤ max p0 q0 ∧ decide (min p1 q1 ≤ y) = false) ∨
    ((c == 0) = true ∧ min p0 q0 ≤ x ∧ x ≤ max p0 q0 ∧ min p1 q1 ≤ y ∧ decide (y ≤ max p1 q1) = false) ∨ ((c == 0) = true ∧ min p0 q0 ≤ x ∧ x ≤ max p0 q0 ∧ min p1 q1 ≤ y ∧ y ≤ max p1 q1) := by
  simp only [decide_eq_false_iff_not, beq_iff_eq, beq_eq_false_iff_ne, ne_eq]
  omega

theorem on_false {p q : Int × Int} {x y : Int} (h : ¬ (crs p q x y = 0 ∧ min p.1 q.1 ≤ x ∧ x ≤ max p.1 q.1 ∧ min p.2 q.2 ≤ y ∧ y ≤ max p.2 q.2)) : bi (onB p q x y) = 0 := by
  have : onB p q x y = false := Bool.eq_false_iff.2 fun k => h (onB_iff.1 k)
  rw [this]; rfl

set_option maxHeartbeats 16000000 in
set_option maxRecDepth 20000 in
theorem r_on (s : Value) (G : List (List (Int × Int))) (x y : Int) (b : Bool) (hb : b = true ↔ OnT G x y) (hn : G.length ≤ 1000000) (hl : ∀ L ∈ G, L.length ≤ 1000000) (w : World) (hG : RingsL w s G) :
    Calls Try.prog 18 #[s, .int .i64 x, .int .i64 y] w fun e w' => e = .returned (.bool b) ∧ Below w.heap.size w w' := by
  have PC := hidd (r_pcheck s G hn hl w hG)
  have HG := hidd hG
  obtain ⟨p, cap, hs, -, -⟩ := hG
  obtain ⟨m, em⟩ : ∃ m, G.length = m := ⟨_, rfl⟩
  have EM := hidd em
  rw [em] at hs
  subst hs
  have HBb := hidd hb
  clear em hb
  by_cases hok : Okay G
  · have PC2 : Hid (Calls Try.prog 17 #[.slice p m cap] w fun e w' => e = .returned (.int .i64 0) ∧ Below w.heap.size w w') := hidd (PC.out.mono fun e w' ⟨⟨t, he, ht⟩, hb⟩ => ⟨by rw [he, (chk_zero ht).2 hok], hb⟩)
    have OK := hidd (okay_iff.1 hok)
    have hm20 : m ≤ 20 := by have := OK.out.1; rw [EM.out] at this; exact this
    clear PC
    by_cases hf : Far x y
    · have FA := hidd fun w => far_yes hf w
      have hbf : b = false := by
        cases hb1 : b with
        | false => rfl
        | true => exact absurd hf (HBb.out.1 hb1).2.1
      subst hbf
      clear hf hok
      go_enter Try.func18, Try.ntmps18
      go_wp2_with fail
      refine PC2.out.mono ?_
      rintro e w1 ⟨rfl, b1⟩
      go_wp2_with fail
      refine (FA.out _).mono ?_
      rintro e w2 ⟨rfl, rfl⟩
      go_wp2_with fail
      go_ret
      exact ⟨rfl, b1⟩
    · have FA := hidd fun w => far_no hf w
      have HF := hidd hf
      have xy : -2147483648 ≤ x ∧ x ≤ 2147483648 ∧ -2147483648 ≤ y ∧ y ≤ 2147483648 := by unfold Far at hf; omega
      obtain ⟨x1', x2', y1', y2'⟩ := xy
      have HB2 : Hid (b = true ↔ 0 < onG G x y) := hidd (HBb.out.trans ⟨fun h => h.2.2, fun h => ⟨hok, hf, h⟩⟩)
      clear HBb hf hok
      go_enter Try.func18, Try.ntmps18
      go_wp2_with fail
      refine PC2.out.mono ?_
      rintro e w1 ⟨rfl, b1⟩
      have H1 := hidd (HG.out.keep b1)
      have B1 := hidd b1
      clear b1 PC2 HG
      obtain ⟨p', cap', e', -, hc⟩ := H1.out
      simp only [Value.slice.injEq] at e'
      obtain ⟨rfl, -, rfl⟩ := e'
      have HC := hidd hc
      clear hc
      go_wp2_with fail
      refine (FA.out _).mono ?_
      rintro e w2 ⟨rfl, rfl⟩
      obtain ⟨wq, rfl⟩ : ∃ z, z = w2 := ⟨_, rfl⟩
      clear FA H1
      go_wp2_with fail
      go_loopw [7] (fun v7 wr => ∃ i : Nat, i ≤ m ∧ v7 = .int .i64 (i : Int) ∧ Hid (onG (G.take i) x y = 0) ∧ Hid (Below wq.heap.size wq wr)) (fun v7 _ => m - (intOf v7).toNat)
      case atStart => exact ⟨0, by omega, rfl, hidd rfl, hidd (Below.refl _ _)⟩
      case round =>
        obtain ⟨i, hi, rfl, hZ, hB⟩ := hrel
        by_cases him : i < m
        · have him' : (i : Int) < (m : Int) := by omega
          have hiG : i < G.length := by rw [EM.out]; exact him
          obtain ⟨g, o, s, rfl, z0, hR⟩ := HC.out i hiG
          replace z0 := keepCell hB.out z0
          replace hR := hR.keep hB.out
          obtain ⟨pR, cR, rfl, -, hcR⟩ := hR
          have HCR := hidd hcR
          have hmem := List.getElem_mem hiG
          have IW := hidd (OK.out.2.2.2.2 _ hmem)
          have hlen := corners_mem hmem
          have h500 := OK.out.2.1
          have ALL : Hid (0 < onN G[i] x y → b = true) := hidd fun h => HB2.out.2 (by
            have e := onG_next x y hiG
            have e2 : onG G x y = onG (G.take (i + 1)) x y + onG (G.drop (i + 1)) x y := by rw [← onG_app, List.take_append_drop]
            have := onG_nonneg x y (G.drop (i + 1))
            rw [hZ.out] at e
            omega)
          have NXT : Hid (onN G[i] x y = 0 → onG (G.take (i + 1)) x y = 0) := hidd fun h => by rw [onG_next x y hiG, hZ.out, h]; rfl
          obtain ⟨R, eR⟩ : ∃ R, G[i] = R := ⟨_, rfl⟩
          rw [eR] at z0 HCR IW hlen ALL NXT
          obtain ⟨l, el⟩ : ∃ l, R.length = l := ⟨_, rfl⟩
          have EL := hidd el
          rw [el] at z0 hlen
          have hl500 : l ≤ 500 := by omega
          clear hcR hmem h500 hlen eR el hZ
          go_wp2_with fail
          clear z0
          obtain ⟨wi, rfl⟩ : ∃ z, z = wr := ⟨_, rfl⟩
          go_loopw [9] (fun v9 wr => ∃ k : Nat, k ≤ l ∧ v9 = .int .i64 (k : Int) ∧ Hid (part (fun p q => bi (onB p q x y)) R k = 0) ∧ Hid (Below wi.heap.size wi wr)) (fun v9 _ => l - (intOf v9).toNat)
          case atStart => exact ⟨0, by omega, rfl, hidd rfl, hidd (Below.refl _ _)⟩
          case round =>
            obtain ⟨k, hk, rfl, hP, hX⟩ := hrel
            by_cases hkl : k < l
            · have hkl' : (k : Int) < (l : Int) := by omega
              have hl0 : ¬ ((l : Int) = 0) := by omega
              have hl00 : ((l : Int) == 0) = false := by simp; omega
              have hkR : k < R.length := by rw [EL.out]; exact hkl
              obtain ⟨j, ej, hj, ej1, ej2⟩ := next_ix hkl
              have hjR : j < R.length := by rw [EL.out]; exact hj
              have hj' : (j : Int) < (l : Int) := by omega
              obtain ⟨g', o', rfl, x0, x1⟩ := HCR.out k hkR
              obtain ⟨g2, o2, e', y0, y1⟩ := HCR.out j hjR
              simp only [Option.some.injEq, Addr.mk.injEq, and_true] at e'
              obtain ⟨rfl, rfl⟩ := e'
              replace x0 := keepCell hX.out x0
              replace x1 := keepCell hX.out x1
              replace y0 := keepCell hX.out y0
              replace y1 := keepCell hX.out y1
              have hg := World.block_lt_of_cell? _ _ x0
              have CR := hidd fun w => cross_at (IW.out _ (List.getElem_mem hkR)) (IW.out _ (List.getElem_mem hjR)) HF.out w
              have NX : Hid (part (fun p q => bi (onB p q x y)) R (k + 1) = bi (onB R[k] R[j] x y)) := hidd (by
                rw [part_next, pt_at hkR, EL.out, ej, pt_at hjR, hP.out]
                omega)
              have POS : Hid (onB R[k] R[j] x y = true → b = true) := hidd fun h => ALL.out (onN_pos.2 ⟨k, hkR, by rw [pt_at hkR, EL.out, ej, pt_at hjR]; exact h⟩)
              have ON : Hid (onB R[k] R[j] x y = true ↔ sgn (crs R[k] R[j] x y) = 0 ∧ min R[k].1 R[j].1 ≤ x ∧ x ≤ max R[k].1 R[j].1 ∧ min R[k].2 R[j].2 ≤ y ∧ y ≤ max R[k].2 R[j].2) := hidd (by rw [sgn_zero]; exact onB_iff)
              clear ej hP
              generalize sgn (crs R[k] R[j] x y) = c at *
              generalize onB R[k] R[j] x y = ob at *
              generalize R[k].1 = p0 at *
              generalize R[k].2 = p1 at *
              generalize R[j].1 = q0 at *
              generalize R[j].2 = q1 at *
              have hw := on_ways c x y p0 p1 q0 q1
              go_wp2_with fail
              go_cut [10, 11] from 30 to 89 (fun v10 v11 wx => ∃ P Q : Nat, v10 = .pointer (some ⟨P, 0, none⟩) ∧ v11 = .pointer (some ⟨Q, 0, none⟩) ∧ wx.cell? ⟨P, 0, none⟩ = some (.int .i64 p0) ∧ wx.cell? ⟨P, 1, none⟩ = some (.int .i64 p1) ∧ wx.cell? ⟨Q, 0, none⟩ = some (.int .i64 q0) ∧ wx.cell? ⟨Q, 1, none⟩ = some (.int .i64 q1) ∧ Below wr.heap.size wr wx)
              case first =>
                clear hw
                go_big_region
                all_goals
                  go_wp2
                  go_meet
                  first
                    | exact ⟨wr.heap.size, wr.heap.size + 1, rfl, rfl, by go_simp, by go_simp, by go_simp, by go_simp, by go_grown⟩
                    | exact ⟨wr.heap.size + 1, wr.heap.size, rfl, rfl, by go_simp, by go_simp, by go_simp, by go_simp, by go_grown⟩
              case rest =>
                clear x0 x1 y0 y1 hg
                obtain ⟨P, Q, rfl, rfl, m0, m1, n0, n1, hX2⟩ := hcut
                have hX3 := hidd (belowT hX.out hX2)
                clear hX hX2
                go_wp2_with fail
                refine (CR.out _).mono ?_
                rintro e w3 ⟨rfl, b3⟩
                replace m0 := keepCell b3 m0
                replace m1 := keepCell b3 m1
                replace n0 := keepCell b3 n0
                replace n1 := keepCell b3 n1
                have hX4 := hidd (belowT hX3.out b3)
                clear hX3 b3 CR
                have hcase : (ob = true ∧ ((c == 0) = true ∧ min p0 q0 ≤ x ∧ x ≤ max p0 q0 ∧ min p1 q1 ≤ y ∧ y ≤ max p1 q1)) ∨ ob = false := by
                  cases hob : ob with
                  | false => exact .inr rfl
                  | true => exact .inl ⟨rfl, by have := ON.out.1 hob; simp only [beq_iff_eq]; exact this⟩
                rcases hcase with ⟨rfl, h1, h2, h3, h4, h5⟩ | rfl
                · have hbt := POS.out rfl
                  subst hbt
                  clear hw ON NX POS
                  go_wp2_with fail
                  go_ret
                  exact ⟨rfl, belowT B1.out (belowT hB.out hX4.out)⟩
                · have hP2 : Hid (part (fun p q => bi (onB p q x y)) R (k + 1) = 0) := hidd (by rw [NX.out]; rfl)
                  have hnot : ¬ ((c == 0) = true ∧ min p0 q0 ≤ x ∧ x ≤ max p0 q0 ∧ min p1 q1 ≤ y ∧ y ≤ max p1 q1) := fun h => by
                    have := ON.out.2 ⟨by simpa using h.1, h.2⟩
                    cases this
                  clear ON NX POS
                  rcases hw with h1 | ⟨h1, h2⟩ | ⟨h1, h2, h3⟩ | ⟨h1, h2, h3, h4⟩ | ⟨h1, h2, h3, h4, h5⟩ | h1
                  · clear hnot
                    go_wp2_with fail
                    go_roundw
                    case rel => exact ⟨k + 1, by omega, by go_num, hP2, hX4⟩
                    case measure => simp [intOf]; omega
                  · clear hnot
                    go_wp2_with fail
                    go_roundw
                    case rel => exact ⟨k + 1, by omega, by go_num, hP2, hX4⟩
                    case measure => simp [intOf]; omega
                  · clear hnot
                    go_wp2_with fail
                    go_roundw
                    case rel => exact ⟨k + 1, by omega, by go_num, hP2, hX4⟩
                    case measure => simp [intOf]; omega
                  · clear hnot
                    go_wp2_with fail
                    go_roundw
                    case rel => exact ⟨k + 1, by omega, by go_num, hP2, hX4⟩
                    case measure => simp [intOf]; omega
                  · clear hnot
                    go_wp2_with fail
                    go_roundw
                    case rel => exact ⟨k + 1, by omega, by go_num, hP2, hX4⟩
                    case measure => simp [intOf]; omega
                  · exact absurd h1 hnot
            · obtain rfl : k = l := by omega
              have hkl' : decide ((k : Int) < (k : Int)) = false := by simp
              have hZ2 := hidd (NXT.out (by rw [← EL.out] at hP; exact hP.out))
              have hB2 := hidd (belowT hB.out hX.out)
              clear hP hX hkl hB
              go_wp2_with fail
              go_roundw
              case rel => exact ⟨i + 1, by omega, by go_num, hZ2, hB2⟩
              case measure => simp [intOf]; omega
        · obtain rfl : i = m := by omega
          have him' : decide ((i : Int) < (i : Int)) = false := by simp
          have hbf : b = false := by
            cases hb1 : b with
            | false => rfl
            | true =>
              have h := HB2.out.1 hb1
              have e : G.take i = G := List.take_of_length_le (by rw [EM.out]; omega)
              have h2 := hZ.out
              rw [e] at h2
              omega
          subst hbf
          clear hZ him
          go_wp2_with fail
          go_ret
          exact ⟨rfl, belowT B1.out hB.out⟩
  · have hbf : b = false := by
      cases hb1 : b with
      | false => rfl
      | true => exact absurd (HBb.out.1 hb1).1 hok
    subst hbf
    have PC2 : Hid (Calls Try.prog 17 #[.slice p m cap] w fun e w' => (∃ t, e = .returned (.int .i64 t) ∧ (t != 0) = true) ∧ Below w.heap.size w w') := hidd (PC.out.mono fun e w' ⟨⟨t, he, ht⟩, hb⟩ => ⟨⟨t, he, by simp; exact fun e => hok ((chk_zero ht).1 e)⟩, hb⟩)
    clear PC hok HG
    go_enter Try.func18, Try.ntmps18
    go_wp2_with fail
    refine PC2.out.mono ?_
    rintro e w1 ⟨⟨t, rfl, ht⟩, b1⟩
    go_wp2_with fail
    go_ret
    exact ⟨rfl, b1⟩

end Go.Proofs.Ytmfpkphhjfgjbaa
