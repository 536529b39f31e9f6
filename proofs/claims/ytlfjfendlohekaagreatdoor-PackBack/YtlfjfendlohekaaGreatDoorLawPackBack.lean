/-
  The law PackBack answers true for every list of numbers and size, in whatever memory where the two tables hold what their texts lay.
-/
import Derived.Test.YtlfjfendlohekaaGreatDoorPAwake
import Derived.Test.YtlfjfendlohekaaGreatDoorPWords
import Derived.Test.YtlfjfendlohekaaGreatDoorProg
import Derived.Handy
import Derived.Deep.QuietTactic
import Derived.WalkSpells
import Derived.WalkLawsBesides
import Derived.BigQuiet
import Derived.PlainAid
import Derived.Deep.RegionWith
import Derived.Laws.BitsAllLaws
import Derived.Sort.Walk13a
import Derived.Sort.LotA
import Derived.Sort.LotB
import Derived.Sort.LotD1
import Derived.Deep.Draws
import Derived.WalkKit
import Derived.BigGuard
import Derived.BigCall
import Derived.CellFam
import Derived.Sort.WalkB3
import Derived.BigRegion
import Derived.Sort.WalkA6
import Derived.Deep.RegionHeld3
import Derived.WalkSmall
import Derived.Deep.CutRange
import Derived.OwnWalk
import Derived.Laws.OwnMore
import Derived.OneCell
import Derived.Laws.CopyOwn
import Derived.Sort.Row
import Derived.Laws.AppendOwn
import Derived.Laws.AppendOwnNone
import Derived.BigFrame
import Derived.Deep.AppendLies
import Derived.Deep.RegionLaw
import Derived.RangeFuncFrom
import Derived.RangeFuncCalls
import Derived.RangeFuncLeaves
import Derived.OwnWalkIn
import Derived.TacticsInMore
import Derived.LoopNIn
import Derived.LoopIn
import Derived.RegionIn
import Derived.Stop.RegionWithIn
import Derived.Sort.LotD3
import Derived.Deep.Cut
import Derived.Deep.LoopGhost
import Derived.Sort.WalkB12
import Derived.Deep.OwnRows
import Derived.ChangeSlices
import Derived.OpenShut
namespace Go.Proofs.YtlfjfendlohekaaGreatDoor
open Go.RowKit

theorem packed_free {r : Nat} {S P : List Int} (h : Packed r S P) : FreeP P := ⟨rising_nodup h.1, fun x hx => (h.2.1 x hx).1, h.2.2.1⟩

theorem packed_cnt {r : Nat} (hr : r ≤ 12) {S P : List Int} (h : Packed r S P) : cntR r P ≤ (S.length : Int) := by
  rw [cntR_len]
  have hn := kinR_nodup hr h.2.1 h.2.2.1 (rising_nodup h.1)
  have := (nodup_sub _ S hn fun x hx => by
    obtain ⟨h1, h2, h3⟩ := (mem_kinR hr h.2.1).1 hx
    exact (h.2.2.2.2 x h1 h2).1 h3).1
  omega

/-- Spread again, they are what was packed. -/
theorem packed_back {r : Nat} {S P K : List Int} (hS : ∀ x ∈ S, Whole x ∧ wR x = (r : Int)) (h : Packed r S P) (hK : ∀ x, x ∈ K ↔ Whole x ∧ wR x = (r : Int) ∧ Cov P x) (x : Int) : x ∈ K ↔ x ∈ S := by
  rw [hK x]
  exact ⟨fun ⟨h1, h2, h3⟩ => (h.2.2.2.2 x h1 h2).1 h3, fun hx => ⟨(hS x hx).1, (hS x hx).2, (h.2.2.2.2 x (hS x hx).1 (hS x hx).2).2 hx⟩⟩

/-- How many of the first k have the parent u. -/
def broC (P : List Int) (u : Int) (k : Nat) : List Int := (P.take k).filter fun x => decide (0 < wR x) && (upW x == u)

theorem broC_next (P : List Int) (u : Int) {k : Nat} (h : k < P.length) : broC P u (k + 1) = broC P u k ++ if decide (0 < wR P[k]) && (upW P[k] == u) then [P[k]] else [] := by
  unfold broC
  rw [List.take_succ_eq_append_getElem h, List.filter_append]
  congr 1
  rw [List.filter_cons]
  simp

theorem broC_few {r : Nat} {S P : List Int} (h : Packed r S P) (u : Int) (k : Nat) : (broC P u k).length < 7 := by
  have hsub : ∀ x ∈ broC P u k, x ∈ P ∧ 0 < wR x ∧ upW x = u := fun x hx => by
    unfold broC at hx
    rw [List.mem_filter] at hx
    have := hx.2
    simp at this
    exact ⟨List.mem_of_mem_take hx.1, this.1, this.2⟩
  have hn : (broC P u k).Nodup := ((rising_nodup h.1).sublist (List.take_sublist _ _)).filter _
  have hk := seven_kids hn fun b hb => by
    obtain ⟨h1, h2, h3⟩ := hsub b hb
    obtain ⟨d, hd, e⟩ := kid_of_up (h.2.1 b h1).1 h2
    rw [h3] at e
    exact kidRow_mem.2 ⟨d, hd, e⟩
  by_cases h7 : (broC P u k).length = 7
  · have hall := hk.2.1 h7
    have h0 := hsub _ (hall 0 (by omega))
    have hw := (h.2.1 _ h0.1).1
    have hu := up_whole hw h0.2.1
    rw [h0.2.2] at hu
    have h12 := hw.2.1
    exact absurd (fun d hd => (hsub _ (hall d hd)).1) (h.2.2.2.1 u hu.1 (by omega))
  · omega

set_option maxHeartbeats 16000000 in
set_option maxRecDepth 20000 in
theorem packBack_walk (sX : Value) (X : List Int) (r : Int) (w : World) (hT : Tabs w) (hX : LstK .i64 w sX X) (_ : ∀ x ∈ X, -9223372036854775808 ≤ x ∧ x ≤ 9223372036854775807) (_ : -9223372036854775808 ≤ r) (_ : r ≤ 9223372036854775807) :
    Calls Tryz.prog 8 #[sX, .int .i64 r] w fun e w' => e = .returned (.bool true) ∧ Below w.heap.size w w' := by
  have AW := hidd fun w h => pawake w h
  have HT := hidd hT
  clear hT
  by_cases h20 : 20 < X.length
  · obtain ⟨pX, cX, rfl, -, -⟩ := hX
    have A1 := hidd (AW.out w HT.out)
    have h20' : (20 : Int) < (X.length : Int) := by omega
    go_enter Tryz.func8, Tryz.ntmps8
    go_wp2_with fail
    refine A1.out.mono ?_
    rintro e w1 ⟨rfl, b1⟩
    go_wp2_with fail
    go_ret
    exact ⟨rfl, b1⟩
  · obtain ⟨t, n, et, en, t1, t2, n12, -⟩ := sz_walk r
    have szn : szOf (n : Int) = (n : Int) := szOf_box (by omega) (by omega)
    have WS := hidd (words sX X (n : Int) n szn w hX).2
    obtain ⟨pX, cX, rfl, -, -⟩ := hX
    have h20' : decide ((20 : Int) < (X.length : Int)) = false := df (by omega)
    clear szn h20
    go_enter Tryz.func8, Tryz.ntmps8
    go_wp2_with fail
    refine WS.out.mono ?_
    rintro e w1 ⟨⟨sl, L, rfl, hn, hW, hO⟩, b1⟩
    have HW := hidd hW
    have UL : Hid (∀ x ∈ L, U64 x) := hidd fun x hx => by have := whole_box (hW x hx).1; exact ⟨by omega, by omega⟩
    have L1 := hidd (Lst.own hO)
    have CM := hidd (p_compact sl L (by omega) UL.out w1 L1.out)
    obtain ⟨c, ec⟩ : ∃ c, L.length = c := ⟨_, rfl⟩
    have EC := hidd ec
    rw [ec] at hO hn
    obtain ⟨pl, cl, rfl, -⟩ := own_slice hO
    have B1 := hidd b1
    clear hW ec hO b1 WS
    go_wp2_with fail
    refine CM.out.mono ?_
    rintro e w2 ⟨hc, b2⟩
    obtain ⟨sp, P, rfl, hP, hPn, hPl, -, hPo⟩ := cmp_yes (r := n) HW.out (by have := EC.out; omega) hc
    have HP := hidd hP
    obtain ⟨m, em⟩ : ∃ m, P.length = m := ⟨_, rfl⟩
    have EM := hidd em
    have mc : m ≤ c := by have := EC.out; omega
    have P2 := hidd hPl
    rw [em] at hPo
    obtain ⟨pp, cp, rfl, hpp⟩ := own_slice hPo
    have O2 := hidd hPo
    have UP : Hid (∀ x ∈ P, U64 x) := hidd fun x hx => by have := whole_box (HP.out.2.1 x hx).1; exact ⟨by omega, by omega⟩
    have CNT : Hid (cntR n P ≤ 300) := hidd (by have := packed_cnt n12 hP; have := EC.out; omega)
    have L2 := hidd (L1.out.keep b2)
    have B2 := hidd (belowT B1.out b2)
    have SP := hidd (p_spread _ P (n : Int) (by omega) (by omega) UP.out w2 P2.out (HT.out.below B2.out))
    clear hc hP hPn hPl hPo em b2 CM L1 B1
    go_wp2_with fail
    refine SP.out.mono ?_
    rintro e w3 ⟨hs, b3⟩
    obtain ⟨s3, K, rfl, hKr, hKm, hKn, hKl, hKa⟩ := spr_yes n12 HP.out.2.1 (by have := CNT.out; omega) hs
    have KL : Hid ((K.length : Int) = cntR n P) := hidd (spr_len n12 HP.out.2.1 HP.out.2.2.1 (rising_nodup HP.out.1) hKr hKm)
    have KM : Hid (∀ x, x ∈ K ↔ x ∈ L) := hidd (packed_back HW.out HP.out hKm)
    have KR := hidd hKr
    have K3 := hidd hKl
    have P3 := hidd (P2.out.keep b3)
    have O3 := hidd (own_keep b3 O2.out)
    have L3 := hidd (L2.out.keep b3)
    have B3 := hidd (belowT B2.out b3)
    obtain ⟨kl, ekl⟩ : ∃ kl, K.length = kl := ⟨_, rfl⟩
    have EK := hidd ekl
    obtain ⟨pk, ck, rfl, -, -⟩ := hKl
    have SZ := hidd (p_size _ P (n : Int) (by omega) (by have := EM.out; omega) UP.out w3 P3.out)
    rw [ekl] at hKn
    rw [ekl] at K3 ⊢
    clear hs hKr hKm hKa ekl b3 P2 O2 L2 B2 SP
    go_wp2_with fail
    refine SZ.out.mono ?_
    rintro e w4 ⟨⟨z, t', rfl, hz⟩, b4⟩
    obtain ⟨rfl, rfl⟩ := size_yes n12 HP.out.2.1 (by have := CNT.out; omega) hz
    have ez : cntR n P = (kl : Int) := by have := KL.out; have := EK.out; omega
    rw [ez]
    have K4 := hidd (K3.out.keep b4)
    have P4 := hidd (P3.out.keep b4)
    have O4 := hidd (own_keep b4 O3.out)
    have B4 := hidd (belowT B3.out b4)
    have SE := hidd (lset _ L (by have := EC.out; omega) UL.out w4 (L3.out.keep b4))
    rw [EC.out] at SE
    clear hz b4 K3 P3 O3 L3 B3 SZ ez
    go_wp2_with fail
    refine SE.out.mono ?_
    rintro e w5 ⟨⟨s5, K', rfl, k1, k2, k3, k4⟩, b5⟩
    obtain rfl : K' = K := rising_ext k1 KR.out fun x => by rw [k2 x, KM.out x]
    have SA := hidd (lsame _ s5 K' (by have := EK.out; omega) w5 (K4.out.keep b5) k4)
    have K5 := hidd (K4.out.keep b5)
    have P5 := hidd (P4.out.keep b5)
    have O5 := hidd (own_keep b5 O4.out)
    have B5 := hidd (belowT B4.out b5)
    obtain ⟨p5, c5, rfl, -, -⟩ := k4
    clear k1 k2 k3 b5 K4 P4 O4 B4 SE
    go_wp2_with fail
    refine SA.out.mono ?_
    rintro e w6 ⟨rfl, b6⟩
    have FR := hidd (p_free _ P (by have := EM.out; omega) UP.out true (by simp only [true_iff]; exact packed_free HP.out) w6 (P5.out.keep b6))
    have K6 := hidd (K5.out.keep b6)
    have P6 := hidd (P5.out.keep b6)
    have O6 := hidd (own_keep b6 O5.out)
    have B6 := hidd (belowT B5.out b6)
    clear b6 K5 P5 O5 B5 SA
    go_wp2_with fail
    refine FR.out.mono ?_
    rintro e w7 ⟨rfl, b7⟩
    have K7 := hidd (K6.out.keep b7)
    have P7 := hidd (P6.out.keep b7)
    have O3 := hidd (own_keep b7 O6.out)
    have B7 := hidd (belowT B6.out b7)
    clear b7 K6 P6 O6 B6 FR
    go_wp2_with fail
    obtain ⟨wq, rfl⟩ : ∃ z, z = w7 := ⟨_, rfl⟩
    go_loopw [12] (fun v12 wr => ∃ i : Nat, i ≤ m ∧ v12 = .int .i64 (i : Int) ∧ Hid (Below wq.heap.size wq wr)) (fun v12 _ => m - (intOf v12).toNat)
    case atStart => exact ⟨0, by omega, rfl, hidd (Below.refl _ _)⟩
    case round =>
      obtain ⟨i, hi, rfl, hY⟩ := hrel
      by_cases hlt : i < m
      · have hlt' : (i : Int) < (m : Int) := by omega
        obtain ⟨gp, rfl⟩ := own_some hpp (by omega)
        have hiP : i < P.length := by rw [EM.out]; exact hlt
        have c0 := keepCell hY.out ((own_cells O3.out).2.1 i hiP)
        have hwx := HP.out.2.1 _ (List.getElem_mem hiP)
        by_cases hr : 0 < wR P[i]
        · have UPx := hidd fun w => rup_yes2 P[i] hwx.1 hr w
          have FEW := hidd fun k => broC_few HP.out (upW P[i]) k
          have NXT := hidd fun k h => broC_next P (upW P[i]) (k := k) h
          clear hwx hr
          generalize upW P[i] = u at *
          generalize P[i] = x at *
          go_wp2_with fail
          refine (UPx.out _).mono ?_
          rintro e w8 ⟨rfl, b8⟩
          have Y8 := hidd (belowT hY.out b8)
          clear b8 UPx hY c0
          go_wp2_with fail
          go_loopw [15, 16] (fun v15 v16 wr => ∃ k nb : Nat, k ≤ m ∧ nb ≤ k ∧ v16 = .int .i64 (k : Int) ∧ v15 = .int .i64 (nb : Int) ∧ Hid ((broC P u k).length = nb) ∧ Hid (Below wq.heap.size wq wr)) (fun _ v16 _ => m - (intOf v16).toNat)
          case atStart => exact ⟨0, 0, by omega, by omega, rfl, rfl, hidd rfl, Y8⟩
          case round =>
            clear Y8
            obtain ⟨k, nb, hk, hnb, rfl, rfl, hN, hY⟩ := hrel
            by_cases hkm : k < m
            · have hkm' : (k : Int) < (m : Int) := by omega
              have hkP : k < P.length := by rw [EM.out]; exact hkm
              have c0 := keepCell hY.out ((own_cells O3.out).2.1 k hkP)
              have hwk := HP.out.2.1 _ (List.getElem_mem hkP)
              have hnx := hidd (NXT.out k hkP)
              by_cases hrk : 0 < wR P[k]
              · have UPk := hidd fun w => rup_yes2 P[k] hwk.1 hrk w
                have e1 : decide (0 < wR P[k]) = true := by simp [hrk]
                rw [e1, Bool.true_and] at hnx
                clear hwk hrk e1
                generalize upW P[k] = q at *
                generalize P[k] = y at *
                go_wp2_with fail
                refine (UPk.out _).mono ?_
                rintro e w9 ⟨rfl, b9⟩
                have Y9 := hidd (belowT hY.out b9)
                clear b9 UPk hY c0
                cases hq : (q == u) with
                | true =>
                  have hN2 : Hid ((broC P u (k + 1)).length = nb + 1) := hidd (by rw [hnx.out, hq]; simp [hN.out])
                  go_wp2_with fail
                  go_roundw
                  case rel => exact ⟨k + 1, nb + 1, by omega, by omega, by go_num, by go_num, hN2, Y9⟩
                  case measure => simp [intOf]; omega
                | false =>
                  have hN2 : Hid ((broC P u (k + 1)).length = nb) := hidd (by rw [hnx.out, hq]; simp [hN.out])
                  go_wp2_with fail
                  go_roundw
                  case rel => exact ⟨k + 1, nb, by omega, by omega, by go_num, rfl, hN2, Y9⟩
                  case measure => simp [intOf]; omega
              · have hr0 : wR P[k] = 0 := by have := wR_box P[k]; omega
                have UPk := hidd fun w => rup_top P[k] hwk.1 hr0 w
                have e1 : decide (0 < wR P[k]) = false := df hrk
                rw [e1, Bool.false_and] at hnx
                have hN2 : Hid ((broC P u (k + 1)).length = nb) := hidd (by rw [hnx.out]; simp [hN.out])
                clear hwk hrk e1 hr0 hnx
                generalize P[k] = y at *
                go_wp2_with fail
                refine (UPk.out _).mono ?_
                rintro e w9 ⟨rfl, b9⟩
                have Y9 := hidd (belowT hY.out b9)
                clear b9 UPk hY c0
                go_wp2_with fail
                go_roundw
                case rel => exact ⟨k + 1, nb, by omega, by omega, by go_num, rfl, hN2, Y9⟩
                case measure => simp [intOf]; omega
            · obtain rfl : k = m := by omega
              have hkm' : decide ((k : Int) < (k : Int)) = false := by simp
              obtain ⟨NB, rfl⟩ : ∃ z, z = nb := ⟨_, rfl⟩
              have hnb7 : NB < 7 := by have := FEW.out k; have := hN.out; omega
              clear FEW NXT hN
              have hB7 : decide ((7 : Int) ≤ (NB : Int)) = false := df (by omega)
              by_cases hi0 : 0 < i
              · have hi0' : decide ((0 : Int) < (i : Int)) = true := by simp; omega
                have c1 := keepCell hY.out ((own_cells O3.out).2.1 (i - 1) (by have := EM.out; omega))
                have c2 := keepCell hY.out ((own_cells O3.out).2.1 i (by have := EM.out; omega))
                have hris : decide (P[i]'(by have := EM.out; omega) ≤ P[i - 1]'(by have := EM.out; omega)) = false := df (by
                  have := rise_at HP.out.1 (i := i - 1) (j := i) (by have := EM.out; omega) (by have := EM.out; omega) (by omega)
                  omega)
                have ei : (((i - 1 : Nat)) : Int) = (i : Int) - 1 := by omega
                have ei2 : ((i : Int) - 1).toNat = i - 1 := by omega
                generalize P[i - 1]'_ = y1 at *
                generalize P[i]'_ = y2 at *
                go_wp2_with fail
                go_quiet (fail)
                go_wp2_with fail
                go_roundw
                case rel => exact ⟨i + 1, by omega, by go_num, hidd (by first | exact hY.out | exact belowN hY.out _)⟩
                case measure => simp [intOf]; omega
              · obtain rfl : i = 0 := by omega
                have hi0' : decide ((0 : Int) < ((0 : Nat) : Int)) = false := by simp
                go_wp2_with fail
                go_quiet (fail)
                go_wp2_with fail
                go_roundw
                case rel => exact ⟨0 + 1, by omega, by go_num, hidd (by first | exact hY.out | exact belowN hY.out _)⟩
                case measure => simp [intOf]; omega
        · have hr0 : wR P[i] = 0 := by have := wR_box P[i]; omega
          have UPx := hidd fun w => rup_top P[i] hwx.1 hr0 w
          clear hwx hr hr0
          generalize P[i] = x at *
          go_wp2_with fail
          refine (UPx.out _).mono ?_
          rintro e w8 ⟨rfl, b8⟩
          have Y8 := hidd (belowT hY.out b8)
          clear b8 UPx hY c0
          go_wp2_with fail
          go_loopw [15, 16] (fun v15 v16 wr => ∃ NB : Nat, NB < 7 ∧ v16 = .int .i64 0 ∧ v15 = .int .i64 (NB : Int) ∧ Hid (Below wq.heap.size wq wr)) (fun _ _ _ => 0)
          case atStart => exact ⟨0, by omega, rfl, rfl, Y8⟩
          case round =>
            clear Y8
            obtain ⟨NB, hnb7, rfl, rfl, hY⟩ := hrel
            have hB7 : decide ((7 : Int) ≤ (NB : Int)) = false := df (by omega)
            by_cases hi0 : 0 < i
            · have hi0' : decide ((0 : Int) < (i : Int)) = true := by simp; omega
              have c1 := keepCell hY.out ((own_cells O3.out).2.1 (i - 1) (by have := EM.out; omega))
              have c2 := keepCell hY.out ((own_cells O3.out).2.1 i (by have := EM.out; omega))
              have hris : decide (P[i]'(by have := EM.out; omega) ≤ P[i - 1]'(by have := EM.out; omega)) = false := df (by
                have := rise_at HP.out.1 (i := i - 1) (j := i) (by have := EM.out; omega) (by have := EM.out; omega) (by omega)
                omega)
              have ei : (((i - 1 : Nat)) : Int) = (i : Int) - 1 := by omega
              have ei2 : ((i : Int) - 1).toNat = i - 1 := by omega
              generalize P[i - 1]'_ = y1 at *
              generalize P[i]'_ = y2 at *
              go_wp2_with fail
              go_quiet (fail)
              go_wp2_with fail
              go_roundw
              case rel => exact ⟨i + 1, by omega, by go_num, hidd (by first | exact hY.out | exact belowN hY.out _)⟩
              case measure => simp [intOf]; omega
            · obtain rfl : i = 0 := by omega
              have hi0' : decide ((0 : Int) < ((0 : Nat) : Int)) = false := by simp
              go_wp2_with fail
              go_quiet (fail)
              go_wp2_with fail
              go_roundw
              case rel => exact ⟨0 + 1, by omega, by go_num, hidd (by first | exact hY.out | exact belowN hY.out _)⟩
              case measure => simp [intOf]; omega
      · obtain rfl : i = m := by omega
        have hlt' : decide ((i : Int) < (i : Int)) = false := by simp
        have K8 := hidd (K7.out.keep hY.out)
        have P8 := hidd (P7.out.keep hY.out)
        have B8 := hidd (belowT B7.out hY.out)
        have CM := hidd (p_compact _ K' (by have := EK.out; omega) (fun x hx => UL.out x ((KM.out x).1 hx)) wr K8.out)
        clear hY hlt K7 P7 B7 O3
        go_wp2_with fail
        refine CM.out.mono ?_
        rintro e w8 ⟨hc, b8⟩
        obtain ⟨s8, Q, rfl, hQ, -, hQl, -⟩ := cmp_yes (r := n) (fun x hx => HW.out x ((KM.out x).1 hx)) (by have := EK.out; omega) hc
        obtain rfl : Q = P := hQ.one n12 HP.out KM.out
        have SA := hidd (lsame s8 _ Q (by have := EM.out; omega) w8 hQl (P8.out.keep b8))
        have B9 := hidd (belowT B8.out b8)
        obtain ⟨p8, c8, rfl, -, -⟩ := hQl
        clear hc hQ b8 B8 P8 CM
        go_wp2_with fail
        refine SA.out.mono ?_
        rintro e w9 ⟨rfl, b9⟩
        have B10 := hidd (belowT B9.out b9)
        have A9 := hidd (AW.out w9 (HT.out.below B10.out))
        clear b9 B9 SA
        go_wp2_with fail
        refine A9.out.mono ?_
        rintro e w10 ⟨rfl, b10⟩
        go_wp2_with fail
        go_ret
        exact ⟨rfl, belowT B10.out b10⟩

end Go.Proofs.YtlfjfendlohekaaGreatDoor
