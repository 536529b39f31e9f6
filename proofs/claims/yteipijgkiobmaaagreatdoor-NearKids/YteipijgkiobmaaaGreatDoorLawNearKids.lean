/-
  The law NearKids: it returns true for any point's cell above the finest size, in whatever memory where both tables hold what their texts lay.
-/
import Derived.Test.YteipijgkiobmaaaGreatDoorNAwake
import Derived.Test.YteipijgkiobmaaaGreatDoorNPoint
import Derived.Test.YteipijgkiobmaaaGreatDoorNB6
namespace Go.Proofs.YteipijgkiobmaaaGreatDoor
open Go.RowKit

theorem size12 (r : Int) : ∃ t s : Int, r.tmod 12 = t ∧ (t + 12).tmod 12 = s ∧ -12 < t ∧ t < 12 ∧ 0 ≤ s ∧ s < 12 := by
  have h := tmod_box r 12 (by omega)
  refine ⟨_, _, rfl, rfl, h.1, h.2, ?_, ?_⟩
  all_goals
    generalize r.tmod 12 = t at *
    rw [Int.tmod_eq_emod_of_nonneg (by omega)]
    omega
/-- How far two children are from each other; how many of the first k are beside the i-th one. -/
def kidD (i k : Nat) : Int := stp (ptA (k : Int) - ptA (i : Int)) (ptB (k : Int) - ptB (i : Int))
def kidN (i : Nat) : Nat → Nat
  | 0 => 0
  | k + 1 => if kidD i k = 1 then kidN i k + 1 else kidN i k
theorem kidD_fin : ∀ i k : Fin 7, decide (0 ≤ kidD i.val k.val ∧ kidD i.val k.val ≤ 2) = true := by decide +kernel
theorem kidN_fin : ∀ i : Fin 7, decide (kidN i.val 7 = if i.val = 0 then 6 else 3) = true := by decide +kernel
theorem kidN_le (i : Nat) : ∀ k, kidN i k ≤ k
  | 0 => Nat.le_refl _
  | k + 1 => by have := kidN_le i k; unfold kidN; split <;> omega

set_option maxHeartbeats 8000000 in
set_option maxRecDepth 20000 in
theorem nearKids_walk (x0 y0 r0 : Int) (w : World) (hT : Tabs w) : Calls Tryz.prog 4 #[.int .i64 x0, .int .i64 y0, .int .i64 r0] w fun e w' => e = .returned (.bool true) ∧ Below w.heap.size w w' := by
  obtain ⟨t, s, ht, hs, t1, t2, s0, s1⟩ := size12 r0
  obtain ⟨n, P, Q, hM, hn, PW⟩ := pword x0 y0 s
  have hns : (n : Int) = s := hn s0 (by omega)
  have hO := hM.self
  have hz := word_eq hO
  have CE := hidd (rwcell_yes _ hz.1)
  rw [hz.2.1, hz.2.2.1, hz.2.2.2.1] at CE
  have KI := hidd (rkids_yes (n : Int) P Q hO (by omega))
  have hOk : ∀ d : Nat, d < 7 → Ok4 ((n + 1 : Nat) : Int) (chA (d : Int) P Q) (chB (d : Int) P Q) := fun d hd => by
    have := ok4_child hO (show (n : Int) < 12 by omega) (d := (d : Int)) (by omega) (by omega)
    rwa [show (n : Int) + 1 = ((n + 1 : Nat) : Int) by omega] at this
  obtain ⟨kw, ekw⟩ : ∃ kw : Nat → Int, ∀ d, kw d = wordOf (n + 1) (chA (d : Int) P Q) (chB (d : Int) P Q) := ⟨_, fun _ => rfl⟩
  have WO : Hid (∀ d : Nat, d < 7 → ∀ w, Calls Tryz.prog 16 #[.agg #[.int .i64 ((n : Int) + 1), .int .i64 (chA (d : Int) P Q), .int .i64 (chB (d : Int) P Q)]] w fun e w' => e = .returned (.tuple #[.int .u64 (kw d), .int .i64 0]) ∧ Below w.heap.size w w') := by
    refine hidd fun d hd w => ?_
    rw [ekw d, show (n : Int) + 1 = ((n + 1 : Nat) : Int) by omega]
    exact rword_yes (n + 1) _ _ (hOk d hd) w
  have DI : Hid (∀ i k : Nat, i < 7 → k < 7 → ∀ w, Tabs w → Calls Tryz.prog 12 #[.int .u64 (kw i), .int .u64 (kw k)] w fun e w' => e = .returned (.tuple #[.int .i64 (kidD i k), .int .i64 0]) ∧ Below w.heap.size w w') := by
    refine hidd fun i k hi hk w hT => ?_
    have h1 := word_eq (hOk i hi)
    have h2 := word_eq (hOk k hk)
    have := ndist_yes _ _ h1.1 h2.1 (by rw [h1.2.1, h2.2.1]) w hT
    rw [h1.2.2.1, h1.2.2.2.1, h2.2.2.1, h2.2.2.2.1] at this
    have e1 : chA (k : Int) P Q - chA (i : Int) P Q = ptA (k : Int) - ptA (i : Int) := by unfold chA; omega
    have e2 : chB (k : Int) P Q - chB (i : Int) P Q = ptB (k : Int) - ptB (i : Int) := by unfold chB; omega
    rw [e1, e2] at this
    rw [ekw i, ekw k]
    exact this
  have hT0 : Hid (Tabs w) := hT
  replace PW := hidd PW
  obtain ⟨i0, hi0, hz0, hz1, hz2⟩ := info_parts infoU64
  have hev := even_part y0
  rw [← hns] at hs PW
  have n12 : (n : Int) < 12 := by omega
  generalize wordOf n P Q = Z at *
  clear hT hM hO hz hn hns hOk s0 s1 hev
  go_enter Tryz.func4, Tryz.ntmps4
  go_wp2_with fail
  refine (PW.out _).mono ?_
  rintro e w1 ⟨rfl, d1⟩
  have c1 : Below w.heap.size w w1 := Below.trans (by go_grown) (d1.mono (by simp; try omega))
  have hB := c1
  clear c1 d1
  go_wp2_with fail
  refine (CE.out _).mono ?_
  rintro e w2 ⟨rfl, d2⟩
  have c2 : Below w1.heap.size w1 w2 := Below.trans (by go_grown) (d2.mono (by simp; try omega))
  replace hB := belowT hB c2
  clear c2 d2
  go_wp2_with fail
  refine (KI.out _).mono ?_
  rintro e w3 ⟨⟨g, cap, rfl, hG⟩, d3⟩
  have c3 : Below w2.heap.size w2 w3 := Below.trans (by go_grown) (d3.mono (by simp; try omega))
  have c0 : w3.cell? ⟨w2.heap.size, 0, none⟩ = some (.int .i64 n) := keepCell d3 (by go_simp)
  have qc0 := World.block_lt_of_cell? _ _ c0
  replace hB := belowT hB c3
  clear c3 d3
  have hG0 := hidd hG
  have B3 := hB
  go_wp2_with fail
  go_loopw [11, 12] (fun v11 v12 wr => ∃ k : Nat, k ≤ 7 ∧ v12 = .int .i64 (k : Int) ∧ Hid (wr.ownsRow w3.heap.size 22 1 v11 k (vals ((List.range k).map kw))) ∧ Below w3.heap.size w3 wr) (fun _ v12 _ => 7 - (intOf v12).toNat)
  case atStart => exact ⟨0, by omega, rfl, World.ownsRow_nil _ _ _ _, Below.refl _ _⟩
  case round =>
    obtain ⟨k, hk, rfl, hO, hB1⟩ := hrel
    by_cases hlt : k < 7
    · have d0 : wr.cell? ⟨g, k * 3, none⟩ = some (.int .i64 ((n : Int) + 1)) := keepCell hB1 (by rw [hG0.out _ (by omega), kidG_0])
      have d1 : wr.cell? ⟨g, k * 3 + 1, none⟩ = some (.int .i64 (chA (k : Int) P Q)) := keepCell hB1 (by rw [hG0.out _ (by omega), kidG_1])
      have d2 : wr.cell? ⟨g, k * 3 + 2, none⟩ = some (.int .i64 (chB (k : Int) P Q)) := keepCell hB1 (by rw [hG0.out _ (by omega), kidG_2])
      have WK := hidd (WO.out k hlt)
      have hv : Hid (vals ((List.range (k + 1)).map kw) = vals ((List.range k).map kw) ++ [.int .u64 (kw k)]) := hidd (by rw [List.range_succ, List.map_append]; simp [vals])
      generalize chA (k : Int) P Q = X at *
      generalize chB (k : Int) P Q = Y at *
      generalize kw k = z at *
      go_wp2_with fail
      refine (WK.out wr).mono ?_
      rintro e w4 ⟨rfl, hb1⟩
      have hO1 := hidd (own_keep hb1 hO.out)
      have hB2 := hB1.trans (hb1.mono hB1.size)
      have hws := hB2.size
      clear hO hB1 hb1 WK d0 d1 d2 hG
      go_wp2_with (at_builtin; refine wpList_append_own _ rfl (.tmp 52) (.tmp 54) 24 rfl w3.heap.size 22 i0 (.int .u64 0) 1 8 Tryz.underlying24 hi0 hz0 hz1 hz2 rfl (by decide) _ _ _ rfl (own_keep (allocB _ _) hO1.out) ⟨w4.heap.size, 0, none⟩ 1 1 [.int .u64 z] rfl rfl (one_lies _ _ rfl _ _) (one_int _ _) (by unfold maxLen; omega) (by omega) (by simp; omega) ?_)
      intro v' w5 hown hgrow _
      have hB5 := (hB2.alloc hws (.cells #[.int .u64 z] 22)).grown hgrow (by simp; omega) (own_block hO1.out)
      have hO5 : Hid (w5.ownsRow w3.heap.size 22 1 v' (k + 1) (vals ((List.range (k + 1)).map kw))) := hidd (by rw [hv.out]; exact hown)
      clear hown hgrow hO1 hB2 hws hv
      go_wp2
      go_roundw
      case rel => exact ⟨k + 1, by omega, by go_num, hO5, hB5⟩
      case measure => simp [intOf]; omega
    · obtain rfl : k = 7 := by omega
      rw [show ((7 : Nat) : Int) = (7 : Int) from rfl]
      obtain ⟨g2, cap2, rfl⟩ := own_shape hO.out (by omega)
      have hc := own_cells hO.out
      have RD : Hid (∀ j : Nat, j < 7 → wr.cell? ⟨g2, j, none⟩ = some (.int .u64 (kw j))) := hidd fun j hj => by
        rw [hc.2.1 j (by simpa using hj)]; simp
      have B4 := belowT B3 hB1
      have T4 := hidd (hT0.out.below B4)
      clear hO hc hG hG0 WO B3 hB1 c0
      go_wp2_with fail
      obtain ⟨wO, rfl⟩ : ∃ z, z = wr := ⟨_, rfl⟩
      go_loopw [15] (fun v15 w6 => ∃ i : Nat, i ≤ 7 ∧ v15 = .int .i64 (i : Int) ∧ Below wO.heap.size wO w6) (fun v15 _ => 7 - (intOf v15).toNat)
      case atStart => exact ⟨0, by omega, rfl, Below.refl _ _⟩
      case round =>
        obtain ⟨i, hi, rfl, hB6⟩ := hrel
        by_cases hli : i < 7
        · have hB60 := hB6
          have hliz : decide ((i : Int) < 7) = true := decide_eq_true (by omega)
          go_wp2_with fail
          go_loopw [16, 17] (fun v16 v17 w7 => ∃ k : Nat, k ≤ 7 ∧ v17 = .int .i64 (k : Int) ∧ v16 = .int .i64 ((kidN i k : Nat) : Int) ∧ Below wO.heap.size wO w7) (fun _ v17 _ => 7 - (intOf v17).toNat)
          case atStart => exact ⟨0, by omega, rfl, rfl, hB60⟩
          case round =>
            clear hB60 hB6 hliz
            have hii : (i : Int) < 7 := by omega
            obtain ⟨k, hk, rfl, rfl, hB7⟩ := hrel
            by_cases hlk : k < 7
            · have x1 := keepCell hB7 (RD.out i hli)
              have x2 := keepCell hB7 (RD.out k hlk)
              have T7 := hT0.out.below (belowT B4 hB7)
              have DK := hidd (DI.out i k hli hlk)
              have hD : 0 ≤ kidD i k ∧ kidD i k ≤ 2 := of_decide_eq_true (kidD_fin ⟨i, hli⟩ ⟨k, hlk⟩)
              have hN : Hid (kidN i (k + 1) = if kidD i k = 1 then kidN i k + 1 else kidN i k) := rfl
              have hNl := kidN_le i k
              obtain ⟨D1, D2⟩ := hD
              generalize kidD i k = D at *
              generalize kidN i k = N at *
              generalize kw i = z1 at *
              generalize kw k = z2 at *
              have hS0 : wr.drew.cell? ⟨g2, i, none⟩ = some (.int .u64 z1) ∧ wr.drew.cell? ⟨g2, k, none⟩ = some (.int .u64 z2) ∧ Below wr.heap.size wr wr.drew := ⟨x1, x2, (Below.refl _ _).drew⟩
              have TS : Hid (∀ wx, Below wr.heap.size wr wx → Tabs wx) := hidd fun wx h => T7.below h
              go_wp2_with fail
              go_region_held3 (fun w' => w'.cell? ⟨g2, i, none⟩ = some (.int .u64 z1) ∧ w'.cell? ⟨g2, k, none⟩ = some (.int .u64 z2) ∧ Below wr.heap.size wr w') (first | exact hS0 | exact keepTwo hb (by assumption)) (first | (go_at_call 12; refine (DK.out _ (TS.out _ (And.right (And.right (by assumption))))).mono ?_; rintro e w' ⟨rfl, hb⟩))
              all_goals
                rename_i hS
                have hW := belowT hB7 hS.2.2
                clear hS hS0 hb x1 x2 T7 DK TS
                by_cases hD1 : D = 1
                · subst hD1
                  rw [if_pos rfl] at hN
                  go_wp2
                  go_roundw
                  case rel => exact ⟨k + 1, by omega, by go_num, by rw [hN.out]; go_num, hW⟩
                  case measure => simp [intOf]; omega
                · rw [if_neg hD1] at hN
                  have hD1z : (D == 1) = false := by simpa using hD1
                  go_wp2
                  go_roundw
                  case rel => exact ⟨k + 1, by omega, by go_num, by rw [hN.out], hW⟩
                  case measure => simp [intOf]; omega
            · obtain rfl : k = 7 := by omega
              have hN : kidN i 7 = if i = 0 then 6 else 3 := of_decide_eq_true (kidN_fin ⟨i, hli⟩)
              generalize kidN i 7 = N at *
              by_cases hi0 : i = 0
              · subst hi0
                rw [if_pos rfl] at hN
                subst hN
                go_wp2
                go_roundw
                case rel => exact ⟨1, by omega, rfl, hB7⟩
                case measure => simp [intOf]
              · rw [if_neg hi0] at hN
                subst hN
                have hi0z : ((i : Int) == 0) = false := by simp; omega
                have hi1z : decide (0 < (i : Int)) = true := decide_eq_true (by omega)
                go_wp2
                go_roundw
                case rel => exact ⟨i + 1, by omega, by go_num, hB7⟩
                case measure => simp [intOf]; omega
        · obtain rfl : i = 7 := by omega
          have B7 := belowT B4 hB6
          have AW := hidd (nawake wr (hT0.out.below B7))
          clear RD DI T4 hB6 B4
          go_wp2_with fail
          refine AW.out.mono ?_
          rintro e w8 ⟨rfl, b8⟩
          go_wp2
          go_ret
          exact ⟨rfl, belowT B7 b8⟩
end Go.Proofs.YteipijgkiobmaaaGreatDoor
