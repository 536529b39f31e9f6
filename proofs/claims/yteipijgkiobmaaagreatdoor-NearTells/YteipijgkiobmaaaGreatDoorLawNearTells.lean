/-
  The law NearTells: it returns true for any words and radii, in whatever memory where both tables hold what their texts lay.
-/
import Derived.Test.YteipijgkiobmaaaGreatDoorNTwin
namespace Go.Proofs.YteipijgkiobmaaaGreatDoor
open Go.RowKit

theorem rem13 (k : Int) (h : 0 ≤ k) : ∃ q, k.tmod 13 = q ∧ 0 ≤ q ∧ q ≤ 12 := by
  refine ⟨_, rfl, ?_, ?_⟩
  all_goals
    rw [Int.tmod_eq_emod_of_nonneg h]
    omega
theorem same_rows {w : World} {s t : Value} {L : List Int} (hl : L.length ≤ 1000) (h1 : RowAt 0 w s L) (h2 : RowAt 0 w t L) :
    Calls Tryz.prog 21 #[s, t] w fun e w' => e = .returned (.bool true) ∧ Below w.heap.size w w' := rsame 0 0 s t L (by omega) w h1 h2

set_option maxHeartbeats 8000000 in
set_option maxRecDepth 20000 in
theorem nearTells_walk (raw x0 y0 r0 u0 v0 k : Int) (hr0 : 0 ≤ raw) (hr1 : raw ≤ 18446744073709551615) (_ : -9223372036854775808 ≤ x0) (_ : x0 ≤ 9223372036854775807) (_ : -9223372036854775808 ≤ y0) (_ : y0 ≤ 9223372036854775807) (_ : -9223372036854775808 ≤ r0) (_ : r0 ≤ 9223372036854775807) (_ : -9223372036854775808 ≤ u0) (_ : u0 ≤ 9223372036854775807) (_ : -9223372036854775808 ≤ v0) (_ : v0 ≤ 9223372036854775807) (_ : -9223372036854775808 ≤ k) (_ : k ≤ 9223372036854775807) (w : World) (hT : Tabs w) : Calls Tryz.prog 6 #[.int .u64 raw, .int .i64 x0, .int .i64 y0, .int .i64 r0, .int .i64 u0, .int .i64 v0, .int .i64 k] w fun e w' => e = .returned (.bool true) ∧ Below w.heap.size w w' := by
  obtain ⟨s1, s12, S1⟩ := aword_any x0 y0 r0
  obtain ⟨s2, s22, S2⟩ := aword_any u0 v0 r0
  replace S1 := hidd S1
  replace S2 := hidd S2
  have hT0 : Hid (Tabs w) := hT
  have hraw : Hid (U64 raw) := hidd ⟨hr0, by omega⟩
  clear hT s12 s22 hr0 hr1
  go_enter Tryz.func6, Tryz.ntmps6
  go_wp2_with fail
  refine (S1.out _).mono ?_
  rintro e w1 ⟨⟨P1, Q1, rfl, O1⟩, b1⟩
  go_wp2_with fail
  refine (S2.out _).mono ?_
  rintro e w2 ⟨⟨P2, Q2, rfl, O2⟩, b2⟩
  have B2 := belowT b1 b2
  have U1 : U64 (wordOf s1 P1 Q1) := (word_eq O1).2.2.2.2
  have U2 : U64 (wordOf s2 P2 Q2) := (word_eq O2).2.2.2.2
  generalize wordOf s1 P1 Q1 = W1 at *
  generalize wordOf s2 P2 Q2 = O at *
  replace U1 := hidd U1
  replace U2 := hidd U2
  clear O1 O2 S1 S2 b1 b2
  go_wp2_with fail
  go_loopw [15, 17] (fun v15 v17 wr => ∃ (W : Int) (i : Nat), Hid (U64 W) ∧ i ≤ 2 ∧ v15 = .int .u64 W ∧ v17 = .int .i64 (i : Int) ∧ Below w.heap.size w wr) (fun _ v17 _ => 2 - (intOf v17).toNat)
  case atStart => exact ⟨W1, 0, U1, by omega, rfl, rfl, B2⟩
  case round =>
    clear B2 U1
    obtain ⟨W, i, hW, hi, rfl, rfl, hB⟩ := hrel
    have T0 := hidd (hT0.out.below hB)
    by_cases hlt : i < 2
    · obtain ⟨L1, t1, l1, N1, M1⟩ := twin_neigh W hW.out
      obtain ⟨n2, t2, N2, M2⟩ := twin_dist W O hW.out U2.out
      obtain ⟨n3, t3, N3, M3⟩ := twin_dist O W U2.out hW.out
      replace N1 := hidd N1
      replace M1 := hidd M1
      replace N2 := hidd N2
      replace M2 := hidd M2
      replace N3 := hidd N3
      replace M3 := hidd M3
      go_wp2_with fail
      refine (N1.out _ T0.out).mono ?_
      rintro e w3 ⟨⟨a1, rfl, ra⟩, b3⟩
      have B3 := belowT hB b3
      have RA := hidd ra
      clear N1 b3 ra T0 hB
      go_wp2_with fail
      refine (M1.out _).mono ?_
      rintro e w4 ⟨⟨a2, rfl, rb⟩, b4⟩
      have B4 := belowT B3 b4
      replace RA := hidd (RA.out.keep b4)
      have RB := hidd rb
      have T4 := hidd (hT0.out.below B4)
      clear M1 b4 rb B3
      go_wp2_with fail
      refine (N2.out _ T4.out).mono ?_
      rintro e w5 ⟨rfl, b5⟩
      have B5 := belowT B4 b5
      replace RA := hidd (RA.out.keep b5)
      replace RB := hidd (RB.out.keep b5)
      clear N2 b5 B4 T4
      go_wp2_with fail
      refine (M2.out _).mono ?_
      rintro e w6 ⟨rfl, b6⟩
      have B6 := belowT B5 b6
      replace RA := hidd (RA.out.keep b6)
      replace RB := hidd (RB.out.keep b6)
      have T6 := hidd (hT0.out.below B6)
      clear M2 b6 B5
      go_wp2_with fail
      refine (N3.out _ T6.out).mono ?_
      rintro e w7 ⟨rfl, b7⟩
      have B7 := belowT B6 b7
      replace RA := hidd (RA.out.keep b7)
      replace RB := hidd (RB.out.keep b7)
      clear N3 b7 B6 T6
      go_wp2_with fail
      refine (M3.out _).mono ?_
      rintro e w8 ⟨rfl, b8⟩
      have B8 := belowT B7 b8
      replace RA := hidd (RA.out.keep b8)
      replace RB := hidd (RB.out.keep b8)
      have SA := hidd (same_rows l1 RA.out RB.out)
      clear M3 b8 B7 RA RB l1
      go_wp2_with fail
      refine SA.out.mono ?_
      rintro e w9 ⟨rfl, b9⟩
      have B9 := belowT B8 b9
      clear SA b9 B8
      have ht : ∃ q, (if 0 ≤ k ∧ k ≤ 3333 then k.tmod 13 else k) = q ∧ (q < 0 ∨ q ≤ 12 ∨ 3333 < q) := by
        by_cases h : 0 ≤ k ∧ k ≤ 3333
        · obtain ⟨q, e, q0, q1⟩ := rem13 k h.1
          exact ⟨q, by rw [if_pos h, e], by omega⟩
        · exact ⟨k, by rw [if_neg h], by omega⟩
      have hd : ∃ q, (if 0 ≤ k ∧ k ≤ 81 then k.tmod 13 else k) = q ∧ (q < 0 ∨ q ≤ 12 ∨ 81 < q) := by
        by_cases h : 0 ≤ k ∧ k ≤ 81
        · obtain ⟨q, e, q0, q1⟩ := rem13 k h.1
          exact ⟨q, by rw [if_pos h, e], by omega⟩
        · exact ⟨k, by rw [if_neg h], by omega⟩
      obtain ⟨q1, e1, x1⟩ := ht
      obtain ⟨q2, e2, x2⟩ := hd
      obtain ⟨L4, t4, l4, N4, M4⟩ := twin_ring W q1 hW.out x1
      obtain ⟨L5, t5, l5, N5, M5⟩ := twin_disk W q2 hW.out x2
      replace N4 := hidd N4
      replace M4 := hidd M4
      replace N5 := hidd N5
      replace M5 := hidd M5
      have T9 := hidd (hT0.out.below B9)
      clear x1 x2
      rcases (show k < 0 ∨ (0 ≤ k ∧ k ≤ 81) ∨ (81 < k ∧ k ≤ 3333) ∨ 3333 < k by omega) with c | c | c | c
      · rw [if_neg (by omega)] at e1 e2
        subst e1 e2
        have z0 : decide (0 ≤ k) = false := decide_eq_false (by omega)
        go_wp2_with fail
        refine (N4.out _ T9.out).mono ?_
        rintro e v1 ⟨⟨a1, rfl, ra⟩, c1⟩
        have C1 := belowT B9 c1
        have RA := hidd ra
        clear N4 c1 ra T9 B9
        go_wp2_with fail
        refine (M4.out _).mono ?_
        rintro e v2 ⟨⟨a2, rfl, rb⟩, c2⟩
        have C2 := belowT C1 c2
        have SA := hidd (same_rows l4 (RA.out.keep c2) rb)
        clear M4 c2 rb C1 RA l4
        go_wp2_with fail
        refine SA.out.mono ?_
        rintro e v3 ⟨rfl, c3⟩
        have C3 := belowT C2 c3
        have T3 := hidd (hT0.out.below C3)
        clear SA c3 C2
        go_wp2_with fail
        refine (N5.out _ T3.out).mono ?_
        rintro e v4 ⟨⟨a1, rfl, ra⟩, c4⟩
        have C4 := belowT C3 c4
        have RA := hidd ra
        clear N5 c4 ra T3 C3
        go_wp2_with fail
        refine (M5.out _).mono ?_
        rintro e v5 ⟨⟨a2, rfl, rb⟩, c5⟩
        have C5 := belowT C4 c5
        have SA := hidd (same_rows l5 (RA.out.keep c5) rb)
        clear M5 c5 rb C4 RA l5
        go_wp2_with fail
        refine SA.out.mono ?_
        rintro e v6 ⟨rfl, c6⟩
        have C6 := belowT C5 c6
        clear SA c6 C5
        go_wp2
        go_roundw
        case rel => exact ⟨raw, i + 1, hraw, by omega, rfl, by go_num, C6⟩
        case measure => simp [intOf]; omega
      · rw [if_pos (by omega)] at e1 e2
        obtain rfl : q1 = q2 := by rw [← e1, ← e2]
        have z0 : decide (0 ≤ k) = true := decide_eq_true (by omega)
        have z1 : decide (k ≤ 3333) = true := decide_eq_true (by omega)
        have z2 : decide (k ≤ 81) = true := decide_eq_true (by omega)
        go_wp2_with fail
        refine (N4.out _ T9.out).mono ?_
        rintro e v1 ⟨⟨a1, rfl, ra⟩, c1⟩
        have C1 := belowT B9 c1
        have RA := hidd ra
        clear N4 c1 ra T9 B9
        go_wp2_with fail
        refine (M4.out _).mono ?_
        rintro e v2 ⟨⟨a2, rfl, rb⟩, c2⟩
        have C2 := belowT C1 c2
        have SA := hidd (same_rows l4 (RA.out.keep c2) rb)
        clear M4 c2 rb C1 RA l4
        go_wp2_with fail
        refine SA.out.mono ?_
        rintro e v3 ⟨rfl, c3⟩
        have C3 := belowT C2 c3
        have T3 := hidd (hT0.out.below C3)
        clear SA c3 C2
        go_wp2_with fail
        refine (N5.out _ T3.out).mono ?_
        rintro e v4 ⟨⟨a1, rfl, ra⟩, c4⟩
        have C4 := belowT C3 c4
        have RA := hidd ra
        clear N5 c4 ra T3 C3
        go_wp2_with fail
        refine (M5.out _).mono ?_
        rintro e v5 ⟨⟨a2, rfl, rb⟩, c5⟩
        have C5 := belowT C4 c5
        have SA := hidd (same_rows l5 (RA.out.keep c5) rb)
        clear M5 c5 rb C4 RA l5
        go_wp2_with fail
        refine SA.out.mono ?_
        rintro e v6 ⟨rfl, c6⟩
        have C6 := belowT C5 c6
        clear SA c6 C5
        go_wp2
        go_roundw
        case rel => exact ⟨raw, i + 1, hraw, by omega, rfl, by go_num, C6⟩
        case measure => simp [intOf]; omega
      · rw [if_pos (by omega)] at e1
        rw [if_neg (by omega)] at e2
        subst e2
        have z0 : decide (0 ≤ k) = true := decide_eq_true (by omega)
        have z1 : decide (k ≤ 3333) = true := decide_eq_true (by omega)
        have z2 : decide (k ≤ 81) = false := decide_eq_false (by omega)
        go_wp2_with fail
        refine (N4.out _ T9.out).mono ?_
        rintro e v1 ⟨⟨a1, rfl, ra⟩, c1⟩
        have C1 := belowT B9 c1
        have RA := hidd ra
        clear N4 c1 ra T9 B9
        go_wp2_with fail
        refine (M4.out _).mono ?_
        rintro e v2 ⟨⟨a2, rfl, rb⟩, c2⟩
        have C2 := belowT C1 c2
        have SA := hidd (same_rows l4 (RA.out.keep c2) rb)
        clear M4 c2 rb C1 RA l4
        go_wp2_with fail
        refine SA.out.mono ?_
        rintro e v3 ⟨rfl, c3⟩
        have C3 := belowT C2 c3
        have T3 := hidd (hT0.out.below C3)
        clear SA c3 C2
        go_wp2_with fail
        refine (N5.out _ T3.out).mono ?_
        rintro e v4 ⟨⟨a1, rfl, ra⟩, c4⟩
        have C4 := belowT C3 c4
        have RA := hidd ra
        clear N5 c4 ra T3 C3
        go_wp2_with fail
        refine (M5.out _).mono ?_
        rintro e v5 ⟨⟨a2, rfl, rb⟩, c5⟩
        have C5 := belowT C4 c5
        have SA := hidd (same_rows l5 (RA.out.keep c5) rb)
        clear M5 c5 rb C4 RA l5
        go_wp2_with fail
        refine SA.out.mono ?_
        rintro e v6 ⟨rfl, c6⟩
        have C6 := belowT C5 c6
        clear SA c6 C5
        go_wp2
        go_roundw
        case rel => exact ⟨raw, i + 1, hraw, by omega, rfl, by go_num, C6⟩
        case measure => simp [intOf]; omega
      · rw [if_neg (by omega)] at e1 e2
        subst e1 e2
        have z0 : decide (0 ≤ k) = true := decide_eq_true (by omega)
        have z1 : decide (k ≤ 3333) = false := decide_eq_false (by omega)
        have z2 : decide (k ≤ 81) = false := decide_eq_false (by omega)
        go_wp2_with fail
        refine (N4.out _ T9.out).mono ?_
        rintro e v1 ⟨⟨a1, rfl, ra⟩, c1⟩
        have C1 := belowT B9 c1
        have RA := hidd ra
        clear N4 c1 ra T9 B9
        go_wp2_with fail
        refine (M4.out _).mono ?_
        rintro e v2 ⟨⟨a2, rfl, rb⟩, c2⟩
        have C2 := belowT C1 c2
        have SA := hidd (same_rows l4 (RA.out.keep c2) rb)
        clear M4 c2 rb C1 RA l4
        go_wp2_with fail
        refine SA.out.mono ?_
        rintro e v3 ⟨rfl, c3⟩
        have C3 := belowT C2 c3
        have T3 := hidd (hT0.out.below C3)
        clear SA c3 C2
        go_wp2_with fail
        refine (N5.out _ T3.out).mono ?_
        rintro e v4 ⟨⟨a1, rfl, ra⟩, c4⟩
        have C4 := belowT C3 c4
        have RA := hidd ra
        clear N5 c4 ra T3 C3
        go_wp2_with fail
        refine (M5.out _).mono ?_
        rintro e v5 ⟨⟨a2, rfl, rb⟩, c5⟩
        have C5 := belowT C4 c5
        have SA := hidd (same_rows l5 (RA.out.keep c5) rb)
        clear M5 c5 rb C4 RA l5
        go_wp2_with fail
        refine SA.out.mono ?_
        rintro e v6 ⟨rfl, c6⟩
        have C6 := belowT C5 c6
        clear SA c6 C5
        go_wp2
        go_roundw
        case rel => exact ⟨raw, i + 1, hraw, by omega, rfl, by go_num, C6⟩
        case measure => simp [intOf]; omega
    · obtain rfl : i = 2 := by omega
      have AW := hidd (nawake wr T0.out)
      clear T0
      go_wp2_with fail
      refine AW.out.mono ?_
      rintro e w8 ⟨rfl, b8⟩
      go_wp2
      go_ret
      exact ⟨rfl, belowT hB b8⟩
end Go.Proofs.YteipijgkiobmaaaGreatDoor
