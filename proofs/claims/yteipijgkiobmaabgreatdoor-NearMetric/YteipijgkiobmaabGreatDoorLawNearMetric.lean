/-
  The law NearMetric: it returns true for any three cells of one size, in whatever memory where both tables hold what their texts lay.
-/
import Derived.Test.YteipijgkiobmaabGreatDoorNAwake
import Derived.Test.YteipijgkiobmaabGreatDoorNPair
namespace Go.Proofs.YteipijgkiobmaabGreatDoor
open Go.RowKit

/-- What the law asks of two words' distance: it is nought of one word alone; one of those in the row of neighbours alone. -/
theorem same_word {r : Nat} {v u : Int} (hv : Whole v) (hu : Whole u) (h1 : wR v = r) (h2 : wR u = r) : stp (cellA u - cellA v) (cellB u - cellB v) = 0 ↔ v = u := by
  constructor
  · intro h
    have h0 := stp_zero h
    have e1 := word_cell hv
    have e2 := word_cell hu
    rw [← e1, ← e2, h1, h2, show cellA u = cellA v by omega, show cellB u = cellB v by omega]
  · rintro rfl
    rw [Int.sub_self, Int.sub_self]
    rfl
theorem beside_word {r : Nat} {v u : Int} {L : List Int} (hu : Whole u) (h1 : wR v = r) (h2 : wR u = r) (hL : Rows (wR v).toNat (cellA v) (cellB v) (rngP 1) L) : u ∈ L ↔ stp (cellA u - cellA v) (cellB u - cellB v) = 1 := by
  rw [hL.mem, h1, show ((r : Int)).toNat = r by omega]
  constructor
  · rintro ⟨p, q, hp, hO, rfl⟩
    have h := word_eq hO
    rw [h.2.2.1, h.2.2.2.1, show cellA v + p - cellA v = p by omega, show cellB v + q - cellB v = q by omega]
    exact mem_rngP.1 hp
  · intro h
    refine ⟨cellA u - cellA v, cellB u - cellB v, mem_rngP.2 h, ?_, ?_⟩
    · rw [show cellA v + (cellA u - cellA v) = cellA u by omega, show cellB v + (cellB u - cellB v) = cellB u by omega]
      have := cell_ok hu
      rwa [h2] at this
    · rw [show cellA v + (cellA u - cellA v) = cellA u by omega, show cellB v + (cellB u - cellB v) = cellB u by omega]
      have := word_cell hu
      rw [h2, show ((r : Int)).toNat = r by omega] at this
      exact this.symm
/-- Words of cells made of numbers and one number of a size are of one size. -/
theorem aword_size (r0 : Int) : ∃ s : Nat, ∀ (x0 y0 : Int) (w : World), Calls Tryz.prog 6 #[.int .i64 x0, .int .i64 y0, .int .i64 r0] w fun e w' => TellsW s e ∧ Below w.heap.size w w' := by
  obtain ⟨t, s, K, ht, hs, t1, t2, hK, hr⟩ := size13 r0
  obtain ⟨n, rfl⟩ := Int.eq_ofNat_of_zero_le (show 0 ≤ s by omega)
  refine ⟨n, fun x0 y0 w => aword_at x0 y0 r0 n (fun w => ?_) w⟩
  cases h0 : (bits .and .i64 y0 1 == 0) with
  | true =>
    obtain ⟨u, v, hw, PT⟩ := point_any x0 y0
    obtain ⟨a, b, hn⟩ := nearest_some (dvK_box (K := K) hK).1 (nuA K u v) (nuB K u v)
    exact (csome_point x0 y0 r0 t n _ u v a b ht hs t1 t2 rfl h0 PT (rnear_at u v n K hK hr hw a b hn) w).mono fun e w' ⟨he, hb⟩ => ⟨⟨a, b, he, near_ok hK hr hw hn⟩, hb⟩
  | false => exact csome_down x0 y0 r0 t n (by omega) _ ht hs t1 t2 rfl h0 w
theorem far_cells {v u : Int} (hv : Whole v) (hu : Whole u) : stp (cellA u - cellA v) (cellB u - cellB v) ≤ 9000000000 := by
  have h1 := ok4_part (cell_ok hv)
  have h2 := ok4_part (cell_ok hu)
  have h3 := stp_at (cellA u - cellA v) (cellB u - cellB v)
  omega

set_option maxHeartbeats 8000000 in
set_option maxRecDepth 20000 in
theorem nearMetric_walk (x0 y0 u0 v0 s0 t0 r0 : Int) (w : World) (hT : Tabs w) : Calls Tryz.prog 3 #[.int .i64 x0, .int .i64 y0, .int .i64 u0, .int .i64 v0, .int .i64 s0, .int .i64 t0, .int .i64 r0] w fun e w' => e = .returned (.bool true) ∧ Below w.heap.size w w' := by
  obtain ⟨s1, S⟩ := aword_size r0
  replace S := hidd S
  have hT0 : Hid (Tabs w) := hT
  clear hT
  go_enter Tryz.func3, Tryz.ntmps3
  go_wp2_with fail
  refine (S.out _ _ _).mono ?_
  rintro e w1 ⟨⟨P1, Q1, rfl, O1⟩, b1⟩
  have A1 := word_eq O1
  generalize wordOf s1 P1 Q1 = W1 at *
  clear O1
  go_wp2_with fail
  refine (S.out _ _ _).mono ?_
  rintro e w2 ⟨⟨P2, Q2, rfl, O2⟩, b2⟩
  have A2 := word_eq O2
  generalize wordOf s1 P2 Q2 = W2 at *
  clear O2
  go_wp2_with fail
  refine (S.out _ _ _).mono ?_
  rintro e w3 ⟨⟨P3, Q3, rfl, O3⟩, b3⟩
  have A3 := word_eq O3
  generalize wordOf s1 P3 Q3 = W3 at *
  have B3 := belowT (belowT b1 b2) b3
  clear O3 S b1 b2 b3
  have D1 := hidd (ndist_yes W1 W2 A1.1 A2.1 (by rw [A1.2.1, A2.2.1]))
  have D2 := hidd (ndist_yes W2 W1 A2.1 A1.1 (by rw [A1.2.1, A2.2.1]))
  have D3 := hidd (ndist_yes W2 W3 A2.1 A3.1 (by rw [A2.2.1, A3.2.1]))
  have D4 := hidd (ndist_yes W1 W3 A1.1 A3.1 (by rw [A1.2.1, A3.2.1]))
  have NE := hidd (nneigh_yes W1 A1.1)
  have E1 := same_word A1.1 A2.1 A1.2.1 A2.2.1
  have E2 := stp_back (cellA W1) (cellB W1) (cellA W2) (cellB W2)
  have E3 := stp_sub (cellA W3) (cellB W3) (cellA W2) (cellB W2) (cellA W1) (cellB W1)
  have E4 := far_cells A1.1 A2.1
  have E5 := far_cells A2.1 A3.1
  have E6 := (stp_ge (cellA W2 - cellA W1) (cellB W2 - cellB W1)).1
  have E7 := (stp_ge (cellA W3 - cellA W2) (cellB W3 - cellB W2)).1
  have HB : Hid (∀ L, Rows (wR W1).toNat (cellA W1) (cellB W1) (rngP 1) L → (W2 ∈ L ↔ stp (cellA W2 - cellA W1) (cellB W2 - cellB W1) = 1) ∧ ∀ y ∈ L, Whole y ∧ ∀ w, Tabs w → Calls Tryz.prog 7 #[.int .u64 W1, .int .u64 y] w fun e w' => e = .returned (.tuple #[.int .i64 1, .int .i64 0]) ∧ Below w.heap.size w w') := by
    refine hidd fun L hL => ⟨beside_word A2.1 A1.2.1 A2.2.1 hL, fun y hy => ?_⟩
    have hw := hL.whole hy
    rw [A1.2.1] at hw
    refine ⟨hw.1, ?_⟩
    have := ndist_yes W1 y A1.1 hw.1 (by rw [hw.2, A1.2.1]; omega)
    rw [(beside_word hw.1 A1.2.1 (by rw [hw.2]; omega) hL).1 hy] at this
    exact this
  have U2 := hidd A2.2.2.2.2
  rw [E2] at D2
  generalize stp (cellA W2 - cellA W1) (cellB W2 - cellB W1) = p at *
  generalize stp (cellA W3 - cellA W2) (cellB W3 - cellB W2) = m at *
  generalize stp (cellA W3 - cellA W1) (cellB W3 - cellB W1) = n at *
  clear A1 A2 A3 E2
  have T3 := hidd (hT0.out.below B3)
  go_wp2_with fail
  refine (D1.out _ T3.out).mono ?_
  rintro e w4 ⟨rfl, b4⟩
  have B4 := belowT B3 b4
  have T4 := hidd (hT0.out.below B4)
  clear D1 T3 B3 b4
  go_wp2_with fail
  refine (D2.out _ T4.out).mono ?_
  rintro e w5 ⟨rfl, b5⟩
  have B5 := belowT B4 b5
  have T5 := hidd (hT0.out.below B5)
  clear D2 T4 B4 b5
  go_wp2_with fail
  refine (D3.out _ T5.out).mono ?_
  rintro e w6 ⟨rfl, b6⟩
  have B6 := belowT B5 b6
  have T6 := hidd (hT0.out.below B6)
  clear D3 T5 B5 b6
  go_wp2_with fail
  refine (D4.out _ T6.out).mono ?_
  rintro e w7 ⟨rfl, b7⟩
  have B7 := belowT B6 b7
  have T7 := hidd (hT0.out.below B7)
  clear D4 T6 B6 b7
  have z1 : (p == 0) = (W1 == W2) := by
    rw [Bool.eq_iff_iff]
    simp only [beq_iff_eq]
    exact E1
  have z2 : decide (p < 0) = false := decide_eq_false (by omega)
  have z3 : decide (p + m < n) = false := decide_eq_false (by omega)
  obtain ⟨c1, hc1⟩ : ∃ c, (W1 == W2) = c := ⟨_, rfl⟩
  obtain ⟨c2, hc2⟩ : ∃ c, (p == 1) = c := ⟨_, rfl⟩
  rw [hc1] at z1
  clear E1 E3
  have go7 : c1 = true ∨ c1 = false := by cases c1 <;> simp
  rcases go7 with rfl | rfl
  all_goals
    go_wp2_with fail
    refine (NE.out _ T7.out).mono ?_
    rintro e w8 ⟨⟨L, ⟨s, rfl, hr⟩, hR⟩, b8⟩
    have B8 := belowT B7 b8
    obtain ⟨hb1, hb2⟩ := HB.out L hR
    have hl : L.length ≤ 6 := by have := rows_len hR; rw [rngP_len] at this; omega
    have hri := hR.2
    have hU : ∀ y ∈ L, U64 y := rows_whole hR
    have hd : decide (W2 ∈ L) = c2 := by
      rw [← hc2, Bool.eq_iff_iff]
      simp only [decide_eq_true_eq, beq_iff_eq]
      exact hb1
    have HA : Hid (∀ wx, Below w8.heap.size w8 wx → Calls Tryz.prog 9 #[s, .int .u64 W2] wx fun e w' => e = .returned (.bool c2) ∧ Below wx.heap.size wx w') := by
      refine hidd fun wx hb => ?_
      have := rhas _ s L W2 U2.out hri hU (by omega) wx (hr.keep hb)
      rwa [hd] at this
    obtain ⟨q, cap, rfl, hp⟩ := hr.form
    have HP := hidd hp
    have HL : Hid (∀ (k : Nat) (hk : k < L.length) (wx : World), Tabs wx → Calls Tryz.prog 7 #[.int .u64 W1, .int .u64 L[k]] wx fun e w' => e = .returned (.tuple #[.int .i64 1, .int .i64 0]) ∧ Below wx.heap.size wx w') := hidd fun k hk wx => (hb2 _ (List.getElem_mem hk)).2 wx
    obtain ⟨n6, en⟩ : ∃ n, L.length = n := ⟨_, rfl⟩
    have EN := hidd en
    rw [en] at HA hl ⊢
    clear hp hr hR hb1 hb2 hri hU en HB NE T7 B7 b8 hd
    go_wp2_with fail
    obtain ⟨wO, rfl⟩ : ∃ z, z = w8 := ⟨_, rfl⟩
    go_loopw [28] (fun v28 wr => ∃ k : Nat, k ≤ n6 ∧ v28 = .int .i64 (k : Int) ∧ Below wO.heap.size wO wr) (fun v28 _ => n6 - (intOf v28).toNat)
    case atStart => exact ⟨0, by omega, rfl, Below.refl _ _⟩
    case round =>
      obtain ⟨k, hk, rfl, hB⟩ := hrel
      have BW := belowT B8 hB
      by_cases hlt : k < n6
      · obtain ⟨g, rfl, x1⟩ := HP.out k (by rw [EN.out]; exact hlt)
        have DK := hidd (HL.out k (by rw [EN.out]; exact hlt))
        have TW := hidd (hT0.out.below BW)
        replace x1 := keepCell hB x1
        generalize L[k]'_ = y at *
        clear HP EN HL HA BW
        go_wp2_with fail
        refine (DK.out _ TW.out).mono ?_
        rintro e w9 ⟨rfl, b9⟩
        have B9 := belowT hB b9
        clear hB b9 TW DK x1
        go_wp2
        go_roundw
        case rel => exact ⟨k + 1, by omega, by go_num, B9⟩
        case measure => simp [intOf]; omega
      · obtain rfl : k = n6 := by omega
        have CA := hidd (HA.out wr hB)
        have z6 : decide ((k : Int) ≤ 6) = true := decide_eq_true (by omega)
        have c22 : (c2 == c2) = true := by simp
        clear HP EN HL HA hB
        go_wp2_with fail
        refine CA.out.mono ?_
        rintro e w9 ⟨rfl, b9⟩
        have B9 := belowT BW b9
        have AW := hidd (nawake _ (hT0.out.below B9))
        clear BW b9 CA
        go_wp2_with fail
        refine AW.out.mono ?_
        rintro e w10 ⟨rfl, b10⟩
        go_wp2
        go_ret
        exact ⟨rfl, belowT B9 b10⟩
end Go.Proofs.YteipijgkiobmaabGreatDoor
